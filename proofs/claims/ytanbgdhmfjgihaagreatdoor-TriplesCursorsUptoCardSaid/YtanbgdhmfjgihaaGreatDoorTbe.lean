/- Texts of one kind, one behind the other: each says ahead of itself what it shows. -/
import Derived.Test.YtanbgdhmfjgihaaGreatDoorTbd
import Derived.Test.YtanbgdhmfjgihaaGreatDoorTbc
namespace Go.Proofs.YtanbgdhmfjgihaaGreatDoor
open Go.RowKit
set_option maxHeartbeats 12800000
set_option maxRecDepth 20000
structure DCur (W:World) (base gR:Nat) (pl:Option Addr) (N cl:Nat) (ord:ByteArray) (way:List Val) (e:Bool):Prop where
 r:∃ pw cw,RCur W gR pl N cl ord pw way.length cw e way.length∧(∃ d:List VE,d.map VE.val=way∧W.ownsRow base 39 6 (.slice pw way.length cw) way.length (d.flatMap VE.enc))∧(Value.slice pw way.length cw).ownBlock≠some gR
 b:base≤gR
theorem upRef (W:World) (gR:Nat) (pl:Option Addr) (N cl:Nat) (ord:ByteArray) (pw:Option Addr) (d m cw:Nat) (e:Bool) (hd:d=m+1) (hd3:d≤3) (hcw:d≤cw) (B:RCur W gR pl N cl ord pw d cw e d):
 Calls Tryz.prog 25 #[.pointer (some ⟨gR,0,none⟩)] W fun e' w'=>e'=.returned (.bool true)∧Only gR W w'∧RCur w' gR pl N cl ord pw m cw false m:=by
 have c4:W.cell? ⟨gR,4,none⟩=some (.int .i64 d):=zab B 4 rfl
 have f4:W.frozen? ⟨gR,4,none⟩=false:=za9 B _
 have e1:((d:Int) == 0)=false:=by simp;omega
 have e2:IntKind.i64.wrap ((d:Int) - 1)=(m:Int):=by rw [IntWalk.i64_in _ (by omega)];omega
 have hmw:(m:Int)≤cw:=by omega
 have B1:=zaz B 4 (.int .i64 (m:Int))
 have HB:=Lib.hid B1
 have HE:=Lib.hid hd
 clear B hd
 go_enter Tryz.func25,Tryz.ntmps25
 go_upto_region 4 with fail
 have W1:∃ w1,w1=W.setCell ⟨gR,4,none⟩ (.int .i64 (m:Int)):=⟨_,rfl⟩
 obtain ⟨w1,hw1⟩:=W1
 have O1:Only gR W w1:=by rw [hw1];exact (Only.refl gR W).setCell 4 none _
 rw [← hw1] at HB ⊢
 have BB:=HB.out
 have c2:w1.drew.cell? ⟨gR,2,none⟩=some (.slice pw d cw):=zab BB 2 rfl
 have c4':w1.drew.cell? ⟨gR,4,none⟩=some (.int .i64 m):=zab BB 4 rfl
 have f2:w1.drew.frozen? ⟨gR,2,none⟩=false:=za9 BB _
 have HO:=Lib.hid O1
 have B2:=zaz (w:=w1) (b:=gR) BB 2 (.slice pw m cw)
 have O2:Only gR W (w1.setCell ⟨gR,2,none⟩ (.slice pw m cw)).drew:=(O1.setCell 2 none _).drew
 have c3:(w1.setCell ⟨gR,2,none⟩ (.slice pw m cw)).drew.cell? ⟨gR,3,none⟩=some (.bool e):=zab B2 3 rfl
 have f3:(w1.setCell ⟨gR,2,none⟩ (.slice pw m cw)).drew.frozen? ⟨gR,3,none⟩=false:=za9 B2 _
 have fin:Only gR W ((w1.setCell ⟨gR,2,none⟩ (.slice pw m cw)).drew.setCell ⟨gR,3,none⟩ (.bool false))∧RCur ((w1.setCell ⟨gR,2,none⟩ (.slice pw m cw)).drew.setCell ⟨gR,3,none⟩ (.bool false)) gR pl N cl ord pw m cw false m:=⟨O2.setCell 3 none _,zaz B2 3 (.bool false)⟩
 have FIN:=Lib.hid fin
 clear hw1 O1 BB c4 f4 B2 O2 fin HB HO
 go_region
 go_wp2_with fail
 go_ret
 exact ⟨rfl,FIN.out⟩
theorem upRef0 (W:World) (gR:Nat) (pl:Option Addr) (N cl:Nat) (ord:ByteArray) (pw:Option Addr) (m cw:Nat) (e:Bool) (B:RCur W gR pl N cl ord pw m cw e 0):
 Calls Tryz.prog 25 #[.pointer (some ⟨gR,0,none⟩)] W fun e' w'=>e'=.returned (.bool false)∧w'=W:=by
 have c4:W.cell? ⟨gR,4,none⟩=some (.int .i64 0):=zab B 4 rfl
 clear B
 go_enter Tryz.func25,Tryz.ntmps25
 go_wp2_with fail
 go_ret
 exact ⟨rfl,rfl⟩
theorem keyRef0 (W:World) (gR:Nat) (pl:Option Addr) (N cl:Nat) (ord:ByteArray) (pw:Option Addr) (d m cw:Nat) (e:Bool) (h:d=0∨e=true) (B:RCur W gR pl N cl ord pw m cw e d):
 Calls Tryz.prog 31 #[.pointer (some ⟨gR,0,none⟩)] W fun e' w'=>e'=.returned (.tuple #[.agg #[.int .i64 0,.bool false,.int .i64 0,.string ⟨#[]⟩,.string ⟨#[]⟩,.slice none 0 0],.bool false])∧Below W.heap.size W w':=by
 obtain ⟨W0,hW0⟩:∃ W0,W0=W.alloc (.cells #[.int .i64 0,.bool false,.int .i64 0,.string ⟨#[]⟩,.string ⟨#[]⟩,.slice none 0 0] 39):=⟨_,rfl⟩
 have b0:Below W.heap.size W W0:=by rw [hW0];exact za0 _ _
 have X:Six W0 W.heap.size 0 false 0 ⟨#[]⟩ ⟨#[]⟩ none 0 0:=by rw [hW0];exact zaf _ rfl
 have B0:RCur W0 gR pl N cl ord pw m cw e d:=(b0.block _ (zac B)).trans B
 have c4:W0.cell? ⟨gR,4,none⟩=some (.int .i64 d):=zab B0 4 rfl
 have c3:W0.cell? ⟨gR,3,none⟩=some (.bool e):=zab B0 3 rfl
 have HW:=Lib.hid hW0
 clear hW0 B B0
 by_cases hd:d=0
 ·subst hd
  go_enter Tryz.func31,Tryz.ntmps31
  go_upto_region 1 with fail
  rw [← HW.out]
  go_wp2_with (first
   |((with_reducible refine zat (k':=0) (b':=false) (n':=0) (t':=⟨#[]⟩) (x':=⟨#[]⟩) (p':=none) (len':=0) (cap':=0) (.tmp 2) (.tmp 15) W.heap.size X ?_ ?_ ?_ ?_ ?_);rfl;rfl;rfl;rfl;intro w5 ho5 hX5))
  exact bodyPost_ret (v:=.tuple #[.agg #[.int .i64 0,.bool false,.int .i64 0,.string ⟨#[]⟩,.string ⟨#[]⟩,.slice none 0 0],.bool false]) (zb3 Tryz.results31 _ _ rfl rfl hX5) rfl ⟨rfl,zag b0 ho5 (by omega) b0.size⟩
 ·obtain rfl:e=true:=h.resolve_left hd
  have e1:((d:Int) == 0)=false:=by simp;omega
  go_enter Tryz.func31,Tryz.ntmps31
  go_upto_region 1 with fail
  rw [← HW.out]
  go_wp2_with (first
   |((with_reducible refine zat (k':=0) (b':=false) (n':=0) (t':=⟨#[]⟩) (x':=⟨#[]⟩) (p':=none) (len':=0) (cap':=0) (.tmp 2) (.tmp 15) W.heap.size X ?_ ?_ ?_ ?_ ?_);rfl;rfl;rfl;rfl;intro w5 ho5 hX5))
  exact bodyPost_ret (v:=.tuple #[.agg #[.int .i64 0,.bool false,.int .i64 0,.string ⟨#[]⟩,.string ⟨#[]⟩,.slice none 0 0],.bool false]) (zb3 Tryz.results31 _ _ rfl rfl hX5) rfl ⟨rfl,zag b0 ho5 (by omega) b0.size⟩
theorem keyRef (W:World) (gR:Nat) (pl:Option Addr) (N cl:Nat) (ord:ByteArray) (gw d m cw:Nat) (hd:d=m+1) (hd3:d≤3) (v:V6) (B:RCur W gR pl N cl ord (some ⟨gw,0,none⟩) d cw false d) (hv:W.rangeAt gw (m*6) [.int .i64 v.k,.bool v.b,.int .i64 v.n,.string v.t,.string v.x,.slice v.p v.len v.cap]):
 Calls Tryz.prog 31 #[.pointer (some ⟨gR,0,none⟩)] W fun e' w'=>e'=.returned (.tuple #[.agg #[.int .i64 v.k,.bool v.b,.int .i64 v.n,.string v.t,.string v.x,.slice v.p v.len v.cap],.bool true])∧Below W.heap.size W w':=by
 obtain ⟨W0,hW0⟩:∃ W0,W0=W.alloc (.cells #[.int .i64 0,.bool false,.int .i64 0,.string ⟨#[]⟩,.string ⟨#[]⟩,.slice none 0 0] 39):=⟨_,rfl⟩
 have b0:Below W.heap.size W W0:=by rw [hW0];exact za0 _ _
 have X:Six W0 W.heap.size 0 false 0 ⟨#[]⟩ ⟨#[]⟩ none 0 0:=by rw [hW0];exact zaf _ rfl
 have B0:RCur W0 gR pl N cl ord (some ⟨gw,0,none⟩) d cw false d:=(b0.block _ (zac B)).trans B
 have c4:W0.cell? ⟨gR,4,none⟩=some (.int .i64 d):=zab B0 4 rfl
 have c3:W0.cell? ⟨gR,3,none⟩=some (.bool false):=zab B0 3 rfl
 have c2:W0.cell? ⟨gR,2,none⟩=some (.slice (some ⟨gw,0,none⟩) d cw):=zab B0 2 rfl
 have e1:((d:Int) == 0)=false:=by simp;omega
 have e2:IntKind.i64.wrap ((d:Int) - 1)=(m:Int):=by rw [IntWalk.i64_in _ (by omega)];omega
 have hmd:(m:Int) < d:=by omega
 have rv:=zae hv b0
 have hgR:gR < W.heap.size:=zac B
 have hgw:gw < W.heap.size:=World.block_lt_of_cell? W _ (hv 0 _ rfl)
 have HW:=Lib.hid hW0
 have HBL:=Lib.hid b0
 have hz:=Lib.hid (Nat.le_refl W.heap.size)
 clear hW0 B B0 hv hd b0
 go_enter Tryz.func31,Tryz.ntmps31
 go_upto_region 1 with fail
 rw [← HW.out]
 go_upto_region 3 with fail
 refine wp_region_held_drew (S:=fun w'=>Below W.heap.size W0 w') (by kernel_rfl) ((Below.refl _ _).drew) (fun hHeld=>?_)
 refine tg (i:=0) (.pointer (some ⟨gR,0,none⟩)) rfl hHeld ?_
 refine tg (i:=1) (.pointer (some ⟨gR,0,none⟩)) rfl hHeld ?_
 refine tg (i:=2) (.pointer (some ⟨gR,2,none⟩)) rfl hHeld ?_
 refine tk (i:=3) (v:=.slice (some ⟨gw,0,none⟩) d cw) rfl (Or.inl ⟨by rfl,fun W' h=>by have c0:=(h.cell (p:=⟨gR,2,none⟩) hgR).trans c2;go_simp⟩) hHeld ?_
 refine tg (i:=4) (.pointer (some ⟨gR,0,none⟩)) rfl hHeld ?_
 refine tg (i:=5) (.pointer (some ⟨gR,0,none⟩)) rfl hHeld ?_
 refine tg (i:=6) (.pointer (some ⟨gR,4,none⟩)) rfl hHeld ?_
 refine tk (i:=7) (v:=.int .i64 (d:Int)) rfl (Or.inl ⟨by rfl,fun W' h=>by have c0:=(h.cell (p:=⟨gR,4,none⟩) hgR).trans c4;go_simp⟩) hHeld ?_
 refine tg (i:=8) (.int .i64 (m:Int)) rfl hHeld ?_
 refine tg (i:=9) (.pointer (some ⟨gw,m*6,none⟩)) rfl hHeld ?_
 refine tk (i:=10) rfl (yieldsIf_load_mid (by rfl) 39 (.tmp 25) rfl (gw) (m*6) rfl [.int .i64 v.k,.bool v.b,.int .i64 v.n,.string v.t,.string v.x,.slice v.p v.len v.cap] _ (fun W' h i u hu=>(h.cell (p:=⟨gw,m*6+i,none⟩) hgw).trans (rv i u hu)) Tryz.underlying39 rfl zas) hHeld ?_
 refine tr 11 rfl (fun K hK=>?_)
 rw [if_pos (by rfl)]
 have b1:=zag hHeld (Only.setRow (b:=W.heap.size) W0.drew #[.int .i64 v.k,.bool v.b,.int .i64 v.n,.string v.t,.string v.x,.slice v.p v.len v.cap]) (Nat.le_refl _) (Nat.le_trans HBL.out.size hHeld.size)
 refine wp_store_row 39 (.tmp 2) (.tmp 26) rfl W.heap.size #[.int .i64 v.k,.bool v.b,.int .i64 v.n,.string v.t,.string v.x,.slice v.p v.len v.cap] rfl rfl 39 _ (show W0.drew.heap[W.heap.size]?=_ from X) zas rfl (by simp [Value.oneCell']) ?_
 have u5:=za6 (w:=W0.drew) (g:=W.heap.size) (c':=#[.int .i64 v.k,.bool v.b,.int .i64 v.n,.string v.t,.string v.x,.slice v.p v.len v.cap]) X
 refine hK.out _ _ b1 (fun _=>?_)
 clear hK K
 try simp only [putS]
 refine tg (i:=12) (.bool true) rfl b1 ?_
 refine wpAnyH_done (by kernel_rfl) ?_ _
 generalize W0.drew.setRow W.heap.size #[.int .i64 v.k,.bool v.b,.int .i64 v.n,.string v.t,.string v.x,.slice v.p v.len v.cap]=w5 at*
 go_wp2_with fail
 exact bodyPost_ret (v:=.tuple #[.agg #[.int .i64 v.k,.bool v.b,.int .i64 v.n,.string v.t,.string v.x,.slice v.p v.len v.cap],.bool true]) (zb3 Tryz.results31 _ _ rfl rfl u5) rfl ⟨rfl,HBL.out.trans b1⟩
theorem zml {g:Nat} {t:TypeId}:(vs:List Value)→(off:Nat)→(w:World)→(cs:Array Value)→w.heap[g]?=some (.cells cs t)→off+vs.length≤cs.size→
 ∃ cs',(w.setCells g off vs).heap[g]?=some (.cells cs' t)∧cs'.size=cs.size∧(∀ k,(k < off∨off+vs.length≤k)→cs'[k]?=cs[k]?)∧∀ k,k < vs.length→cs'[off+k]?=vs[k]?
 | [],_,_,cs,h,_=>⟨cs,h,rfl,fun _ _=>rfl,fun _ h=>absurd h (by simp)⟩
 | v::r,off,w,cs,h,ho=>by
   simp only [List.length_cons] at ho
   obtain ⟨c',h1,h2,h3,h4⟩:=zml r (off+1) (w.setCell ⟨g,off,none⟩ v) _ (zaz h off v) (by simp;omega)
   refine ⟨c',h1,by rw [h2];simp,fun k hk=>?_,fun k hk=>?_⟩
   ·simp only [List.length_cons] at hk
    rw [h3 k (by omega),Array.getElem?_setIfInBounds_ne (by omega)]
   ·match k with
    | 0=>
      rw [Nat.add_zero,h3 off (by omega),Array.getElem?_setIfInBounds_self_of_lt (by omega)]
      rfl
    | k+1=>
      have:=h4 k (by simpa using hk)
      rw [show off+(k+1)=off+1+k by omega,this]
      rfl
theorem zhx {w:World} {base gw n cw:Nat} {xs:List Value} (h:w.ownsRow base 39 6 (.slice (some ⟨gw,0,none⟩) n cw) n xs) (off:Nat) (vs:List Value) (ho:off+vs.length=n*6):
 (w.setCells gw off vs).ownsRow base 39 6 (.slice (some ⟨gw,0,none⟩) n cw) n (xs.take off++vs):=by
 have hl:=h.1
 rcases h.2 with ⟨e,_⟩ | ⟨g',cap',cur,e,hb,hg,hc,hm,hsz,htk⟩
 ·cases e
 ·cases e
  have hcn:n*6≤cw*6:=Nat.mul_le_mul_right _ hc
  obtain ⟨cs',h1,h2,h3,h4⟩:=zml vs off w cur hg (by omega)
  refine ⟨by rw [List.length_append,List.length_take];omega,.inr ⟨gw,cw,cs',rfl,hb,h1,hc,hm,by omega,?_⟩⟩
  refine List.ext_getElem? fun k=>?_
  rw [List.getElem?_take]
  by_cases hk:k < n*6
  ·rw [if_pos hk,Array.getElem?_toList]
   by_cases hk2:k < off
   ·rw [h3 k (.inl hk2),List.getElem?_append_left (by rw [List.length_take];omega),List.getElem?_take,if_pos hk2,← htk,List.getElem?_take,if_pos hk,Array.getElem?_toList]
   ·have:=h4 (k - off) (by omega)
    rw [show off+(k - off)=k by omega] at this
    rw [this,List.getElem?_append_right (by rw [List.length_take];omega),List.length_take]
    congr 1
    omega
  ·rw [if_neg hk,List.getElem?_eq_none (by rw [List.length_append,List.length_take];omega)]
theorem zxk {w:World} {base gw n m cw:Nat} {xs:List Value} (h:w.ownsRow base 39 6 (.slice (some ⟨gw,0,none⟩) n cw) n xs) (hm:m≤n):w.ownsRow base 39 6 (.slice (some ⟨gw,0,none⟩) m cw) m (xs.take (m*6)):=by
 have hl:=h.1
 rcases h.2 with ⟨e,_⟩ | ⟨g',cap',cur,e,hb,hg,hc,hmx,hsz,htk⟩
 ·cases e
 ·cases e
  have hcn:m*6≤n*6:=Nat.mul_le_mul_right _ hm
  refine ⟨by rw [List.length_take];omega,.inr ⟨gw,cw,cur,rfl,hb,hg,Nat.le_trans hm hc,hmx,hsz,?_⟩⟩
  rw [← htk,List.take_take,Nat.min_eq_left hcn]
theorem zni (d:List VE) (m:Nat):(d.flatMap VE.enc).take (m*6)=(d.take m).flatMap VE.enc:=by
 induction d generalizing m with
 | nil=>simp
 | cons a d ih=>
   cases m with
   | zero=>simp
   | succ m=>
     have e6:a.enc.length=6:=rfl
     rw [List.flatMap_cons,List.take_succ_cons,List.flatMap_cons,← ih m,show (m+1)*6=a.enc.length+m*6 by omega,List.take_length_add_append]
theorem zdu {w:World} {base gw n cw:Nat} {d:List VE} (h:w.ownsRow base 39 6 (.slice (some ⟨gw,0,none⟩) n cw) n (d.flatMap VE.enc)):zar w gw 0 (d.map VE.val):=
 zby w gw d 0 fun t u hu=>by
  have ht:t < n*6:=by
   have:=(List.getElem?_eq_some_iff.1 hu).1
   rw [h.1] at this
   exact this
  rw [Nat.zero_add,h.cellAt t ht]
  exact hu
theorem zc6 {w:World} {g:Nat} {cs:Array Value} {t:TypeId} (h:w.heap[g]?=some (.cells cs t)) (off n:Nat) (ho:off+n≤cs.size):w.there g off n:=fun i hi=>by
 refine ⟨?_,za9 h _⟩
 rw [zab h (off+i) (v:=cs[off+i]'(by omega)) (Array.getElem?_eq_getElem (by omega))]
 rfl
theorem zdh {w w':World} {b base n:Nat} {V:Value} {xs:List Value} (h:w.ownsRow base 39 6 V n xs) (o:Only b w w') (hb:V.ownBlock≠some b):w'.ownsRow base 39 6 V n xs:=by
 refine ⟨h.1,?_⟩
 rcases h.2 with h0 | ⟨g,cap,cur,e1,h1,h2,h3⟩
 ·exact .inl h0
 ·refine .inr ⟨g,cap,cur,e1,h1,(o.block g (zac h2) fun e=>hb ?_).trans h2,h3⟩
  rw [e1,e]
  rfl
theorem zbr {w w':World} {b g o:Nat} (h:Only b w w') (hg:g≠b) {v:Value} (hv:w.cell? ⟨g,o,none⟩=some v):w'.cell? ⟨g,o,none⟩=w.cell? ⟨g,o,none⟩:=
 World.cell?_of_block (w:=w) (a:=⟨g,o,none⟩) (h.block g (World.block_lt_of_cell? w _ hv) hg)
def toP (st:Bool) (wl uv u:Val):Bool:=decide (0≤zan 1 u wl) && (if st then decide (0 < zan 1 u uv) else decide (0≤zan 1 u uv))
def zmm (st:Bool) (wl uv:Val) (base gR:Nat) (pl:Option Addr) (N cl:Nat) (ord:ByteArray) (way:List Val) (ks:List Val) (W:World) (e:Ending) (w':World):Prop:=
 Below base W w'∧((∃ i,∃ h:i < ks.length,toP st wl uv ks[i]=true∧(∀ (i':Nat) (h':i' < i),toP st wl uv (ks[i']'(by omega))=false)∧e=.returned (.bool true)∧DCur w' base gR pl N cl ord (way.take (way.length - 1)++[ks[i]]) false)∨
  ((∀ (i:Nat) (h:i < ks.length),toP st wl uv ks[i]=false)∧e=.returned (.bool false)∧DCur w' base gR pl N cl ord way true))
theorem toRef (st:Bool) (all:List Tri3) (pl:Option Addr) (cl:Nat) (kk:Nat) (hk:kk < 6) (base gR:Nat) (way:List Val) (m:Nat) (hm:way.length=m+1) (hm3:m < 3) (v:V6) (uv:Val) (qv:List Val) (w:World) (hD:DCur w base gR pl all.length cl (onm kk) way false) (hpw:∀ u∈way,zcw u) (hl:Tris w (.slice pl all.length cl) all) (hn60:all.length≤65536) (hc:∀ t∈all,zbl t=true) (hb:base≤w.heap.size) (hv:Is w v uv qv):
 Calls Tryz.prog 60 #[.pointer (some ⟨gR,0,none⟩),.bool st,.agg #[.int .i64 v.k,.bool v.b,.int .i64 v.n,.string v.t,.string v.x,.slice v.p v.len v.cap]] w fun e w'=>∃ ks,InsV (srcT all (fun i=>(way[i]?).getD nulV) (levN kk) m all.length) ks∧zmm st (way[m]'(by omega)) uv base gR pl all.length cl (onm kk) way ks w e w':=by
 obtain ⟨⟨pw,cw,B,⟨d,hd,hown⟩,hnb⟩,hbR⟩:=hD
 obtain ⟨dd,hdd⟩:∃ dd,dd=way.length:=⟨_,rfl⟩
 rw [← hdd] at B hown hnb hm
 obtain ⟨gw,rfl⟩:∃ gw,pw=some ⟨gw,0,none⟩:=by
  rcases hown.2 with ⟨_,e⟩ | ⟨g,cap,cur,e,_⟩
  ·omega
  ·injection e with e _ _
   exact ⟨g,e⟩
 have hgw:=hown.lt gw rfl
 have hne:gR≠gw:=fun e=>hnb (by rw [e];rfl)
 have hcap:dd≤cw:=by
  rcases hown.2 with ⟨_,e⟩ | ⟨g,cap,cur,e,_,_,hc2,_⟩
  ·omega
  ·injection e with _ _ e3
   omega
 obtain ⟨curw,hcurw,hcurs⟩:∃ cur,w.heap[gw]?=some (.cells cur 39)∧dd*6≤cur.size:=by
  rcases hown.2 with ⟨_,e⟩ | ⟨g,cap,cur,e,_,h1,h2,_,h3,_⟩
  ·omega
  ·injection e with e e2 e3
   injection e with e
   injection e with e _ _
   subst e
   exact ⟨cur,h1,by rw [h3];exact Nat.mul_le_mul_right _ h2⟩
 obtain ⟨W1,hW1⟩:∃ W1,W1=w.alloc (.cells #[.int .i64 v.k,.bool v.b,.int .i64 v.n,.string v.t,.string v.x,.slice v.p v.len v.cap] 39):=⟨_,rfl⟩
 have b1:Below w.heap.size w W1:=by rw [hW1];exact za0 _ _
 have s1:W1.heap.size=w.heap.size+1:=by rw [hW1];simp
 have rv1:W1.rangeAt w.heap.size 0 [.int .i64 v.k,.bool v.b,.int .i64 v.n,.string v.t,.string v.x,.slice v.p v.len v.cap]:=by rw [hW1];exact zvu (zah _ _ rfl)
 have B1:RCur W1 gR pl all.length cl (onm kk) (some ⟨gw,0,none⟩) dd cw false dd:=(b1.block _ (zac B)).trans B
 have own1:=zbf hown b1
 have hw1:=zdu own1
 rw [hd] at hw1
 have hel:∀ i,(h:i < way.length)→∃ y:V6,Is W1 y way[i] []∧W1.rangeAt gw (i*6) [.int .i64 y.k,.bool y.b,.int .i64 y.n,.string y.t,.string y.x,.slice y.p y.len y.cap]:=fun i h=>by
  obtain ⟨y,q,iy,ry⟩:=isOf (zar.at_ way 0 hw1 i h)
  rw [Nat.zero_add] at ry
  obtain ⟨_,_,_,_,_,e⟩:=hpw _ (List.getElem_mem h)
  have e2:=iy.e
  rw [e] at e2
  injection e2 with _ _ _ _ _ e3
  subst e3
  exact ⟨y,iy,ry⟩
 obtain ⟨wv,hwv⟩:∃ wv:Nat→V6,∀ i,(h:i < way.length)→Is W1 (wv i) way[i] []∧W1.rangeAt gw (i*6) [.int .i64 (wv i).k,.bool (wv i).b,.int .i64 (wv i).n,.string (wv i).t,.string (wv i).x,.slice (wv i).p (wv i).len (wv i).cap]:=
  ⟨fun i=>if h:i < way.length then (hel i h).choose else ⟨0,false,0,⟨#[]⟩,⟨#[]⟩,none,0,0⟩,fun i h=>by simp only [dif_pos h];exact (hel i h).choose_spec⟩
 have hml:m < way.length:=by omega
 obtain ⟨y,hy⟩:∃ y,y=wv m:=⟨_,rfl⟩
 obtain ⟨iy,ry⟩:=hwv m hml
 rw [← hy] at iy ry
 have hkeys:=zys all pl cl kk m hk hm3 (some ⟨gw,0,none⟩) dd cw wv (fun i=>(way[i]?).getD nulV) false dd gR W1 B1 (hl.below b1) hn60 hc (by omega) (fun _=>⟨gw,rfl,fun i hi=>by
  have:=hwv i (by omega)
  rw [List.getElem?_eq_getElem (by omega),Option.getD_some]
  exact this⟩)
 obtain ⟨wl,hwl⟩:∃ wl,wl=way[m]:=⟨_,rfl⟩
 rw [← hwl] at iy ⊢
 have e1:((dd:Int) == 0)=false:=by simp;omega
 have e2:IntKind.i64.wrap ((dd:Int) - 1)=(m:Int):=by rw [IntWalk.i64_in _ (by omega)];omega
 have hmd:(m:Int) < dd:=by omega
 have c4:W1.cell? ⟨gR,4,none⟩=some (.int .i64 dd):=zab B1 4 rfl
 have c3:W1.cell? ⟨gR,3,none⟩=some (.bool false):=zab B1 3 rfl
 have HKEYS:=Lib.hid hkeys
 have HCHK:=Lib.hid hc
 have HB1:=Lib.hid B1
 have HRV:=Lib.hid rv1
 have HIY:=Lib.hid (And.intro iy ry)
 have HIV:=Lib.hid (hv.below b1)
 have HOWN:=Lib.hid own1
 have HDV:=Lib.hid hd
 have HB0:=Lib.hid b1
 have HCW:Hid (W1.heap[gw]?=some (.cells curw 39)):=Lib.hid ((b1.block _ (zac hcurw)).trans hcurw)
 have HCS:=Lib.hid hcurs
 have HW:=Lib.hid hW1
 have HBASE:=Lib.hid (And.intro hb (And.intro hbR hgw.1))
 have HML:=Lib.hid (And.intro hm hdd)
 have HGL:Hid (gR < w.heap.size∧gw < w.heap.size):=Lib.hid ⟨zac B,hgw.2⟩
 clear hW1 hkeys B B1 rv1 iy ry hv own1 hd b1 hcurw hcurs hown hw1 hel hwv hy hl hc hb hbR hgw hpw hwl hm hdd hnb
 go_enter Tryz.func60,Tryz.ntmps60
 go_upto_region 1 with fail
 rw [← HW.out]
 go_upto_region 4 with (go_at_call 57;(with_reducible refine HKEYS.out.mono ?_);rintro e w2 ⟨V,rfl,ks,hins,hacc⟩)
 obtain ⟨dk,hdk,hok,hb2⟩:=hacc
 obtain ⟨pk,ck,rfl,hkc,hpk,hpkc⟩:=zhw hok
 obtain ⟨nk,hnk0⟩:∃ nk,nk=ks.length:=⟨_,rfl⟩
 rw [← hnk0] at hok hkc hpk ⊢
 have HNK:=Lib.hid hnk0
 have HINS:=Lib.hid hins
 have HOK:=Lib.hid hok
 have HDK:=Lib.hid hdk
 have HPK:=Lib.hid (And.intro hpk hpkc)
 have HB2:=Lib.hid hb2
 have hnk60:nk≤65536:=by
  have h1:=hins.len
  have h2:=zrx (all:=all) (way:=fun i=>(way[i]?).getD nulV) (lv:=levN kk) (n:=m) (i:=all.length)
  omega
 clear hnk0 hins hok hdk hpk hpkc hb2 hkc c4 c3
 go_wp2_with fail
 go_loopg [8] nk (fun gg s8 wr=>∃ i:Nat,i+gg=nk∧s8=.int .i64 i∧Hid (Below w2.heap.size w2 wr)∧Hid (∀ (j:Nat) (h:j < ks.length),j < i→toP st wl uv ks[j]=false))
 case atStart=>exact ⟨0,by omega,rfl,Lib.hid (Below.refl _ _),Lib.hid fun _ _ h=>absurd h (by omega)⟩
 case round=>
  obtain ⟨i,hig,rfl,HB,HA⟩:=hrel
  have HBW:Hid (Below W1.heap.size W1 wr):=Lib.hid (HB2.out.trans (HB.out.mono HB2.out.size))
  have hBr:=(HBW.out.block _ (zac HB1.out)).trans HB1.out
  have hCWr:=(HBW.out.block _ (zac HCW.out)).trans HCW.out
  by_cases hlt:(i:Int) < nk
  ·have hi1:i < ks.length:=by have:=HNK.out;omega
   obtain ⟨⟨gk,ok,sk⟩,rfl⟩:∃ ad,pk=some ad:=by
    cases pk with
    | some ad=>exact ⟨ad,rfl⟩
    | none=>exact absurd (HPK.out.1 rfl).1 (by omega)
   obtain ⟨rfl,rfl,_⟩:=HPK.out.2 gk ok sk rfl
   have hgk:=(HOK.out.lt gk rfl).1
   have hnk:gk≠gw:=by have:=HGL.out.2;have:=HB0.out.size;omega
   have hkr:=zdu (zbf HOK.out HB.out)
   rw [HDK.out] at hkr
   obtain ⟨a0,q0,ia,rk⟩:=isOf (zar.at_ ks 0 hkr i hi1)
   rw [Nat.zero_add] at rk
   have rw6:=zae HIY.out.2 HBW.out
   have rv:=zae HRV.out HBW.out
   have cr2:wr.cell? ⟨gR,2,none⟩=some (.slice (some ⟨gw,0,none⟩) dd cw):=zab hBr 2 rfl
   have cr4:wr.cell? ⟨gR,4,none⟩=some (.int .i64 (dd:Int)):=zab hBr 4 rfl
   obtain ⟨c1,hc1⟩:∃ c,c=zan 1 ks[i] wl:=⟨_,rfl⟩
   obtain ⟨c2,hc2⟩:∃ c,c=zan 1 ks[i] uv:=⟨_,rfl⟩
   have HC1:Hid (∀ W,Below wr.heap.size wr W→Calls Tryz.prog 34 #[.int .i64 1,.agg #[.int .i64 a0.k,.bool a0.b,.int .i64 a0.n,.string a0.t,.string a0.x,.slice a0.p a0.len a0.cap],.agg #[.int .i64 y.k,.bool y.b,.int .i64 y.n,.string y.t,.string y.x,.slice y.p y.len y.cap]] W fun e w'=>e=.returned (.int .i64 c1)∧Below W.heap.size W w'):=Lib.hid fun W hb=>by
    rw [hc1]
    exact ze4 a0 y _ _ q0 [] W (ia.below hb) (HIY.out.1.below (HBW.out.trans (hb.mono HBW.out.size)))
   have HC2:Hid (∀ W,Below wr.heap.size wr W→Calls Tryz.prog 34 #[.int .i64 1,.agg #[.int .i64 a0.k,.bool a0.b,.int .i64 a0.n,.string a0.t,.string a0.x,.slice a0.p a0.len a0.cap],.agg #[.int .i64 v.k,.bool v.b,.int .i64 v.n,.string v.t,.string v.x,.slice v.p v.len v.cap]] W fun e w'=>e=.returned (.int .i64 c2)∧Below W.heap.size W w'):=Lib.hid fun W hb=>by
    rw [hc2]
    exact ze4 a0 v _ _ q0 qv W (ia.below hb) (HIV.out.below (HBW.out.trans (hb.mono HBW.out.size)))
   have HCC:=Lib.hid (And.intro hc1 hc2)
   have hplk:zcw ks[i]:=by
    obtain ⟨t9,ht9,e9⟩:=znh ((HINS.out.mem _).1 (List.getElem_mem hi1))
    rw [e9]
    exact (zey (HCHK.out _ ht9) _).1
   obtain ⟨e0,he0,hv0⟩:=ia.plain hplk
   have HE0:=Lib.hid (And.intro he0 hv0)
   have HRK:=Lib.hid rk
   have HRVr:=Lib.hid rv
   have HCWr:=Lib.hid hCWr
   have HBr:=Lib.hid hBr
   have HNE:=Lib.hid (And.intro hne (And.intro hnk hgk))
   clear hc1 hc2 ia he0 hv0 hplk hkr rv hCWr hBr hgk hnk hne
   go_upto_region 7 with fail
   have L0:Below wr.heap.size wr wr.drew:=(Below.refl _ _).drew
   refine wp_region_held_drew (S:=fun W=>W.cell? ⟨gR,2,none⟩=some (.slice (some ⟨gw,0,none⟩) dd cw)∧W.cell? ⟨gR,4,none⟩=some (.int .i64 (dd:Int))∧W.rangeAt gk (i*6) [.int .i64 a0.k,.bool a0.b,.int .i64 a0.n,.string a0.t,.string a0.x,.slice a0.p a0.len a0.cap]∧W.rangeAt gw (m*6) [.int .i64 y.k,.bool y.b,.int .i64 y.n,.string y.t,.string y.x,.slice y.p y.len y.cap]) (by kernel_rfl) ⟨cr2,cr4,rk,rw6⟩ (fun hHeld=>?_)
   refine tg (i:=0) (.slice (some ⟨gk,0,none⟩) nk ck) rfl hHeld ?_
   refine tg (i:=1) (.int .i64 (i:Int)) rfl hHeld ?_
   refine tg (i:=2) (.pointer (some ⟨gk,i*6,none⟩)) rfl hHeld ?_
   refine tk (i:=3) rfl (yieldsIf_load_mid (by rfl) 39 (.tmp 37) rfl (gk) (i*6) rfl [.int .i64 a0.k,.bool a0.b,.int .i64 a0.n,.string a0.t,.string a0.x,.slice a0.p a0.len a0.cap] _ (fun W h=>h.2.2.1) Tryz.underlying39 rfl zas) hHeld ?_
   refine tg (i:=4) (.pointer (some ⟨gR,0,none⟩)) rfl hHeld ?_
   refine tg (i:=5) (.pointer (some ⟨gR,0,none⟩)) rfl hHeld ?_
   refine tg (i:=6) (.pointer (some ⟨gR,2,none⟩)) rfl hHeld ?_
   refine tk (i:=7) (v:=.slice (some ⟨gw,0,none⟩) dd cw) rfl (Or.inl ⟨by rfl,fun W h=>by have c0:=h.1;go_simp⟩) hHeld ?_
   refine tg (i:=8) (.pointer (some ⟨gR,0,none⟩)) rfl hHeld ?_
   refine tg (i:=9) (.pointer (some ⟨gR,0,none⟩)) rfl hHeld ?_
   refine tg (i:=10) (.pointer (some ⟨gR,4,none⟩)) rfl hHeld ?_
   refine tk (i:=11) (v:=.int .i64 (dd:Int)) rfl (Or.inl ⟨by rfl,fun W h=>by have c0:=h.2.1;go_simp⟩) hHeld ?_
   refine tg (i:=12) (.int .i64 (m:Int)) rfl hHeld ?_
   refine tg (i:=13) (.pointer (some ⟨gw,m*6,none⟩)) rfl hHeld ?_
   refine tk (i:=14) rfl (yieldsIf_load_mid (by rfl) 39 (.tmp 48) rfl (gw) (m*6) rfl [.int .i64 y.k,.bool y.b,.int .i64 y.n,.string y.t,.string y.x,.slice y.p y.len y.cap] _ (fun W h=>h.2.2.2) Tryz.underlying39 rfl zas) hHeld ?_
   refine tr 15 rfl (fun K hK=>?_)
   rw [if_pos (by rfl)]
   go_simp
   refine (HC1.out _ L0).mono ?_
   rintro e7 w7 ⟨rfl,hb7⟩
   have hHeld9:_∧_∧_∧_:=⟨(hb7.cell (p:=⟨gR,2,none⟩) (World.block_lt_of_cell? _ _ hHeld.1)).trans hHeld.1,(hb7.cell (p:=⟨gR,4,none⟩) (World.block_lt_of_cell? _ _ hHeld.2.1)).trans hHeld.2.1,zae hHeld.2.2.1 hb7,zae hHeld.2.2.2 hb7⟩
   have L9:=L0.trans (hb7.mono L0.size)
   clear hb7
   refine hK.out _ _ hHeld9 (fun _=>?_)
   clear hK K
   try simp only [putS]
   refine tg (i:=16) (.int .i64 c1) rfl hHeld9 ?_
   refine wpAnyH_done (by kernel_rfl) ?_ _
   have HL7:=Lib.hid L9
   have rk7:=zae HRK.out L9
   have rv7:=zae HRVr.out L9
   clear hHeld hHeld9 L9 L0 cr2 cr4 rk rw6 HC1
   go_upto_region 8 with fail
   have L0:Below w7.heap.size w7 w7.drew:=(Below.refl _ _).drew
   refine wp_region_held_drew (S:=fun W=>W.rangeAt gk (i*6) [.int .i64 a0.k,.bool a0.b,.int .i64 a0.n,.string a0.t,.string a0.x,.slice a0.p a0.len a0.cap]∧W.rangeAt w.heap.size 0 [.int .i64 v.k,.bool v.b,.int .i64 v.n,.string v.t,.string v.x,.slice v.p v.len v.cap]) (by kernel_rfl) ⟨rk7,rv7⟩ (fun hHeld=>?_)
   refine tg (i:=0) (.slice (some ⟨gk,0,none⟩) nk ck) rfl hHeld ?_
   refine tg (i:=1) (.int .i64 (i:Int)) rfl hHeld ?_
   refine tg (i:=2) (.pointer (some ⟨gk,i*6,none⟩)) rfl hHeld ?_
   refine tk (i:=3) rfl (yieldsIf_load_mid (by rfl) 39 (.tmp 53) rfl (gk) (i*6) rfl [.int .i64 a0.k,.bool a0.b,.int .i64 a0.n,.string a0.t,.string a0.x,.slice a0.p a0.len a0.cap] _ (fun W h=>h.1) Tryz.underlying39 rfl zas) hHeld ?_
   refine tk (i:=4) rfl (yieldsIf_load_mid (by rfl) 39 (.tmp 5) rfl (w.heap.size) (0) rfl [.int .i64 v.k,.bool v.b,.int .i64 v.n,.string v.t,.string v.x,.slice v.p v.len v.cap] _ (fun W h=>h.2) Tryz.underlying39 rfl zas) hHeld ?_
   refine tr 5 rfl (fun K hK=>?_)
   rw [if_pos (by rfl)]
   go_simp
   refine (HC2.out _ (HL7.out.trans (L0.mono HL7.out.size))).mono ?_
   rintro e8 w8 ⟨rfl,hb8⟩
   have hHeld9:_∧_:=⟨zae hHeld.1 hb8,zae hHeld.2 hb8⟩
   have L9:=L0.trans (hb8.mono L0.size)
   clear hb8
   refine hK.out _ _ hHeld9 (fun _=>?_)
   clear hK K
   try simp only [putS]
   refine tg (i:=6) (.int .i64 c2) rfl hHeld9 ?_
   refine wpAnyH_done (by kernel_rfl) ?_ _
   have HL8:Hid (Below wr.heap.size wr w8):=Lib.hid (HL7.out.trans (L9.mono HL7.out.size))
   clear hHeld hHeld9 L9 L0 rk7 rv7 HC2
   have HBW8:Hid (Below w2.heap.size w2 w8):=Lib.hid (HB.out.trans (HL8.out.mono HB.out.size))
   obtain ⟨r,hr⟩:∃ r,r=toP st wl uv ks[i]:=⟨_,rfl⟩
   have hr2:r=(decide (0≤c1) && (if st then decide (0 < c2) else decide (0≤c2))):=by
    rw [hr,HCC.out.1,HCC.out.2]
    rfl
   have HR:=Lib.hid hr
   have HR2:=Lib.hid hr2
   clear hr hr2
   cases r with
   | true=>
     have hcs:(0:Int)≤c1∧(st=true→(0:Int) < c2)∧(st=false→(0:Int)≤c2):=by
      have:=HR2.out
      cases st <;> simp at this <;> simp [this]
     obtain ⟨hp1,hp2,hp3⟩:=hcs
     cases st with
     | true=>
       have hp4:=hp2 rfl
       clear hp2 hp3
       go_upto_region 10 with fail
       have hCW8:=(HL8.out.block _ (zac HCWr.out)).trans HCWr.out
       have hcw8:w8.drew.heap[gw]?=some (.cells curw 39):=hCW8
       have hB8:=(HL8.out.block _ (zac HBr.out)).trans HBr.out
       have cs2:w8.drew.cell? ⟨gR,2,none⟩=some (.slice (some ⟨gw,0,none⟩) dd cw):=zab (w:=w8) hB8 2 rfl
       have cs4:w8.drew.cell? ⟨gR,4,none⟩=some (.int .i64 (dd:Int)):=zab (w:=w8) hB8 4 rfl
       have rk8:w8.drew.rangeAt gk (i*6) [.int .i64 a0.k,.bool a0.b,.int .i64 a0.n,.string a0.t,.string a0.x,.slice a0.p a0.len a0.cap]:=zae HRK.out HL8.out.drew
       have hszw:m*6+6≤curw.size:=by have:=HCS.out;have:=HML.out.1;omega
       obtain ⟨hne,hnk,hgk⟩:=HNE.out
       refine wp_region_held_drew (S:=fun W=>W.cell? ⟨gR,2,none⟩=some (.slice (some ⟨gw,0,none⟩) dd cw)∧W.cell? ⟨gR,4,none⟩=some (.int .i64 (dd:Int))∧W.rangeAt gk (i*6) [.int .i64 a0.k,.bool a0.b,.int .i64 a0.n,.string a0.t,.string a0.x,.slice a0.p a0.len a0.cap]) (by kernel_rfl) ⟨cs2,cs4,rk8⟩ (fun hHeld=>?_)
       refine tg (i:=0) (.pointer (some ⟨gR,0,none⟩)) rfl hHeld ?_
       refine tg (i:=1) (.pointer (some ⟨gR,0,none⟩)) rfl hHeld ?_
       refine tg (i:=2) (.pointer (some ⟨gR,2,none⟩)) rfl hHeld ?_
       refine tk (i:=3) (v:=.slice (some ⟨gw,0,none⟩) dd cw) rfl (Or.inl ⟨by rfl,fun W h=>by have c0:=h.1;go_simp⟩) hHeld ?_
       refine tg (i:=4) (.pointer (some ⟨gR,0,none⟩)) rfl hHeld ?_
       refine tg (i:=5) (.pointer (some ⟨gR,0,none⟩)) rfl hHeld ?_
       refine tg (i:=6) (.pointer (some ⟨gR,4,none⟩)) rfl hHeld ?_
       refine tk (i:=7) (v:=.int .i64 (dd:Int)) rfl (Or.inl ⟨by rfl,fun W h=>by have c0:=h.2.1;go_simp⟩) hHeld ?_
       refine tg (i:=8) (.int .i64 (m:Int)) rfl hHeld ?_
       refine tg (i:=9) (.slice (some ⟨gk,0,none⟩) nk ck) rfl hHeld ?_
       refine tg (i:=10) (.int .i64 (i:Int)) rfl hHeld ?_
       refine tg (i:=11) (.pointer (some ⟨gk,i*6,none⟩)) rfl hHeld ?_
       refine tk (i:=12) rfl (yieldsIf_load_mid (by rfl) 39 (.tmp 85) rfl (gk) (i*6) rfl [.int .i64 a0.k,.bool a0.b,.int .i64 a0.n,.string a0.t,.string a0.x,.slice a0.p a0.len a0.cap] _ (fun W h=>h.2.2) Tryz.underlying39 rfl zas) hHeld ?_
       refine tg (i:=13) (.pointer (some ⟨gw,m*6,none⟩)) rfl hHeld ?_
       refine tr 14 rfl (fun K hK=>?_)
       rw [if_pos (by rfl)]
       have oz:=zba gw [.int .i64 a0.k,.bool a0.b,.int .i64 a0.n,.string a0.t,.string a0.x,.slice a0.p a0.len a0.cap] (m*6) w8.drew
       refine wp_store_mid 39 (.tmp 87) (.tmp 86) rfl gw (m*6) #[.int .i64 a0.k,.bool a0.b,.int .i64 a0.n,.string a0.t,.string a0.x,.slice a0.p a0.len a0.cap] rfl rfl (zc6 (w:=w8.drew) hcw8 (m*6) 6 (by omega)) zas (by simp [Value.oneCell']) ?_
       refine hK.out _ _ ⟨(zbr oz hne hHeld.1).trans hHeld.1,(zbr oz hne hHeld.2.1).trans hHeld.2.1,fun j u hu=>(zbr oz hnk (hHeld.2.2 j u hu)).trans (hHeld.2.2 j u hu)⟩ (fun _=>?_)
       clear hK K
       try simp only [putS]
       refine wpAnyH_done (by kernel_rfl) ?_ _
       have fin:Below base w (w8.drew.setCells gw (m*6) [.int .i64 a0.k,.bool a0.b,.int .i64 a0.n,.string a0.t,.string a0.x,.slice a0.p a0.len a0.cap])∧DCur (w8.drew.setCells gw (m*6) [.int .i64 a0.k,.bool a0.b,.int .i64 a0.n,.string a0.t,.string a0.x,.slice a0.p a0.len a0.cap]) base gR pl all.length cl (onm kk) (way.take (way.length - 1)++[ks[i]]) false:=by
        obtain ⟨hb,hbR,hbw⟩:=HBASE.out
        have hbW8:=HBW.out.trans (HL8.out.mono HBW.out.size)
        have bw:Below base w w8.drew:=((HB0.out.mono hb).trans (hbW8.mono (by have:=HB0.out.size;omega))).drew
        have hmm:way.length - 1=m:=by have:=HML.out;omega
        have hll:(way.take (way.length - 1)++[ks[i]]).length=dd:=by rw [List.length_append,List.length_take];simp;have:=HML.out;omega
        have hdl:d.length=way.length:=by rw [← HDV.out,List.length_map]
        refine ⟨zag bw oz hbw (by have:=bw.size;omega),⟨⟨some ⟨gw,0,none⟩,cw,?_,⟨d.take m++[e0],?_,?_⟩,?_⟩,hbR⟩⟩
        ·rw [hll]
         exact (oz.block gR (zac (w:=w8.drew) hB8) hne).trans hB8
        ·rw [List.map_append,List.map_take,HDV.out,hmm]
         simp [HE0.out.2]
        ·rw [hll,List.flatMap_append,← zni]
         have e6:[e0].flatMap VE.enc=[.int .i64 a0.k,.bool a0.b,.int .i64 a0.n,.string a0.t,.string a0.x,.slice a0.p a0.len a0.cap]:=by simp [VE.enc,HE0.out.1]
         rw [e6]
         exact zhx (zbf HOWN.out hbW8.drew) (m*6) _ (by have:=HML.out.1;simp;omega)
        ·intro e
         exact hne (by cases e;rfl)
       have FIN:=Lib.hid fin
       clear fin oz hHeld hCW8 hcw8 hB8 cs2 cs4 rk8
       go_wp2_with fail
       go_ret
       exact ⟨ks,HINS.out,FIN.out.1,.inl ⟨i,hi1,HR.out.symm,fun i' h'=>HA.out i' (by omega) h',rfl,FIN.out.2⟩⟩
     | false=>
       have hp4:=hp3 rfl
       clear hp2 hp3
       go_upto_region 10 with fail
       have hCW8:=(HL8.out.block _ (zac HCWr.out)).trans HCWr.out
       have hcw8:w8.drew.heap[gw]?=some (.cells curw 39):=hCW8
       have hB8:=(HL8.out.block _ (zac HBr.out)).trans HBr.out
       have cs2:w8.drew.cell? ⟨gR,2,none⟩=some (.slice (some ⟨gw,0,none⟩) dd cw):=zab (w:=w8) hB8 2 rfl
       have cs4:w8.drew.cell? ⟨gR,4,none⟩=some (.int .i64 (dd:Int)):=zab (w:=w8) hB8 4 rfl
       have rk8:w8.drew.rangeAt gk (i*6) [.int .i64 a0.k,.bool a0.b,.int .i64 a0.n,.string a0.t,.string a0.x,.slice a0.p a0.len a0.cap]:=zae HRK.out HL8.out.drew
       have hszw:m*6+6≤curw.size:=by have:=HCS.out;have:=HML.out.1;omega
       obtain ⟨hne,hnk,hgk⟩:=HNE.out
       refine wp_region_held_drew (S:=fun W=>W.cell? ⟨gR,2,none⟩=some (.slice (some ⟨gw,0,none⟩) dd cw)∧W.cell? ⟨gR,4,none⟩=some (.int .i64 (dd:Int))∧W.rangeAt gk (i*6) [.int .i64 a0.k,.bool a0.b,.int .i64 a0.n,.string a0.t,.string a0.x,.slice a0.p a0.len a0.cap]) (by kernel_rfl) ⟨cs2,cs4,rk8⟩ (fun hHeld=>?_)
       refine tg (i:=0) (.pointer (some ⟨gR,0,none⟩)) rfl hHeld ?_
       refine tg (i:=1) (.pointer (some ⟨gR,0,none⟩)) rfl hHeld ?_
       refine tg (i:=2) (.pointer (some ⟨gR,2,none⟩)) rfl hHeld ?_
       refine tk (i:=3) (v:=.slice (some ⟨gw,0,none⟩) dd cw) rfl (Or.inl ⟨by rfl,fun W h=>by have c0:=h.1;go_simp⟩) hHeld ?_
       refine tg (i:=4) (.pointer (some ⟨gR,0,none⟩)) rfl hHeld ?_
       refine tg (i:=5) (.pointer (some ⟨gR,0,none⟩)) rfl hHeld ?_
       refine tg (i:=6) (.pointer (some ⟨gR,4,none⟩)) rfl hHeld ?_
       refine tk (i:=7) (v:=.int .i64 (dd:Int)) rfl (Or.inl ⟨by rfl,fun W h=>by have c0:=h.2.1;go_simp⟩) hHeld ?_
       refine tg (i:=8) (.int .i64 (m:Int)) rfl hHeld ?_
       refine tg (i:=9) (.slice (some ⟨gk,0,none⟩) nk ck) rfl hHeld ?_
       refine tg (i:=10) (.int .i64 (i:Int)) rfl hHeld ?_
       refine tg (i:=11) (.pointer (some ⟨gk,i*6,none⟩)) rfl hHeld ?_
       refine tk (i:=12) rfl (yieldsIf_load_mid (by rfl) 39 (.tmp 85) rfl (gk) (i*6) rfl [.int .i64 a0.k,.bool a0.b,.int .i64 a0.n,.string a0.t,.string a0.x,.slice a0.p a0.len a0.cap] _ (fun W h=>h.2.2) Tryz.underlying39 rfl zas) hHeld ?_
       refine tg (i:=13) (.pointer (some ⟨gw,m*6,none⟩)) rfl hHeld ?_
       refine tr 14 rfl (fun K hK=>?_)
       rw [if_pos (by rfl)]
       have oz:=zba gw [.int .i64 a0.k,.bool a0.b,.int .i64 a0.n,.string a0.t,.string a0.x,.slice a0.p a0.len a0.cap] (m*6) w8.drew
       refine wp_store_mid 39 (.tmp 87) (.tmp 86) rfl gw (m*6) #[.int .i64 a0.k,.bool a0.b,.int .i64 a0.n,.string a0.t,.string a0.x,.slice a0.p a0.len a0.cap] rfl rfl (zc6 (w:=w8.drew) hcw8 (m*6) 6 (by omega)) zas (by simp [Value.oneCell']) ?_
       refine hK.out _ _ ⟨(zbr oz hne hHeld.1).trans hHeld.1,(zbr oz hne hHeld.2.1).trans hHeld.2.1,fun j u hu=>(zbr oz hnk (hHeld.2.2 j u hu)).trans (hHeld.2.2 j u hu)⟩ (fun _=>?_)
       clear hK K
       try simp only [putS]
       refine wpAnyH_done (by kernel_rfl) ?_ _
       have fin:Below base w (w8.drew.setCells gw (m*6) [.int .i64 a0.k,.bool a0.b,.int .i64 a0.n,.string a0.t,.string a0.x,.slice a0.p a0.len a0.cap])∧DCur (w8.drew.setCells gw (m*6) [.int .i64 a0.k,.bool a0.b,.int .i64 a0.n,.string a0.t,.string a0.x,.slice a0.p a0.len a0.cap]) base gR pl all.length cl (onm kk) (way.take (way.length - 1)++[ks[i]]) false:=by
        obtain ⟨hb,hbR,hbw⟩:=HBASE.out
        have hbW8:=HBW.out.trans (HL8.out.mono HBW.out.size)
        have bw:Below base w w8.drew:=((HB0.out.mono hb).trans (hbW8.mono (by have:=HB0.out.size;omega))).drew
        have hmm:way.length - 1=m:=by have:=HML.out;omega
        have hll:(way.take (way.length - 1)++[ks[i]]).length=dd:=by rw [List.length_append,List.length_take];simp;have:=HML.out;omega
        have hdl:d.length=way.length:=by rw [← HDV.out,List.length_map]
        refine ⟨zag bw oz hbw (by have:=bw.size;omega),⟨⟨some ⟨gw,0,none⟩,cw,?_,⟨d.take m++[e0],?_,?_⟩,?_⟩,hbR⟩⟩
        ·rw [hll]
         exact (oz.block gR (zac (w:=w8.drew) hB8) hne).trans hB8
        ·rw [List.map_append,List.map_take,HDV.out,hmm]
         simp [HE0.out.2]
        ·rw [hll,List.flatMap_append,← zni]
         have e6:[e0].flatMap VE.enc=[.int .i64 a0.k,.bool a0.b,.int .i64 a0.n,.string a0.t,.string a0.x,.slice a0.p a0.len a0.cap]:=by simp [VE.enc,HE0.out.1]
         rw [e6]
         exact zhx (zbf HOWN.out hbW8.drew) (m*6) _ (by have:=HML.out.1;simp;omega)
        ·intro e
         exact hne (by cases e;rfl)
       have FIN:=Lib.hid fin
       clear fin oz hHeld hCW8 hcw8 hB8 cs2 cs4 rk8
       go_wp2_with fail
       go_ret
       exact ⟨ks,HINS.out,FIN.out.1,.inl ⟨i,hi1,HR.out.symm,fun i' h'=>HA.out i' (by omega) h',rfl,FIN.out.2⟩⟩
   | false=>
     have HA2:Hid (∀ (j:Nat) (h:j < ks.length),j < i+1→toP st wl uv ks[j]=false):=Lib.hid fun j h hj=>by
      by_cases e:j=i
      ·subst e;exact HR.out.symm
      ·exact HA.out j h (by omega)
     by_cases hp1:(0:Int)≤c1
     ·cases st with
      | true=>
        have hp4:¬ (0:Int) < c2:=by have:=HR2.out;simp [hp1] at this;omega
        go_wp2_with fail
        go_roundg (nk - (i+1))
        case measure=>omega
        case rel=>exact ⟨i+1,by omega,by go_num,HBW8,HA2⟩
      | false=>
        have hp4:¬ (0:Int)≤c2:=by have:=HR2.out;simp [hp1] at this;omega
        go_wp2_with fail
        go_roundg (nk - (i+1))
        case measure=>omega
        case rel=>exact ⟨i+1,by omega,by go_num,HBW8,HA2⟩
     ·go_wp2_with fail
      go_roundg (nk - (i+1))
      case measure=>omega
      case rel=>exact ⟨i+1,by omega,by go_num,HBW8,HA2⟩
  ·have f3:wr.frozen? ⟨gR,3,none⟩=false:=za9 hBr _
   have c3:wr.cell? ⟨gR,3,none⟩=some (.bool false):=zab hBr 3 rfl
   have B9:=zaz hBr 3 (.bool true)
   have o9:=(Only.refl gR wr).setCell 3 none (.bool true)
   have fin:Below base w (wr.setCell ⟨gR,3,none⟩ (.bool true))∧DCur (wr.setCell ⟨gR,3,none⟩ (.bool true)) base gR pl all.length cl (onm kk) way true:=by
    obtain ⟨hb,hbR,hbw⟩:=HBASE.out
    have bw:Below base w wr:=(HB0.out.mono hb).trans (HBW.out.mono (by have:=HB0.out.size;omega))
    refine ⟨zag bw o9 hbR (by have:=bw.size;omega),⟨⟨some ⟨gw,0,none⟩,cw,?_,⟨d,HDV.out,?_⟩,?_⟩,hbR⟩⟩
    ·rw [← HML.out.2];exact B9
    ·rw [← HML.out.2]
     exact zdh (zbf HOWN.out HBW.out) o9 (fun e=>hne (by cases e;rfl))
    ·intro e
     exact hne (by cases e;rfl)
   have hall:∀ (j:Nat) (h:j < ks.length),toP st wl uv ks[j]=false:=fun j h=>HA.out j h (by have:=HNK.out;omega)
   have FIN:=Lib.hid (And.intro fin hall)
   clear fin hall B9 o9 hBr hCWr HA
   go_wp2_with fail
   go_ret
   exact ⟨ks,HINS.out,FIN.out.1.1,.inr ⟨FIN.out.2,rfl,FIN.out.1.2⟩⟩
end Go.Proofs.YtanbgdhmfjgihaaGreatDoor
