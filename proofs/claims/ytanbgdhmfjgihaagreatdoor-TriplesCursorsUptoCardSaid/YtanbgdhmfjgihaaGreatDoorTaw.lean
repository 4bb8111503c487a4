/- Texts of one kind, one behind the other: each says ahead of itself what it shows. -/
import Derived.Shelf.SlSortCmp.NoneTotal
import Derived.Laws.OwnMore
import Derived.Test.YtanbgdhmfjgihaaGreatDoorTau
import Derived.Test.YtanbgdhmfjgihaaGreatDoorTas
import Derived.Test.YtanbgdhmfjgihaaGreatDoorTav
import Derived.Deep.AppendLies
import Derived.Test.YtanbgdhmfjgihaaGreatDoorTat
namespace Go.Proofs.YtanbgdhmfjgihaaGreatDoor
open Go.RowKit
set_option maxHeartbeats 12800000
set_option maxRecDepth 20000
theorem zk0 {α:Type} [Inhabited α] (enc:α→List Value) (k:Nat) (hk:∀ x,(enc x).length=k):(l:List α)→(t:Nat)→t < l.length*k→(l.flatMap enc)[t]?=some ((enc l[t / k]!)[t % k]!)
 | [],t,h=>by simp at h
 | x::l,t,h=>by
   have k0:0 < k:=by
    rcases Nat.eq_zero_or_pos k with e | e
    ·subst e;simp at h
    ·exact e
   rw [List.flatMap_cons]
   by_cases q:t < k
   ·rw [List.getElem?_append_left (by rw [hk];exact q),Nat.div_eq_of_lt q,Nat.mod_eq_of_lt q]
    have:t < (enc x).length:=by rw [hk];exact q
    show (enc x)[t]?=some ((enc x)[t]!)
    rw [List.getElem?_eq_getElem this,getElem!_pos _ t this]
   ·have h2:t - k < l.length*k:=by
     simp only [List.length_cons,Nat.add_mul] at h
     omega
    rw [List.getElem?_append_right (by rw [hk];omega),hk,zk0 enc k hk l (t - k) h2]
    have e1:t / k=(t - k) / k+1:=Nat.div_eq_sub_div k0 (by omega)
    have e2:t % k=(t - k) % k:=Nat.mod_eq_sub_mod (by omega)
    rw [e1,e2]
    simp
theorem zhe {α:Type} [Inhabited α] {enc:α→List Value} {k:Nat} (hk:∀ x,(enc x).length=k) {w:World} {base g cap:Nat} {e:TypeId} (d:List α)
 (h:w.ownsRow base e k (.slice (some ⟨g,0,none⟩) d.length cap) d.length (d.flatMap enc)):Go.Sort.HoldsK enc k w g 0 d.toArray:=by
 intro t ht
 have ht2:t < d.toArray.size*k:=by simpa using ht
 have ht':t < d.length*k:=by simpa using ht2
 refine ⟨?_,h.frozenAt _⟩
 rw [Nat.zero_add,h.cellAt t ht',zk0 enc k hk d t ht',Go.Sort.get_flatK _ _ _ _ ht2]
 simp
theorem zih {w:World} {base size n:Nat} {e:TypeId} {v:Value} {xs:List Value} (h:w.ownsRow base e size v n xs) (hn:0 < n):∃ g cap,v=.slice (some ⟨g,0,none⟩) n cap∧base≤g∧g < w.heap.size∧n≤cap:=by
 rcases h.2 with ⟨_,h0⟩ | ⟨g,cap,cur,hv,hb,hg,hc,_⟩
 ·omega
 ·exact ⟨g,cap,hv,hb,zac hg,hc⟩
theorem zby (w:World) (g:Nat):(d:List VE)→(off:Nat)→(∀ t u,(d.flatMap VE.enc)[t]?=some u→w.cell? ⟨g,off+t,none⟩=some u)→zar w g off (d.map VE.val)
 | [],_,_=>by unfold zar;trivial
 | e::d,off,h=>by
   rw [List.map_cons]
   unfold zar
   refine ⟨?_,zby w g d (off+6) fun t u hu=>?_⟩
   ·unfold VE.val zay
    refine ⟨h 0 _ rfl,h 1 _ rfl,h 2 _ rfl,h 3 _ rfl,h 4 _ rfl,e.hf,_,h 5 _ rfl,?_⟩
    unfold Held
    exact ⟨_,_,by rw [e.h0]⟩
   ·have:=h (6+t) u (by
     rw [List.flatMap_cons,List.getElem?_append_right (by rw [VE.len6];omega),VE.len6]
     rw [show 6+t - 6=t by omega]
     exact hu)
    rwa [← Nat.add_assoc] at this
theorem zo4 {w:World} {base g cap:Nat} (d:List VE) (h:w.ownsRow base 39 6 (.slice (some ⟨g,0,none⟩) d.length cap) d.length (d.flatMap VE.enc)):zar w g 0 (d.map VE.val):=
 zby w g d 0 fun t u hu=>by
  have ht:t < d.length*6:=by
   have:=(List.getElem?_eq_some_iff.1 hu).1
   rw [h.1] at this
   exact this
  rw [Nat.zero_add,h.cellAt t ht]
  exact hu
theorem zu9 (W0 w:World) (hG:Gd W0) (hT:Tab W0) (b0:Below W0.heap.size W0 w) (blk off size:Nat) (hB:W0.heap.size≤blk):CmpLays Tryz.prog 74 #[] VE.enc 6 VE.cf blk off size w:=by
 intro m os dk hs x y
 have b1:=zag b0 (zky VE.enc 6 w blk off m dk os) hB b0.size
 obtain ⟨⟨k,b,n,t,z,p,len,cap⟩,h0,hf⟩:=x
 obtain ⟨⟨k2,b2,n2,t2,z2,p2,len2,cap2⟩,h02,hf2⟩:=y
 simp only at h0 h02 hf hf2
 subst h0 h02
 refine (zmx (.mk k b n t z []) (.mk k2 b2 n2 t2 z2 []) _ k b n t z [] p cap k2 b2 n2 t2 z2 [] p2 cap2 rfl rfl (hG.below b1) (hT.below b1) hf hf2 ?_ ?_).mono ?_
 ·exact ⟨_,_,rfl⟩
 ·exact ⟨_,_,rfl⟩
 ·rintro e w' ⟨he,hb⟩
  exact ⟨he,hb.grows⟩
theorem zva (W0 w:World) (hG:Gd W0) (hT:Tab W0) (b0:Below W0.heap.size W0 w) (blk off cap:Nat) (d:Array VE) (hB:W0.heap.size≤blk) (hblk:blk < w.heap.size) (hH:Go.Sort.HoldsK VE.enc 6 w blk off d) (hsz:d.size < 4611686018427387904):
 Calls Tryz.prog 73 #[.slice (some ⟨blk,off,none⟩) d.size cap,.func (.func 74) #[] #[]] w fun e w'=>
  e=.returned (.tuple #[])∧∃ d' n os,Go.Sort.PermIn 0 d.size d d'∧Go.Sort.SortedIn (ltOf VE.cf) 0 d.size d'∧w'=sortWorldK VE.enc 6 w blk off n d' os:=by
 have eg:∀ args w,(callFunc 74 args).run Tryz.prog w=.ok (.enter 74 args) w:=enters_of Tryz.func74 (by kernel_rfl) rfl
 exact AnyQ.slices_SortFunc Tryz.sortV 6 Tryz.isAgg39 Tryz.sizeOf39 VE.enc (fun _=>rfl) VE.one VE.cf swoV 74 #[] blk off cap d w eg (zu9 W0 w hG hT b0 blk off d.size hB) hH hblk hsz
theorem zbk {ops:Array Oper} {rest:List Oper} {op:Oper} {a:Act} {w:World} {Q:Exit→Act→World→Prop} (y:Operand) (g off:Nat) (s p o:V6) (h18:w.rangeAt g off [.int .i64 s.k,.bool s.b,.int .i64 s.n,.string s.t,.string s.x,.slice s.p s.len s.cap,.int .i64 p.k,.bool p.b,.int .i64 p.n,.string p.t,.string p.x,.slice p.p p.len p.cap,.int .i64 o.k,.bool o.b,.int .i64 o.n,.string o.t,.string o.x,.slice o.p o.len o.cap])
 (hgd:op.guard=none) (ho:op.op=.load 41 y) (hx:a.eval y=.pointer (some ⟨g,off,none⟩))
 (h:wpList Tryz.prog ops Q rest (a.put op.dst (.agg #[.int .i64 s.k,.bool s.b,.int .i64 s.n,.string s.t,.string s.x,.slice s.p s.len s.cap,.int .i64 p.k,.bool p.b,.int .i64 p.n,.string p.t,.string p.x,.slice p.p p.len p.cap,.int .i64 o.k,.bool o.b,.int .i64 o.n,.string o.t,.string o.x,.slice o.p o.len o.cap])) w):wpList Tryz.prog ops Q (op::rest) a w:=
 wpList_load_mid hgd 41 y ho g off hx [.int .i64 s.k,.bool s.b,.int .i64 s.n,.string s.t,.string s.x,.slice s.p s.len s.cap,.int .i64 p.k,.bool p.b,.int .i64 p.n,.string p.t,.string p.x,.slice p.p p.len p.cap,.int .i64 o.k,.bool o.b,.int .i64 o.n,.string o.t,.string o.x,.slice o.p o.len o.cap] _ h18 Tryz.underlying41 rfl zd6 h
theorem zdj {ops:Array Oper} {rest:List Oper} {op:Oper} {a:Act} {w:World} {Q:Exit→Act→World→Prop} (x y:Operand) (g:Nat) (s p o:V6) {c:Array Value} (hg:w.heap[g]?=some (.cells c 41)) (hs:c.size=18)
 (hgd:op.guard=none) (ho:op.op=.store 41 x y) (hx:a.eval x=.pointer (some ⟨g,0,none⟩)) (hy:a.eval y=.agg #[.int .i64 s.k,.bool s.b,.int .i64 s.n,.string s.t,.string s.x,.slice s.p s.len s.cap,.int .i64 p.k,.bool p.b,.int .i64 p.n,.string p.t,.string p.x,.slice p.p p.len p.cap,.int .i64 o.k,.bool o.b,.int .i64 o.n,.string o.t,.string o.x,.slice o.p o.len o.cap])
 (h:∀ w',Only g w w'→za4 w' g s p o→wpList Tryz.prog ops Q rest (a.put op.dst undef) w'):wpList Tryz.prog ops Q (op::rest) a w:=
 wpList_plain hgd fun _ hK=>by
  unfold Oper.wp execOp
  simp only [ho,hx,hy,Instr.storeAt,Instr.sureAddr,Sem.run_bind,Sem.run_pure,Result.andThen_ok,run_storeVar_row (P:=Tryz.prog) w g 41 41 c #[.int .i64 s.k,.bool s.b,.int .i64 s.n,.string s.t,.string s.x,.slice s.p s.len s.cap,.int .i64 p.k,.bool p.b,.int .i64 p.n,.string p.t,.string p.x,.slice p.p p.len p.cap,.int .i64 o.k,.bool o.b,.int .i64 o.n,.string o.t,.string o.x,.slice o.p o.len o.cap] hg (by exact zd6) (by rw [hs];rfl) (by simp [Value.oneCell'])]
  exact hK _ _ (h _ (Only.setRow w _) (za6 hg))
theorem zfk (w:World) (s p o:V6) (t:TypeId):∀ j u,[.int .i64 s.k,.bool s.b,.int .i64 s.n,.string s.t,.string s.x,.slice s.p s.len s.cap,.int .i64 p.k,.bool p.b,.int .i64 p.n,.string p.t,.string p.x,.slice p.p p.len p.cap,.int .i64 o.k,.bool o.b,.int .i64 o.n,.string o.t,.string o.x,.slice o.p o.len o.cap][j]?=some u→(w.alloc (.cells #[.int .i64 s.k,.bool s.b,.int .i64 s.n,.string s.t,.string s.x,.slice s.p s.len s.cap,.int .i64 p.k,.bool p.b,.int .i64 p.n,.string p.t,.string p.x,.slice p.p p.len p.cap,.int .i64 o.k,.bool o.b,.int .i64 o.n,.string o.t,.string o.x,.slice o.p o.len o.cap] t)).cell? ((⟨w.heap.size,0,none⟩:Addr).add j)=some u:=by
 intro j u hj
 rw [Addr.add_mid,Nat.zero_add]
 exact zab (zah w _ rfl) j (by simpa using hj)
def zcw (u:Val):Prop:=∃ k b n t x,u=.mk k b n t x []
theorem Is.plain {W:World} {v:V6} {u:Val} {q:List Val} (h:Is W v u q) (hp:zcw u):∃ e:VE,e.v=v∧e.val=u:=by
 obtain ⟨k,b,n,t,x,rfl⟩:=hp
 obtain ⟨k0,b0,n0,t0,x0,p0,len0,cap0⟩:=v
 obtain ⟨he,hq,hf,hl⟩:=h
 simp only at he hq hf hl
 injection he with h1 h2 h3 h4 h5 h6
 subst h1 h2 h3 h4 h5 h6
 exact ⟨⟨⟨k,b,n,t,x,p0,len0,cap0⟩,hq,hf⟩,rfl,rfl⟩
def GV (w:World) (l:List Tri3) (j:Nat) (V:Value) (wr:World):Prop:=∃ d:List VE,d.map VE.val=flat (l.take j)∧wr.ownsRow w.heap.size 39 6 V d.length (d.flatMap VE.enc)∧Below w.heap.size w wr
def GW (w:World) (dk:Array VE) (j:Nat) (V:Value) (wr:World):Prop:=∃ d:List VE,d.map VE.val=(dk.toList.take j).map VE.val∧wr.ownsRow w.heap.size 39 6 V d.length (d.flatMap VE.enc)∧Below w.heap.size w wr
theorem GVlen {l:List Tri3} {j:Nat} {d:List VE} (h:d.map VE.val=flat (l.take j)) (hj:j≤l.length):d.length=3*j:=by
 have:=congrArg List.length h
 rw [List.length_map,zif,List.length_take] at this
 omega
def zyf (w:World) (l:List Tri3) (e:Ending) (w':World):Prop:=∃ vs g cap,e=.returned (.slice (some ⟨g,0,none⟩) vs.length cap)∧Rise vs∧(∀ u,u∈vs↔u∈flat l)∧zar w' g 0 vs∧w.heap.size≤g∧vs.length≤cap∧vs.length≤3*l.length∧Below w.heap.size w w'
theorem zle (l:List Tri3) (g off cap:Nat) (w:World) (hG:Gd w) (hT:Tab w) (hl:zar w g off (flat l)) (hn:l.length≤100000) (h0:0 < l.length) (hp:∀ u∈flat l,zcw u∧mayP u 0=true):
 Calls Tryz.prog 40 #[.slice (some ⟨g,off,none⟩) l.length cap] w (zyf w l):=by
 obtain ⟨n,hln⟩:∃ n,n=l.length:=⟨_,rfl⟩
 rw [← hln] at hn h0 ⊢
 obtain ⟨i0,hi,hz0,hz1,hz2⟩:=info_parts zm9
 have HL:=Lib.hid hln
 have HH:=Lib.hid hl
 have HP:=Lib.hid hp
 have HG:=Lib.hid hG
 have HT:=Lib.hid hT
 clear hl hln hp hG hT
 go_enter Tryz.func40,Tryz.ntmps40
 go_wp2_with fail
 go_loopg [3,11] n (fun gg s3 s11 wr=>∃ j:Nat,j+gg=n∧s11=.int .i64 j∧Hid (GV w l j s3 wr))
 case atStart=>exact ⟨0,by omega,rfl,Lib.hid ⟨[],rfl,World.ownsRow_nil _ _ _ _,Below.refl _ _⟩⟩
 case round=>
  obtain ⟨j,hjg,rfl,HA⟩:=hrel
  by_cases hlt:(j:Int) < n
  ·have hj1:j < l.length:=by have:=HL.out;omega
   obtain ⟨d,hd,hown,hbel⟩:=HA.out
   obtain ⟨s,p,o,ls,lp,lo,is,ip,io,ra⟩:=zhb (zar.below _ HH.out hbel) j hj1
   obtain ⟨f0,f1,f2⟩:=zkx l j hj1
   obtain ⟨es,hes,hvs⟩:=is.plain (HP.out _ (List.mem_of_getElem? f0)).1
   obtain ⟨ep,hep,hvp⟩:=ip.plain (HP.out _ (List.mem_of_getElem? f1)).1
   obtain ⟨eo,heo,hvo⟩:=io.plain (HP.out _ (List.mem_of_getElem? f2)).1
   have hdl:d.length=3*j:=GVlen hd (by omega)
   have HX:=Lib.hid (And.intro hd (And.intro hown (And.intro hbel (And.intro hvs (And.intro hvp hvo)))))
   have HE:=Lib.hid (And.intro hes (And.intro hep heo))
   clear hd hown hbel is ip io f0 f1 f2 hvs hvp hvo hes hep heo HA
   go_upto_region 5 with (first
    |((with_reducible refine zbk (.tmp 13) g (off+j*18) s p o ra ?_ ?_ ?_ ?_);rfl;rfl;rfl)
    |((with_reducible refine zdj (.tmp 5) (.tmp 14) wr.heap.size s p o (zah _ _ rfl) rfl ?_ ?_ ?_ ?_ ?_);rfl;rfl;rfl;rfl;intro wX hoX B))
   have bX:Below wr.heap.size wr wX:=zag (za0 wr _) hoX (Nat.le_refl _) (by simp)
   have hownX:=zbf HX.out.2.1 bX
   have hbs:=HX.out.2.2.1.size
   have hfs:=bX.size
   have HBX:=Lib.hid bX
   clear hoX ra bX
   go_wp2_with (first
    |((with_reducible refine zal (.tmp 16) wr.heap.size 0 s B.r0 ?_ ?_ ?_ ?_);rfl;rfl;rfl)
    |((with_reducible refine zal (.tmp 18) wr.heap.size 6 p B.r1 ?_ ?_ ?_ ?_);rfl;rfl;rfl)
    |((with_reducible refine zal (.tmp 20) wr.heap.size 12 o B.r2 ?_ ?_ ?_ ?_);rfl;rfl;rfl)
    |(at_builtin;refine wpList_append_own_at _ rfl _ _ 37 rfl w.heap.size 39 i0 (.agg #[.int .i64 0,.bool false,.int .i64 0,.string ⟨#[]⟩,.string ⟨#[]⟩,.slice none 0 0]) 6 80 Tryz.underlying37 hi hz0 hz1 hz2 rfl (by decide) _ _ _ rfl (hownX.alloc _) ⟨wX.heap.size,0,none⟩ 3 3 [.int .i64 s.k,.bool s.b,.int .i64 s.n,.string s.t,.string s.x,.slice s.p s.len s.cap,.int .i64 p.k,.bool p.b,.int .i64 p.n,.string p.t,.string p.x,.slice p.p p.len p.cap,.int .i64 o.k,.bool o.b,.int .i64 o.n,.string o.t,.string o.x,.slice o.p o.len o.cap] rfl rfl (zfk _ _ _ _ _) ?_ ?_ ?_ ?_ ?_))
   all_goals (try (first |(rw [hdl];unfold maxLen;omega) |(rw [hdl];omega) |(simp;omega) |(intro u hu;simp only [List.mem_cons,List.mem_nil_iff,or_false] at hu;rcases hu with rfl | rfl | rfl | rfl | rfl | rfl | rfl | rfl | rfl | rfl | rfl | rfl | rfl | rfl | rfl | rfl | rfl | rfl <;> rfl)))
   intro v' w1 hown' hgrow _ hloc
   have acc:GV w l (j+1) v' w1:=by
    obtain ⟨hd,hown,hbel,hvs,hvp,hvo⟩:=HX.out
    obtain ⟨hes,hep,heo⟩:=HE.out
    refine ⟨d++[es,ep,eo],?_,?_,?_⟩
    ·rw [List.take_succ_eq_append_getElem hj1,List.map_append,hd]
     unfold flat
     rw [List.flatMap_append]
     congr 1
     simp [Tri3.l,hvs,hvp,hvo]
    ·rw [List.length_append,List.flatMap_append,hdl]
     have e:[es,ep,eo].flatMap VE.enc=[.int .i64 s.k,.bool s.b,.int .i64 s.n,.string s.t,.string s.x,.slice s.p s.len s.cap,.int .i64 p.k,.bool p.b,.int .i64 p.n,.string p.t,.string p.x,.slice p.p p.len p.cap,.int .i64 o.k,.bool o.b,.int .i64 o.n,.string o.t,.string o.x,.slice o.p o.len o.cap]:=by
      simp [VE.enc,hes,hep,heo]
     rw [e]
     exact hown'
    ·exact ((hbel.trans (HBX.out.mono hbs)).alloc (by omega) _).grown hgrow (by simp;omega) (fun g hg=>(hown.lt g hg).1)
   have ACC:=Lib.hid acc
   clear acc hown' hgrow hloc hownX HX HE HBX
   go_wp2_with fail
   go_roundg (gk - 1)
   case measure=>omega
   case rel=>exact ⟨j+1,by omega,by go_num,ACC⟩
  ·obtain ⟨d,hd,hown,hbel⟩:=HA.out
   have hjn:j=l.length:=by have:=HL.out;omega
   have hdl:d.length=3*j:=GVlen hd (by omega)
   rw [hjn,List.take_length] at hd
   obtain ⟨gv,cv,rfl,hgv,hgv2,hcap⟩:=zih hown (by have:=HL.out;omega)
   have hH:=zhe VE.len6 d hown
   have hs1:d.toArray.size=d.length:=List.size_toArray ..
   have hsort:=zva w wr HG.out HT.out hbel gv 0 cv d.toArray hgv hgv2 hH (by rw [hs1];omega)
   rw [hs1] at hsort
   have HS:=Lib.hid hsort
   have HX:=Lib.hid (And.intro hd (And.intro hH hbel))
   have hdb:d.length≤300000:=by omega
   have HDL:Hid (d.length=3*l.length):=Lib.hid (by omega)
   have hs1:=Lib.hid hs1
   clear hsort hH hd hown hbel HA hdl
   go_upto_region 9 with (first
    |(go_at_call 73;(with_reducible refine HS.out.mono ?_);rintro e2 w2 ⟨rfl,d',nn,os,hperm,hsorted,hw2⟩;have HW2:=Lib.hid hw2;clear hw2))
   have hsz:d'.size=d.length:=(zcv hperm).1.trans hs1.out
   have hE:zcr VE.enc 6 w2 gv 0 d':=by rw [HW2.out];exact zcr.of_holds (holdsK_sortWorldK VE.enc 6 wr gv 0 nn d.toArray d' os hgv2 HX.out.2.1 (zcv hperm).1) VE.len6
   have hlt2:gv < w2.heap.size:=by rw [HW2.out];exact lt_sortWorldK VE.enc 6 wr gv 0 nn d' os hgv2
   have hon2:Only gv wr w2:=by rw [HW2.out];exact zky VE.enc 6 wr gv 0 nn d' os
   have hcomp:=zw6 gv 0 cv d' w2 hE hlt2 (by omega) (by omega)
   rw [hsz] at hcomp
   have HC:=Lib.hid hcomp
   have HY:=Lib.hid (And.intro hperm (And.intro hsorted (And.intro hsz hon2)))
   clear hcomp hperm hsorted hsz hon2 hE
   go_wp2_with (go_at_call 75;(with_reducible refine HC.out.mono ?_);rintro e3 w3 ⟨dk,rfl,hdk,hEk,hon3⟩)
   have hb3:Below w.heap.size w w3:=zag HX.out.2.2 (HY.out.2.2.2.trans hon3) hgv HX.out.2.2.size
   obtain ⟨hR,hM⟩:Rise (dk.toList.map VE.val)∧∀ u,u∈dk.toList.map VE.val↔u∈flat l:=by
    obtain ⟨hperm,hsorted,hsz,_⟩:=HY.out
    rw [hdk,← hsz]
    have q:=fun dv:DecidableEq Val=>zo1 (dv:=dv) hperm hsorted (by
     intro u hu
     rw [List.toList_toArray,HX.out.1] at hu
     exact (HP.out u hu).2)
    rw [List.toList_toArray,HX.out.1] at q
    exact q _
   have hpos:0 < dk.size:=by
    have hj1:0 < l.length:=by have:=HL.out;omega
    obtain ⟨f0,_⟩:=zkx l 0 hj1
    have:=(hM _).2 (List.mem_of_getElem? f0)
    obtain ⟨y,hy,_⟩:=List.mem_map.1 this
    have:=List.length_pos_of_mem hy
    simpa using this
   have hlen:dk.size≤d.length:=by
    have e:=congrArg List.length hdk
    rw [List.length_map] at e
    have q:=fun dv:DecidableEq Val=>zkz (dv:=dv) (zcd d') d.length
    have h2:dk.toList.length≤d.length:=by rw [e];exact q _
    simpa using h2
   have hgv3:gv < w3.heap.size:=Nat.lt_of_lt_of_le hlt2 hon3.size
   have HZ:=Lib.hid (And.intro hR (And.intro hM (And.intro hEk hb3)))
   clear hR hM hEk hb3 hdk hon3 HY HC HX HS
   go_loopg [6,30] dk.size (fun gg s6 s30 wq=>∃ j:Nat,j+gg=dk.size∧s30=.int .i64 j∧Hid (GW w3 dk j s6 wq))
   case atStart=>exact ⟨0,by omega,rfl,Lib.hid ⟨[],rfl,World.ownsRow_nil _ _ _ _,Below.refl _ _⟩⟩
   case round=>
    obtain ⟨j2,hjg2,rfl,HA2⟩:=hrel
    by_cases hlt3:(j2:Int) < dk.size
    ·have hj2:j2 < dk.size:=by omega
     obtain ⟨d2,hd2,hown2,hbel2⟩:=HA2.out
     have hl2:d2.length=j2:=by
      have:=congrArg List.length hd2
      rw [List.length_map,List.length_map,List.length_take] at this
      simp at this
      omega
     obtain ⟨ee,hee⟩:∃ x,x=dk[j2]!:=⟨_,rfl⟩
     have re:=zae (HZ.out.2.2.1 j2 hj2).1 (hbel2.mono (Nat.le_refl _))
     rw [← hee] at re
     obtain ⟨⟨k,b,m,t,x,p,len,cap2⟩,hl0,hf⟩:=ee
     rw [Nat.zero_add] at re
     simp only [VE.enc] at re
     have HCL:=Lib.hid (fun W=>ownAt k b m t x p len cap2 W hf.ht hf.hx)
     have HX2:=Lib.hid (And.intro hd2 (And.intro hown2 hbel2))
     have HEE:=Lib.hid hee
     clear hd2 hown2 hbel2 hee HA2
     go_upto_region 12 with (first
      |((with_reducible refine zal (.tmp 32) gv (j2*6) ⟨k,b,m,t,x,p,len,cap2⟩ re ?_ ?_ ?_ ?_);rfl;rfl;rfl)
      |((with_reducible refine zat (k':=k) (b':=b) (n':=m) (t':=t) (x':=x) (p':=p) (len':=len) (cap':=cap2) (.tmp 8) (.tmp 33) wr.heap.size (zaf _ rfl) ?_ ?_ ?_ ?_ ?_);rfl;rfl;rfl;rfl;intro wX hoX u5))
     have bX:Below wr.heap.size wr wX:=zag (za0 wr _) hoX (Nat.le_refl _) (by simp)
     have hownX:=zbf HX2.out.2.1 bX
     have hbs:=HX2.out.2.2.size
     have hfs:=bX.size
     have HBX:=Lib.hid bX
     clear hoX re bX
     go_wp2_with (first
      |((with_reducible refine zaa (.tmp 8) wr.heap.size u5 ?_ ?_ ?_ ?_);rfl;rfl;rfl)
      |(go_at_call 63;(with_reducible refine (HCL.out _).mono ?_);rintro e4 w4 ⟨rfl,hb4⟩
        have hown4:=zbf hownX hb4
        have hs4:=hb4.size
        have HB4:=Lib.hid hb4
        clear hb4)
      |(at_builtin;refine wpList_append_own_at _ rfl _ _ 37 rfl w3.heap.size 39 i0 (.agg #[.int .i64 0,.bool false,.int .i64 0,.string ⟨#[]⟩,.string ⟨#[]⟩,.slice none 0 0]) 6 80 Tryz.underlying37 hi hz0 hz1 hz2 rfl (by decide) _ _ _ rfl (hown4.alloc _) ⟨w4.heap.size,0,none⟩ 1 1 [.int .i64 k,.bool b,.int .i64 m,.string t,.string x,.slice none 0 0] rfl rfl (zdf _ _ _ _ _ _ _ _) ?_ ?_ ?_ ?_ ?_))
     all_goals (try (first |(rw [hl2];unfold maxLen;omega) |(rw [hl2];omega) |(simp;omega) |(intro u hu;simp only [List.mem_cons,List.mem_nil_iff,or_false] at hu;rcases hu with rfl | rfl | rfl | rfl | rfl | rfl <;> rfl)))
     intro v' w1 hown' hgrow _ hloc
     have acc:GW w3 dk (j2+1) v' w1:=by
      obtain ⟨hd2,hown2,hbel2⟩:=HX2.out
      refine ⟨d2++[⟨⟨k,b,m,t,x,none,0,0⟩,rfl,hf⟩],?_,?_,?_⟩
      ·rw [List.take_succ_eq_append_getElem (by simpa using hj2),List.map_append,List.map_append,hd2]
       congr 1
       rw [Array.getElem_toList,← getElem!_pos dk j2 hj2,← HEE.out]
       rfl
      ·rw [List.length_append,List.flatMap_append,hl2]
       exact hown'
      ·exact (((hbel2.trans (HBX.out.mono hbs)).trans (HB4.out.mono (by omega))).alloc (by omega) _).grown hgrow (by simp;omega) (fun g hg=>(hown2.lt g hg).1)
     have ACC:=Lib.hid acc
     clear acc hown' hgrow hloc hownX hown4 HX2 HEE HBX HB4
     go_wp2_with fail
     go_roundg (gk - 1)
     case measure=>omega
     case rel=>exact ⟨j2+1,by omega,by go_num,ACC⟩
    ·obtain ⟨d2,hd2,hown2,hbel2⟩:=HA2.out
     have hj2:j2=dk.toList.length:=by simp;omega
     rw [hj2,List.take_length] at hd2
     have hl2:d2.length=dk.size:=by
      have:=congrArg List.length hd2
      rw [List.length_map,List.length_map] at this
      simpa using this
     obtain ⟨g2,c2,rfl,hg2,_,hc2⟩:=zih hown2 (by omega)
     have hh:=zo4 d2 hown2
     obtain ⟨hR,hM,hEk,hb3⟩:=HZ.out
     have hfin:zyf w l (.returned (.slice (some ⟨g2,0,none⟩) d2.length c2)) wr:=
      ⟨d2.map VE.val,g2,c2,by rw [List.length_map],by rw [hd2];exact hR,by rw [hd2];exact hM,hh,Nat.le_trans hb3.size hg2,by rw [List.length_map];exact hc2,by rw [List.length_map];have:=HL.out;have:=HDL.out;omega,hb3.trans (hbel2.mono hb3.size)⟩
     have HF:=Lib.hid hfin
     clear hfin hR hM hEk hb3 hh hd2 hown2 hbel2 HA2 hl2
     go_wp2_with fail
     go_ret
     exact HF.out
section
theorem zxb (bx:Nat) (l:List Val) (g o cap m:Nat) (u:V6) (q:List Val) (w:World) (hG:Gd w) (hT:Tab w) (kb:w.cell? ⟨bx,0,none⟩=some (.slice (some ⟨g,o,none⟩) l.length cap)) (hl:zar w g o l) (hr:Rise l) (hm:m < l.length) (hn:l.length < 1073741824) (hu:Is w u l[m] q):
 Calls Tryz.prog 77 #[.agg #[.int .i64 u.k,.bool u.b,.int .i64 u.n,.string u.t,.string u.x,.slice u.p u.len u.cap],.pointer (some ⟨bx,0,none⟩)] w fun e w'=>e=.returned (.int .i64 m)∧Low w.heap.size w w':=by
 obtain ⟨W1,hW1⟩:∃ W1,W1=w.alloc (.cells #[.int .i64 u.k,.bool u.b,.int .i64 u.n,.string u.t,.string u.x,.slice u.p u.len u.cap] 39):=⟨_,rfl⟩
 have S1:Six W1 w.heap.size u.k u.b u.n u.t u.x u.p u.len u.cap:=by rw [hW1];exact zaf _ rfl
 have b0:Low w.heap.size w W1:=by rw [hW1];exact low1 _ _
 have kb1:W1.cell? ⟨bx,0,none⟩=some (.slice (some ⟨g,o,none⟩) l.length cap):=(b0.cell (p:=⟨bx,0,none⟩) (World.block_lt_of_cell? w _ kb)).trans kb
 have hc:=zw7 l g o cap m u q W1 (hG.below b0.is) (hT.below b0.is) (zar.below l hl b0.is) hr hm hn (hu.below b0.is)
 have HW:=Lib.hid hW1
 have HC:=Lib.hid hc
 clear hW1 hc kb hl hr hu hG hT
 go_enter Tryz.func77,Tryz.ntmps77
 go_upto_region 1 with fail
 rw [← HW.out]
 go_wp2_with (first
  |((with_reducible refine zaa (.tmp 2) w.heap.size S1 ?_ ?_ ?_ ?_);rfl;rfl;rfl)
  |(go_at_call 78;(with_reducible refine HC.out.mono ?_);rintro e w3 ⟨rfl,hb3⟩))
 go_ret
 exact ⟨rfl,zad b0 hb3 b0.size⟩
open Classical in
noncomputable def vidx (vs:List Val) (u:Val):Nat:=if h:∃ m,vs[m]?=some u then h.choose else 0
theorem zew {vs:List Val} {u:Val} (h:u∈vs):vs[vidx vs u]?=some u:=by
 have h2:∃ m,vs[m]?=some u:=List.mem_iff_getElem?.1 h
 unfold vidx
 rw [dif_pos h2]
 exact h2.choose_spec
theorem zp6 {vs:List Val} {u:Val} (h:u∈vs):vidx vs u < vs.length:=(List.getElem?_eq_some_iff.1 (zew h)).1
theorem zrh {vs:List Val} {u:Val} (h:u∈vs):vs[vidx vs u]'(zp6 h)=u:=(List.getElem?_eq_some_iff.1 (zew h)).2
noncomputable def rowOf (vs:List Val) (t:Tri3):VR:=⟨vidx vs t.s,vidx vs t.p,vidx vs t.o⟩
theorem info81b:(Tryz.prog.info? 81).map (fun i=>(i.zero,i.size,i.bytes))=some (some (.agg #[.int .i64 0,.int .i64 0,.int .i64 0]),3,24):=by kernel_rfl
theorem zna {a b:Int} (h:lexI a b=0):a=0∧b=0:=by
 unfold lexI at h
 by_cases e:a=0
 ·rw [if_pos e] at h
  exact ⟨e,h⟩
 ·rw [if_neg e] at h
  exact absurd h e
theorem zp7 {a b:Int} (h:cmpZ a b=0):a=b:=by
 unfold cmpZ at h
 by_cases e:a < b
 ·rw [if_pos e] at h
  omega
 ·rw [if_neg e] at h
  by_cases e2:b < a
  ·rw [if_pos e2] at h
   omega
  ·omega
theorem VR.zero {r s:VR} (h:VR.cf r s=0):r=s:=by
 unfold VR.cf rowI at h
 obtain ⟨h1,h2⟩:=zna h
 obtain ⟨h2,h3⟩:=zna h2
 obtain ⟨a,b,c⟩:=r
 obtain ⟨x,y,z⟩:=s
 rw [show a=x from zp7 h1,show b=y from zp7 h2,show c=z from zp7 h3]
theorem znb {d d':Array VR} (hp:Go.Sort.PermIn 0 d.size d d') (hs:Go.Sort.SortedIn (Go.Proofs.ltOf VR.cf) 0 d.size d'):
 (Go.Lib.compactUpTo d' d'.size).Pairwise (fun a b=>VR.cf a b < 0)∧∀ u,u∈Go.Lib.compactUpTo d' d'.size↔u∈d.toList:=by
 obtain ⟨hz,hq⟩:=zcv hp
 have hle:∀ i j,i < j→j < d'.size→VR.cf d'[i]! d'[j]!≤0:=fun i j hij hj=>by
  have q:¬ VR.cf d'[j]! d'[i]! < 0:=of_decide_eq_false (hs i j (Nat.zero_le _) hij (by omega))
  have e:VR.cf d'[j]! d'[i]! =-VR.cf d'[i]! d'[j]!:=zde _ _ _ _ _ _
  omega
 constructor
 ·refine zh5 _ _ _ fun i j hij hj hne=>?_
  have hstep:VR.cf d'[j - 1]! d'[j]! < 0:=by
   have q:=hle (j - 1) j (by omega) hj
   by_cases z:VR.cf d'[j - 1]! d'[j]! =0
   ·exact absurd (VR.zero z).symm hne
   ·omega
  by_cases e:i=j - 1
  ·subst e;exact hstep
  ·exact (zm6 _ _ _).tl (hle i (j - 1) (by omega) (by omega)) hstep
 ·intro u
  constructor
  ·intro hu
   obtain ⟨j,hj,rfl⟩:=zme _ _ _ hu
   rw [← hq.mem_iff,getElem!_pos d' j hj]
   exact Array.getElem_mem_toList hj
  ·intro hu
   have he2:u∈d'.toList:=hq.mem_iff.2 hu
   obtain ⟨j,hj,rfl⟩:=List.getElem_of_mem he2
   have hj':j < d'.size:=by simpa using hj
   have:=zfj d' d'.size j hj'
   rwa [getElem!_pos d' j hj',← Array.getElem_toList] at this
def GR (W0:World) (vs:List Val) (l:List Tri3) (j:Nat) (V:Value) (wr:World):Prop:=wr.ownsRow W0.heap.size 81 3 V ((l.take j).map (rowOf vs)).length (((l.take j).map (rowOf vs)).flatMap VR.enc)∧Below W0.heap.size W0 wr
def zyg (w:World) (vs:List Val) (l:List Tri3) (e:Ending) (w':World):Prop:=∃ (rs:List VR) (g cap:Nat),e=.returned (.slice (some ⟨g,0,none⟩) rs.length cap)∧rs.Pairwise (fun a b=>VR.cf a b < 0)∧(∀ r,r∈rs↔∃ t∈l,rowOf vs t=r)∧(∀ (j:Nat) (h:j < rs.length),w'.rangeAt g (j*3) rs[j].enc)∧w.heap.size≤g∧rs.length≤cap∧rs.length≤l.length∧Below w.heap.size w w'
theorem zlf (l:List Tri3) (vs:List Val) (g off cap gv cv:Nat) (w:World) (hG:Gd w) (hT:Tab w) (hl:zar w g off (flat l)) (hn:l.length≤100000) (h0:0 < l.length) (hvs:zar w gv 0 vs) (hr:Rise vs) (hv:∀ u∈flat l,u∈vs) (hvn:vs.length < 1073741824):
 Calls Tryz.prog 41 #[.slice (some ⟨gv,0,none⟩) vs.length cv,.slice (some ⟨g,off,none⟩) l.length cap] w (zyg w vs l):=by
 obtain ⟨W0,hW0⟩:∃ W0,W0=w.alloc (.cells #[.slice (some ⟨gv,0,none⟩) vs.length cv] 37):=⟨_,rfl⟩
 have b0:Below w.heap.size w W0:=by rw [hW0];exact za0 _ _
 have kb:W0.cell? ⟨w.heap.size,0,none⟩=some (.slice (some ⟨gv,0,none⟩) vs.length cv):=by rw [hW0];exact zab (zah _ _ rfl) 0 rfl
 have s0:w.heap.size≤W0.heap.size:=b0.size
 obtain ⟨n,hln⟩:∃ n,n=l.length:=⟨_,rfl⟩
 rw [← hln] at hn h0 ⊢
 obtain ⟨i0,hi,hz0,hz1,hz2⟩:=info_parts info81b
 have HL:=Lib.hid hln
 have HH:=Lib.hid (zar.below _ hl b0)
 have HVS:=Lib.hid (zar.below _ hvs b0)
 have HR:=Lib.hid hr
 have HV:=Lib.hid hv
 have HG:=Lib.hid (hG.below b0)
 have HT:=Lib.hid (hT.below b0)
 have HKB:=Lib.hid kb
 have HW:=Lib.hid hW0
 have HB0:=Lib.hid b0
 clear hl hln hvs hr hv hG hT kb hW0 b0
 go_enter Tryz.func41,Tryz.ntmps41
 go_wp2_with fail
 rw [← HW.out]
 go_loopg [6,12] n (fun gg s6 s12 wr=>∃ (j:Nat) (V:Value),V=s6∧j+gg=n∧s12=.int .i64 j∧Hid (GR W0 vs l j V wr))
 case atStart=>exact ⟨0,_,rfl,by omega,rfl,Lib.hid ⟨World.ownsRow_nil _ _ _ _,Below.refl _ _⟩⟩
 case round=>
  obtain ⟨j,V,rfl,hjg,rfl,HA⟩:=hrel
  by_cases hlt:(j:Int) < n
  ·have hj1:j < l.length:=by have:=HL.out;omega
   obtain ⟨hown,hbel⟩:=HA.out
   obtain ⟨s,p,o,ls,lp,lo,is,ip,io,ra⟩:=zhb (zar.below _ HH.out hbel) j hj1
   obtain ⟨f0,f1,f2⟩:=zkx l j hj1
   obtain ⟨d,hd⟩:∃ d,d=(l.take j).map (rowOf vs):=⟨_,rfl⟩
   rw [← hd] at hown
   have hdl:d.length=j:=by rw [hd,List.length_map,List.length_take];omega
   have hbs:=hbel.size
   have num:∀ (u:Val) (v:V6) (q:List Val),Is wr v u q→u∈flat l→∀ W,Below wr.heap.size wr W→Calls Tryz.prog 77 #[.agg #[.int .i64 v.k,.bool v.b,.int .i64 v.n,.string v.t,.string v.x,.slice v.p v.len v.cap],.pointer (some ⟨w.heap.size,0,none⟩)] W fun e w'=>e=.returned (.int .i64 (vidx vs u:Nat))∧Low W.heap.size W w':=fun u v q hi hu W hb=>by
    have hw:=hbel.trans (hb.mono hbs)
    refine zxb w.heap.size vs gv 0 cv (vidx vs u) v q W (HG.out.below hw) (HT.out.below hw) ((hw.cell (p:=⟨w.heap.size,0,none⟩) (World.block_lt_of_cell? W0 _ HKB.out)).trans HKB.out) (zar.below _ HVS.out hw) HR.out (zp6 (HV.out u hu)) hvn ?_
    rw [zrh (HV.out u hu)]
    exact hi.below hb
   have n0:=num _ s ls is (List.mem_of_getElem? f0)
   have n1:=num _ p lp ip (List.mem_of_getElem? f1)
   have n2:=num _ o lo io (List.mem_of_getElem? f2)
   have hrow:rowOf vs l[j]=⟨(vidx vs l[j].s:Nat),(vidx vs l[j].p:Nat),(vidx vs l[j].o:Nat)⟩:=rfl
   generalize ((vidx vs l[j].s:Nat):Int)=x at n0 hrow
   generalize ((vidx vs l[j].p:Nat):Int)=y at n1 hrow
   generalize ((vidx vs l[j].o:Nat):Int)=z at n2 hrow
   have HX:=Lib.hid (And.intro hown hbel)
   have HN0:=Lib.hid n0
   have HN1:=Lib.hid n1
   have HN2:=Lib.hid n2
   have HD:=Lib.hid hd
   have HROW:=Lib.hid hrow
   clear num n0 n1 n2 hown hbel is ip io f0 f1 f2 HA hd hrow
   go_upto_region 6 with (first
    |((with_reducible refine zbk (.tmp 14) g (off+j*18) s p o ra ?_ ?_ ?_ ?_);rfl;rfl;rfl)
    |((with_reducible refine zdj (.tmp 8) (.tmp 15) wr.heap.size s p o (zah _ _ rfl) rfl ?_ ?_ ?_ ?_ ?_);rfl;rfl;rfl;rfl;intro wX hoX B))
   have bX:Below wr.heap.size wr wX:=zag (za0 wr _) hoX (Nat.le_refl _) (by simp)
   have hfs:=bX.size
   have HBX:=Lib.hid bX
   have HC0:Hid (∀ W,Low wX.heap.size wX W→_):=Lib.hid fun W (h:Low wX.heap.size wX W)=>HN0.out W (HBX.out.trans (h.is.mono hfs))
   have HC1:Hid (∀ W,Low wX.heap.size wX W→_):=Lib.hid fun W (h:Low wX.heap.size wX W)=>HN1.out W (HBX.out.trans (h.is.mono hfs))
   have HC2:Hid (∀ W,Low wX.heap.size wX W→_):=Lib.hid fun W (h:Low wX.heap.size wX W)=>HN2.out W (HBX.out.trans (h.is.mono hfs))
   clear hoX ra bX HN0 HN1 HN2
   refine wp_region_held_drew (S:=fun W=>za4 W wr.heap.size s p o) (by kernel_rfl) B (fun hHeld=>?_)
   have L0:Low wX.heap.size wX wX.drew:=(Low.refl _ _).drew
   refine tg (i:=0) V rfl hHeld ?_
   refine tg (i:=1) (.func (.func 77) #[] #[.pointer (some ⟨w.heap.size,0,none⟩)]) rfl hHeld ?_
   refine tg (i:=2) (.pointer (some ⟨wr.heap.size,0,none⟩)) rfl hHeld ?_
   refine tk (i:=3) rfl (yieldsIf_load_mid (by rfl) 39 (.tmp 18) rfl wr.heap.size 0 rfl [.int .i64 s.k,.bool s.b,.int .i64 s.n,.string s.t,.string s.x,.slice s.p s.len s.cap] _ (fun w h=>(h:za4 w wr.heap.size s p o).r0) Tryz.underlying39 rfl zas) hHeld ?_
   refine tg (i:=5) (.func (.func 77) #[] #[.pointer (some ⟨w.heap.size,0,none⟩)]) rfl hHeld ?_
   refine tg (i:=6) (.pointer (some ⟨wr.heap.size,6,none⟩)) rfl hHeld ?_
   refine tk (i:=7) rfl (yieldsIf_load_mid (by rfl) 39 (.tmp 22) rfl wr.heap.size 6 rfl [.int .i64 p.k,.bool p.b,.int .i64 p.n,.string p.t,.string p.x,.slice p.p p.len p.cap] _ (fun w h=>(h:za4 w wr.heap.size s p o).r1) Tryz.underlying39 rfl zas) hHeld ?_
   refine tg (i:=9) (.func (.func 77) #[] #[.pointer (some ⟨w.heap.size,0,none⟩)]) rfl hHeld ?_
   refine tg (i:=10) (.pointer (some ⟨wr.heap.size,12,none⟩)) rfl hHeld ?_
   refine tk (i:=11) rfl (yieldsIf_load_mid (by rfl) 39 (.tmp 26) rfl wr.heap.size 12 rfl [.int .i64 o.k,.bool o.b,.int .i64 o.n,.string o.t,.string o.x,.slice o.p o.len o.cap] _ (fun w h=>(h:za4 w wr.heap.size s p o).r2) Tryz.underlying39 rfl zas) hHeld ?_
   refine tr 4 rfl (fun K hK=>?_)
   rw [if_pos (by rfl)]
   go_simp
   refine (HC0.out _ L0).mono ?_
   rintro e0 w3 ⟨rfl,hb3⟩
   have L1:=zad L0 hb3 L0.size
   have hHeld1:=za4.below hHeld hb3.is
   clear hb3 hHeld
   refine hK.out _ _ hHeld1 (fun hHeld1=>?_)
   clear hK K
   try simp only [putS]
   refine tr 8 rfl (fun K hK=>?_)
   rw [if_pos (by rfl)]
   go_simp
   refine (HC1.out _ L1).mono ?_
   rintro e0 w3 ⟨rfl,hb3⟩
   have L2:=zad L1 hb3 L1.size
   have hHeld2:=za4.below hHeld1 hb3.is
   clear hb3 hHeld1
   refine hK.out _ _ hHeld2 (fun hHeld2=>?_)
   clear hK K
   try simp only [putS]
   refine tr 12 rfl (fun K hK=>?_)
   rw [if_pos (by rfl)]
   go_simp
   refine (HC2.out _ L2).mono ?_
   rintro e0 w3 ⟨rfl,hb3⟩
   have L3:=zad L2 hb3 L2.size
   have hHeld3:=za4.below hHeld2 hb3.is
   clear hb3 hHeld2
   refine hK.out _ _ hHeld3 (fun hHeld3=>?_)
   clear hK K
   try simp only [putS]
   refine tg (i:=13) (.agg #[.int .i64 x,.int .i64 y,.int .i64 z]) rfl hHeld3 ?_
   refine tr 14 rfl (fun K hK=>?_)
   (try rw [if_pos (by rfl)])
   go_simp
   have hownX:=(zbf (zbf HX.out.1 HBX.out) (L3.is.mono (Nat.le_refl _))).alloc (.cells #[.int .i64 x,.int .i64 y,.int .i64 z] 81)
   have hge:=L3.size
   refine hK.out _ _ (hHeld3.alloc _) (fun _=>?_)
   clear hK K
   try simp only [putS]
   refine tr 15 rfl (fun K hK=>?_)
   refine step_append_lies _ (by rfl) _ _ _ (by rfl) W0.heap.size 81 i0 _ 3 24 Tryz.underlying71 hi hz0 hz1 hz2 rfl (by omega) V d.length (d.flatMap VR.enc) (by rfl) hownX ⟨w3.heap.size,0,none⟩ 1 1 [.int .i64 x,.int .i64 y,.int .i64 z] (by rfl) (by rfl) (World.news_of_block (cs:=#[.int .i64 x,.int .i64 y,.int .i64 z]) (t:=81) (fr:=(0,0)) (by exact zah w3 _ rfl)) (by simp [Value.oneCell']) (by omega) (by rw [hdl];unfold maxLen;omega) (by rw [hdl];omega) (by simp;omega) (w3.heap.size+1) (by simp) ?_
   intro gg cap' w5 hr hg3 hat hlt5
   have hB5:za4 w5 wr.heap.size s p o:=(hg3.block wr.heap.size (by simp;have:=hHeld3.lt;omega) (fun q=>by have:=(HX.out.1.lt _ q.symm).2;omega)).trans (hHeld3.alloc _)
   refine hK.out _ _ hB5 (fun _=>?_)
   clear hK K
   try simp only [putS]
   refine tg (i:=16) (.slice (some ⟨gg,0,none⟩) (d.length+1) cap') rfl hB5 ?_
   refine wpAnyH_done (by kernel_rfl) ?_ _
   have acc:GR W0 vs l (j+1) (.slice (some ⟨gg,0,none⟩) (d.length+1) cap') w5:=by
    obtain ⟨hown,hbel⟩:=HX.out
    refine ⟨?_,?_⟩
    ·rw [List.take_succ_eq_append_getElem hj1,List.map_append,List.length_append,List.flatMap_append,← HD.out]
     have e:[l[j]].map (rowOf vs)=[⟨x,y,z⟩]:=by rw [List.map_singleton,HROW.out]
     rw [e]
     exact hr
    ·exact (((hbel.trans (HBX.out.mono hbs)).trans (L3.is.mono (Nat.le_trans hbs hfs))).alloc (by omega) _).grown hg3 (by simp;omega) (fun g hg=>(hown.lt g hg).1)
   have ACC:=Lib.hid acc
   clear acc hr hg3 hat hownX HX HBX HC0 HC1 HC2 hB5 L0 L1 L2 L3 hHeld3 B HD HROW
   go_wp2_with fail
   go_roundg (gk - 1)
   case measure=>omega
   case rel=>exact ⟨j+1,_,rfl,by omega,by go_num,ACC⟩
  ·obtain ⟨hown,hbel⟩:=HA.out
   have hjn:j=l.length:=by have:=HL.out;omega
   rw [hjn,List.take_length] at hown
   obtain ⟨d,hd⟩:∃ d,d=l.map (rowOf vs):=⟨_,rfl⟩
   rw [← hd] at hown
   have hdl:d.length=l.length:=by rw [hd,List.length_map]
   obtain ⟨gr,cr,rfl,hgr,hgr2,hcap⟩:=zih hown (by have:=HL.out;omega)
   have hH:=zhe VR.len3 d hown
   have hs1:d.toArray.size=d.length:=List.size_toArray ..
   have hsort:=zw5 wr gr 0 cr d.toArray hgr2 hH (by rw [hs1];omega)
   rw [hs1] at hsort
   have HS:=Lib.hid hsort
   have HX:=Lib.hid (And.intro hd (And.intro hH hbel))
   have hdb:d.length≤100000:=by omega
   have HDL:Hid (d.length=l.length):=Lib.hid (by omega)
   have hs1:=Lib.hid hs1
   clear hsort hH hd hown hbel HA hdl
   go_upto_region 9 with (first
    |(go_at_call 79;(with_reducible refine HS.out.mono ?_);rintro e2 w2 ⟨rfl,d',nn,os,hperm,hsorted,hw2⟩;have HW2:=Lib.hid hw2;clear hw2))
   have hsz:d'.size=d.length:=(zcv hperm).1.trans hs1.out
   have hE:zcr VR.enc 3 w2 gr 0 d':=by rw [HW2.out];exact zcr.of_holds (holdsK_sortWorldK VR.enc 3 wr gr 0 nn d.toArray d' os hgr2 HX.out.2.1 (zcv hperm).1) VR.len3
   have hlt2:gr < w2.heap.size:=by rw [HW2.out];exact lt_sortWorldK VR.enc 3 wr gr 0 nn d' os hgr2
   have hon2:Only gr wr w2:=by rw [HW2.out];exact zky VR.enc 3 wr gr 0 nn d' os
   have hcomp:=zxa gr 0 cr d' w2 hE hlt2 (by omega) (by omega)
   rw [hsz] at hcomp
   have HC:=Lib.hid hcomp
   have HY:=Lib.hid (And.intro hperm (And.intro hsorted (And.intro hsz hon2)))
   clear hcomp hperm hsorted hsz hon2 hE
   go_wp2_with (go_at_call 82;(with_reducible refine HC.out.mono ?_);rintro e3 w3 ⟨dk,rfl,hdk,hEk,hon3⟩)
   have hfin:zyg w vs l (.returned (.slice (some ⟨gr,0,none⟩) dk.size cr)) w3:=by
    obtain ⟨hd,hH,hbel⟩:=HX.out
    obtain ⟨hperm,hsorted,hsz,hon2⟩:=HY.out
    have q:=znb hperm hsorted
    rw [hsz,← hdk,List.toList_toArray] at q
    have hlen:=zkz (dv:=inferInstance) d' d.length
    rw [← hdk] at hlen
    have hb3:Below W0.heap.size W0 w3:=zag hbel (hon2.trans hon3) hgr hbel.size
    refine ⟨dk.toList,gr,cr,by simp,q.1,fun r=>?_,fun j h=>?_,Nat.le_trans s0 hgr,by omega,by have:=HDL.out;omega,HB0.out.trans (hb3.mono s0)⟩
    ·rw [q.2,hd,List.mem_map]
    ·have:=(hEk j (by simpa using h)).1
     rw [Nat.zero_add,getElem!_pos dk j (by simpa using h),← Array.getElem_toList] at this
     exact this
   have HF:=Lib.hid hfin
   clear hfin hdk hEk hon3 HY HC HX HS
   go_wp2_with fail
   go_ret
   exact HF.out
end
theorem zmg {ops:Array Oper} {rest:List Oper} {o:Oper} {a:Act} {w:World} {Q:Exit→Act→World→Prop} (x:Operand) (g off:Nat) (u v z:Int) (h6:w.rangeAt g off [.int .i64 u,.int .i64 v,.int .i64 z])
 (hgd:o.guard=none) (ho:o.op=.load 78 x) (hx:a.eval x=.pointer (some ⟨g,off,none⟩))
 (h:wpList Tryz.prog ops Q rest (a.put o.dst (.agg #[.int .i64 u,.int .i64 v,.int .i64 z])) w):wpList Tryz.prog ops Q (o::rest) a w:=
 wpList_load_mid hgd 78 x ho g off hx [.int .i64 u,.int .i64 v,.int .i64 z] _ h6 Tryz.underlying78 rfl zs9 h
theorem zk1 {ops:Array Oper} {rest:List Oper} {o:Oper} {a:Act} {w:World} {Q:Exit→Act→World→Prop} {p q r:Value} (u v k:Int) (y z:Operand) (g:Nat) (hg:w.heap[g]?=some (.cells #[p,q,r] 78))
 (hgd:o.guard=none) (ho:o.op=.store 78 y z) (hx:a.eval y=.pointer (some ⟨g,0,none⟩)) (hy:a.eval z=.agg #[.int .i64 u,.int .i64 v,.int .i64 k])
 (h:wpList Tryz.prog ops Q rest (a.put o.dst undef) (w.setRow g #[.int .i64 u,.int .i64 v,.int .i64 k])):wpList Tryz.prog ops Q (o::rest) a w:=
 wpList_store_row hgd 78 y z ho g #[.int .i64 u,.int .i64 v,.int .i64 k] hx hy 78 _ hg zs9 rfl (by simp [Value.oneCell']) h
theorem zyh {w:World} {g o:Nat} {u v z:Value} (h0:w.cell? ⟨g,o,none⟩=some u) (h1:w.cell? ⟨g,o+1,none⟩=some v) (h2:w.cell? ⟨g,o+2,none⟩=some z):w.rangeAt g o [u,v,z]:=by
 intro i x hx
 match i,hx with
 | 0,e=>obtain rfl:=Option.some.inj e;exact h0
 | 1,e=>obtain rfl:=Option.some.inj e;exact h1
 | 2,e=>obtain rfl:=Option.some.inj e;exact h2
 | i+3,e=>simp at e
theorem zdr (k:Nat) (u v z:Int) (w:World) (hk:k < 6) (hu:(#[.int .i64 0,.int .i64 1,.int .i64 2,.int .i64 0,.int .i64 2,.int .i64 1,.int .i64 1,.int .i64 0,.int .i64 2,.int .i64 1,.int .i64 2,.int .i64 0,.int .i64 2,.int .i64 0,.int .i64 1,.int .i64 2,.int .i64 1,.int .i64 0]:Array Value)[k*3]?=some (.int .i64 u)) (hv:(#[.int .i64 0,.int .i64 1,.int .i64 2,.int .i64 0,.int .i64 2,.int .i64 1,.int .i64 1,.int .i64 0,.int .i64 2,.int .i64 1,.int .i64 2,.int .i64 0,.int .i64 2,.int .i64 0,.int .i64 1,.int .i64 2,.int .i64 1,.int .i64 0]:Array Value)[k*3+1]?=some (.int .i64 v)) (hz:(#[.int .i64 0,.int .i64 1,.int .i64 2,.int .i64 0,.int .i64 2,.int .i64 1,.int .i64 1,.int .i64 0,.int .i64 2,.int .i64 1,.int .i64 2,.int .i64 0,.int .i64 2,.int .i64 0,.int .i64 1,.int .i64 2,.int .i64 1,.int .i64 0]:Array Value)[k*3+2]?=some (.int .i64 z)):
 Calls Tryz.prog 43 #[.int .i64 k] w fun e w'=>e=.returned (.agg #[.int .i64 u,.int .i64 v,.int .i64 z])∧Low w.heap.size w w':=by
 obtain ⟨W1,hW1⟩:∃ W1,W1=(w.alloc (.cells #[.int .i64 0,.int .i64 0,.int .i64 0] 78)).alloc (.cells #[.int .i64 0,.int .i64 1,.int .i64 2,.int .i64 0,.int .i64 2,.int .i64 1,.int .i64 1,.int .i64 0,.int .i64 2,.int .i64 1,.int .i64 2,.int .i64 0,.int .i64 2,.int .i64 0,.int .i64 1,.int .i64 2,.int .i64 1,.int .i64 0] 121):=⟨_,rfl⟩
 have B:W1.heap[w.heap.size]?=some (.cells #[.int .i64 0,.int .i64 0,.int .i64 0] 78):=by rw [hW1];exact zaw _ (zah _ _ rfl)
 have B2:W1.heap[w.heap.size+1]?=some (.cells #[.int .i64 0,.int .i64 1,.int .i64 2,.int .i64 0,.int .i64 2,.int .i64 1,.int .i64 1,.int .i64 0,.int .i64 2,.int .i64 1,.int .i64 2,.int .i64 0,.int .i64 2,.int .i64 0,.int .i64 1,.int .i64 2,.int .i64 1,.int .i64 0] 121):=by rw [hW1];exact zah _ _ (by simp)
 have b0:Low w.heap.size w W1:=by rw [hW1];exact low2 _ _ _
 have R:W1.rangeAt (w.heap.size+1) (k*3) [.int .i64 u,.int .i64 v,.int .i64 z]:=zyh (zab B2 (k*3) hu) (zab B2 (k*3+1) hv) (zab B2 (k*3+2) hz)
 have hki:(k:Int) < 6:=by omega
 have HW:=Lib.hid hW1
 clear hW1 hu hv hz B2
 go_enter Tryz.func43,Tryz.ntmps43
 go_upto_region 2 with fail
 rw [← HW.out]
 generalize Value.agg #[.int .i64 0,.int .i64 1,.int .i64 2,.int .i64 0,.int .i64 2,.int .i64 1,.int .i64 1,.int .i64 0,.int .i64 2,.int .i64 1,.int .i64 2,.int .i64 0,.int .i64 2,.int .i64 0,.int .i64 1,.int .i64 2,.int .i64 1,.int .i64 0]=z10
 generalize Value.agg #[.int .i64 0,.int .i64 1,.int .i64 2]=z4
 generalize Value.agg #[.int .i64 0,.int .i64 2,.int .i64 1]=z5
 generalize Value.agg #[.int .i64 1,.int .i64 0,.int .i64 2]=z6
 generalize Value.agg #[.int .i64 1,.int .i64 2,.int .i64 0]=z7
 go_wp2_with (first
  |((with_reducible refine zmg (.tmp 12) (w.heap.size+1) (k*3) u v z R ?_ ?_ ?_ ?_);rfl;rfl;rfl)
  |((with_reducible refine zk1 u v z (.tmp 2) (.tmp 13) w.heap.size B ?_ ?_ ?_ ?_ ?_);rfl;rfl;rfl;rfl))
 have b2:=zbn b0 (Only.setRow (b:=w.heap.size) W1 #[.int .i64 u,.int .i64 v,.int .i64 z]) (Nat.le_refl _) b0.size
 have u5:=za6 (w:=W1) (g:=w.heap.size) (c':=#[.int .i64 u,.int .i64 v,.int .i64 z]) B
 exact bodyPost_ret (v:=.agg #[.int .i64 u,.int .i64 v,.int .i64 z]) (results_cell_row (p:=2) (ty:=78) Tryz.results43 _ _ w.heap.size 78 _ (0,0) _ rfl u5 Tryz.underlying78 rfl (by exact zs9)) rfl ⟨rfl,b2⟩
theorem named0 (w:World):Calls Tryz.prog 53 #[.string ⟨#[115,112,111]⟩] w fun e w'=>e=.returned (.tuple #[.int .i64 0,.bool true])∧Low w.heap.size w w':=by
 go_enter Tryz.func53,Tryz.ntmps53
 go_wp2_with fail
 exact bodyPost_ret (results_tmp2 Tryz.results53 _ _ _) rfl ⟨rfl,Low.refl _ _⟩
theorem named1 (w:World):Calls Tryz.prog 53 #[.string ⟨#[115,111,112]⟩] w fun e w'=>e=.returned (.tuple #[.int .i64 1,.bool true])∧Low w.heap.size w w':=by
 go_enter Tryz.func53,Tryz.ntmps53
 go_wp2_with fail
 exact bodyPost_ret (results_tmp2 Tryz.results53 _ _ _) rfl ⟨rfl,Low.refl _ _⟩
theorem named2 (w:World):Calls Tryz.prog 53 #[.string ⟨#[112,115,111]⟩] w fun e w'=>e=.returned (.tuple #[.int .i64 2,.bool true])∧Low w.heap.size w w':=by
 go_enter Tryz.func53,Tryz.ntmps53
 go_wp2_with fail
 exact bodyPost_ret (results_tmp2 Tryz.results53 _ _ _) rfl ⟨rfl,Low.refl _ _⟩
theorem named3 (w:World):Calls Tryz.prog 53 #[.string ⟨#[112,111,115]⟩] w fun e w'=>e=.returned (.tuple #[.int .i64 3,.bool true])∧Low w.heap.size w w':=by
 go_enter Tryz.func53,Tryz.ntmps53
 go_wp2_with fail
 exact bodyPost_ret (results_tmp2 Tryz.results53 _ _ _) rfl ⟨rfl,Low.refl _ _⟩
theorem named4 (w:World):Calls Tryz.prog 53 #[.string ⟨#[111,115,112]⟩] w fun e w'=>e=.returned (.tuple #[.int .i64 4,.bool true])∧Low w.heap.size w w':=by
 go_enter Tryz.func53,Tryz.ntmps53
 go_wp2_with fail
 exact bodyPost_ret (results_tmp2 Tryz.results53 _ _ _) rfl ⟨rfl,Low.refl _ _⟩
theorem named5 (w:World):Calls Tryz.prog 53 #[.string ⟨#[111,112,115]⟩] w fun e w'=>e=.returned (.tuple #[.int .i64 5,.bool true])∧Low w.heap.size w w':=by
 go_enter Tryz.func53,Tryz.ntmps53
 go_wp2_with fail
 exact bodyPost_ret (results_tmp2 Tryz.results53 _ _ _) rfl ⟨rfl,Low.refl _ _⟩
def onm:Nat→ByteArray
 | 0=>⟨#[115,112,111]⟩
 | 1=>⟨#[115,111,112]⟩
 | 2=>⟨#[112,115,111]⟩
 | 3=>⟨#[112,111,115]⟩
 | 4=>⟨#[111,115,112]⟩
 | _=>⟨#[111,112,115]⟩
theorem znc (k:Nat) (hk:k < 6) (w:World):Calls Tryz.prog 43 #[.int .i64 k] w fun e w'=>e=.returned (.agg #[.int .i64 ((lev k).1:Nat),.int .i64 ((lev k).2.1:Nat),.int .i64 ((lev k).2.2:Nat)])∧Low w.heap.size w w':=by
 match k,hk with
 | 0,_=>exact zdr 0 _ _ _ w (by decide) rfl rfl rfl
 | 1,_=>exact zdr 1 _ _ _ w (by decide) rfl rfl rfl
 | 2,_=>exact zdr 2 _ _ _ w (by decide) rfl rfl rfl
 | 3,_=>exact zdr 3 _ _ _ w (by decide) rfl rfl rfl
 | 4,_=>exact zdr 4 _ _ _ w (by decide) rfl rfl rfl
 | 5,_=>exact zdr 5 _ _ _ w (by decide) rfl rfl rfl
theorem zvb (k:Nat) (hk:k < 6) (w:World):Calls Tryz.prog 53 #[.string (onm k)] w fun e w'=>e=.returned (.tuple #[.int .i64 k,.bool true])∧Low w.heap.size w w':=by
 match k,hk with
 | 0,_=>exact named0 w
 | 1,_=>exact named1 w
 | 2,_=>exact named2 w
 | 3,_=>exact named3 w
 | 4,_=>exact named4 w
 | 5,_=>exact named5 w
end Go.Proofs.YtanbgdhmfjgihaaGreatDoor
