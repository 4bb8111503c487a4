/- Texts of one kind, one behind the other: each says ahead of itself what it shows. -/
import Derived.Test.YtcfmenkigolnoaaGreatDoorVam
/- GPR -/
namespace Go.Proofs.YtcfmenkigolnoaaGreatDoor
open Go.RowKit
def zeh (g:zaw) (k n:Int) (l:List za2):Prop:=
 if k=6 then (∃ a∈g.nodes,a.id=n∧zea a.props l)∨((∀ a∈g.nodes,a.id≠n)∧l=[])
 else if k=7 then (∃ a∈g.edges,a.id=n∧zea a.props l)∨((∀ a∈g.edges,a.id≠n)∧l=[])
 else l=[]
theorem zuu {w:World} {P:Nat→Prop} {b:Nat} {l:List zaq} (h:zcs zay zaq.id ze7 w P b l) (n:Int):∃ m f x0 x1 pv ps,m≤l.length∧HMap w Tryz.prog 2 b m f∧(f (.int .i64 n)).getD (.agg #[.int .i64 0,.slice none 0 0,.slice none 0 0])=.agg #[x0,x1,pv]∧zaj za8 w P pv ps∧ps.length≤2097152∧
 ((∃ a∈l,a.id=n∧zea a.props ps)∨((∀ a∈l,a.id≠n)∧ps=[])):=by
 obtain ⟨m,f,h1,h2,h3,h4⟩:=h
 by_cases q:∃ a∈l,a.id=n
 ·obtain ⟨a,ha,rfl⟩:=q
  obtain ⟨a',c,hp,hf,lv,pv,rfl,_,_,hl,_,hs⟩:=h3 a ha
  exact ⟨m,f,_,lv,pv,a'.props,h1,h2,by rw [hf];rfl,hs,hl,.inl ⟨a,ha,rfl,hp.2.2⟩⟩
 ·have q':∀ a∈l,a.id≠n:=fun a ha e=>q ⟨a,ha,e⟩
  have e:=h4 (.int .i64 n) fun a ha e=>q' a ha (by injection e with _ e2;exact e2.symm)
  exact ⟨m,f,_,_,_,[],h1,h2,by rw [e];rfl,zaj.nil _ _,by simp,.inr ⟨q',rfl⟩⟩
theorem zuv {w:World} {P:Nat→Prop} {b:Nat} {l:List zas} (h:zcs za0 zas.id zeb w P b l) (n:Int):∃ m f x0 x1 x2 x3 pv ps,m≤l.length∧HMap w Tryz.prog 2 b m f∧(f (.int .i64 n)).getD (.agg #[.int .i64 0,.int .i64 0,.int .i64 0,.string ⟨#[]⟩,.slice none 0 0])=.agg #[x0,x1,x2,x3,pv]∧zaj za8 w P pv ps∧ps.length≤2097152∧
 ((∃ a∈l,a.id=n∧zea a.props ps)∨((∀ a∈l,a.id≠n)∧ps=[])):=by
 obtain ⟨m,f,h1,h2,h3,h4⟩:=h
 by_cases q:∃ a∈l,a.id=n
 ·obtain ⟨a,ha,rfl⟩:=q
  obtain ⟨a',c,hp,hf,pv,rfl,_,_,hl,hs⟩:=h3 a ha
  exact ⟨m,f,_,_,_,_,pv,a'.props,h1,h2,by rw [hf];rfl,hs,hl,.inl ⟨a,ha,rfl,hp.2.2.2.2⟩⟩
 ·have q':∀ a∈l,a.id≠n:=fun a ha e=>q ⟨a,ha,e⟩
  have e:=h4 (.int .i64 n) fun a ha e=>q' a ha (by injection e with _ e2;exact e2.symm)
  exact ⟨m,f,_,_,_,_,_,[],h1,h2,by rw [e];rfl,zaj.nil _ _,by simp,.inr ⟨q',rfl⟩⟩
theorem zuw (x z y:Value) (w:World):(Instr.field 38 (.agg #[x,z,y]) 2).run Tryz.prog w=.ok y w:=by kernel_rfl
theorem zux (x z y u v:Value) (w:World):(Instr.field 41 (.agg #[x,z,y,u,v]) 4).run Tryz.prog w=.ok v w:=by kernel_rfl
set_option maxHeartbeats 3200000 in
set_option maxRecDepth 20000 in
theorem zuy (W:World) (s:Nat) (g:zaw) (h:zcz W s g) (k:Int) (b:Value) (n:Int) (t x L:Value) (hn:(Lit.int .i64 n).wf=true):
 Calls Tryz.prog 56 #[.pointer (some ⟨s,0,none⟩),.agg #[.int .i64 k,b,.int .i64 n,t,x,L]] W fun e w'=>∃ pv l,e=.returned pv∧zaj za8 w' (Old w') pv l∧l.length≤2097152∧zeh g k n l∧Below W.heap.size W w':=by
 obtain ⟨m0,m1,m4,m5,V2,V3,q0,q1,q2,_,_,_,_⟩:=h.is
 have hki:keyOf Tryz.prog 2 (.int .i64 n)=some (.int .i64 n):=Go.Maps.keyOf_int_mk Tryz.underlying2 hn
 have u1:(W.alloc (.cells #[.int .i64 k,b,.int .i64 n,t,x,L] 60)).heap[W.heap.size]?=some (.cells #[.int .i64 k,b,.int .i64 n,t,x,L] 60 (0,0)):=zae _ _ rfl
 have b0:=zar W (.cells #[.int .i64 k,b,.int .i64 n,t,x,L] 60)
 have us:(W.alloc (.cells #[.int .i64 k,b,.int .i64 n,t,x,L] 60)).heap[s]?=_:=zat _ q0
 have c0:=zac u1 0 rfl
 have c2:=zac u1 2 rfl
 obtain ⟨n0,f0,x0,x1,pv,ps,hn0,hm0,hX0,hs0,hl0,hp0⟩:=zuu q1 n
 obtain ⟨n1,f1,y0,y1,y2,y3,pv1,ps1,hn1,hm1,hX1,hs1,hl1,hp1⟩:=zuv q2 n
 have HP0:=Lib.hid (And.intro hs0 (And.intro hl0 hp0))
 have HP1:=Lib.hid (And.intro hs1 (And.intro hl1 hp1))
 replace hm0:=hm0.keep (b0.block m0 hm0.lt)
 replace hm1:=hm1.keep (b0.block m1 hm1.lt)
 obtain ⟨W0,hW0⟩:∃ W0,W0=W.alloc (.cells #[.int .i64 k,b,.int .i64 n,t,x,L] 60):=⟨_,rfl⟩
 rw [← hW0] at u1 b0 us c0 c2 hm0 hm1
 have H0:=Lib.hid hW0
 clear hs0 hl0 hp0 hs1 hl1 hp1 hW0 q0 q1 q2 h hn
 by_cases h6:k=6
 ·subst h6
  go_enter Tryz.func56,Tryz.ntmps56
  go_upto_region 1 with fail
  rw [← H0.out]
  go_upto_region 3 with fail
  refine wp_region_held_drew (S:=fun W'=>W'.heap[s]?=some (.cells #[.map (some m0),.map (some m1),V2,V3,.map (some m4),.map (some m5)] 79 (0,0))∧W'.heap[W.heap.size]?=some (.cells #[.int .i64 6,b,.int .i64 n,t,x,L] 60 (0,0))∧W'.heap[m0]?=W0.heap[m0]?) (by kernel_rfl) ⟨us,u1,rfl⟩ (fun _=>?_)
  refine tg (i:=0) (.pointer (some ⟨s,0,none⟩)) rfl (⟨us,u1,rfl⟩) ?_
  refine tg (i:=4) (.pointer (some ⟨W.heap.size,2,none⟩)) rfl (⟨us,u1,rfl⟩) ?_
  refine tg (i:=1) (.pointer (some ⟨s,0,none⟩)) rfl (⟨us,u1,rfl⟩) ?_
  refine tk (i:=5) (v:=.int .i64 n) rfl (Or.inl ⟨by rfl,fun W' h=>by have c0:=zac h.2.1 2 rfl;go_simp⟩) (⟨us,u1,rfl⟩) ?_
  refine tg (i:=2) (.pointer (some ⟨s,0,none⟩)) rfl (⟨us,u1,rfl⟩) ?_
  refine tk (i:=3) (v:=.map (some m0)) rfl (Or.inl ⟨by rfl,fun W' h=>by have c0:=zac h.1 0 rfl;go_simp⟩) (⟨us,u1,rfl⟩) ?_
  refine tk (i:=6) (v:=.agg #[x0,x1,pv]) rfl (Or.inl ⟨by rfl,fun W' h=>by have hrun:=(hm0.keep h.2.2).look law2 Tryz.underlying73 (zqj W') hki trivial;rw [hX0] at hrun;go_simp⟩) (⟨us,u1,rfl⟩) ?_
  refine tk (i:=7) (v:=pv) rfl (Or.inl ⟨by rfl,fun W' _=>by have hf:=zuw x0 x1 pv W';go_simp⟩) (⟨us,u1,rfl⟩) ?_
  refine tg (i:=8) pv rfl (⟨us,u1,rfl⟩) ?_
  refine wpAnyH_done (by kernel_rfl) ?_ _
  go_wp2_with fail
  go_ret
  exact ⟨pv,ps,rfl,HP0.out.1.stays (zad b0.drew),HP0.out.2.1,by unfold zeh;rw [if_pos rfl];exact HP0.out.2.2,b0.drew⟩
 ·by_cases h7:k=7
  ·subst h7
   go_enter Tryz.func56,Tryz.ntmps56
   go_upto_region 1 with fail
   rw [← H0.out]
   go_upto_region 5 with fail
   refine wp_region_held_drew (S:=fun W'=>W'.heap[s]?=some (.cells #[.map (some m0),.map (some m1),V2,V3,.map (some m4),.map (some m5)] 79 (0,0))∧W'.heap[W.heap.size]?=some (.cells #[.int .i64 7,b,.int .i64 n,t,x,L] 60 (0,0))∧W'.heap[m1]?=W0.heap[m1]?) (by kernel_rfl) ⟨us,u1,rfl⟩ (fun _=>?_)
   refine tg (i:=0) (.pointer (some ⟨s,0,none⟩)) rfl (⟨us,u1,rfl⟩) ?_
   refine tg (i:=4) (.pointer (some ⟨W.heap.size,2,none⟩)) rfl (⟨us,u1,rfl⟩) ?_
   refine tg (i:=1) (.pointer (some ⟨s,0,none⟩)) rfl (⟨us,u1,rfl⟩) ?_
   refine tk (i:=5) (v:=.int .i64 n) rfl (Or.inl ⟨by rfl,fun W' h=>by have c0:=zac h.2.1 2 rfl;go_simp⟩) (⟨us,u1,rfl⟩) ?_
   refine tg (i:=2) (.pointer (some ⟨s,1,none⟩)) rfl (⟨us,u1,rfl⟩) ?_
   refine tk (i:=3) (v:=.map (some m1)) rfl (Or.inl ⟨by rfl,fun W' h=>by have c0:=zac h.1 1 rfl;go_simp⟩) (⟨us,u1,rfl⟩) ?_
   refine tk (i:=6) (v:=.agg #[y0,y1,y2,y3,pv1]) rfl (Or.inl ⟨by rfl,fun W' h=>by have hrun:=(hm1.keep h.2.2).look law2 Tryz.underlying74 (zkc W') hki trivial;rw [hX1] at hrun;go_simp⟩) (⟨us,u1,rfl⟩) ?_
   refine tk (i:=7) (v:=pv1) rfl (Or.inl ⟨by rfl,fun W' _=>by have hf:=zux y0 y1 y2 y3 pv1 W';go_simp⟩) (⟨us,u1,rfl⟩) ?_
   refine tg (i:=8) pv1 rfl (⟨us,u1,rfl⟩) ?_
   refine wpAnyH_done (by kernel_rfl) ?_ _
   go_wp2_with fail
   go_ret
   exact ⟨pv1,ps1,rfl,HP1.out.1.stays (zad b0.drew),HP1.out.2.1,by unfold zeh;rw [if_neg (by decide),if_pos rfl];exact HP1.out.2.2,b0.drew⟩
  ·have e6:(k == 6)=false:=by simpa using h6
   have e7:(k == 7)=false:=by simpa using h7
   go_enter Tryz.func56,Tryz.ntmps56
   go_upto_region 1 with fail
   rw [← H0.out]
   go_wp2_with fail
   go_ret
   exact ⟨_,[],rfl,zaj.nil _ _,by simp,by unfold zeh;rw [if_neg h6,if_neg h7],b0⟩
end Go.Proofs.YtcfmenkigolnoaaGreatDoor

/- GBS -/
namespace Go.Proofs.YtcfmenkigolnoaaGreatDoor
open Go.RowKit
theorem zcv {P:Program} {ops:Array Oper} {rest:List Oper} {o:Oper} {a:Act} {w:World} {Q:Exit→Act→World→Prop} (y:Operand) (g off:Nat) (ty:TypeId) (cs:List Value) (k:Nat) (d:TypeDesc) (hr:w.rangeAt g off cs) (hk:cs.length=k)
 (hu:P.underlying ty=some d) (hd:d.isRow=true) (hi:(P.info? ty).map (·.size)=some k) (hw:Region.wanted o (yielded ops a.tmps)=true) (ho:o.op=.load ty y) (hx:a.eval y=.pointer (some ⟨g,off,none⟩))
 (h:wpList P ops Q rest (a.put o.dst (.agg cs.toArray)) w):wpList P ops Q (o::rest) a w:=by
 unfold wpList
 rw [if_pos hw]
 exact .inl (wp_load_mid ty y ho g off hx cs d hr hu hd (by rw [hi,hk]) h)
set_option maxHeartbeats 1600000 in
set_option maxRecDepth 20000 in
theorem zqm (x:List Value) (kx ky:ByteArray) (w:World) (hx:x[0]?=some (.string kx)):
 Calls Tryz.prog 58 #[.agg x.toArray,.string ky] w fun e w'=>e=.returned (.int .i64 (Lib.compareBytes (bl kx) (bl ky)))∧w'=w.alloc (.cells x.toArray 70):=by
 have c0:(w.alloc (.cells x.toArray 70)).cell? ⟨w.heap.size,0,none⟩=some (.string kx):=zac (zae _ _ rfl) 0 (by simpa using hx)
 obtain ⟨r,hr⟩:∃ r,r=Lib.compareBytes (bl kx) (bl ky):=⟨_,rfl⟩
 have HC:=Lib.hid (fun W=>zqg kx ky W)
 rw [← hr] at HC ⊢
 clear hx hr
 go_enter Tryz.func58,Tryz.ntmps58
 go_wp2_with (first
  |(go_at_call 93;(with_reducible refine (HC.out _).mono ?_);rintro e w1 ⟨rfl,rfl⟩))
 go_ret
 exact ⟨rfl,rfl⟩
theorem ziz (l m:List UInt8):Lib.compareBytes l m=0↔l=m:=by
 induction l generalizing m with
 | nil=>cases m <;> simp [Lib.compareBytes]
 | cons a x ih=>
   cases m with
   | nil=>simp [Lib.compareBytes]
   | cons b y=>
     unfold Lib.compareBytes
     by_cases h:a < b
     ·have e:a≠b:=fun e=>by subst e;rw [UInt8.lt_iff_toNat_lt] at h;omega
      simp [h,e]
     ·by_cases g:b < a
      ·have e:a≠b:=fun e=>by subst e;exact h g
       simp [h,g,e]
      ·have e:a=b:=by
        rw [UInt8.lt_iff_toNat_lt] at h g
        exact UInt8.toNat_inj.1 (by omega)
       subst e
       simpa [h] using ih y
theorem zg5 {ps:List za2} (hs:ps.Pairwise (fun x y=>leT x.key y.key=true)) (i j:Nat) (hi:i < ps.length) (hj:j < ps.length) (h:i≤j):bl ps[i].key≤bl ps[j].key:=by
 by_cases e:i=j
 ·subst e
  exact List.le_refl _
 ·have:=List.pairwise_iff_getElem.1 hs i j hi hj (by omega)
  simpa [leT,leB] using this
set_option maxHeartbeats 6400000 in
set_option maxRecDepth 100000 in
theorem zxp (V:Value) (ps:List za2) (ky:ByteArray) (w:World) (h:zaj za8 w (Old w) V ps) (hs:ps.Pairwise (fun x y=>leT x.key y.key=true)) (hn:ps.length≤2097152):
 Calls Tryz.prog 57 #[V,.string ky,.func (.func 58) #[] #[]] w fun e w'=>∃ (i:Nat) (b:Bool),e=.returned (.tuple #[.int .i64 i,.bool b])∧(b=true→∃ hi:i < ps.length,ps[i].key=ky)∧(b=false→∀ p∈ps,p.key≠ky)∧Below w.heap.size w w':=by
 obtain ⟨p,cap,rfl⟩:=h.slice
 have HH:=Lib.hid h
 have HS:=Lib.hid hs
 clear h hs
 go_enter Tryz.func57,Tryz.ntmps57
 go_wp2_with fail
 go_loopg [9,10] ps.length (fun gg s9 s10 wr=>∃ lo hi:Nat,s9=.int .i64 lo∧s10=.int .i64 hi∧lo≤hi∧hi≤ps.length∧hi - lo≤gg∧Hid ((∀ (t:Nat) (ht:t < ps.length),t < lo→bl ps[t].key < bl ky)∧(∀ (t:Nat) (ht:t < ps.length),hi≤t→¬ bl ps[t].key < bl ky)∧Below w.heap.size w wr))
 case atStart=>exact ⟨0,ps.length,rfl,rfl,Nat.zero_le _,Nat.le_refl _,by omega,Lib.hid ⟨fun t _ h=>by omega,fun t h1 h2=>by omega,Below.refl _ _⟩⟩
 case round=>
  obtain ⟨lo,hi,rfl,rfl,hlo,hin,hg,hb⟩:=hrel
  by_cases hlt:lo < hi
  ·have hx:(lo+hi) / 2 < ps.length:=by omega
   obtain ⟨g,off,cap',c,e0,hgo,hrl,hra⟩:=(HH.out.stays (zad hb.out.2.2)).at_ ((lo+hi) / 2) hx
   injection e0 with e1 e2 e3
   subst e1
   replace hra:wr.rangeAt g (off+(lo+hi) / 2*7) c:=hra
   have hlen:c.length=7:=za8.len hrl
   have hc0:c[0]?=some (.string ps[(lo+hi) / 2].key):=by
    obtain ⟨c',rfl,_⟩:=hrl
    rfl
   obtain ⟨r,hr⟩:∃ r,r=Lib.compareBytes (bl ps[(lo+hi) / 2].key) (bl ky):=⟨_,rfl⟩
   have HC:=Lib.hid (fun W=>zqm c ps[(lo+hi) / 2].key ky W hc0)
   rw [← hr] at HC
   have HZ:Hid (r < 0↔bl ps[(lo+hi) / 2].key < bl ky):=Lib.hid (by rw [hr];exact zd4 _ _)
   have hs1:(lo:Int)+hi < 9223372036854775808:=by omega
   have t1:(0:Int)≤((lo:Int)+hi) / 2:=by omega
   have t2:((lo:Int)+hi) / 2 < ps.length:=by omega
   have t3:(((lo:Int)+hi) / 2).toNat=(lo+hi) / 2:=by omega
   have hlt3:(lo:Int) < hi:=by omega
   clear hr hc0 hrl e2 e3
   by_cases hz:r < 0
   ·have hz2:=HZ.out.1 hz
    have HB:=Lib.hid (show (∀ (t:Nat) (ht:t < ps.length),t < (lo+hi) / 2+1→bl ps[t].key < bl ky) from fun t ht h=>List.lt_of_le_of_lt (zg5 HS.out t _ ht hx (by omega)) hz2)
    clear hz2 HZ
    go_wp2_with (first
     |((with_reducible refine zap (.tmp 27) g (off+(lo+hi) / 2*7) 70 c 7 _ hra hlen Tryz.underlying70 rfl zbb ?_ ?_ ?_ ?_);rfl;rfl;rfl)
     |(go_at_call 58;(with_reducible refine (HC.out _).mono ?_);rintro e w3 ⟨rfl,rfl⟩))
    go_roundg (hi - ((lo+hi) / 2+1))
    case measure=>omega
    case rel=>exact ⟨(lo+hi) / 2+1,hi,by rw [show (((lo+hi) / 2+1:Nat):Int)=((lo:Int)+(hi:Int)) / 2+1 by omega],rfl,by omega,hin,Nat.le_refl _,Lib.hid ⟨HB.out,hb.out.2.1,hb.out.2.2.alloc hb.out.2.2.size _⟩⟩
   ·have hz2:¬ bl ps[(lo+hi) / 2].key < bl ky:=fun h=>hz (HZ.out.2 h)
    have HB:=Lib.hid (show (∀ (t:Nat) (ht:t < ps.length),(lo+hi) / 2≤t→¬ bl ps[t].key < bl ky) from fun t ht h q=>hz2 (List.lt_of_le_of_lt (zg5 HS.out _ t hx ht h) q))
    have hz3:decide (r < 0)=false:=decide_eq_false hz
    clear hz2 HZ hz
    go_wp2_with (first
     |((with_reducible refine zap (.tmp 27) g (off+(lo+hi) / 2*7) 70 c 7 _ hra hlen Tryz.underlying70 rfl zbb ?_ ?_ ?_ ?_);rfl;rfl;rfl)
     |(go_at_call 58;(with_reducible refine (HC.out _).mono ?_);rintro e w3 ⟨rfl,rfl⟩))
    go_roundg ((lo+hi) / 2 - lo)
    case measure=>omega
    case rel=>exact ⟨lo,(lo+hi) / 2,rfl,by rw [show (((lo+hi) / 2:Nat):Int)=((lo:Int)+(hi:Int)) / 2 by omega],by omega,by omega,Nat.le_refl _,Lib.hid ⟨hb.out.1,HB.out,hb.out.2.2.alloc hb.out.2.2.size _⟩⟩
  ·obtain rfl:hi=lo:=by omega
   by_cases hlt2:hi < ps.length
   ·obtain ⟨g,off,cap',c,e0,hgo,hrl,hra⟩:=(HH.out.stays (zad hb.out.2.2)).at_ hi hlt2
    injection e0 with e1 e2 e3
    subst e1
    replace hra:wr.rangeAt g (off+hi*7) c:=hra
    have hlen:c.length=7:=za8.len hrl
    have hc0:c[0]?=some (.string ps[hi].key):=by
     obtain ⟨c',rfl,_⟩:=hrl
     rfl
    obtain ⟨r,hr⟩:∃ r,r=Lib.compareBytes (bl ps[hi].key) (bl ky):=⟨_,rfl⟩
    have HC:=Lib.hid (fun W=>zqm c ps[hi].key ky W hc0)
    rw [← hr] at HC
    have HZ:Hid (r=0↔bl ps[hi].key=bl ky):=Lib.hid (by rw [hr];exact ziz _ _)
    have hlt3:(hi:Int) < ps.length:=by omega
    clear hr hc0 hrl e2 e3
    by_cases hz:r=0
    ·have hz2:=HZ.out.1 hz
     subst hz
     go_wp2_with (first
      |((with_reducible refine zcv (.tmp 43) g (off+hi*7) 70 c 7 _ hra hlen Tryz.underlying70 rfl zbb ?_ ?_ ?_ ?_);rfl;rfl;rfl)
      |(go_at_call 58;(with_reducible refine (HC.out _).mono ?_);rintro e w3 ⟨rfl,rfl⟩))
     refine bodyPost_ret (results_tmp2 rfl _ _ _) rfl ?_
     exact ⟨hi,true,rfl,fun _=>⟨hlt2,zir hz2⟩,(by simp),hb.out.2.2.alloc hb.out.2.2.size _⟩
    ·have hz2:¬ bl ps[hi].key=bl ky:=fun h=>hz (HZ.out.2 h)
     have hz3:(r == 0)=false:=by simpa using hz
     go_wp2_with (first
      |((with_reducible refine zcv (.tmp 43) g (off+hi*7) 70 c 7 _ hra hlen Tryz.underlying70 rfl zbb ?_ ?_ ?_ ?_);rfl;rfl;rfl)
      |(go_at_call 58;(with_reducible refine (HC.out _).mono ?_);rintro e w3 ⟨rfl,rfl⟩))
     refine bodyPost_ret (results_tmp2 rfl _ _ _) rfl ?_
     refine ⟨hi,false,rfl,(by simp),fun _ q hq e=>?_,hb.out.2.2.alloc hb.out.2.2.size _⟩
     obtain ⟨t,ht,rfl⟩:=List.getElem_of_mem hq
     by_cases h1:t < hi
     ·have:=hb.out.1 t ht h1
      rw [e] at this
      exact List.lt_irrefl _ this
     ·have h2:=zg5 HS.out hi t hlt2 ht (by omega)
      rw [e] at h2
      rcases List.le_iff_lt_or_eq.1 h2 with h3 | h3
      ·exact hb.out.2.1 hi hlt2 (Nat.le_refl _) h3
      ·exact hz2 h3
   ·obtain rfl:hi=ps.length:=by omega
    go_wp2_with fail
    refine bodyPost_ret (results_tmp2 rfl _ _ _) rfl ?_
    refine ⟨ps.length,false,rfl,(by simp),fun _ q hq e=>?_,hb.out.2.2⟩
    obtain ⟨t,ht,rfl⟩:=List.getElem_of_mem hq
    have:=hb.out.1 t ht ht
    rw [e] at this
    exact List.lt_irrefl _ this
end Go.Proofs.YtcfmenkigolnoaaGreatDoor

/- GPP -/
namespace Go.Proofs.YtcfmenkigolnoaaGreatDoor
open Go.RowKit
def zrt:Val:=.mk 0 false 0 ⟨#[]⟩ ⟨#[]⟩ []
def zqn (g:zaw) (k n:Int) (ky:ByteArray) (r:Val):Prop:=∃ l,zeh g k n l∧((∃ p∈l,p.key=ky∧r=p.v)∨((∀ p∈l,p.key≠ky)∧r=zrt))
theorem zeh.sorted {g:zaw} {k n:Int} {l:List za2} (h:zeh g k n l):l.Pairwise (fun x y=>leT x.key y.key=true):=by
 unfold zeh at h
 split at h
 ·rcases h with ⟨_,_,_,h⟩ | ⟨_,rfl⟩
  ·exact h.2
  ·exact List.Pairwise.nil
 ·split at h
  ·rcases h with ⟨_,_,_,h⟩ | ⟨_,rfl⟩
   ·exact h.2
   ·exact List.Pairwise.nil
  ·subst h
   exact List.Pairwise.nil
theorem zdz {w:World} {g o:Nat} {x:Value} {c:List Value} (h:w.rangeAt g o (x::c)):w.rangeAt g (o+1) c:=fun j u hj=>by
 have:=h (j+1) u (by simpa using hj)
 rwa [show o+1+j=o+(j+1) by omega]
theorem zgh:Fine 0 ⟨#[]⟩ ⟨#[]⟩ 0:=by constructor <;> decide
end Go.Proofs.YtcfmenkigolnoaaGreatDoor

/- GLT -/
namespace Go.Proofs.YtcfmenkigolnoaaGreatDoor
open Go.RowKit
theorem zgi {x:Int} (h0:-9223372036854775808≤x) (h1:x < 9223372036854775808):IntKind.i64.wrap x=x:=by
 have e1:(2:Int) ^ IntKind.i64.bits=18446744073709551616:=by decide
 have e2:(2:Int) ^ (IntKind.i64.bits - 1)=9223372036854775808:=by decide
 have e3:IntKind.i64.signed=true:=rfl
 unfold IntKind.wrap
 simp only [e1,e2,e3,Bool.true_and,decide_eq_true_eq]
 split <;> omega
end Go.Proofs.YtcfmenkigolnoaaGreatDoor

/- GAN -/
namespace Go.Proofs.YtcfmenkigolnoaaGreatDoor
open Go.RowKit
def zd6 (few many:List Int):List Int:=few.filter fun x=>many.contains x
def andL (xs ys:List Int):List Int:=if ys.length < xs.length then zd6 ys xs else zd6 xs ys
theorem zgj {w:World} {base size n q:Nat} {e:TypeId} {v:Value} {xs:List Value} (h:w.ownsRow base e size v n xs):(w.drewN q).ownsRow base e size v n xs:=za5 h fun _ _=>rfl
theorem zno (a b:List Int):(zd6 a b).length≤a.length:=List.length_filter_le _ _
set_option maxHeartbeats 6400000 in
set_option maxRecDepth 20000 in
theorem andAt (V U:Value) (xs ys:List Int) (W:World) (hx:zb9 W V xs) (hy:zb9 W U ys) (sx:xs.Pairwise (·≤·)) (sy:ys.Pairwise (·≤·)) (nx:xs.length≤2097152) (ny:ys.length≤2097152):
 Calls Tryz.prog 62 #[V,U] W fun e w'=>∃ R,e=.returned R∧w'.ownsRow W.heap.size 2 1 R (andL xs ys).length ((andL xs ys).map (Value.int .i64))∧Below W.heap.size W w':=by
 obtain ⟨p1,cap1,rfl,_⟩:=id hx
 obtain ⟨p2,cap2,rfl,_⟩:=id hy
 obtain ⟨i0,hi,hz0,hz1,hz2⟩:=info_parts zdc
 have HX:=Lib.hid hx
 have HY:=Lib.hid hy
 obtain ⟨n1,hl1⟩:∃ n,n=xs.length:=⟨_,rfl⟩
 obtain ⟨n2,hl2⟩:∃ n,n=ys.length:=⟨_,rfl⟩
 rw [← hl1] at nx
 rw [← hl2] at ny
 have HNX:=Lib.hid hx
 have HMX:=Lib.hid (fun W' (hb:Below W.heap.size W W') (x:Int)=>zh0 _ xs x W' (hx.below hb) sx (by omega))
 have HMY:=Lib.hid (fun W' (hb:Below W.heap.size W W') (x:Int)=>zh0 _ ys x W' (hy.below hb) sy (by omega))
 rw [← hl1] at HMX
 rw [← hl2] at HMY
 rw [← hl1,← hl2]
 have HL:=Lib.hid (And.intro hl1 hl2)
 clear hx hy sx sy HNX hl1 hl2
 by_cases hlt:n2 < n1
 ·have ea:andL xs ys=zd6 ys xs:=by unfold andL;rw [if_pos (by have:=HL.out;omega)]
  rw [ea]
  have hgt:(n1:Int) > n2:=by omega
  clear ea
  go_enter Tryz.func62,Tryz.ntmps62
  go_wp2_with fail
  go_loopg [7,21] n2 (fun gg s7 s21 wr=>∃ j:Nat,j+gg=n2∧s21=.int .i64 j∧Hid (wr.ownsRow W.heap.size 2 1 s7 (zd6 (ys.take j) xs).length ((zd6 (ys.take j) xs).map (Value.int .i64))∧Below W.heap.size W wr))
  case atStart=>exact ⟨0,by omega,rfl,Lib.hid ⟨by simp [zd6];exact World.ownsRow_nil _ _ _ _,Below.refl _ _⟩⟩
  case round=>
   obtain ⟨j,hjg,rfl,HA⟩:=hrel
   by_cases hj:(j:Int) < n2
   ·have hj1:j < ys.length:=by have:=HL.out;omega
    obtain ⟨pp,cc,e0,hcv⟩:=HY.out.below HA.out.2
    injection e0 with e1 e2 e3
    subst e1
    obtain ⟨g,off,rfl,hcj⟩:=hcv (by intro q;rw [q] at hj1;simp at hj1)
    obtain ⟨x,hxj⟩:∃ x,x=ys[j]:=⟨_,rfl⟩
    have cj:wr.cell? ⟨g,off+j,none⟩=some (.int .i64 x):=by
     rw [hcj j hj1,hxj]
     simp [hj1]
    have etk:zd6 (ys.take (j+1)) xs=zd6 (ys.take j) xs++(if xs.contains x then [x] else []):=by
     unfold zd6
     rw [List.take_succ_eq_append_getElem hj1,List.filter_append,← hxj]
     by_cases q:xs.contains x=true
     ·rw [if_pos q,List.filter_cons_of_pos q];rfl
     ·rw [if_neg q,List.filter_cons_of_neg q];rfl
    have hlen:(zd6 (ys.take j) xs).length≤2097152:=by
     have:=zno (ys.take j) xs
     have:=List.length_take_le j ys
     have:=HL.out
     omega
    have HC:=Lib.hid (HMX.out wr HA.out.2 x)
    obtain ⟨r,hr⟩:∃ r,r=xs.contains x:=⟨_,rfl⟩
    rw [← hr] at HC etk
    have HT:=Lib.hid etk
    obtain ⟨l,hl⟩:∃ l,l=zd6 (ys.take j) xs:=⟨_,rfl⟩
    rw [← hl] at HA HT hlen
    clear hcj hcv e2 e3 hxj hr etk hl
    cases r with
    | true=>
      go_wp2_with (first
       |(go_at_call 76;(with_reducible refine HC.out.mono ?_);rintro e w1 ⟨rfl,q,rfl⟩
         have ho:(wr.drewN q).ownsRow W.heap.size 2 1 _ l.length (l.map (Value.int .i64)):=zgj HA.out.1
         have hb:Below W.heap.size W (wr.drewN q):=zbw HA.out.2 q
         generalize wr.drewN q=w1 at *)
       |(at_builtin;refine wpList_append_own_at _ rfl _ _ 77 rfl W.heap.size 2 i0 (.int .i64 0) 1 8 Tryz.underlying77 hi hz0 hz1 hz2 rfl (by decide) _ _ _ rfl (ho.alloc _) ⟨w1.heap.size,0,none⟩ 1 1 [.int .i64 x] rfl rfl (zbc w1 [.int .i64 x] 2) (by simp [Value.oneCell']) ?_ ?_ ?_ ?_))
      all_goals (try (first |(unfold maxLen;omega) | omega |(simp;have:=hb.size;omega)))
      intro v' w5 ho5 hg5 _ hloc5
      have hb5:Below W.heap.size W w5:=(hb.alloc hb.size _).grown hg5 (by have:=hb.size;simp;omega) (fun j e=>(ho.lt j e).1)
      have HB:=Lib.hid (show w5.ownsRow W.heap.size 2 1 v' (l++[x]).length ((l++[x]).map (Value.int .i64)) by rw [List.length_append,List.map_append];exact ho5)
      clear ho5 hg5 hloc5 ho hb
      go_wp2_with fail
      go_roundg (gk - 1)
      case measure=>omega
      case rel=>exact ⟨j+1,by omega,by go_num,Lib.hid (by rw [HT.out,if_pos (by trivial)];exact ⟨HB.out,hb5⟩)⟩
    | false=>
      go_wp2_with (first
       |(go_at_call 76;(with_reducible refine HC.out.mono ?_);rintro e w1 ⟨rfl,q,rfl⟩
         have ho:(wr.drewN q).ownsRow W.heap.size 2 1 _ l.length (l.map (Value.int .i64)):=zgj HA.out.1
         have hb:Below W.heap.size W (wr.drewN q):=zbw HA.out.2 q
         generalize wr.drewN q=w1 at *))
      go_roundg (gk - 1)
      case measure=>omega
      case rel=>exact ⟨j+1,by omega,by go_num,Lib.hid (by rw [HT.out,if_neg (by simp),List.append_nil];exact ⟨ho,hb⟩)⟩
   ·have e:ys.take j=ys:=by rw [List.take_of_length_le];have:=HL.out;omega
    have hA:=HA.out
    rw [e] at hA
    have HZ:=Lib.hid hA
    clear hA HA e
    go_wp2_with fail
    go_ret
    exact ⟨_,rfl,HZ.out⟩
 ·have ea:andL xs ys=zd6 xs ys:=by unfold andL;rw [if_neg (by have:=HL.out;omega)]
  rw [ea]
  have hgt:¬ (n1:Int) > n2:=by omega
  clear ea
  go_enter Tryz.func62,Tryz.ntmps62
  go_wp2_with fail
  go_loopg [7,21] n1 (fun gg s7 s21 wr=>∃ j:Nat,j+gg=n1∧s21=.int .i64 j∧Hid (wr.ownsRow W.heap.size 2 1 s7 (zd6 (xs.take j) ys).length ((zd6 (xs.take j) ys).map (Value.int .i64))∧Below W.heap.size W wr))
  case atStart=>exact ⟨0,by omega,rfl,Lib.hid ⟨by simp [zd6];exact World.ownsRow_nil _ _ _ _,Below.refl _ _⟩⟩
  case round=>
   obtain ⟨j,hjg,rfl,HA⟩:=hrel
   by_cases hj:(j:Int) < n1
   ·have hj1:j < xs.length:=by have:=HL.out;omega
    obtain ⟨pp,cc,e0,hcv⟩:=HX.out.below HA.out.2
    injection e0 with e1 e2 e3
    subst e1
    obtain ⟨g,off,rfl,hcj⟩:=hcv (by intro q;rw [q] at hj1;simp at hj1)
    obtain ⟨x,hxj⟩:∃ x,x=xs[j]:=⟨_,rfl⟩
    have cj:wr.cell? ⟨g,off+j,none⟩=some (.int .i64 x):=by
     rw [hcj j hj1,hxj]
     simp [hj1]
    have etk:zd6 (xs.take (j+1)) ys=zd6 (xs.take j) ys++(if ys.contains x then [x] else []):=by
     unfold zd6
     rw [List.take_succ_eq_append_getElem hj1,List.filter_append,← hxj]
     by_cases q:ys.contains x=true
     ·rw [if_pos q,List.filter_cons_of_pos q];rfl
     ·rw [if_neg q,List.filter_cons_of_neg q];rfl
    have hlen:(zd6 (xs.take j) ys).length≤2097152:=by
     have:=zno (xs.take j) ys
     have:=List.length_take_le j xs
     have:=HL.out
     omega
    have HC:=Lib.hid (HMY.out wr HA.out.2 x)
    obtain ⟨r,hr⟩:∃ r,r=ys.contains x:=⟨_,rfl⟩
    rw [← hr] at HC etk
    have HT:=Lib.hid etk
    obtain ⟨l,hl⟩:∃ l,l=zd6 (xs.take j) ys:=⟨_,rfl⟩
    rw [← hl] at HA HT hlen
    clear hcj hcv e2 e3 hxj hr etk hl
    cases r with
    | true=>
      go_wp2_with (first
       |(go_at_call 76;(with_reducible refine HC.out.mono ?_);rintro e w1 ⟨rfl,q,rfl⟩
         have ho:(wr.drewN q).ownsRow W.heap.size 2 1 _ l.length (l.map (Value.int .i64)):=zgj HA.out.1
         have hb:Below W.heap.size W (wr.drewN q):=zbw HA.out.2 q
         generalize wr.drewN q=w1 at *)
       |(at_builtin;refine wpList_append_own_at _ rfl _ _ 77 rfl W.heap.size 2 i0 (.int .i64 0) 1 8 Tryz.underlying77 hi hz0 hz1 hz2 rfl (by decide) _ _ _ rfl (ho.alloc _) ⟨w1.heap.size,0,none⟩ 1 1 [.int .i64 x] rfl rfl (zbc w1 [.int .i64 x] 2) (by simp [Value.oneCell']) ?_ ?_ ?_ ?_))
      all_goals (try (first |(unfold maxLen;omega) | omega |(simp;have:=hb.size;omega)))
      intro v' w5 ho5 hg5 _ hloc5
      have hb5:Below W.heap.size W w5:=(hb.alloc hb.size _).grown hg5 (by have:=hb.size;simp;omega) (fun j e=>(ho.lt j e).1)
      have HB:=Lib.hid (show w5.ownsRow W.heap.size 2 1 v' (l++[x]).length ((l++[x]).map (Value.int .i64)) by rw [List.length_append,List.map_append];exact ho5)
      clear ho5 hg5 hloc5 ho hb
      go_wp2_with fail
      go_roundg (gk - 1)
      case measure=>omega
      case rel=>exact ⟨j+1,by omega,by go_num,Lib.hid (by rw [HT.out,if_pos (by trivial)];exact ⟨HB.out,hb5⟩)⟩
    | false=>
      go_wp2_with (first
       |(go_at_call 76;(with_reducible refine HC.out.mono ?_);rintro e w1 ⟨rfl,q,rfl⟩
         have ho:(wr.drewN q).ownsRow W.heap.size 2 1 _ l.length (l.map (Value.int .i64)):=zgj HA.out.1
         have hb:Below W.heap.size W (wr.drewN q):=zbw HA.out.2 q
         generalize wr.drewN q=w1 at *))
      go_roundg (gk - 1)
      case measure=>omega
      case rel=>exact ⟨j+1,by omega,by go_num,Lib.hid (by rw [HT.out,if_neg (by simp),List.append_nil];exact ⟨ho,hb⟩)⟩
   ·have e:xs.take j=xs:=by rw [List.take_of_length_le];have:=HL.out;omega
    have hA:=HA.out
    rw [e] at hA
    have HZ:=Lib.hid hA
    clear hA HA e
    go_wp2_with fail
    go_ret
    exact ⟨_,rfl,HZ.out⟩
end Go.Proofs.YtcfmenkigolnoaaGreatDoor

/- GAP -/
namespace Go.Proofs.YtcfmenkigolnoaaGreatDoor
open Go.RowKit
theorem zru (v:Value) (zs:List Int) (w:World) (h:zb9 w v zs) (hn:zs.length≤2097152):
 Calls Tryz.prog 63 #[v] w fun e w'=>∃ v',e=.returned v'∧w'.ownsRow w.heap.size 2 1 v' zs.length (zs.map (Value.int .i64))∧Below w.heap.size w w':=by
 obtain ⟨p,cap,rfl,h⟩:=h
 cases p with
 | none=>
   have:zs=[]:=by
    cases zs with
    | nil=>rfl
    | cons z l=>obtain ⟨g,off,e,_⟩:=h (by simp);cases e
   subst this
   refine (AnyG.slices_Clone_int_nil Tryz.cloneJ 0 cap w).mono ?_
   rintro e w' ⟨rfl,rfl⟩
   exact ⟨_,rfl,World.ownsRow_nil _ _ _ _,Below.refl _ _⟩
 | some a=>
   by_cases h0:zs=[]
   ·subst h0
    refine (AnyG.slices_Clone_int_zero Tryz.cloneJ a cap w).mono ?_
    rintro e w' ⟨v',rfl,ho,_,hb⟩
    exact ⟨v',rfl,ho,hb⟩
   ·obtain ⟨g,off,e,hc⟩:=h h0
    cases e
    refine (AnyG.slices_Clone_int Tryz.cloneJ g off zs.length cap zs w (Nat.le_refl _) (by omega) hc).mono ?_
    rintro e w' ⟨v',rfl,ho,_,hb⟩
    rw [List.take_length] at ho
    exact ⟨v',rfl,ho,hb⟩
theorem zg6 {κ:Type} [DecidableEq κ] (E F:List (κ × Int)) (x:κ):grp (E++F) x=grp E x++grp F x:=by
 unfold grp
 rw [List.filter_append,List.map_append]
theorem zkw {κ:Type} [DecidableEq κ] (f:Int→List (κ × Int)) (x:κ):(nums:List Int)→grp (nums.flatMap f) x=nums.flatMap fun i=>grp (f i) x
 | []=>rfl
 | i::l=>by rw [List.flatMap_cons,List.flatMap_cons,zg6,zkw f x l]
theorem zpi (p:Int→Bool):(nums:List Int)→(nums.flatMap fun i=>if p i=true then [i] else [])=nums.filter p
 | []=>rfl
 | i::l=>by
   rw [List.flatMap_cons,zpi p l]
   by_cases h:p i=true
   ·rw [if_pos h,List.filter_cons_of_pos h];rfl
   ·rw [if_neg h,List.filter_cons_of_neg h];rfl
def zff (l:List zaq) (t:ByteArray) (i:Int):Bool:=decide (bl t∈(zdm l i).map bl)
theorem zuz (i:Int) (x:List UInt8):(L:List (List UInt8))→L.Nodup→grp (L.map fun t=>(t,i)) x=if decide (x∈L)=true then [i] else []
 | [],_=>by simp [grp]
 | a::L,h=>by
   rw [List.nodup_cons] at h
   have ih:=zuz i x L h.2
   rw [List.map_cons,show ((a,i)::L.map fun t=>(t,i))=[(a,i)]++L.map (fun t=>(t,i)) from rfl,zg6,ih]
   by_cases e:a=x
   ·subst e
    have:decide (a∈L)=false:=decide_eq_false h.1
    simp [grp,this]
   ·have e2:¬ x=a:=fun q=>e q.symm
    simp [grp,e,e2]
theorem zu0 (l:List zaq) (nums:List Int) (t:ByteArray) (h:∀ i∈nums,((zdm l i).map bl).Nodup):grp (nums.flatMap (evN l)) (bl t)=nums.filter (zff l t):=by
 rw [zkw,← zpi]
 have:∀ i∈nums,grp (evN l i) (bl t)=if zff l t i=true then [i] else []:=fun i hi=>by
  have q:=zuz i (bl t) ((zdm l i).map bl) (h i hi)
  rw [List.map_map] at q
  exact q
 induction nums with
 | nil=>rfl
 | cons i r ih=>
   rw [List.flatMap_cons,List.flatMap_cons,this i (by simp),ih (fun j hj=>h j (by simp [hj])) (fun j hj=>this j (by simp [hj]))]
theorem zhm (nums:List Int) (p q:Int→Bool):zd6 (nums.filter p) (nums.filter q)=nums.filter fun i=>p i && q i:=by
 unfold zd6
 rw [List.filter_filter]
 refine List.filter_congr fun x hx=>?_
 have:(nums.filter q).contains x=q x:=by
  cases h:q x with
  | true=>simp [hx,h]
  | false=>simp [h]
 rw [this,Bool.and_comm]
theorem zpj (nums:List Int) (p q:Int→Bool):andL (nums.filter p) (nums.filter q)=nums.filter fun i=>p i && q i:=by
 unfold andL
 split
 ·rw [zhm]
  exact List.filter_congr fun x _=>Bool.and_comm _ _
 ·exact zhm nums p q
theorem znp {l:List zaq} {a:zaq} (hd:(l.map zaq.id).Nodup) (ha:a∈l) (h:(a.labels.map bl).Nodup):((zdm l a.id).map bl).Nodup:=by
 rw [zex hd ha]
 have e:(sortS a.labels).map bl=(a.labels.map bl).mergeSort leB:=by
  unfold sortS
  rw [List.map_map]
  exact (List.map_congr_left fun x _=>zqc x).trans (List.map_id _)
 rw [e]
 exact (List.mergeSort_perm _ _).nodup_iff.2 h
end Go.Proofs.YtcfmenkigolnoaaGreatDoor

/- GLB -/
namespace Go.Proofs.YtcfmenkigolnoaaGreatDoor
open Go.RowKit
theorem zero77 (w:World):(zeroValue 77).run Tryz.prog w=.ok (.slice none 0 0) w:=by kernel_rfl
def zez (g:zaw):List Int:=(g.nodes.map zaq.id).mergeSort leI
def zcp (g:zaw) (ls:List ByteArray):List Int:=(zez g).filter fun i=>ls.all fun t=>zff g.nodes t i
theorem znq (g:zaw):(zez g).Pairwise (·≤·):=by
 have:=List.pairwise_mergeSort (le:=leI) zio zj2 (g.nodes.map zaq.id)
 exact this.imp fun h=>by simpa [leI] using h
theorem zgk (g:zaw):(zez g).length=g.nodes.length:=by unfold zez;rw [List.length_mergeSort,List.length_map]
theorem zds (l:List Int) (p:Int→Bool) (n:Nat) (h:l.length≤n):(l.filter p).length≤n:=Nat.le_trans (List.length_filter_le _ _) h
theorem znr (g:zaw) (ls:List ByteArray):zcp g (setS ls)=zcp g ls:=by
 unfold zcp
 refine List.filter_congr fun i _=>?_
 rw [Bool.eq_iff_iff]
 simp only [List.all_eq_true,zgf]
theorem zxq (p:ByteArray→Bool) (L:List ByteArray) (j:Nat) (hj:j < L.length):(L.take (j+1)).all p=((L.take j).all p && p L[j]):=by
 rw [List.take_succ_eq_append_getElem hj,List.all_append]
 simp
set_option maxHeartbeats 6400000 in
set_option maxRecDepth 20000 in
theorem zns (W:World) (s:Nat) (g:zaw) (h:zcz W s g) (hd:(g.nodes.map zaq.id).Nodup) (hl:∀ a∈g.nodes,(a.labels.map bl).Nodup) (hn:g.nodes.length≤131072) (v:Value) (ls:List ByteArray) (hv:zcd W v ls) (hls:ls.length≤2097152) (ht:∀ t∈ls,t.size≤2097152):
 Calls Tryz.prog 31 #[.pointer (some ⟨s,0,none⟩),v] W fun e w'=>∃ R,e=.returned R∧w'.ownsRow W.heap.size 2 1 R (zcp g ls).length ((zcp g ls).map (Value.int .i64))∧Below W.heap.size W w':=by
 have hI:∀ i∈zez g,((zdm g.nodes i).map bl).Nodup:=fun i hi=>by
  obtain ⟨a,ha,rfl⟩:=List.mem_map.1 (List.mem_mergeSort.1 hi)
  exact znp hd ha (hl a ha)
 obtain ⟨nums,hnums⟩:∃ nums,nums=zez g:=⟨_,rfl⟩
 have hnl:nums.length≤131072:=by rw [hnums,zgk];exact hn
 have hns:nums.Pairwise (·≤·):=by rw [hnums];exact znq g
 have hS:=zit v ls W hv hls
 obtain ⟨L,hL⟩:∃ L,L=setS ls:=⟨_,rfl⟩
 rw [← hL] at hS
 have hLz:L.length≤2097152:=by rw [hL];unfold setS;rw [List.length_map];exact Nat.le_trans (zgb _) (by rw [List.length_map];exact hls)
 have hLt:∀ t∈L,t.size≤2097152:=fun t q=>ht t ((zgf ls t).1 (by rw [← hL];exact q))
 rw [← znr,← hL]
 have eL:zcp g L=nums.filter fun i=>L.all fun t=>zff g.nodes t i:=by rw [hnums];rfl
 rw [eL]
 rw [← hnums] at hI
 have HST:=Lib.hid h
 have HI:=Lib.hid hI
 have HS:=Lib.hid hS
 have HLT:=Lib.hid hLt
 have HNS:=Lib.hid hns
 obtain ⟨m0,m1,m4,m5,V2,V3,q0,_,_,q3,_,_,_⟩:=h.is
 have iv:=za4 q3
 have e2:(g.nodes.map zaq.id).mergeSort leI=nums:=hnums.symm
 rw [e2] at iv
 have c2:=zac q0 2 rfl
 have HIV:=Lib.hid iv
 have HNU:=Lib.hid hnums
 clear hd hl hn hv hls ht hI hS hLt hns eL hL iv q3 h e2 hnums
 go_enter Tryz.func31,Tryz.ntmps31
 go_wp2_with (first
  |(go_at_call 53;(with_reducible refine HS.out.mono ?_);rintro e w1 ⟨V,rfl,hV,hb1⟩
    obtain ⟨pV,cV,rfl⟩:=zba hV))
 obtain ⟨m,hm⟩:∃ m,m=L.length:=⟨_,rfl⟩
 have hT:=zis hV
 rw [← hm] at hT ⊢
 have HT:=Lib.hid hT
 have HM:=Lib.hid hm
 have HB1:=Lib.hid hb1
 have hmz:m≤2097152:=by omega
 clear hV hT hm hb1 c2 q0
 go_loopg [5,15] m (fun gg s5 s15 wr=>∃ j:Nat,j+gg=m∧s15=.int .i64 j∧Hid (zb9 wr s5 (nums.filter fun i=>(L.take j).all fun t=>zff g.nodes t i)∧Below w1.heap.size w1 wr))
 case atStart=>exact ⟨0,by omega,rfl,Lib.hid ⟨by have q:=HIV.out.below HB1.out;rwa [show (nums.filter fun i=>(L.take 0).all fun t=>zff g.nodes t i)=nums from List.filter_eq_self.2 (by simp)],Below.refl _ _⟩⟩
 case round=>
  obtain ⟨j,hjg,rfl,HA⟩:=hrel
  by_cases hj:(j:Int) < m
  ·have hj1:j < L.length:=by have:=HM.out;omega
   obtain ⟨pp,cc,e0,hcv⟩:=HT.out.below HA.out.2
   injection e0 with e1 e2 e3
   subst e1
   obtain ⟨g2,off,rfl,hcj⟩:=hcv (by intro q;rw [q] at hj1;simp at hj1)
   obtain ⟨t,htj⟩:∃ t,t=L[j]:=⟨_,rfl⟩
   have cj:wr.cell? ⟨g2,off+j,none⟩=some (.string t):=by
    have:=hcj j (by simpa using hj1)
    rw [this,htj]
    simp [hj1,bl]
   have htz:=HLT.out t (by rw [htj];exact List.getElem_mem hj1)
   have st:=HST.out.below (zab HB1.out HA.out.2 HB1.out.size)
   obtain ⟨k0,k1,k4,k5,U2,U3,r0,_,_,_,_,r5,_⟩:=st.is
   have c4:=zac r0 4 rfl
   obtain ⟨nn,ff,hnn,hmap,h3,_⟩:=r5
   have hkey:keyOf Tryz.prog 9 (.string t)=some (.string (bl t)):=Go.WideMaps.keyOf_string_mk Tryz.underlying9 (by unfold maxLen;omega)
   have hrow:=za4 (zfq h3 (bl t))
   have e4:(g.nodes.map zaq.id).mergeSort leI=nums:=HNU.out.symm
   rw [e4,zu0 g.nodes nums t HI.out] at hrow
   have HC:=Lib.hid (andAt _ _ _ _ wr HA.out.1 hrow (HNS.out.filter _) (HNS.out.filter _) (zds _ _ _ (by omega)) (zds _ _ _ (by omega)))
   rw [zpj] at HC
   have etk:(nums.filter fun i=>((L.take j).all fun t=>zff g.nodes t i) && zff g.nodes t i)=nums.filter fun i=>(L.take (j+1)).all fun t=>zff g.nodes t i:=by
    refine List.filter_congr fun i _=>?_
    rw [zxq _ L j hj1,htj]
   rw [etk] at HC
   obtain ⟨v0,hv0⟩:∃ v0,v0=(ff (.string (bl t))).getD (.slice none 0 0):=⟨_,rfl⟩
   rw [← hv0] at HC
   have HV0:=Lib.hid hv0
   clear hv0
   clear hcj hcv e2 e3 htj etk hrow h3 hnn st htz e4
   go_wp2_with (first
    |(at_lookup;refine zb6 rfl _ _ 75 rfl 9 77 law9 Tryz.underlying75 (zero77 _) k4 nn rfl hmap _ (.string (bl t)) rfl hkey trivial ?_;rw [← HV0.out])
    |(go_at_call 62;(with_reducible refine HC.out.mono ?_);rintro e w3 ⟨R,rfl,hR,hb3⟩))
   have hAN:=Lib.hid (And.intro (za4 hR) (zab HA.out.2 hb3 HA.out.2.size))
   go_roundg (gk - 1)
   case measure=>omega
   case rel=>exact ⟨j+1,by omega,by go_num,hAN⟩
  ·have e:L.take j=L:=by rw [List.take_of_length_le];have:=HM.out;omega
   have hA:=HA.out
   rw [e] at hA
   have HC:=Lib.hid (zru _ _ wr hA.1 (zds _ _ _ (by omega)))
   have HB:=Lib.hid (zab HB1.out hA.2 HB1.out.size)
   clear hA HA e
   go_wp2_with (first
    |(go_at_call 63;(with_reducible refine HC.out.mono ?_);rintro e w3 ⟨R,rfl,hR,hb3⟩))
   go_ret
   exact ⟨_,rfl,zbr hR HB.out.size,zab HB.out hb3 HB.out.size⟩
end Go.Proofs.YtcfmenkigolnoaaGreatDoor

/- GEN -/
namespace Go.Proofs.YtcfmenkigolnoaaGreatDoor
open Go.RowKit
set_option maxHeartbeats 3200000 in
set_option maxRecDepth 20000 in
theorem zgl (V U:Value) (xs ys:List Int) (W:World) (hx:zb9 W V xs) (hy:zb9 W U ys) (hn:xs.length≤2097152):
 Calls Tryz.prog 24 #[V,U] W fun e w'=>e=.returned (.bool (decide (xs=ys)))∧Below W.heap.size W w':=by
 obtain ⟨p1,c1,rfl,hc1⟩:=hx
 obtain ⟨p2,c2,rfl,hc2⟩:=hy
 obtain ⟨n,hl1⟩:∃ n,n=xs.length:=⟨_,rfl⟩
 obtain ⟨m,hl2⟩:∃ m,m=ys.length:=⟨_,rfl⟩
 obtain ⟨r,hr⟩:∃ r,r=decide (xs=ys):=⟨_,rfl⟩
 rw [← hr,← hl1,← hl2]
 rw [← hl1] at hn
 have HC1:=Lib.hid hc1
 have HC2:=Lib.hid hc2
 have HR:=Lib.hid hr
 have HL:=Lib.hid (And.intro hl1 hl2)
 clear hc1 hc2 hr hl1 hl2
 by_cases e:n=m
 ·subst e
  go_enter Tryz.func24,Tryz.ntmps24
  go_wp2_with fail
  go_loopg [5] n (fun gg s5 wr=>∃ j:Nat,j+gg=n∧s5=.int .i64 j∧Hid ((∀ (t:Nat) (h1:t < xs.length) (h2:t < ys.length),t < j→xs[t]=ys[t])∧wr.heap=W.heap∧Below W.heap.size W wr))
  case atStart=>exact ⟨0,by omega,rfl,Lib.hid ⟨fun t _ _ h=>by omega,rfl,Below.refl _ _⟩⟩
  case round=>
   obtain ⟨j,hjg,rfl,HA⟩:=hrel
   by_cases hj:(j:Int) < n
   ·have hj1:j < xs.length:=by have:=HL.out;omega
    have hj2:j < ys.length:=by have:=HL.out;omega
    obtain ⟨g1,o1,rfl,hcj1⟩:=HC1.out (by intro q;rw [q] at hj1;simp at hj1)
    obtain ⟨g2,o2,rfl,hcj2⟩:=HC2.out (by intro q;rw [q] at hj2;simp at hj2)
    obtain ⟨x,hxj⟩:∃ x,x=xs[j]:=⟨_,rfl⟩
    obtain ⟨y,hyj⟩:∃ y,y=ys[j]:=⟨_,rfl⟩
    have C1:∀ W':World,W'.heap=W.heap→W'.cell? ⟨g1,o1+j,none⟩=some (.int .i64 x):=fun W' h=>by
     have q:=hcj1 j hj1
     unfold World.cell? at q ⊢
     rw [h,q,hxj]
     simp [hj1]
    have C2:∀ W':World,W'.heap=W.heap→W'.cell? ⟨g2,o2+j,none⟩=some (.int .i64 y):=fun W' h=>by
     have q:=hcj2 j hj2
     unfold World.cell? at q ⊢
     rw [h,q,hyj]
     simp [hj2]
    have hh:=HA.out.2.1
    have HXY:=Lib.hid (And.intro hxj hyj)
    clear hcj1 hcj2 hxj hyj
    go_upto_region 6 with fail
    refine wp_region_held_drew (S:=fun W'=>W'.heap=W.heap) (by kernel_rfl) hh (fun _=>?_)
    refine tg (i:=0) (.slice (some ⟨g1,o1,none⟩) n c1) rfl (hh) ?_
    refine tg (i:=1) (.int .i64 (j:Int)) rfl (hh) ?_
    refine tg (i:=4) (.slice (some ⟨g2,o2,none⟩) n c2) rfl (hh) ?_
    refine tg (i:=5) (.int .i64 (j:Int)) rfl (hh) ?_
    refine tg (i:=2) (.pointer (some ⟨g1,o1+j,none⟩)) rfl (hh) ?_
    refine tg (i:=6) (.pointer (some ⟨g2,o2+j,none⟩)) rfl (hh) ?_
    refine tk (i:=3) (v:=.int .i64 x) rfl (Or.inl ⟨by rfl,fun W' h=>by have q:=C1 W' h;go_simp⟩) (hh) ?_
    refine tk (i:=7) (v:=.int .i64 y) rfl (Or.inl ⟨by rfl,fun W' h=>by have q:=C2 W' h;go_simp⟩) (hh) ?_
    refine tk (i:=8) (v:=.bool (x != y)) rfl (Or.inl ⟨by rfl,fun W _=>by go_simp;try rfl⟩) (hh) ?_
    refine wpAnyH_done (by kernel_rfl) ?_ _
    by_cases q:x=y
    ·have q2:(x != y)=false:=by simpa using q
     rw [q2]
     have HZ:Hid ((∀ (t:Nat) (h1:t < xs.length) (h2:t < ys.length),t < j+1→xs[t]=ys[t])∧wr.drew.heap=W.heap∧Below W.heap.size W wr.drew):=Lib.hid ⟨fun t h1 h2 h=>by
      by_cases e:t=j
      ·subst e
       rw [← HXY.out.1,← HXY.out.2]
       exact q
      ·exact HA.out.1 t h1 h2 (by omega),hh,HA.out.2.2.drew⟩
     clear q q2 hh C1 C2
     go_wp2_with fail
     go_roundg (gk - 1)
     case measure=>omega
     case rel=>exact ⟨j+1,by omega,by go_num,HZ⟩
    ·have q2:(x != y)=true:=by simpa using q
     rw [q2]
     have hf:Hid (r=false):=Lib.hid <| by
      rw [HR.out]
      refine decide_eq_false fun e=>q ?_
      rw [HXY.out.1,HXY.out.2]
      subst e
      rfl
     have HB:=Lib.hid (HA.out.2.2.drew)
     clear q q2 hh C1 C2
     go_wp2_with fail
     go_ret
     exact ⟨by rw [hf.out];rfl,HB.out⟩
   ·have ht:Hid (r=true):=Lib.hid <| by
     rw [HR.out]
     refine decide_eq_true ?_
     have:=HL.out
     exact List.ext_getElem (by omega) fun t h1 h2=>HA.out.1 t h1 h2 (by omega)
    go_wp2_with fail
    go_ret
    exact ⟨by rw [ht.out];rfl,HA.out.2.2⟩
 ·have hf:Hid (r=false):=Lib.hid <| by
   rw [HR.out]
   refine decide_eq_false fun q=>e ?_
   have:=HL.out
   rw [this.1,this.2,q]
  have e3:¬ (n:Int)=m:=by omega
  go_enter Tryz.func24,Tryz.ntmps24
  go_wp2_with fail
  go_ret
  exact ⟨by rw [hf.out];rfl,Below.refl _ _⟩
end Go.Proofs.YtcfmenkigolnoaaGreatDoor

/- GHP -/
namespace Go.Proofs.YtcfmenkigolnoaaGreatDoor
open Go.RowKit
theorem zqo {κ:Type} [DecidableEq κ] (i:Int) (x:κ):(L:List κ)→L.Nodup→grp (L.map fun t=>(t,i)) x=if decide (x∈L)=true then [i] else []
 | [],_=>by simp [grp]
 | a::L,h=>by
   rw [List.nodup_cons] at h
   have ih:=zqo i x L h.2
   rw [List.map_cons,show ((a,i)::L.map fun t=>(t,i))=[(a,i)]++L.map (fun t=>(t,i)) from rfl,zg6,ih]
   by_cases e:a=x
   ·subst e
    have:decide (a∈L)=false:=decide_eq_false h.1
    simp [grp,this]
   ·have e2:¬ x=a:=fun q=>e q.symm
    simp [grp,e,e2]
theorem zpk (s d:Int):(zdk s d).Nodup:=by
 unfold zdk
 by_cases h:d=s
 ·subst h
  simp
 ·have h2:¬ s=d:=fun q=>h q.symm
  simp [h,h2]
theorem zrv {s d:Int} (h1:(Lit.int .i64 s).wf=true) (h2:(Lit.int .i64 d).wf=true):((zdk s d).map mkW).Nodup:=by
 have e:((zdk s d).map mkW).map Subtype.val=zdk s d:=by
  rw [List.map_map]
  exact (List.map_congr_left fun p hp=>zql (zh4 h1 h2 p hp)).trans (List.map_id _)
 have q:=zpk s d
 rw [← e] at q
 exact List.Pairwise.of_map Subtype.val (fun a b h r=>h (by rw [r])) q
def zi0 (l:List zas) (w:Way) (i:Int):Bool:=decide (w∈(zdw l i).map mkW)
theorem grp_way (l:List zas) (nums:List Int) (w:Way) (h:∀ i∈nums,((zdw l i).map mkW).Nodup):grp (nums.flatMap (evE l)) w=nums.filter (zi0 l w):=by
 rw [zkw,← zpi]
 have:∀ i∈nums,grp (evE l i) w=if zi0 l w i=true then [i] else []:=fun i hi=>by
  have q:=zqo i w ((zdw l i).map mkW) (h i hi)
  rw [List.map_map] at q
  unfold evE zi0
  exact q.trans (by congr)
 induction nums with
 | nil=>rfl
 | cons i r ih=>
   rw [List.flatMap_cons,List.flatMap_cons,this i (by simp),ih (fun j hj=>h j (by simp [hj])) (fun j hj=>this j (by simp [hj]))]
theorem zjs {l:List zas} (hd:(l.map zas.id).Nodup) {a:zas} (ha:a∈l) (h1:(Lit.int .i64 a.src).wf=true) (h2:(Lit.int .i64 a.dst).wf=true):((zdw l a.id).map mkW).Nodup:=by
 rw [zey hd ha]
 exact zrv h1 h2
end Go.Proofs.YtcfmenkigolnoaaGreatDoor
