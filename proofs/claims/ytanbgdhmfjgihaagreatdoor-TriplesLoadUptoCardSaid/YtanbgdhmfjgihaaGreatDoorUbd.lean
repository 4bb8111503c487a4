/- Texts of one kind, one behind the other: each says ahead of itself what it shows. -/
import Derived.Test.YtanbgdhmfjgihaaGreatDoorUbc
import Derived.Test.YtanbgdhmfjgihaaGreatDoorUbb
namespace Go.Proofs.YtanbgdhmfjgihaaGreatDoor
open Go.RowKit
set_option maxHeartbeats 12800000
set_option maxRecDepth 20000
def SM.hit (s:SM) (k:Nat) (b:Nat→Bool) (u:Nat→Val) (m x:Nat):Prop:=∀ v,v < m→b v=false→s.part k v x=u v
def cnt (b:Nat→Bool):Nat→Nat
 | 0=>0
 | m+1=>match b m with | true=>cnt b m | false=>cnt b m+1
theorem zs7 (b:Nat→Bool):(m:Nat)→cnt b m≤m
 | 0=>Nat.le_refl _
 | m+1=>by
   have:=zs7 b m
   unfold cnt
   split <;> omega
theorem cnt_no {b:Nat→Bool} {m:Nat} (h:b m=false):cnt b (m+1)=cnt b m+1:=by
 rw [cnt,h]
theorem cnt_yes {b:Nat→Bool} {m:Nat} (h:b m=true):cnt b (m+1)=cnt b m:=by
 rw [cnt]
 rw [h]
def zus (k d:Nat):Nat:=match d with | 0=>(lev k).1 | 1=>(lev k).2.1 | _=>(lev k).2.2
theorem zrw (b:Nat→Bool) (m:Nat) (hm:m < 3) (h:b m=false):zus (ahd b) (cnt b m)=m:=by
 obtain rfl | rfl | rfl:m=0∨m=1∨m=2:=by omega
 all_goals
  revert h
  simp only [cnt]
  unfold ahd
  cases b 0 <;> cases b 1 <;> cases b 2 <;> intro h <;> first | rfl | cases h
section
variable {l:List Tri3} {s:SM} {k:Nat} {c:CS} {b:Nat→Bool} {u:Nat→Val} {m:Nat}
theorem zqd (h:b m=false) (x:Nat):s.hit k b u (m+1) x↔s.hit k b u m x∧s.part k m x=u m:=by
 constructor
 ·intro q
  exact ⟨fun v hv hb=>q v (by omega) hb,q m (by omega) h⟩
 ·rintro ⟨q1,q2⟩ v hv hb
  by_cases e:v=m
  ·subst e;exact q2
  ·exact q1 v (by omega) hb
theorem hit_yes (h:b m=true) (x:Nat):s.hit k b u (m+1) x↔s.hit k b u m x:=by
 constructor
 ·intro q v hv hb
  exact q v (by omega) hb
 ·intro q v hv hb
  by_cases e:v=m
  ·subst e;rw [h] at hb;cases hb
  ·exact q v (by omega) hb
structure Have (s:SM) (k:Nat) (b:Nat→Bool) (u:Nat→Val) (m:Nat) (c:CS):Prop where
 d:c.d=cnt b m
 hit:∀ x,x < c.n→((c.lo≤x∧x < c.hi s k)↔s.hit k b u m x)
theorem zzp (sp:Nat) (pl:Option Addr) (n cl:Nat):Have s k b u 0 (zs0 sp pl n cl k):=
 ⟨rfl,fun x hx=>⟨fun _ v hv=>absurd hv (by omega),fun _=>⟨Nat.zero_le _,hx⟩⟩⟩
theorem zoa (h:b m=true) (H:Have s k b u m c):Have s k b u (m+1) c:=
 ⟨by rw [cnt_yes h];exact H.d,fun x hx=>(H.hit x hx).trans (hit_yes h x).symm⟩
theorem hi_le (h:Fit s k c):c.hi s k≤c.n:=by
 unfold CS.hi
 split
 ·exact Nat.le_refl _
 ·have hin:=h.in_ (by omega)
  have:=c.bot_in s k hin.1
  omega
theorem zxm (h:Fit s k c) (q:c.opens s k=true):(c.opn s k).d=c.d+1∧(c.opn s k).pos=c.lo∧(c.opn s k).fin=c.hi s k∧(c.opn s k).lev=zus k c.d∧(c.opn s k).n=c.n∧c.lo < c.hi s k:=by
 have q':c.d < 3∧c.lo < c.hi s k:=by unfold CS.opens at q;simpa using q
 rw [zs6 q]
 have h0:=h.l0
 have h1:=h.l1
 have h2:=h.l2
 clear q h
 generalize c.hi s k=hi at*
 generalize c.lo=lo at*
 obtain ⟨sp,pl,n,cl,l0,l1,l2,a0,e0,a1,e1,a2,e2,d⟩:=c
 simp only at q' h0 h1 h2
 obtain ⟨q1,q2⟩:=q'
 obtain rfl | rfl | rfl:d=0∨d=1∨d=2:=by omega
 ·exact ⟨rfl,rfl,rfl,h0,rfl,q2⟩
 ·exact ⟨rfl,rfl,rfl,h1,rfl,q2⟩
 ·exact ⟨rfl,rfl,rfl,h2,rfl,q2⟩
theorem zlo (hd:c.d < 3) (q:c.opens s k=false) (H:Have s k b u m c) (hb:b m=false):∀ x,x < c.n→¬ s.hit k b u (m+1) x:=fun x hx hh=>by
 have:=(H.hit x hx).2 ((zqd hb x).1 hh).1
 unfold CS.opens at q
 rw [decide_eq_true hd,decide_eq_true (by omega)] at q
 cases q
theorem zfk (ok:SMok s) (k v x:Nat) (hx:x < (s.ls k).length):∃ h:s.num k v x < s.vs.length,s.part k v x=s.vs[s.num k v x]:=by
 have:=s.num_lt ok k v x hx
 refine ⟨this,?_⟩
 unfold SM.part
 rw [List.getElem?_eq_getElem this,Option.getD_some]
theorem zlp (h:Fit s k c) (ok:SMok s) (so:zim s) (hk:k < 6) (H:Have s k b u m c) (hb:b m=false) (hlv:zus k c.d=m) (q:c.opens s k=true):
 (((c.opn s k).seek s k (u m)).on=false→∀ x,x < c.n→¬ s.hit k b u (m+1) x)∧
 (((c.opn s k).seek s k (u m)).on=true→((c.opn s k).seek s k (u m)).val s k≠u m→∀ x,x < c.n→¬ s.hit k b u (m+1) x)∧
 (((c.opn s k).seek s k (u m)).on=true→((c.opn s k).seek s k (u m)).val s k=u m→Have s k b u (m+1) ((c.opn s k).seek s k (u m))):=by
 obtain ⟨f1,f2,f3,f4,f5,f6⟩:=zxm h q
 have h':=h.opn
 have hn':=h'.n
 have hle:=hi_le h
 rw [hlv] at f4
 have H1:=H.d
 have H2:=H.hit
 obtain ⟨lo,hlo⟩:∃ lo,lo=c.lo:=⟨_,rfl⟩
 obtain ⟨hi,hhi⟩:∃ hi,hi=c.hi s k:=⟨_,rfl⟩
 rw [← hlo] at f2 f6 H2
 rw [← hhi] at f3 f6 H2 hle
 have hd1:1≤(c.opn s k).d:=by omega
 have hd3:=h'.d3
 rw [← f5] at H2 hle ⊢
 have hcd:cnt b (m+1)=(c.opn s k).d:=by rw [cnt_no hb,← H1,f1]
 clear hlo hhi H q H1 f1 h f5
 generalize c.opn s k=c1 at*
 have hon:c1.on=true:=CS.on_of hd1 (by omega)
 have hs:c1.seek s k (u m)=c1.go (c1.ahead s k (u m)):=by unfold CS.seek;rw [if_pos hon]
 have ha:=c1.ahead_in s k (u m) (by omega)
 rw [hs,CS.go_on c1 hd1 hd3]
 have hvs:Rise s.vs:=so.v
 have hless:∀ j,lo≤j→j < c1.ahead s k (u m)→s.part k m j≠u m:=fun j h1 h2 e=>by
  have y:=zdc (s.less (u m) k c1.lev) (c1.fin - c1.pos) c1.pos j (by omega) h2
  unfold SM.less at y
  rw [f4] at y
  change decide (za1 1 (s.part k m j) (u m) < 0)=true at y
  rw [e,zb9] at y
  simp at y
 have hnot:c1.ahead s k (u m) < hi→¬ za1 1 (s.part k m (c1.ahead s k (u m))) (u m) < 0:=fun hlt=>by
  have y:=zi3 (s.less (u m) k c1.lev) (c1.fin - c1.pos) c1.pos (by show c1.ahead s k (u m) < _;omega)
  change s.less (u m) k c1.lev (c1.ahead s k (u m))=false at y
  unfold SM.less at y
  rw [f4] at y
  exact of_decide_eq_false y
 have hrise:∀ i j,lo≤i→i≤j→j < hi→s.num k m i≤s.num k m j:=fun i j h1 h2 h3=>by
  have:=h'.rise so hk hd1 i j (by omega) h2 (by omega)
  rwa [f4] at this
 generalize hga:c1.ahead s k (u m)=a at*
 have hval:(c1.go a).val s k=s.part k m a:=by
  unfold CS.val
  rw [CS.go_pos c1 a hd1 hd3,CS.go_lev c1 a hd1 hd3,f4]
  rfl
 rw [hval]
 refine ⟨fun e x hx hh=>?_,fun e hne x hx hh=>?_,fun e he=>⟨?_,fun x hx=>?_⟩⟩
 ·have e':=of_decide_eq_false e
  obtain ⟨g1,g2⟩:=(zqd hb x).1 hh
  obtain ⟨g3,g4⟩:=(H2 x hx).2 g1
  exact hless x g3 (by omega) g2
 ·have e':=of_decide_eq_true e
  obtain ⟨g1,g2⟩:=(zqd hb x).1 hh
  obtain ⟨g3,g4⟩:=(H2 x hx).2 g1
  have g5:a≤x:=by
   rcases Nat.lt_or_ge x a with y | y
   ·exact absurd g2 (hless x g3 y)
   ·exact y
  have g7:=hrise a x (by omega) g5 (by omega)
  obtain ⟨p1,p2⟩:=zfk ok k m a (by omega)
  obtain ⟨p3,p4⟩:=zfk ok k m x (by omega)
  by_cases eq:s.num k m a=s.num k m x
  ·refine hne ?_
   rw [← g2,p2,p4]
   congr 1
  ·have:=(hvs.lt _ _ p1 p3).2 (by omega)
   rw [← p2,← p4,g2] at this
   exact hnot (by omega) this
 ·rw [hcd,CS.go_d]
 ·have e':=of_decide_eq_true e
  have hx':x < c1.n:=by rwa [show (c1.go a).n=c1.n from (c1.go_alike a).n] at hx
  have hlo2:(c1.go a).lo=a:=by
   unfold CS.lo
   rw [CS.go_d,if_neg (by omega),CS.go_pos c1 a hd1 hd3]
  have hhi2:(c1.go a).hi s k=gal (s.same k m a) a (hi - a):=by
   unfold CS.hi CS.bot
   rw [CS.go_d,if_neg (by omega),CS.go_pos c1 a hd1 hd3,CS.go_fin c1 a hd1 hd3,CS.go_lev c1 a hd1 hd3,f4,f3]
  rw [hlo2,hhi2]
  have b1:=zig (s.same k m a) (hi - a) a
  have b2:=zdo (s.same k m a) (hi - a) a
  obtain ⟨p1,p2⟩:=zfk ok k m a (by omega)
  constructor
  ·rintro ⟨x1,x2⟩
   have y:=SM.same_is (zdc (s.same k m a) (hi - a) a x x1 x2)
   refine (zqd hb x).2 ⟨(H2 x hx').1 ⟨by omega,by omega⟩,?_⟩
   rw [← he]
   unfold SM.part
   rw [y]
  ·intro hh
   obtain ⟨g1,g2⟩:=(zqd hb x).1 hh
   obtain ⟨g3,g4⟩:=(H2 x hx').2 g1
   obtain ⟨p3,p4⟩:=zfk ok k m x (by omega)
   have g5:a≤x:=by
    rcases Nat.lt_or_ge x a with y | y
    ·exact absurd g2 (hless x g3 y)
    ·exact y
   refine ⟨g5,?_⟩
   rcases Nat.lt_or_ge x (gal (s.same k m a) a (hi - a)) with y | y
   ·exact y
   ·have hno:=zi3 (s.same k m a) (hi - a) a (by omega)
    have eq:s.num k m x=s.num k m a:=by
     refine hvs.inj _ _ p3 p1 ?_
     rw [← p2,← p4,g2,he]
    have r1:=hrise a _ (by omega) b1 (by omega:gal (s.same k m a) a (hi - a) < hi)
    have r2:=hrise _ x (by omega) y (by omega)
    have:s.same k m a (gal (s.same k m a) a (hi - a))=true:=SM.same_of (by omega)
    rw [this] at hno
    cases hno
end
theorem zs8:(l m:List Nat)→l.Pairwise (· < ·)→m.Pairwise (· < ·)→(∀ x,x∈l↔x∈m)→l=m
 | [],[],_,_,_=>rfl
 | [],b::m,_,_,h=>absurd ((h b).2 (List.mem_cons_self ..)) (by simp)
 | a::l,[],_,_,h=>absurd ((h a).1 (List.mem_cons_self ..)) (by simp)
 | a::l,b::m,hl,hm,h=>by
   rw [List.pairwise_cons] at hl hm
   have hab:a=b:=by
    rcases List.mem_cons.1 ((h a).1 (List.mem_cons_self ..)) with e | e
    ·exact e
    ·rcases List.mem_cons.1 ((h b).2 (List.mem_cons_self ..)) with e2 | e2
     ·exact e2.symm
     ·have q1:=hm.1 a e
      have q2:=hl.1 b e2
      omega
   subst hab
   congr 1
   refine zs8 l m hl.2 hm.2 fun u=>?_
   constructor
   ·intro hu
    rcases List.mem_cons.1 ((h u).1 (List.mem_cons_of_mem _ hu)) with e | e
    ·subst e
     have:=hl.1 u hu
     omega
    ·exact e
   ·intro hu
    rcases List.mem_cons.1 ((h u).2 (List.mem_cons_of_mem _ hu)) with e | e
    ·subst e
     have:=hm.1 u hu
     omega
    ·exact e
def SM.val (s:SM) (v:Nat) (r:R3):Val:=(s.vs[r.at v]?).getD nulV
def SM.hasB (s:SM) (b:Nat→Bool) (u:Nat→Val) (r:R3):Bool:=(b 0 || za7 (s.val 0 r) (u 0)) && ((b 1 || za7 (s.val 1 r) (u 1)) && (b 2 || za7 (s.val 2 r) (u 2)))
theorem zxn {s:SM} {b:Nat→Bool} {u:Nat→Val} (hs:∀ v,b v=false→∀ a∈s.vs,za7 a (u v)=true↔a=u v) (r:R3) (hr:∀ v,r.at v < s.vs.length):
 s.hasB b u r=true↔∀ v,v < 3→b v=false→s.val v r=u v:=by
 have key:∀ v,(b v || za7 (s.val v r) (u v))=true↔(b v=false→s.val v r=u v):=fun v=>by
  cases e:b v with
  | true=>simp
  | false=>
    have hm:s.val v r∈s.vs:=by
     unfold SM.val
     rw [List.getElem?_eq_getElem (hr v),Option.getD_some]
     exact List.getElem_mem _
    simp only [Bool.false_or,true_implies]
    exact hs v e _ hm
 unfold SM.hasB
 rw [Bool.and_eq_true,Bool.and_eq_true,key 0,key 1,key 2]
 constructor
 ·rintro ⟨h0,h1,h2⟩ v hv
  obtain rfl | rfl | rfl:v=0∨v=1∨v=2:=by omega
  ·exact h0
  ·exact h1
  ·exact h2
 ·intro h
  exact ⟨h 0 (by omega),h 1 (by omega),h 2 (by omega)⟩
def SM.nums (s:SM) (b:Nat→Bool) (u:Nat→Val):List Nat:=(List.range s.rs.length).filter fun n=>s.hasB b u ((s.rs[n]?).getD default)
theorem zzq (b:Nat→Bool) (f g:Nat→Nat)
 (hcf:f (lev (ahd b)).1≤g (lev (ahd b)).1∧(f (lev (ahd b)).1=g (lev (ahd b)).1→f (lev (ahd b)).2.1≤g (lev (ahd b)).2.1∧(f (lev (ahd b)).2.1=g (lev (ahd b)).2.1→f (lev (ahd b)).2.2≤g (lev (ahd b)).2.2)))
 (hle:g 0≤f 0∧(g 0=f 0→g 1≤f 1∧(g 1=f 1→g 2≤f 2))) (n:∀ v,v < 3→b v=false→f v=g v):f 0=g 0∧f 1=g 1∧f 2=g 2:=by
 have n0:=n 0 (by omega)
 have n1:=n 1 (by omega)
 have n2:=n 2 (by omega)
 clear n
 revert hcf n0 n1 n2
 unfold ahd
 cases b 0 <;> cases b 1 <;> cases b 2 <;> simp only [lev,true_implies,reduceCtorEq,false_implies] <;> intros <;> omega
section
variable {l:List Tri3} {s:SM} {c:CS} {b:Nat→Bool} {u:Nat→Val}
theorem zxo (hl:zbf l s) (hn:l.length≤65536) (h:Fit s (ahd b) c) (H:Have s (ahd b) b u 3 c) (hs:∀ v,b v=false→∀ a∈s.vs,za7 a (u v)=true↔a=u v):
 ((s.ls (ahd b)).drop c.lo).take (c.hi s (ahd b) - c.lo)=s.nums b u:=by
 have hk:=zs4 b
 have ok:=hl.ok hn
 have hcn:=h.n
 have hle:=hi_le h
 have hlen:=hl.len (ahd b) hk
 have hvs:Rise s.vs:=hl.rise
 have hpart:∀ v x (hx:x < (s.ls (ahd b)).length),s.part (ahd b) v x=s.val v (s.rs[(s.ls (ahd b))[x]]'(hl.lt _ _ (List.getElem_mem hx))):=fun v x hx=>by
  unfold SM.part SM.val
  rw [s.num_eq _ v x hx (hl.lt _ _ (List.getElem_mem hx))]
 have hat:∀ r∈s.rs,∀ v,r.at v < s.vs.length:=fun r hr v=>ok.at r hr v
 refine zs8 _ _ ?_ (List.pairwise_lt_range.filter _) fun x=>?_
 ·rw [List.pairwise_iff_getElem]
  intro i j hi hj hij
  simp only [List.length_take,List.length_drop] at hi hj
  rw [List.getElem_take,List.getElem_take,List.getElem_drop,List.getElem_drop]
  have hi2:c.lo+i < (s.ls (ahd b)).length:=by omega
  have hj2:c.lo+j < (s.ls (ahd b)).length:=by omega
  have g1:=(H.hit (c.lo+i) (by omega)).1 ⟨by omega,by omega⟩
  have g2:=(H.hit (c.lo+j) (by omega)).1 ⟨by omega,by omega⟩
  have hcf:=hl.cf (ahd b) hk (c.lo+i) (c.lo+j) (by omega) hj2
  have hinj:=zzo hl (ahd b) hk (c.lo+i) (c.lo+j) hi2 hj2
  have hnum:∀ v,v < 3→b v=false→s.num (ahd b) v (c.lo+i)=s.num (ahd b) v (c.lo+j):=fun v hv hb=>by
   obtain ⟨p1,p2⟩:=zfk ok (ahd b) v (c.lo+i) hi2
   obtain ⟨p3,p4⟩:=zfk ok (ahd b) v (c.lo+j) hj2
   refine hvs.inj _ _ p1 p3 ?_
   rw [← p2,← p4,g1 v hv hb,g2 v hv hb]
  have l1:=hl.lt (ahd b) _ (List.getElem_mem hi2)
  have l2:=hl.lt (ahd b) _ (List.getElem_mem hj2)
  have e1:=fun v=>s.num_eq (ahd b) v (c.lo+i) hi2 l1
  have e2:=fun v=>s.num_eq (ahd b) v (c.lo+j) hj2 l2
  rcases Nat.lt_or_ge (s.ls (ahd b))[c.lo+i] (s.ls (ahd b))[c.lo+j] with y | y
  ·exact y
  ·exfalso
   have hrow:s.rs[(s.ls (ahd b))[c.lo+j]]=s.rs[(s.ls (ahd b))[c.lo+i]]∨R3.lt s.rs[(s.ls (ahd b))[c.lo+j]] s.rs[(s.ls (ahd b))[c.lo+i]]:=by
    rcases Nat.lt_or_ge (s.ls (ahd b))[c.lo+j] (s.ls (ahd b))[c.lo+i] with z | z
    ·exact .inr (List.pairwise_iff_getElem.1 hl.rows _ _ l2 l1 z)
    ·refine .inl ?_
     have:(s.ls (ahd b))[c.lo+j]=(s.ls (ahd b))[c.lo+i]:=by omega
     congr 1
   have hle2:s.num (ahd b) 0 (c.lo+j)≤s.num (ahd b) 0 (c.lo+i)∧(s.num (ahd b) 0 (c.lo+j)=s.num (ahd b) 0 (c.lo+i)→s.num (ahd b) 1 (c.lo+j)≤s.num (ahd b) 1 (c.lo+i)∧(s.num (ahd b) 1 (c.lo+j)=s.num (ahd b) 1 (c.lo+i)→s.num (ahd b) 2 (c.lo+j)≤s.num (ahd b) 2 (c.lo+i))):=by
    rw [e1 0,e1 1,e1 2,e2 0,e2 1,e2 2]
    rcases hrow with z | z
    ·rw [z]
     exact ⟨Nat.le_refl _,fun _=>⟨Nat.le_refl _,fun _=>Nat.le_refl _⟩⟩
    ·have:=zxa (Int.le_of_lt z)
     unfold R3.vr at this
     simp only at this
     exact ⟨by have:=this.1;simp only [R3.at];omega,fun q=>by
      have t:=this.2 (by simp only [R3.at] at q;omega)
      exact ⟨by have:=t.1;simp only [R3.at];omega,fun q2=>by have:=t.2 (by simp only [R3.at] at q2;omega);simp only [R3.at];omega⟩⟩
   have n0:=hnum 0 (by omega)
   have n1:=hnum 1 (by omega)
   have n2:=hnum 2 (by omega)
   obtain ⟨q0,q1,q2⟩:=zzq b (fun v=>s.num (ahd b) v (c.lo+i)) (fun v=>s.num (ahd b) v (c.lo+j)) hcf hle2 hnum
   have hall:∀ v,v < 3→s.num (ahd b) v (c.lo+i)=s.num (ahd b) v (c.lo+j):=fun v hv=>by
    obtain rfl | rfl | rfl:v=0∨v=1∨v=2:=by omega
    ·exact q0
    ·exact q1
    ·exact q2
   have hlv:=lev_lt (ahd b)
   have:=hinj (hall _ hlv.1) (hall _ hlv.2.1) (hall _ hlv.2.2)
   omega
 ·have hget:∀ p (hp:p < (s.ls (ahd b)).length),s.hit (ahd b) b u 3 p↔s.hasB b u (s.rs[(s.ls (ahd b))[p]]'(hl.lt _ _ (List.getElem_mem hp)))=true:=fun p hp=>by
   rw [zxn hs _ (hat _ (List.getElem_mem _))]
   constructor
   ·intro q v hv hb
    rw [← hpart v p hp]
    exact q v hv hb
   ·intro q v hv hb
    rw [hpart v p hp]
    exact q v hv hb
  unfold SM.nums
  rw [List.mem_filter,List.mem_range]
  constructor
  ·intro hx
   obtain ⟨i,hi,rfl⟩:=List.getElem_of_mem hx
   simp only [List.length_take,List.length_drop] at hi
   rw [List.getElem_take,List.getElem_drop]
   have hi2:c.lo+i < (s.ls (ahd b)).length:=by omega
   have hx2:=hl.lt (ahd b) _ (List.getElem_mem hi2)
   refine ⟨hx2,?_⟩
   rw [List.getElem?_eq_getElem hx2,Option.getD_some]
   exact (hget _ hi2).1 ((H.hit (c.lo+i) (by omega)).1 ⟨by omega,by omega⟩)
  ·rintro ⟨hx,hx2⟩
   rw [List.getElem?_eq_getElem hx,Option.getD_some] at hx2
   obtain ⟨p,hp,rfl⟩:=List.getElem_of_mem ((hl.nums (ahd b) hk).perm.mem_iff.2 (List.mem_range.2 hx))
   obtain ⟨g1,g2⟩:=(H.hit p (by omega)).2 ((hget p hp).2 hx2)
   refine List.mem_iff_getElem.2 ⟨p - c.lo,?_,?_⟩
   ·simp only [List.length_take,List.length_drop]
    omega
   ·rw [List.getElem_take,List.getElem_drop]
    congr 1
    omega
end
end Go.Proofs.YtanbgdhmfjgihaaGreatDoor
