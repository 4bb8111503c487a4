/- Texts of one kind, one behind the other: each says ahead of itself what it shows. -/
import Derived.Test.YtanbgdhmfjgihaaGreatDoorTbb
import Derived.Test.YtanbgdhmfjgihaaGreatDoorTba
import Derived.Test.YtanbgdhmfjgihaaGreatDoorTar
import Derived.Test.YtanbgdhmfjgihaaGreatDoorTaw
import Derived.Test.YtanbgdhmfjgihaaGreatDoorTav
namespace Go.Proofs.YtanbgdhmfjgihaaGreatDoor
open Go.RowKit
set_option maxHeartbeats 12800000
set_option maxRecDepth 20000
theorem ordV_eq {a b:Val} (ha:zcw a∧mayP a 0=true) (hb:zcw b∧mayP b 0=true) (h:zan 1 a b=0):a=b:=
 (zds ha.1 hb.1).1 (zc5 1 _ _ 0 0 ha.2 hb.2 h)
def putV (out:List Val) (k:Nat) (x:Val):List Val:=out.take k++x::out.drop k
theorem zrw (out:List Val) (k:Nat) (x:Val) (hk:k≤out.length):(putV out k x).length=out.length+1:=by
 unfold putV
 simp
 omega
structure InsV (src out:List Val):Prop where
 rise:Rise out
 mem:∀ u,u∈out↔u∈src
 len:out.length≤src.length
theorem InsV.zero:InsV [] []:=⟨fun i j _ h=>absurd h (by simp),by simp,Nat.le_refl _⟩
theorem InsV.skip {src out:List Val} {x:Val} (h:InsV src out) (hm:x∈out):InsV (src++[x]) out:=by
 refine ⟨h.rise,fun u=>?_,by have:=h.len;rw [List.length_append];omega⟩
 rw [List.mem_append,List.mem_singleton,← h.mem]
 constructor
 ·exact .inl
 ·rintro (e | e)
  ·exact e
  ·rw [e];exact hm
theorem InsV.put {src out:List Val} {x:Val} (h:InsV src out) (k:Nat) (hk:k≤out.length) (lo:∀ (h0:0 < k),zan 1 (out[k - 1]'(by omega)) x < 0) (up:∀ (j:Nat) (hj:j < out.length),k≤j→0 < zan 1 out[j] x):InsV (src++[x]) (putV out k x):=by
 have hr:=h.rise
 have lo':∀ (j:Nat) (hj:j < out.length),j < k→zan 1 out[j] x < 0:=fun j hj hjk=>by
  have q:=lo (by omega)
  by_cases e:j=k - 1
  ·subst e;exact q
  ·exact (zb6 1 _ _ _).tl (Int.le_of_lt (hr j (k - 1) (by omega) (by omega))) q
 refine ⟨Rise.of_pair ?_,fun t=>?_,by rw [zrw _ _ _ hk,List.length_append];have:=h.len;simp;omega⟩
 ·unfold putV
  have hp:=hr.pair
  rw [List.pairwise_append,List.pairwise_cons]
  refine ⟨hp.sublist (List.take_sublist _ _),⟨fun b hb=>?_,hp.sublist (List.drop_sublist _ _)⟩,fun a ha b hb=>?_⟩
  ·obtain ⟨j,hj,rfl⟩:=List.getElem_of_mem hb
   rw [List.getElem_drop]
   have q:=up (k+j) (by simpa using Nat.add_lt_of_lt_sub' (by simpa using hj)) (by omega)
   have q2:=zbb 1 (out[k+j]'(by simpa using Nat.add_lt_of_lt_sub' (by simpa using hj))) x
   omega
  ·obtain ⟨j,hj,rfl⟩:=List.getElem_of_mem ha
   rw [List.getElem_take]
   simp only [List.length_take] at hj
   have q:=lo' j (by omega) (by omega)
   rcases List.mem_cons.1 hb with rfl | hb
   ·exact q
   ·obtain ⟨j2,hj2,rfl⟩:=List.getElem_of_mem hb
    rw [List.getElem_drop]
    simp only [List.length_drop] at hj2
    exact hr j (k+j2) (by omega) (by omega)
 ·rw [List.mem_append,List.mem_singleton,← h.mem]
  unfold putV
  rw [List.mem_append,List.mem_cons]
  conv=>rhs;rw [← List.take_append_drop k out,List.mem_append]
  constructor
  ·rintro (e | e | e)
   ·exact .inl (.inl e)
   ·exact .inr e
   ·exact .inl (.inr e)
  ·rintro ((e | e) | e)
   ·exact .inl e
   ·exact .inr (.inr e)
   ·exact .inr (.inl e)
def zdt (t:Tri3):Nat→Val
 | 0=>t.s
 | 1=>t.p
 | _=>t.o
def selT (way:Nat→Val) (lv:Nat→Nat) (n:Nat) (t:Tri3):Bool:=(List.range n).all fun i=>zb8 (zdt t (lv i)) (way i)
theorem zpd (way:Nat→Val) (lv:Nat→Nat) (n:Nat) (t:Tri3):selT way lv (n+1) t=(selT way lv n t && zb8 (zdt t (lv n)) (way n)):=by
 unfold selT
 rw [List.range_succ,List.all_append]
 simp
def levN (k:Nat):Nat→Nat
 | 0=>(lev k).1
 | 1=>(lev k).2.1
 | _=>(lev k).2.2
theorem zda (k i:Nat):levN k i < 3:=by
 have:=lev_lt k
 unfold levN
 split
 ·exact this.1
 ·exact this.2.1
 ·exact this.2.2
def srcT (all:List Tri3) (way:Nat→Val) (lv:Nat→Nat) (n i:Nat):List Val:=((all.take i).filter (selT way lv n)).map fun t=>zdt t (lv n)
section
variable {all:List Tri3} {way:Nat→Val} {lv:Nat→Nat} {n i:Nat}
theorem zvq:srcT all way lv n 0=[]:=by unfold srcT;simp
theorem srcT_no (hi:i < all.length) (h:selT way lv n all[i]=false):srcT all way lv n (i+1)=srcT all way lv n i:=by
 unfold srcT
 rw [List.take_succ_eq_append_getElem hi,List.filter_append]
 simp [h]
theorem zhj (hi:i < all.length) (h:selT way lv n all[i]=true):srcT all way lv n (i+1)=srcT all way lv n i++[zdt all[i] (lv n)]:=by
 unfold srcT
 rw [List.take_succ_eq_append_getElem hi,List.filter_append]
 simp [h]
theorem zrx:(srcT all way lv n i).length≤i:=by
 unfold srcT
 rw [List.length_map]
 refine Nat.le_trans (List.length_filter_le _ _) ?_
 rw [List.length_take]
 omega
theorem znh {u:Val} (h:u∈srcT all way lv n i):∃ t∈all,u=zdt t (lv n):=by
 unfold srcT at h
 obtain ⟨t,ht,rfl⟩:=List.mem_map.1 h
 exact ⟨t,List.mem_of_mem_take (List.mem_filter.1 ht).1,rfl⟩
end
theorem zey {t:Tri3} (h:zbl t=true) (v:Nat):zcw (zdt t v)∧mayP (zdt t v) 0=true:=by
 have:=zcx h
 unfold zdt
 split
 ·exact this.1
 ·exact this.2.1
 ·exact this.2.2
def AccW (w:World) (out:List Val) (A:Value) (wr:World):Prop:=∃ d:List VE,d.map VE.val=out∧wr.ownsRow w.heap.size 39 6 A out.length (d.flatMap VE.enc)∧Below w.heap.size w wr
theorem zhw {w:World} {base n:Nat} {V:Value} {xs:List Value} (h:w.ownsRow base 39 6 V n xs):∃ pa ca,V=.slice pa n ca∧n≤ca∧(pa=none→n=0∧ca=0)∧∀ g o sp,pa=some ⟨g,o,sp⟩→o=0∧sp=none∧∀ (j:Nat) (u:Value),xs[j]?=some u→w.cell? ⟨g,j,none⟩=some u:=by
 have h1:=h.1
 rcases h.2 with ⟨rfl,rfl⟩ | ⟨g,cap,cur,rfl,hg,hh,hc,_⟩
 ·exact ⟨none,0,rfl,Nat.le_refl _,fun _=>⟨rfl,rfl⟩,fun _ _ _ e=>by cases e⟩
 ·refine ⟨_,cap,rfl,hc,fun e=>by (cases e),fun g' o sp e=>?_⟩
  cases e
  refine ⟨rfl,rfl,fun j u hu=>?_⟩
  have ht:j < n*6:=by
   have:=(List.getElem?_eq_some_iff.1 hu).1
   omega
  rw [h.cellAt j ht]
  exact hu
theorem ze7 (d:List VE) (k:Nat) (h:d.length=k):(d.flatMap VE.enc).length=k*6:=by
 have e:(d.flatMap VE.enc).length=6*d.length:=by
  clear h
  induction d with
  | nil=>rfl
  | cons a d ih=>rw [List.flatMap_cons,List.length_append,ih,List.length_cons];show 6+_=_;omega
 omega
theorem zpe {W:World} {d:List VE} {k:Nat} {pa:Option Addr} (h:SrcC W pa (d.flatMap VE.enc)) (hl:((d.take k).flatMap VE.enc).length=k*6):SrcC W (Option.map (fun x=>x.add (k*6)) pa) ((d.drop k).flatMap VE.enc):=fun ad e j u hu=>by
 cases pa with
 | none=>cases e
 | some a=>
   cases e
   rw [Addr.add_add]
   refine h a rfl _ u ?_
   rw [← List.take_append_drop k d,List.flatMap_append,List.getElem?_append_right (by omega),hl,show k*6+j - k*6=j by omega]
   exact hu
theorem zxi (pa:Option Addr) {m ca:Nat} (k:Nat) (h:∀ k,k≤m→pa=none→k=0∧m - k=0∧ca - k=0∧ca=0) (hk:k≤m):Option.map (fun x=>x.add (k*6)) pa=none→m - k=0∧ca - k=0:=fun e=>by
 cases pa with
 | none=>exact ⟨(h k hk rfl).2.1,(h k hk rfl).2.2.1⟩
 | some a=>cases e
theorem zvr {w:World} {base base' n:Nat} {V:Value} {xs:List Value} (h:w.ownsRow base' 39 6 V n xs) (hb:base≤base'):w.ownsRow base 39 6 V n xs:=by
 refine ⟨h.1,?_⟩
 rcases h.2 with h0 | ⟨g,cap,cur,e1,h1,h2⟩
 ·exact .inl h0
 ·exact .inr ⟨g,cap,cur,e1,Nat.le_trans hb h1,h2⟩
theorem AccW.put {w wo w6 w3:World} {out:List Val} {d:List VE} {u:Val} {e0:VE} {x:V6} {k N:Nat} {L:List Value} {v3:Value} (hd:d.map VE.val=out) (hbel:Below w.heap.size w wo) (b6:Below wo.heap.size wo w6) (b3:Below w6.heap.size w6 w3) (hk:k≤out.length)
 (h0:e0.v=x∧e0.val=u) (hown:w3.ownsRow w6.heap.size 39 6 v3 N L) (hN:N=out.length+1) (hL:L=(d.take k).flatMap VE.enc++[.int .i64 x.k,.bool x.b,.int .i64 x.n,.string x.t,.string x.x,.slice x.p x.len x.cap]++(d.drop k).flatMap VE.enc):AccW w (putV out k u) v3 w3:=by
 subst hN hL
 have s1:=hbel.size
 have s2:=b6.size
 refine ⟨d.take k++[e0]++d.drop k,?_,?_,hbel.trans ((b6.trans (b3.mono s2)).mono s1)⟩
 ·rw [List.map_append,List.map_append,List.map_take,List.map_drop,hd]
  unfold putV
  rw [List.append_assoc]
  simp [h0.2]
 ·rw [zrw _ _ _ hk,List.flatMap_append,List.flatMap_append]
  have e:[e0].flatMap VE.enc=[.int .i64 x.k,.bool x.b,.int .i64 x.n,.string x.t,.string x.x,.slice x.p x.len x.cap]:=by simp [VE.enc,h0.1]
  rw [e]
  exact zvr hown (by omega)
def SM.pt (s:SM) (k n j:Nat):Val:=s.part k (levN k n) j
structure Rng (s:SM) (k n lo hi:Nat) (w:Nat→Val):Prop where
 top:hi≤(s.ls k).length
 mem:∀ j,j < (s.ls k).length→((lo≤j∧j < hi)↔∀ i,i < n→s.pt k i j=w i)
section
variable {l:List Tri3} {s:SM} {k n lo hi:Nat} {w w':Nat→Val}
theorem zpf (ok:SMok s) (so:zdd s) {i j j':Nat} (hj:j < (s.ls k).length) (hj':j' < (s.ls k).length):s.pt k i j=s.pt k i j'↔s.num k (levN k i) j=s.num k (levN k i) j':=by
 have l1:=s.num_lt ok k (levN k i) j hj
 have l2:=s.num_lt ok k (levN k i) j' hj'
 unfold SM.pt SM.part
 rw [List.getElem?_eq_getElem l1,List.getElem?_eq_getElem l2,Option.getD_some,Option.getD_some]
 constructor
 ·have hv:Rise s.vs:=so.v
  exact hv.inj _ _ l1 l2
 ·intro e
  simp only [e]
theorem zvs (ok:SMok s) (so:zdd s) {i j j':Nat} (hj:j < (s.ls k).length) (hj':j' < (s.ls k).length) (h:s.num k (levN k i) j≤s.num k (levN k i) j'):zan 1 (s.pt k i j) (s.pt k i j')≤0:=by
 have l1:=s.num_lt ok k (levN k i) j hj
 have l2:=s.num_lt ok k (levN k i) j' hj'
 rcases Nat.lt_or_ge (s.num k (levN k i) j) (s.num k (levN k i) j') with h1 | h1
 ·unfold SM.pt SM.part
  rw [List.getElem?_eq_getElem l1,List.getElem?_eq_getElem l2,Option.getD_some,Option.getD_some]
  have hv:Rise s.vs:=so.v
  exact Int.le_of_lt ((hv.lt _ _ l1 l2).2 h1)
 ·rw [(zpf ok so hj hj').2 (by omega),zb5]
  omega
theorem Rng.zero:Rng s k 0 0 (s.ls k).length w:=⟨Nat.le_refl _,fun j hj=>⟨fun _ i hi=>absurd hi (by omega),fun _=>⟨Nat.zero_le _,hj⟩⟩⟩
theorem Rng.congr (h:Rng s k n lo hi w) (e:∀ i,i < n→w i=w' i):Rng s k n lo hi w':=⟨h.top,fun j hj=>by
 rw [h.mem j hj]
 constructor
 ·intro q i hi
  rw [q i hi,e i hi]
 ·intro q i hi
  rw [q i hi,e i hi]⟩
theorem Rng.sort (h:Rng s k n lo hi w) (ok:SMok s) (so:zdd s) (hk:k < 6) (hn:n < 3) (j j':Nat) (h1:lo≤j) (h2:j≤j') (h3:j' < hi):s.num k (levN k n) j≤s.num k (levN k n) j':=by
 have ht:=h.top
 have hj':j' < (s.ls k).length:=by omega
 have hj:j < (s.ls k).length:=by omega
 have q:=(h.mem j hj).1 ⟨h1,by omega⟩
 have q':=(h.mem j' hj').1 ⟨by omega,h3⟩
 have eq:∀ i,i < n→s.num k (levN k i) j=s.num k (levN k i) j':=fun i hi=>(zpf ok so hj hj').1 ((q i hi).trans (q' i hi).symm)
 obtain rfl | rfl | rfl:n=0∨n=1∨n=2:=by omega
 ·exact so.m0 k hk j j' h2 hj'
 ·exact so.m1 k hk j j' h2 hj' (eq 0 (by omega))
 ·exact so.m2 k hk j j' h2 hj' (eq 0 (by omega)) (eq 1 (by omega))
theorem Rng.next (h:Rng s k n lo hi w) (ok:SMok s) (so:zdd s) (hk:k < 6) (hn:n < 3) (a:Nat) (h1:lo≤a) (h2:a < hi) (fi:∀ j,lo≤j→j < a→s.num k (levN k n) j≠s.num k (levN k n) a) (hw:w n=s.pt k n a):
 Rng s k (n+1) a (gal (s.same k (levN k n) a) a (hi - a)) w:=by
 have ht:=h.top
 have g1:=zh0 (s.same k (levN k n) a) (hi - a) a
 have g2:=zdc (s.same k (levN k n) a) (hi - a) a
 refine ⟨by omega,fun j hj=>?_⟩
 constructor
 ·rintro ⟨q1,q2⟩ i hi2
  by_cases e:i=n
  ·subst e
   have:=zct (s.same k (levN k i) a) (hi - a) a j q1 q2
   rw [hw]
   exact (zpf ok so hj (by omega)).2 (SM.same_is this)
  ·exact (h.mem j hj).1 ⟨by omega,by omega⟩ i (by omega)
 ·intro q
  have hr:=(h.mem j hj).2 fun i hi2=>q i (by omega)
  have e:=(zpf ok so hj (by omega:a < (s.ls k).length)).1 ((q n (by omega)).trans hw)
  have hge:a≤j:=by
   rcases Nat.lt_or_ge j a with c | c
   ·exact absurd e (fi j hr.1 c)
   ·exact c
  refine ⟨hge,?_⟩
  rcases Nat.lt_or_ge j (gal (s.same k (levN k n) a) a (hi - a)) with c | c
  ·exact c
  ·have no:=zh1 (s.same k (levN k n) a) (hi - a) a (by omega)
   generalize gal (s.same k (levN k n) a) a (hi - a)=G at*
   have s1:=h.sort ok so hk hn a G h1 g1 (by omega)
   have s2:=h.sort ok so hk hn G j (by omega) c hr.2
   have:s.same k (levN k n) a G=true:=SM.same_of (by omega)
   rw [no] at this
   cases this
theorem zvt (hl:zbe l s) (hok:∀ t∈l,zbl t=true) (hk:k < 6) (h:Rng s k n lo hi w) (u:Val):
 u∈srcT s.all w (levN k) n s.all.length↔∃ j,lo≤j∧j < hi∧u=s.pt k n j:=by
 have hlen:(s.ls k).length=s.all.length:=by rw [hl.len k hk];unfold SM.all;rw [List.length_map]
 have part_leaf:∀ j v,v < 3→zdt (s.leaf k j) v=s.part k v j:=fun j v hv=>by
  obtain rfl | rfl | rfl:v=0∨v=1∨v=2:=by omega
  ·rfl
  ·rfl
  ·rfl
 have hpl:∀ j v,j < (s.ls k).length→v < 3→zcw (s.part k v j):=fun j v hj hv=>by
  rw [← part_leaf j v hv]
  have:=zhh hl hok (znf hl k j hj)
  obtain rfl | rfl | rfl:v=0∨v=1∨v=2:=by omega
  ·exact this.1
  ·exact this.2.1
  ·exact this.2.2
 have hsel:∀ j,j < (s.ls k).length→(selT w (levN k) n (s.leaf k j)=true↔lo≤j∧j < hi):=fun j hj=>by
  rw [h.mem j hj]
  unfold selT
  rw [List.all_eq_true]
  constructor
  ·intro q i hi2
   have:=q i (List.mem_range.2 hi2)
   rw [part_leaf j _ (zda k i),zrs (hpl j _ hj (zda k i))] at this
   exact this
  ·intro q i hi2
   rw [part_leaf j _ (zda k i),zrs (hpl j _ hj (zda k i))]
   exact q i (List.mem_range.1 hi2)
 have hall:∀ t,t∈s.all↔∃ j,j < (s.ls k).length∧t=s.leaf k j:=fun t=>by
  constructor
  ·intro ht
   obtain ⟨r,hr,rfl⟩:=List.mem_map.1 ht
   obtain ⟨m,hm,rfl⟩:=List.getElem_of_mem hr
   have hp:=(hl.nums k hk).perm
   have:m∈s.ls k:=hp.mem_iff.2 (List.mem_range.2 hm)
   obtain ⟨j,hj,e⟩:=List.getElem_of_mem this
   refine ⟨j,hj,?_⟩
   rw [zrp hl k j hj]
   congr 1
   simp only [e]
  ·rintro ⟨j,hj,rfl⟩
   exact znf hl k j hj
 unfold srcT
 rw [List.take_length,List.mem_map]
 constructor
 ·rintro ⟨t,ht,rfl⟩
  obtain ⟨h1,h2⟩:=List.mem_filter.1 ht
  obtain ⟨j,hj,rfl⟩:=(hall t).1 h1
  obtain ⟨q1,q2⟩:=(hsel j hj).1 h2
  exact ⟨j,q1,q2,part_leaf j _ (zda k n)⟩
 ·rintro ⟨j,h1,h2,rfl⟩
  have hj:j < (s.ls k).length:=by have:=h.top;omega
  exact ⟨s.leaf k j,List.mem_filter.2 ⟨(hall _).2 ⟨j,hj,rfl⟩,(hsel j hj).2 ⟨h1,h2⟩⟩,part_leaf j _ (zda k n)⟩
theorem zpg {ks:List Val} {f:Nat→Val} (hr:Rise ks) (hm:∀ u,u∈ks↔∃ j,lo≤j∧j < hi∧u=f j) (hs:∀ j j',lo≤j→j≤j'→j' < hi→zan 1 (f j) (f j')≤0) (P:Val→Bool) (x:Nat) (h1:lo≤x) (hno:∀ j,lo≤j→j < x→j < hi→P (f j)=false):
 (x < hi→∃ i,∃ h:i < ks.length,ks[i]=f x∧∀ (i':Nat) (h':i' < i),P (ks[i']'(by omega))=false)∧(hi≤x→∀ (i:Nat) (h:i < ks.length),P ks[i]=false):=by
 constructor
 ·intro hx
  obtain ⟨i,hi2,e⟩:=List.getElem_of_mem ((hm (f x)).2 ⟨x,h1,hx,rfl⟩)
  refine ⟨i,hi2,e,fun i' h'=>?_⟩
  obtain ⟨j,q1,q2,q3⟩:=(hm (ks[i']'(by omega))).1 (List.getElem_mem _)
  have hlt:=hr i' i h' hi2
  rw [q3]
  rw [q3,e] at hlt
  refine hno j q1 ?_ q2
  rcases Nat.lt_or_ge j x with c | c
  ·exact c
  ·have:=hs x j h1 c q2
   have:=zbb 1 (f j) (f x)
   omega
 ·intro hx i hi2
  obtain ⟨j,q1,q2,q3⟩:=(hm ks[i]).1 (List.getElem_mem hi2)
  rw [q3]
  exact hno j q1 (by omega) q2
end
theorem partS (s p o:V6) (w:World):Calls Tryz.prog 92 #[.agg #[.int .i64 s.k,.bool s.b,.int .i64 s.n,.string s.t,.string s.x,.slice s.p s.len s.cap,.int .i64 p.k,.bool p.b,.int .i64 p.n,.string p.t,.string p.x,.slice p.p p.len p.cap,.int .i64 o.k,.bool o.b,.int .i64 o.n,.string o.t,.string o.x,.slice o.p o.len o.cap],.int .u8 115] w fun e w'=>e=.returned (.agg #[.int .i64 s.k,.bool s.b,.int .i64 s.n,.string s.t,.string s.x,.slice s.p s.len s.cap])∧Below w.heap.size w w':=by
 obtain ⟨W0,hW0⟩:∃ W0,W0=(w.alloc (.cells #[.int .i64 s.k,.bool s.b,.int .i64 s.n,.string s.t,.string s.x,.slice s.p s.len s.cap,.int .i64 p.k,.bool p.b,.int .i64 p.n,.string p.t,.string p.x,.slice p.p p.len p.cap,.int .i64 o.k,.bool o.b,.int .i64 o.n,.string o.t,.string o.x,.slice o.p o.len o.cap] 41)).alloc (.cells #[.int .i64 0,.bool false,.int .i64 0,.string ⟨#[]⟩,.string ⟨#[]⟩,.slice none 0 0] 39):=⟨_,rfl⟩
 have b0:Below w.heap.size w W0:=by rw [hW0];exact zfl _ _ _
 have B:za4 W0 w.heap.size s p o:=by rw [hW0];exact (zc9 _ rfl).alloc _
 have X:Six W0 (w.heap.size+1) 0 false 0 ⟨#[]⟩ ⟨#[]⟩ none 0 0:=by rw [hW0];exact zaf _ (by simp)
 have HW:=Lib.hid hW0
 have r0:=B.r0
 clear hW0 B
 go_enter Tryz.func92,Tryz.ntmps92
 go_upto_region 1 with fail
 rw [← HW.out]
 go_wp2_with (first
  |((with_reducible refine zal (.tmp 8) w.heap.size 0 s r0 ?_ ?_ ?_ ?_);rfl;rfl;rfl)
  |((with_reducible refine zat (k':=s.k) (b':=s.b) (n':=s.n) (t':=s.t) (x':=s.x) (p':=s.p) (len':=s.len) (cap':=s.cap) (.tmp 4) (.tmp 9) (w.heap.size+1) X ?_ ?_ ?_ ?_ ?_);rfl;rfl;rfl;rfl;intro w5 ho5 hX5))
 exact bodyPost_ret (v:=.agg #[.int .i64 s.k,.bool s.b,.int .i64 s.n,.string s.t,.string s.x,.slice s.p s.len s.cap]) (zdg Tryz.results92 _ rfl hX5) rfl ⟨rfl,zag b0 ho5 (by omega) b0.size⟩
theorem partP (s p o:V6) (w:World):Calls Tryz.prog 92 #[.agg #[.int .i64 s.k,.bool s.b,.int .i64 s.n,.string s.t,.string s.x,.slice s.p s.len s.cap,.int .i64 p.k,.bool p.b,.int .i64 p.n,.string p.t,.string p.x,.slice p.p p.len p.cap,.int .i64 o.k,.bool o.b,.int .i64 o.n,.string o.t,.string o.x,.slice o.p o.len o.cap],.int .u8 112] w fun e w'=>e=.returned (.agg #[.int .i64 p.k,.bool p.b,.int .i64 p.n,.string p.t,.string p.x,.slice p.p p.len p.cap])∧Below w.heap.size w w':=by
 obtain ⟨W0,hW0⟩:∃ W0,W0=(w.alloc (.cells #[.int .i64 s.k,.bool s.b,.int .i64 s.n,.string s.t,.string s.x,.slice s.p s.len s.cap,.int .i64 p.k,.bool p.b,.int .i64 p.n,.string p.t,.string p.x,.slice p.p p.len p.cap,.int .i64 o.k,.bool o.b,.int .i64 o.n,.string o.t,.string o.x,.slice o.p o.len o.cap] 41)).alloc (.cells #[.int .i64 0,.bool false,.int .i64 0,.string ⟨#[]⟩,.string ⟨#[]⟩,.slice none 0 0] 39):=⟨_,rfl⟩
 have b0:Below w.heap.size w W0:=by rw [hW0];exact zfl _ _ _
 have B:za4 W0 w.heap.size s p o:=by rw [hW0];exact (zc9 _ rfl).alloc _
 have X:Six W0 (w.heap.size+1) 0 false 0 ⟨#[]⟩ ⟨#[]⟩ none 0 0:=by rw [hW0];exact zaf _ (by simp)
 have HW:=Lib.hid hW0
 have r0:=B.r1
 clear hW0 B
 go_enter Tryz.func92,Tryz.ntmps92
 go_upto_region 1 with fail
 rw [← HW.out]
 go_wp2_with (first
  |((with_reducible refine zal (.tmp 12) w.heap.size 6 p r0 ?_ ?_ ?_ ?_);rfl;rfl;rfl)
  |((with_reducible refine zat (k':=p.k) (b':=p.b) (n':=p.n) (t':=p.t) (x':=p.x) (p':=p.p) (len':=p.len) (cap':=p.cap) (.tmp 4) (.tmp 13) (w.heap.size+1) X ?_ ?_ ?_ ?_ ?_);rfl;rfl;rfl;rfl;intro w5 ho5 hX5))
 exact bodyPost_ret (v:=.agg #[.int .i64 p.k,.bool p.b,.int .i64 p.n,.string p.t,.string p.x,.slice p.p p.len p.cap]) (zdg Tryz.results92 _ rfl hX5) rfl ⟨rfl,zag b0 ho5 (by omega) b0.size⟩
theorem partO (s p o:V6) (w:World):Calls Tryz.prog 92 #[.agg #[.int .i64 s.k,.bool s.b,.int .i64 s.n,.string s.t,.string s.x,.slice s.p s.len s.cap,.int .i64 p.k,.bool p.b,.int .i64 p.n,.string p.t,.string p.x,.slice p.p p.len p.cap,.int .i64 o.k,.bool o.b,.int .i64 o.n,.string o.t,.string o.x,.slice o.p o.len o.cap],.int .u8 111] w fun e w'=>e=.returned (.agg #[.int .i64 o.k,.bool o.b,.int .i64 o.n,.string o.t,.string o.x,.slice o.p o.len o.cap])∧Below w.heap.size w w':=by
 obtain ⟨W0,hW0⟩:∃ W0,W0=(w.alloc (.cells #[.int .i64 s.k,.bool s.b,.int .i64 s.n,.string s.t,.string s.x,.slice s.p s.len s.cap,.int .i64 p.k,.bool p.b,.int .i64 p.n,.string p.t,.string p.x,.slice p.p p.len p.cap,.int .i64 o.k,.bool o.b,.int .i64 o.n,.string o.t,.string o.x,.slice o.p o.len o.cap] 41)).alloc (.cells #[.int .i64 0,.bool false,.int .i64 0,.string ⟨#[]⟩,.string ⟨#[]⟩,.slice none 0 0] 39):=⟨_,rfl⟩
 have b0:Below w.heap.size w W0:=by rw [hW0];exact zfl _ _ _
 have B:za4 W0 w.heap.size s p o:=by rw [hW0];exact (zc9 _ rfl).alloc _
 have X:Six W0 (w.heap.size+1) 0 false 0 ⟨#[]⟩ ⟨#[]⟩ none 0 0:=by rw [hW0];exact zaf _ (by simp)
 have HW:=Lib.hid hW0
 have r0:=B.r2
 clear hW0 B
 go_enter Tryz.func92,Tryz.ntmps92
 go_upto_region 1 with fail
 rw [← HW.out]
 go_wp2_with (first
  |((with_reducible refine zal (.tmp 14) w.heap.size 12 o r0 ?_ ?_ ?_ ?_);rfl;rfl;rfl)
  |((with_reducible refine zat (k':=o.k) (b':=o.b) (n':=o.n) (t':=o.t) (x':=o.x) (p':=o.p) (len':=o.len) (cap':=o.cap) (.tmp 4) (.tmp 15) (w.heap.size+1) X ?_ ?_ ?_ ?_ ?_);rfl;rfl;rfl;rfl;intro w5 ho5 hX5))
 exact bodyPost_ret (v:=.agg #[.int .i64 o.k,.bool o.b,.int .i64 o.n,.string o.t,.string o.x,.slice o.p o.len o.cap]) (zdg Tryz.results92 _ rfl hX5) rfl ⟨rfl,zag b0 ho5 (by omega) b0.size⟩
def zmk:Nat→Int
 | 0=>115
 | 1=>112
 | _=>111
def v3g (s p o:V6):Nat→V6
 | 0=>s
 | 1=>p
 | _=>o
theorem zyq (s p o:V6) (v:Nat) (hv:v < 3) (w:World):Calls Tryz.prog 92 #[.agg #[.int .i64 s.k,.bool s.b,.int .i64 s.n,.string s.t,.string s.x,.slice s.p s.len s.cap,.int .i64 p.k,.bool p.b,.int .i64 p.n,.string p.t,.string p.x,.slice p.p p.len p.cap,.int .i64 o.k,.bool o.b,.int .i64 o.n,.string o.t,.string o.x,.slice o.p o.len o.cap],.int .u8 (zmk v)] w fun e w'=>e=.returned (.agg #[.int .i64 (v3g s p o v).k,.bool (v3g s p o v).b,.int .i64 (v3g s p o v).n,.string (v3g s p o v).t,.string (v3g s p o v).x,.slice (v3g s p o v).p (v3g s p o v).len (v3g s p o v).cap])∧Below w.heap.size w w':=by
 obtain rfl | rfl | rfl:v=0∨v=1∨v=2:=by omega
 ·exact partS s p o w
 ·exact partP s p o w
 ·exact partO s p o w
theorem zez {s k:ByteArray} (h:k≠s):(k.toList == s.toList)=false:=by
 rw [za7,za7,beq_eq_false_iff_ne]
 exact fun e=>h (ByteArray.ext (Array.toList_inj.1 e))
theorem onm_ne (j k:Nat) (hj:j < 6) (hk:k < 6) (h:j≠k):onm j≠onm k:=by
 obtain rfl | rfl | rfl | rfl | rfl | rfl:j=0∨j=1∨j=2∨j=3∨j=4∨j=5:=by omega
 all_goals
  obtain rfl | rfl | rfl | rfl | rfl | rfl:k=0∨k=1∨k=2∨k=3∨k=4∨k=5:=by omega
  all_goals first | exact absurd rfl h |(intro e;have:=congrArg ByteArray.data e;revert this;decide)
theorem zxj (w:World) (g k:Nat) (hk:k < 6) (hc:∀ j,j < 6→w.cell? ⟨g,j,none⟩=some (.string (onm j))):
 Calls Tryz.prog 54 #[.slice (some ⟨g,0,none⟩) 6 6,.string (onm k)] w fun e w'=>e=.returned (.int .i64 k)∧w=w':=by
 go_enter Tryz.func54,Tryz.ntmps54
 go_wp2_with fail
 go_loop [5] (fun i=>∃ j:Nat,j≤k∧i=.int .i64 j) (fun i=>6 - (intOf i).toNat)
 case atStart=>exact ⟨0,Nat.zero_le _,rfl⟩
 case round=>
  obtain ⟨j,hj,rfl⟩:=hrel
  have hj6:j < 6:=by omega
  have hcj:=hc j hj6
  by_cases hlt:j < k
  ·have hne2:=zez (onm_ne j k hj6 hk (by omega))
   clear hc
   go_wp2_with fail
   go_round
   case rel=>exact ⟨j+1,by omega,by go_num⟩
   case measure=>simp [intOf];omega
  ·obtain rfl:j=k:=by omega
   clear hc
   go_wp2_with fail
   go_ret
   exact ⟨rfl,rfl⟩
theorem indexNo (w:World) (g:Nat) (t:ByteArray) (ht:∀ j,j < 6→onm j≠t) (hc:∀ j,j < 6→w.cell? ⟨g,j,none⟩=some (.string (onm j))):
 Calls Tryz.prog 54 #[.slice (some ⟨g,0,none⟩) 6 6,.string t] w fun e w'=>e=.returned (.int .i64 (-1))∧w=w':=by
 go_enter Tryz.func54,Tryz.ntmps54
 go_wp2_with fail
 go_loop [5] (fun i=>∃ j:Nat,j≤6∧i=.int .i64 j) (fun i=>6 - (intOf i).toNat)
 case atStart=>exact ⟨0,Nat.zero_le _,rfl⟩
 case round=>
  obtain ⟨j,hj,rfl⟩:=hrel
  by_cases hlt:j < 6
  ·have hcj:=hc j hlt
   have hne2:=zez (ht j hlt)
   clear hc ht
   go_wp2_with fail
   go_round
   case rel=>exact ⟨j+1,by omega,by go_num⟩
   case measure=>simp [intOf];omega
  ·obtain rfl:j=6:=by omega
   clear hc ht
   go_wp2_with fail
   go_ret
   exact ⟨rfl,rfl⟩
theorem zk5 (w:World) (t:TypeId):∀ j,j < 6→(w.alloc (.cells #[.string ⟨#[115,112,111]⟩,.string ⟨#[115,111,112]⟩,.string ⟨#[112,115,111]⟩,.string ⟨#[112,111,115]⟩,.string ⟨#[111,115,112]⟩,.string ⟨#[111,112,115]⟩] t)).cell? ⟨w.heap.size,j,none⟩=some (.string (onm j)):=fun j hj=>by
 obtain rfl | rfl | rfl | rfl | rfl | rfl:j=0∨j=1∨j=2∨j=3∨j=4∨j=5:=by omega
 all_goals exact zab (zah _ _ rfl) _ rfl
theorem mayYes (w:World) (k:Nat) (hk:k < 6):Calls Tryz.prog 21 #[.string (onm k)] w fun e w'=>e=.returned (.bool true)∧Below w.heap.size w w':=by
 have HI:=Lib.hid (fun W g h=>zxj W g k hk h)
 go_enter Tryz.func21,Tryz.ntmps21
 go_wp2_with (go_at_call 54;(with_reducible refine (HI.out _ w.heap.size (zk5 w _)).mono ?_);rintro e w9 ⟨rfl,rfl⟩)
 go_ret
 exact ⟨rfl,za0 _ _⟩
theorem mayNo (w:World) (t:ByteArray) (ht:∀ j,j < 6→onm j≠t):Calls Tryz.prog 21 #[.string t] w fun e w'=>e=.returned (.bool false)∧Below w.heap.size w w':=by
 have HI:=Lib.hid (fun W g h=>indexNo W g t ht h)
 clear ht
 go_enter Tryz.func21,Tryz.ntmps21
 go_wp2_with (go_at_call 54;(with_reducible refine (HI.out _ w.heap.size (zk5 w _)).mono ?_);rintro e w9 ⟨rfl,rfl⟩)
 go_ret
 exact ⟨rfl,za0 _ _⟩
end Go.Proofs.YtanbgdhmfjgihaaGreatDoor
