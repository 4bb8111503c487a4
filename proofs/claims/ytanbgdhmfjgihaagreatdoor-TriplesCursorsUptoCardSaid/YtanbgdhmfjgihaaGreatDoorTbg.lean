/- Texts of one kind, one behind the other: each says ahead of itself what it shows. -/
import Derived.Test.YtanbgdhmfjgihaaGreatDoorTbc
import Derived.Test.YtanbgdhmfjgihaaGreatDoorTbf
import Derived.Test.YtanbgdhmfjgihaaGreatDoorTaz
namespace Go.Proofs.YtanbgdhmfjgihaaGreatDoor
open Go.RowKit
set_option maxHeartbeats 12800000
set_option maxRecDepth 20000
def CS.ap (c:CS):Nat→Nat
 | 0=>c.a0
 | 1=>c.a1
 | _=>c.a2
def CS.ep (c:CS):Nat→Nat
 | 0=>c.e0
 | 1=>c.e1
 | _=>c.e2
def CS.ll (c:CS):Nat→Nat
 | 0=>0
 | i+1=>c.ap i
def wf (way:List Val) (i:Nat):Val:=(way[i]?).getD nulV
structure Lvl (s:SM) (k i lo hi a:Nat) (w:Nat→Val):Prop where
 r:Rng s k i lo hi w
 h1:lo≤a
 h2:a≤hi
 fi:a < hi→∀ j,lo≤j→j < a→s.num k (levN k i) j≠s.num k (levN k i) a
structure Rel (s:SM) (k:Nat) (c:CS) (way:List Val) (e:Bool):Prop where
 len:way.length=c.d
 lv:∀ i,i < c.d→Lvl s k i (c.ll i) (c.ep i) (c.ap i) (wf way)
 on:∀ i,i < c.d→(i+1 < c.d∨e=false)→c.ap i < c.ep i∧wf way i=s.pt k i (c.ap i)
 en:e=true→1≤c.d∧¬ c.pos < c.fin
section
variable {s:SM} {k:Nat} {c:CS} {way:List Val} {e:Bool}
theorem CS.at_top (h1:1≤c.d) (h3:c.d≤3):c.pos=c.ap (c.d - 1)∧c.fin=c.ep (c.d - 1):=by
 obtain ⟨sp,pl,n,cl,l0,l1,l2,a0,e0,a1,e1,a2,e2,d⟩:=c
 simp only at h1 h3
 obtain rfl | rfl | rfl:d=1∨d=2∨d=3:=by omega
 ·exact ⟨rfl,rfl⟩
 ·exact ⟨rfl,rfl⟩
 ·exact ⟨rfl,rfl⟩
theorem Fit.lev_top (h:Fit s k c) (h1:1≤c.d):c.lev=levN k (c.d - 1):=by
 have h3:=h.d3
 obtain e | e | e:c.d=1∨c.d=2∨c.d=3:=by omega
 ·obtain ⟨_,_,q⟩:=CS.pos1 e
  rw [q,h.l0,e];rfl
 ·obtain ⟨_,_,q⟩:=CS.pos2 e
  rw [q,h.l1,e];rfl
 ·obtain ⟨_,_,q⟩:=CS.pos3 e
  rw [q,h.l2,e];rfl
theorem Rel.off (h:Rel s k c way e) (hf:Fit s k c):c.on=!(decide (c.d=0) || e):=by
 have h3:=hf.d3
 by_cases hd:c.d=0
 ·unfold CS.on
  rw [hd]
  rfl
 ·cases e with
  | true=>
    unfold CS.on
    rw [decide_eq_false (h.en rfl).2]
    simp
  | false=>
    obtain ⟨q,_⟩:=h.on (c.d - 1) (by omega) (.inr rfl)
    obtain ⟨p1,p2⟩:=CS.at_top (c:=c) (by omega) h3
    rw [CS.on_of (by omega) (by rw [p1,p2];exact q)]
    simp [hd]
theorem wf_take {i m:Nat} {u:Val} (hi:i < m) (hm:m≤way.length):wf (way.take m++[u]) i=wf way i:=by
 unfold wf
 rw [List.getElem?_append_left (by rw [List.length_take];omega),List.getElem?_take,if_pos hi]
theorem wf_last {m:Nat} {u:Val} (hm:m≤way.length):wf (way.take m++[u]) m=u:=by
 unfold wf
 rw [List.getElem?_append_right (by rw [List.length_take];omega),List.length_take,Nat.min_eq_left hm,Nat.sub_self]
 rfl
theorem zry {i m:Nat} (hi:i < m):wf (way.take m) i=wf way i:=by
 unfold wf
 rw [List.getElem?_take,if_pos hi]
theorem Lvl.congr {i lo hi a:Nat} {w w':Nat→Val} (h:Lvl s k i lo hi a w) (e:∀ j,j < i→w j=w' j):Lvl s k i lo hi a w':=⟨h.r.congr e,h.h1,h.h2,h.fi⟩
theorem ap_go (h3:c.d≤3) (x i:Nat) (hi:i < c.d):(c.go x).ap i=if i=c.d - 1 then x else c.ap i:=by
 obtain ⟨sp,pl,n,cl,l0,l1,l2,a0,e0,a1,e1,a2,e2,d⟩:=c
 simp only at hi h3 ⊢
 obtain rfl | rfl | rfl:d=1∨d=2∨d=3:=by omega
 ·obtain rfl:i=0:=by omega
  rfl
 ·obtain rfl | rfl:i=0∨i=1:=by omega
  ·rfl
  ·rfl
 ·obtain rfl | rfl | rfl:i=0∨i=1∨i=2:=by omega
  ·rfl
  ·rfl
  ·rfl
theorem ep_go (h3:c.d≤3) (x i:Nat) (hi:i < c.d):(c.go x).ep i=c.ep i:=by
 obtain ⟨sp,pl,n,cl,l0,l1,l2,a0,e0,a1,e1,a2,e2,d⟩:=c
 simp only at hi h3 ⊢
 obtain rfl | rfl | rfl:d=1∨d=2∨d=3:=by omega
 ·rfl
 ·rfl
 ·rfl
theorem ll_go (h3:c.d≤3) (x i:Nat) (hi:i < c.d):(c.go x).ll i=c.ll i:=by
 cases i with
 | zero=>rfl
 | succ i=>
   show (c.go x).ap i=c.ap i
   rw [ap_go h3 x i (by omega),if_neg (by omega)]
theorem Rel.go (h:Rel s k c way e) (hf:Fit s k c) (h1:1≤c.d) (x:Nat) (hx:c.pos≤x) (hxf:x≤c.fin) (fi:x < c.fin→∀ j,c.ll (c.d - 1)≤j→j < x→s.num k (levN k (c.d - 1)) j≠s.num k (levN k (c.d - 1)) x):
 Rel s k (c.go x) (if x < c.fin then way.take (way.length - 1)++[s.pt k (c.d - 1) x] else way) (decide (¬ x < c.fin)):=by
 have h3:=hf.d3
 obtain ⟨p1,p2⟩:=CS.at_top h1 h3
 have hd:=c.go_d x
 have hlen:=h.len
 have htop:=h.lv (c.d - 1) (by omega)
 have hw:∀ j,j < c.d - 1→wf way j=wf (if x < c.fin then way.take (way.length - 1)++[s.pt k (c.d - 1) x] else way) j:=fun j hj=>by
  split
  ·rw [wf_take (by omega) (by omega)]
  ·rfl
 refine ⟨?_,fun i hi=>?_,fun i hi q=>?_,fun q=>?_⟩
 ·rw [hd]
  split
  ·rw [List.length_append,List.length_take]
   simp
   omega
  ·exact hlen
 ·rw [hd] at hi
  rw [ll_go h3 x i hi,ep_go h3 x i hi,ap_go h3 x i hi]
  by_cases e:i=c.d - 1
  ·rw [if_pos e]
   subst e
   exact (⟨htop.r,by have:=htop.h1;omega,by rw [← p2];exact hxf,fun q=>fi (by rw [p2];exact q)⟩:Lvl s k _ _ _ x _).congr hw
  ·rw [if_neg e]
   exact (h.lv i hi).congr fun j hj=>hw j (by omega)
 ·rw [hd] at hi q
  rw [ep_go h3 x i hi,ap_go h3 x i hi]
  by_cases e:i=c.d - 1
  ·have hlt:x < c.fin:=by
    rcases q with q | q
    ·omega
    ·simpa using q
   rw [if_pos e,if_pos hlt]
   subst e
   refine ⟨by rw [← p2];exact hlt,?_⟩
   have:=wf_last (way:=way) (m:=way.length - 1) (u:=s.pt k (c.d - 1) x) (by omega)
   rwa [show way.length - 1=c.d - 1 by omega] at this ⊢
  ·rw [if_neg e,← hw i (by omega)]
   exact h.on i hi (.inl (by omega))
 ·rw [hd]
  refine ⟨h1,?_⟩
  rw [CS.go_pos c x h1 h3,CS.go_fin c x h1 h3]
  simpa using q
theorem Rel.up (h:Rel s k c way e) (hf:Fit s k c) (h1:1≤c.d):Rel s k c.up (way.take (way.length - 1)) false:=by
 have hlen:=h.len
 refine ⟨?_,fun i hi=>?_,fun i hi _=>?_,fun q=>absurd q (by simp)⟩
 ·show _=c.d - 1
  rw [List.length_take]
  omega
 ·have hi':i < c.d - 1:=hi
  exact (h.lv i (by omega)).congr fun j hj=>(zry (by omega)).symm
 ·have hi':i < c.d - 1:=hi
  rw [zry (by omega)]
  exact h.on i (by omega) (.inl (by omega))
theorem Rel.new (sp:Nat) (pl:Option Addr) (n cl:Nat):Rel s k (zri sp pl n cl k) [] false:=⟨rfl,fun i hi=>absurd hi (Nat.not_lt_zero _),fun i hi=>absurd hi (Nat.not_lt_zero _),fun q=>absurd q (by simp)⟩
theorem Rel.rng (h:Rel s k c way e) (hf:Fit s k c) (ok:SMok s) (so:zdd s) (hk:k < 6) (hd:c.d < 3) (he:c.d=0∨e=false):Rng s k c.d c.lo (c.hi s k) (wf way):=by
 by_cases hz:c.d=0
 ·unfold CS.lo CS.hi
  rw [if_pos hz,if_pos hz,hz,hf.n]
  exact Rng.zero
 ·have he2:e=false:=he.resolve_left hz
  obtain ⟨q1,q2⟩:=h.on (c.d - 1) (by omega) (.inr he2)
  have hl:=h.lv (c.d - 1) (by omega)
  obtain ⟨p1,p2⟩:=CS.at_top (c:=c) (by omega) (by omega)
  have hlev:=hf.lev_top (by omega)
  have:=hl.r.next ok so hk (by omega) _ hl.h1 q1 (hl.fi q1) q2
  unfold CS.lo CS.hi CS.bot
  rw [if_neg hz,if_neg hz,hlev,p1,p2]
  rwa [show c.d - 1+1=c.d by omega] at this
theorem zhy (hd:c.d < 3) (a b i:Nat):(c.down a b).d=c.d+1∧(i < c.d→(c.down a b).ap i=c.ap i∧(c.down a b).ep i=c.ep i)∧(c.down a b).ap c.d=a∧(c.down a b).ep c.d=b:=by
 obtain ⟨sp,pl,n,cl,l0,l1,l2,a0,e0,a1,e1,a2,e2,d⟩:=c
 simp only at hd ⊢
 obtain rfl | rfl | rfl:d=0∨d=1∨d=2:=by omega
 ·exact ⟨rfl,fun h=>absurd h (by omega),rfl,rfl⟩
 ·refine ⟨rfl,fun h=>?_,rfl,rfl⟩
  obtain rfl:i=0:=by omega
  exact ⟨rfl,rfl⟩
 ·refine ⟨rfl,fun h=>?_,rfl,rfl⟩
  obtain rfl | rfl:i=0∨i=1:=by omega
  ·exact ⟨rfl,rfl⟩
  ·exact ⟨rfl,rfl⟩
theorem Rel.down (h:Rel s k c way e) (hf:Fit s k c) (ok:SMok s) (so:zdd s) (hk:k < 6) (hd:c.d < 3) (he:c.d=0∨e=false) (hlt:c.lo < c.hi s k):Rel s k (c.down c.lo (c.hi s k)) (way++[s.pt k c.d c.lo]) false:=by
 have hr:=h.rng hf ok so hk hd he
 have hlen:=h.len
 have hdd:=(zhy hd c.lo (c.hi s k) 0).1
 obtain ⟨_,_,ha,hb⟩:=zhy hd c.lo (c.hi s k) 0
 have hwa:∀ j,j < c.d→wf way j=wf (way++[s.pt k c.d c.lo]) j:=fun j hj=>by
  unfold wf
  rw [List.getElem?_append_left (by omega)]
 have hll:∀ i,i < c.d→(c.down c.lo (c.hi s k)).ll i=c.ll i:=fun i hi=>by
  cases i with
  | zero=>rfl
  | succ i=>exact ((zhy hd c.lo (c.hi s k) i).2.1 (by omega)).1
 have hlo:(c.down c.lo (c.hi s k)).ll c.d=if c.d=0 then 0 else c.lo:=by
  by_cases hz:c.d=0
  ·rw [if_pos hz,hz];rfl
  ·rw [if_neg hz]
   obtain ⟨m,hm⟩:∃ m,c.d=m+1:=⟨c.d - 1,by omega⟩
   have:=((zhy hd c.lo (c.hi s k) m).2.1 (by omega)).1
   rw [hm]
   show (c.down c.lo (c.hi s k)).ap m=c.lo
   rw [this]
   unfold CS.lo
   rw [if_neg hz,(CS.at_top (c:=c) (by omega) (by omega)).1,hm]
   rfl
 have hlo2:(if c.d=0 then 0 else c.lo)=c.lo:=by
  by_cases hz:c.d=0
  ·rw [if_pos hz];unfold CS.lo;rw [if_pos hz]
  ·rw [if_neg hz]
 refine ⟨by rw [hdd,List.length_append];simp [hlen],fun i hi=>?_,fun i hi _=>?_,fun q=>absurd q (by simp)⟩
 ·rw [hdd] at hi
  by_cases e1:i=c.d
  ·subst e1
   rw [hlo,hlo2,ha,hb]
   exact (⟨hr,Nat.le_refl _,Nat.le_of_lt hlt,fun _ j q1 q2=>by omega⟩:Lvl s k _ _ _ c.lo _).congr hwa
  ·obtain ⟨q1,q2⟩:=(zhy hd c.lo (c.hi s k) i).2.1 (by omega)
   rw [hll i (by omega),q1,q2]
   exact (h.lv i (by omega)).congr fun j hj=>hwa j (by omega)
 ·rw [hdd] at hi
  by_cases e1:i=c.d
  ·subst e1
   rw [ha,hb]
   refine ⟨hlt,?_⟩
   unfold wf
   rw [List.getElem?_append_right (by omega),hlen,Nat.sub_self]
   rfl
  ·obtain ⟨q1,q2⟩:=(zhy hd c.lo (c.hi s k) i).2.1 (by omega)
   rw [q1,q2,← hwa i (by omega)]
   refine h.on i (by omega) ?_
   by_cases e2:i+1 < c.d
   ·exact .inl e2
   ·exact .inr (he.resolve_left (by omega))
end
section
variable {l:List Tri3} {s:SM} {k:Nat} {c:CS} {way ks:List Val} {e:Bool}
theorem pt_lt (ok:SMok s) (so:zdd s) {i j j':Nat} (hj:j < (s.ls k).length) (hj':j' < (s.ls k).length) (h:s.num k (levN k i) j < s.num k (levN k i) j'):zan 1 (s.pt k i j) (s.pt k i j') < 0:=by
 have l1:=s.num_lt ok k (levN k i) j hj
 have l2:=s.num_lt ok k (levN k i) j' hj'
 unfold SM.pt SM.part
 rw [List.getElem?_eq_getElem l1,List.getElem?_eq_getElem l2,Option.getD_some,Option.getD_some]
 have hv:Rise s.vs:=so.v
 exact (hv.lt _ _ l1 l2).2 h
theorem zvv (u:Val) (i j:Nat):s.less u k (levN k i) j=decide (zan 1 (s.pt k i j) u < 0):=rfl
theorem Rel.to {st:Bool} {wl uv:Val} {base gR:Nat} {pl:Option Addr} {N cl:Nat} {ord:ByteArray} {W w':World} {r:Ending} (h:Rel s k c way false) (hf:Fit s k c) (hl:zbe l s) (hL:l.length≤65536) (hok:∀ t∈l,zbl t=true) (hk:k < 6) (h1:1≤c.d) (x:Nat) (hx:c.pos≤x) (hxf:x≤c.fin)
 (hno:∀ j,c.ll (c.d - 1)≤j→j < x→j < c.fin→toP st wl uv (s.pt k (c.d - 1) j)=false) (hyes:x < c.fin→toP st wl uv (s.pt k (c.d - 1) x)=true) (hi:InsV (srcT s.all (wf way) (levN k) (c.d - 1) s.all.length) ks)
 (T:zmm st wl uv base gR pl N cl ord way ks W r w'):
 Below base W w'∧∃ way' e',Rel s k (c.go x) way' e'∧DCur w' base gR pl N cl ord way' e'∧r=.returned (.bool (decide (x < c.fin))):=by
 have h3:=hf.d3
 have hn:=hf.n
 have hin:=(hf.in_ h1).2
 obtain ⟨p1,p2⟩:=CS.at_top h1 h3
 have htop:=h.lv (c.d - 1) (by omega)
 have h11:=htop.h1
 have hm:∀ u,u∈ks↔∃ j,c.ll (c.d - 1)≤j∧j < c.fin∧u=s.pt k (c.d - 1) j:=fun u=>by
  rw [hi.mem,p2]
  exact zvt hl hok hk htop.r u
 have hs:∀ j j',c.ll (c.d - 1)≤j→j≤j'→j' < c.fin→zan 1 (s.pt k (c.d - 1) j) (s.pt k (c.d - 1) j')≤0:=fun j j' q1 q2 q3=>zvs (hl.ok hL) hl.so (by omega) (by omega) (htop.r.sort (hl.ok hL) hl.so hk (by omega) j j' q1 q2 (by omega))
 obtain ⟨f1,f2⟩:=zpg hi.rise hm hs (toP st wl uv) x (by omega) hno
 have hgo:=h.go hf h1 x hx hxf fun q j q1 q2 eq=>by
  have a:=hno j q1 q2 (by omega)
  rw [(zpf (hl.ok hL) hl.so (by omega) (by omega)).2 eq,hyes q] at a
  cases a
 obtain ⟨hb,⟨i,hi2,t1,t2,rfl,D⟩ | ⟨t1,rfl,D⟩⟩:=T
 ·refine ⟨hb,_,_,hgo,?_,?_⟩
  all_goals
   have hlt:x < c.fin:=by
    rcases Nat.lt_or_ge x c.fin with q | q
    ·exact q
    ·rw [f2 q i hi2] at t1
     cases t1
  ·obtain ⟨i',hi',q1,q2⟩:=f1 hlt
   have e:i'=i:=by
    rcases Nat.lt_trichotomy i' i with q | q | q
    ·have:=t2 i' q
     rw [q1,hyes hlt] at this
     cases this
    ·exact q
    ·have:=q2 i q
     rw [t1] at this
     cases this
   subst e
   rw [if_pos hlt,← q1,decide_eq_false (by omega)]
   exact D
  ·rw [decide_eq_true hlt]
 ·have hge:¬ x < c.fin:=fun q=>by
   obtain ⟨i',hi',q1,q2⟩:=f1 q
   have:=t1 i' hi'
   rw [q1,hyes q] at this
   cases this
  refine ⟨hb,_,_,hgo,?_,?_⟩
  ·rw [if_neg hge,decide_eq_true hge]
   exact D
  ·rw [decide_eq_false hge]
theorem Rel.wl (h:Rel s k c way false) (hf:Fit s k c) (h1:1≤c.d) (m:Nat) (hm:way.length=m+1):way[m]'(by omega)=s.pt k (c.d - 1) c.pos∧c.pos < c.fin:=by
 have hlen:=h.len
 obtain ⟨p1,p2⟩:=CS.at_top h1 hf.d3
 obtain ⟨q1,q2⟩:=h.on (c.d - 1) (by omega) (.inr rfl)
 refine ⟨?_,by omega⟩
 rw [p1,← q2]
 unfold wf
 obtain rfl:m=c.d - 1:=by omega
 rw [List.getElem?_eq_getElem (by omega),Option.getD_some]
theorem Rel.nextTo {base gR:Nat} {pl:Option Addr} {N cl:Nat} {ord:ByteArray} {W w':World} {r:Ending} {wl:Val} (h:Rel s k c way false) (hf:Fit s k c) (hl:zbe l s) (hL:l.length≤65536) (hok:∀ t∈l,zbl t=true) (hk:k < 6) (h1:1≤c.d) (hw:wl=s.pt k (c.d - 1) c.pos) (hpf:c.pos < c.fin)
 (hi:InsV (srcT s.all (wf way) (levN k) (c.d - 1) s.all.length) ks) (T:zmm true wl wl base gR pl N cl ord way ks W r w'):
 Below base W w'∧∃ way' e',Rel s k (c.next s k) way' e'∧DCur w' base gR pl N cl ord way' e'∧r=.returned (.bool (c.next s k).on):=by
 have h3:=hf.d3
 have hn:=hf.n
 have hin:=(hf.in_ h1).2
 obtain ⟨p1,p2⟩:=CS.at_top h1 h3
 have hlev:=hf.lev_top h1
 have htop:=h.lv (c.d - 1) (by omega)
 have h11:=htop.h1
 have hb:=c.bot_in s k (by omega)
 have hon:c.on=true:=CS.on_of h1 hpf
 have eN:c.next s k=c.go (c.bot s k):=by unfold CS.next;rw [if_pos hon]
 have eO:(c.next s k).on=decide (c.bot s k < c.fin):=by rw [eN,CS.go_on c h1 h3]
 rw [eO,eN]
 have hsort:∀ j j',c.ll (c.d - 1)≤j→j≤j'→j' < c.fin→s.num k (levN k (c.d - 1)) j≤s.num k (levN k (c.d - 1)) j':=fun j j' q1 q2 q3=>htop.r.sort (hl.ok hL) hl.so hk (by omega) j j' q1 q2 (by rw [← p2];exact q3)
 refine h.to hf hl hL hok hk h1 (c.bot s k) hb.1 hb.2 (fun j q1 q2 q3=>?_) (fun q=>?_) hi T
 ·have:zan 1 (s.pt k (c.d - 1) j) wl≤0:=by
   rw [hw]
   rcases Nat.lt_or_ge j c.pos with a | a
   ·exact zvs (hl.ok hL) hl.so (by omega) (by omega) (hsort j c.pos q1 (by omega) (by omega))
   ·have a2:=SM.same_is (zct (s.same k c.lev c.pos) (c.fin - c.pos) c.pos j a q2)
    rw [hlev] at a2
    exact zvs (hl.ok hL) hl.so (by omega) (by omega) (by omega)
  unfold toP
  rw [if_pos rfl,decide_eq_false (by omega:¬ 0 < zan 1 (s.pt k (c.d - 1) j) wl),Bool.and_false]
 ·have:0 < zan 1 (s.pt k (c.d - 1) (c.bot s k)) wl:=by
   rw [hw]
   have no:s.same k c.lev c.pos (c.bot s k)=false:=zh1 (s.same k c.lev c.pos) (c.fin - c.pos) c.pos (by unfold CS.bot at q;omega)
   have a:=hsort c.pos (c.bot s k) (by omega) hb.1 q
   have ne:s.num k (levN k (c.d - 1)) (c.bot s k)≠s.num k (levN k (c.d - 1)) c.pos:=fun eq=>by
    have:=SM.same_of (s:=s) (k:=k) (v:=c.lev) (a:=c.pos) (j:=c.bot s k) (by rw [hlev];exact eq)
    rw [no] at this
    cases this
   have:=pt_lt (k:=k) (hl.ok hL) hl.so (i:=c.d - 1) (j:=c.pos) (j':=c.bot s k) (by omega) (by omega) (by omega)
   have:=zbb 1 (s.pt k (c.d - 1) (c.bot s k)) (s.pt k (c.d - 1) c.pos)
   omega
  unfold toP
  rw [if_pos rfl,decide_eq_true this,decide_eq_true (by omega:0≤zan 1 (s.pt k (c.d - 1) (c.bot s k)) wl)]
  rfl
theorem Rel.seekTo {base gR:Nat} {pl:Option Addr} {N cl:Nat} {ord:ByteArray} {W w':World} {r:Ending} {wl uv:Val} (h:Rel s k c way false) (hf:Fit s k c) (hl:zbe l s) (hL:l.length≤65536) (hok:∀ t∈l,zbl t=true) (hk:k < 6) (h1:1≤c.d) (hw:wl=s.pt k (c.d - 1) c.pos) (hpf:c.pos < c.fin)
 (hi:InsV (srcT s.all (wf way) (levN k) (c.d - 1) s.all.length) ks) (T:zmm false wl uv base gR pl N cl ord way ks W r w'):
 Below base W w'∧∃ way' e',Rel s k (c.seek s k uv) way' e'∧DCur w' base gR pl N cl ord way' e'∧r=.returned (.bool (c.seek s k uv).on):=by
 have h3:=hf.d3
 have hn:=hf.n
 have hin:=(hf.in_ h1).2
 obtain ⟨p1,p2⟩:=CS.at_top h1 h3
 have hlev:=hf.lev_top h1
 have htop:=h.lv (c.d - 1) (by omega)
 have h11:=htop.h1
 have hb:=c.ahead_in s k uv (by omega)
 have hon:c.on=true:=CS.on_of h1 hpf
 have eN:c.seek s k uv=c.go (c.ahead s k uv):=by unfold CS.seek;rw [if_pos hon]
 have eO:(c.seek s k uv).on=decide (c.ahead s k uv < c.fin):=by rw [eN,CS.go_on c h1 h3]
 rw [eO,eN]
 have hsort:∀ j j',c.ll (c.d - 1)≤j→j≤j'→j' < c.fin→s.num k (levN k (c.d - 1)) j≤s.num k (levN k (c.d - 1)) j':=fun j j' q1 q2 q3=>htop.r.sort (hl.ok hL) hl.so hk (by omega) j j' q1 q2 (by rw [← p2];exact q3)
 refine h.to hf hl hL hok hk h1 (c.ahead s k uv) hb.1 hb.2 (fun j q1 q2 q3=>?_) (fun q=>?_) hi T
 ·unfold toP
  rcases Nat.lt_or_ge j c.pos with a | a
  ·have a1:=hsort j c.pos q1 (by omega) (by omega)
   have a2:=htop.fi (by omega) j q1 (by omega)
   rw [← p1] at a2
   have:=pt_lt (k:=k) (hl.ok hL) hl.so (i:=c.d - 1) (j:=j) (j':=c.pos) (by omega) (by omega) (by omega)
   rw [hw,decide_eq_false (by omega:¬ 0≤zan 1 (s.pt k (c.d - 1) j) (s.pt k (c.d - 1) c.pos)),Bool.false_and]
  ·have a2:=zct (s.less uv k c.lev) (c.fin - c.pos) c.pos j a q2
   rw [hlev,zvv] at a2
   have:=of_decide_eq_true a2
   rw [if_neg (by simp),decide_eq_false (by omega:¬ 0≤zan 1 (s.pt k (c.d - 1) j) uv),Bool.and_false]
 ·have no:s.less uv k c.lev (c.ahead s k uv)=false:=zh1 (s.less uv k c.lev) (c.fin - c.pos) c.pos (by unfold CS.ahead at q;omega)
  rw [hlev,zvv] at no
  have no:=of_decide_eq_false no
  have a:=zvs (k:=k) (hl.ok hL) hl.so (i:=c.d - 1) (j:=c.pos) (j':=c.ahead s k uv) (by omega) (by omega) (hsort c.pos (c.ahead s k uv) (by omega) hb.1 q)
  have a2:=zbb 1 (s.pt k (c.d - 1) (c.ahead s k uv)) (s.pt k (c.d - 1) c.pos)
  unfold toP
  rw [if_neg (by simp),hw,decide_eq_true (by omega:0≤zan 1 (s.pt k (c.d - 1) (c.ahead s k uv)) uv),decide_eq_true (by omega:0≤zan 1 (s.pt k (c.d - 1) (c.ahead s k uv)) (s.pt k (c.d - 1) c.pos))]
  rfl
theorem Rel.opnTo {base gR:Nat} {pl:Option Addr} {N cl:Nat} {ord:ByteArray} {W w':World} {r:Ending} (h:Rel s k c way false) (hf:Fit s k c) (hl:zbe l s) (hL:l.length≤65536) (hok:∀ t∈l,zbl t=true) (hk:k < 6) (hd:c.d < 3)
 (hi:InsV (srcT s.all (wf way) (levN k) c.d s.all.length) ks) (T:zil base gR pl N cl ord way ks W r w'):
 Below base W w'∧∃ way',Rel s k (c.opn s k) way' false∧DCur w' base gR pl N cl ord way' false∧r=.returned (.bool (c.opens s k)):=by
 have hr:=h.rng hf (hl.ok hL) hl.so hk hd (.inr rfl)
 have ht:=hr.top
 have hm:∀ u,u∈ks↔∃ j,c.lo≤j∧j < c.hi s k∧u=s.pt k c.d j:=fun u=>by
  rw [hi.mem]
  exact zvt hl hok hk hr u
 have hs:∀ j j',c.lo≤j→j≤j'→j' < c.hi s k→zan 1 (s.pt k c.d j) (s.pt k c.d j')≤0:=fun j j' q1 q2 q3=>zvs (hl.ok hL) hl.so (by omega) (by omega) (hr.sort (hl.ok hL) hl.so hk hd j j' q1 q2 q3)
 obtain ⟨f1,f2⟩:=zpg hi.rise hm hs (fun _=>true) c.lo (Nat.le_refl _) (fun j q1 q2 _=>absurd q1 (by omega))
 have eO:c.opens s k=decide (c.lo < c.hi s k):=by unfold CS.opens;rw [decide_eq_true hd,Bool.true_and]
 have eP:c.opn s k=if c.lo < c.hi s k then c.down c.lo (c.hi s k) else c:=by
  unfold CS.opn
  rw [eO]
  simp only [decide_eq_true_eq]
 obtain ⟨hb,⟨hi2,rfl,D⟩ | ⟨rfl,rfl,D⟩⟩:=T
 ·have hlt:c.lo < c.hi s k:=by
   rcases Nat.lt_or_ge c.lo (c.hi s k) with q | q
   ·exact q
   ·have:=f2 q 0 hi2
    cases this
  obtain ⟨i,hi3,q1,q2⟩:=f1 hlt
  obtain rfl:i=0:=by
   rcases Nat.eq_zero_or_pos i with q | q
   ·exact q
   ·have:=q2 0 q
    cases this
  refine ⟨hb,way++[ks[0]],?_,D,?_⟩
  ·rw [eP,if_pos hlt,q1]
   exact h.down hf (hl.ok hL) hl.so hk hd (.inr rfl) hlt
  ·rw [eO,decide_eq_true hlt]
 ·have hge:¬ c.lo < c.hi s k:=fun q=>by
   obtain ⟨i,hi3,_⟩:=f1 q
   exact absurd hi3 (by simp)
  refine ⟨hb,way,?_,D,?_⟩
  ·rw [eP,if_neg hge]
   exact h
  ·rw [eO,decide_eq_false hge]
theorem Rel.still (h:Rel s k c way e) (hf:Fit s k c) (hd:c.d=0∨e=true):c.next s k=c∧(∀ u,c.seek s k u=c)∧c.on=false:=by
 have:=h.off hf
 have ho:c.on=false:=by
  rw [this]
  rcases hd with q | q
  ·rw [decide_eq_true q];rfl
  ·rw [q];simp
 refine ⟨?_,fun u=>?_,ho⟩
 ·unfold CS.next;rw [ho];rfl
 ·unfold CS.seek;rw [ho];rfl
theorem Rel.shut (h:Rel s k c way e) (hf:Fit s k c) (hd:c.d=3∨e=true):c.opens s k=false∧c.opn s k=c:=by
 have ho:c.opens s k=false:=by
  unfold CS.opens
  rcases hd with q | q
  ·rw [q];rfl
  ·obtain ⟨h1,h2⟩:=h.en q
   have hb:=(c.bot_in s k (by have:=hf.in_ h1;omega)).2
   have:¬ c.lo < c.hi s k:=by
    unfold CS.lo CS.hi
    rw [if_neg (by omega),if_neg (by omega)]
    omega
   rw [decide_eq_false this,Bool.and_false]
 refine ⟨ho,?_⟩
 unfold CS.opn
 rw [ho]
 rfl
end
section
variable {l:List Tri3} {s:SM} {k:Nat} {c:CS} {way:List Val} {e:Bool}
theorem zxn (hl:zbe l s) (hok:∀ t∈l,zbl t=true) {i j:Nat} (hj:j < (s.ls k).length):zcw (s.pt k i j):=by
 have:=zhh hl hok (znf hl k j hj)
 have hv:=zda k i
 unfold SM.pt
 obtain q | q | q:levN k i=0∨levN k i=1∨levN k i=2:=by omega
 ·rw [q];exact this.1
 ·rw [q];exact this.2.1
 ·rw [q];exact this.2.2
theorem Rel.plain (h:Rel s k c way false) (hl:zbe l s) (hok:∀ t∈l,zbl t=true):∀ u∈way,zcw u:=fun u hu=>by
 obtain ⟨i,hi,rfl⟩:=List.getElem_of_mem hu
 have hlen:=h.len
 obtain ⟨q1,q2⟩:=h.on i (by omega) (.inr rfl)
 have ht:=(h.lv i (by omega)).r.top
 have e:wf way i=way[i]:=by
  unfold wf
  rw [List.getElem?_eq_getElem hi,Option.getD_some]
 rw [← e,q2]
 exact zxn hl hok (by omega)
def zh6 (s:SM) (k:Nat) (c':CS) (r:Bool) (base gR:Nat) (pl:Option Addr) (N cl:Nat) (W:World) (x:Ending) (w':World):Prop:=
 ∃ way' e',Rel s k c' way' e'∧DCur w' base gR pl N cl (onm k) way' e'∧x=.returned (.bool r)∧Below base W w'
theorem CS.up0 (c:CS) (h:c.d=0):c.up=c:=by
 obtain ⟨sp,pl,n,cl,l0,l1,l2,a0,e0,a1,e1,a2,e2,d⟩:=c
 simp only at h
 subst h
 rfl
theorem docUp {W:World} {base gR:Nat} {pl:Option Addr} {N cl:Nat} (h:Rel s k c way e) (hf:Fit s k c) (D:DCur W base gR pl N cl (onm k) way e) (hb:base≤W.heap.size):
 Calls Tryz.prog 25 #[.pointer (some ⟨gR,0,none⟩)] W fun x w'=>zh6 s k c.up (decide (1≤c.d)) base gR pl N cl W x w':=by
 have hlen:=h.len
 have h3:=hf.d3
 obtain ⟨⟨pw,cw,B,⟨d,hd,hown⟩,hnb⟩,hbR⟩:=id D
 by_cases hd0:c.d=0
 ·have hw0:way.length=0:=by omega
  have B':=B
  rw [hw0] at B'
  refine (upRef0 W gR pl N cl (onm k) pw 0 cw e B').mono ?_
  rintro x w' ⟨rfl,rfl⟩
  refine ⟨way,e,?_,D,?_,Below.refl _ _⟩
  ·rw [CS.up0 c hd0];exact h
  ·rw [decide_eq_false (by omega)]
 ·obtain ⟨gw,rfl⟩:∃ gw,pw=some ⟨gw,0,none⟩:=by
   rcases hown.2 with ⟨q,q1⟩ | ⟨g,cap,cur,q,_⟩
   ·omega
   ·injection q with q _ _
    exact ⟨g,q⟩
  have hcap:way.length≤cw:=by
   rcases hown.2 with ⟨q,_⟩ | ⟨g,cap,cur,q,_,_,q2,_⟩
   ·injection q with _ q1 q2
    omega
   ·injection q with _ q1 q3
    omega
  refine (upRef W gR pl N cl (onm k) _ way.length (way.length - 1) cw e (by omega) (by omega) hcap B).mono ?_
  rintro x w' ⟨rfl,ho,B2⟩
  have hm:(way.take (way.length - 1)).length=way.length - 1:=by rw [List.length_take];omega
  refine ⟨_,_,h.up hf (by omega),⟨⟨some ⟨gw,0,none⟩,cw,?_,⟨d.take (way.length - 1),?_,?_⟩,?_⟩,hbR⟩,?_,zag (Below.refl _ _) ho hbR hb⟩
  ·rw [hm];exact B2
  ·rw [List.map_take,hd]
  ·rw [hm]
   have q:=zdh (zxk hown (by omega:way.length - 1≤way.length)) ho hnb
   rw [zni] at q
   exact q
  ·exact hnb
  ·rw [decide_eq_true (by omega)]
section
variable {w:World} {base gR:Nat} {pl:Option Addr} {cl:Nat}
theorem docNext (h:Rel s k c way e) (hf:Fit s k c) (hl:zbe l s) (hL:l.length≤65536) (hok:∀ t∈l,zbl t=true) (hk:k < 6) (D:DCur w base gR pl s.all.length cl (onm k) way e) (hT:Tris w (.slice pl s.all.length cl) s.all) (hn60:s.all.length≤65536) (hc:∀ t∈s.all,zbl t=true) (hb:base≤w.heap.size):
 Calls Tryz.prog 27 #[.pointer (some ⟨gR,0,none⟩)] w fun x w'=>zh6 s k (c.next s k) (c.next s k).on base gR pl s.all.length cl w x w':=by
 have hlen:=h.len
 have h3:=hf.d3
 by_cases hs:c.d=0∨e=true
 ·obtain ⟨q1,_,q2⟩:=h.still hf hs
  obtain ⟨⟨pw,cw,B,_⟩,_⟩:=id D
  refine (zxl w gR pl _ cl (onm k) pw way.length way.length cw e (by rw [hlen];exact hs) B).mono ?_
  rintro x w' ⟨rfl,rfl⟩
  rw [q1,q2]
  exact ⟨way,e,h,D,rfl,Below.refl _ _⟩
 ·obtain ⟨hd,he⟩:=not_or.1 hs
  obtain rfl:e=false:=by simpa using he
  have hm:way.length=c.d - 1+1:=by omega
  obtain ⟨hw,hpf⟩:=h.wl hf (by omega) (c.d - 1) hm
  refine (nextRef s.all pl cl k hk base gR way (c.d - 1) hm (by omega) w D (h.plain hl hok) hT hn60 hc hb).mono ?_
  rintro x w' ⟨ks,hi,T⟩
  obtain ⟨hb2,way',e',r1,r2,r3⟩:=h.nextTo hf hl hL hok hk (by omega) hw hpf hi T
  exact ⟨way',e',r1,r2,r3,((Below.refl _ _).drew:Below base w w.drew).trans hb2⟩
theorem docSeek (v:V6) (uv:Val) (qv:List Val) (hv:Is w v uv qv) (h:Rel s k c way e) (hf:Fit s k c) (hl:zbe l s) (hL:l.length≤65536) (hok:∀ t∈l,zbl t=true) (hk:k < 6) (D:DCur w base gR pl s.all.length cl (onm k) way e) (hT:Tris w (.slice pl s.all.length cl) s.all) (hn60:s.all.length≤65536) (hc:∀ t∈s.all,zbl t=true) (hb:base≤w.heap.size):
 Calls Tryz.prog 29 #[.pointer (some ⟨gR,0,none⟩),.agg #[.int .i64 v.k,.bool v.b,.int .i64 v.n,.string v.t,.string v.x,.slice v.p v.len v.cap]] w fun x w'=>zh6 s k (c.seek s k uv) (c.seek s k uv).on base gR pl s.all.length cl w x w':=by
 have hlen:=h.len
 have h3:=hf.d3
 refine seekRef gR v w _ fun W0 hW0=>?_
 have b0:Below w.heap.size w W0:=by rw [hW0];exact za0 _ _
 have D0:=D.below b0
 have y0:Below base w W0:=b0.mono hb
 have hb0:base≤W0.heap.size:=Nat.le_trans hb b0.size
 by_cases hs:c.d=0∨e=true
 ·obtain ⟨_,q1,q2⟩:=h.still hf hs
  obtain ⟨⟨pw,cw,B,_⟩,_⟩:=id D0
  refine (toRef0 W0 gR pl _ cl (onm k) pw way.length way.length cw e false v (by rw [hlen];exact hs) B).mono ?_
  rintro x w' ⟨rfl,hb2⟩
  rw [q1 uv,q2]
  exact ⟨false,rfl,way,e,h,D0.below hb2,rfl,y0.trans (hb2.mono hb0)⟩
 ·obtain ⟨hd,he⟩:=not_or.1 hs
  obtain rfl:e=false:=by simpa using he
  have hm:way.length=c.d - 1+1:=by omega
  obtain ⟨hw,hpf⟩:=h.wl hf (by omega) (c.d - 1) hm
  refine (toRef false s.all pl cl k hk base gR way (c.d - 1) hm (by omega) v uv qv W0 D0 (h.plain hl hok) (hT.below b0) hn60 hc hb0 (hv.below b0)).mono ?_
  rintro x w' ⟨ks,hi,T⟩
  obtain ⟨hb2,way',e',r1,r2,r3⟩:=h.seekTo hf hl hL hok hk (by omega) hw hpf hi T
  exact ⟨_,r3,way',e',r1,r2,rfl,y0.trans hb2⟩
theorem docOpen (h:Rel s k c way e) (hf:Fit s k c) (hl:zbe l s) (hL:l.length≤65536) (hok:∀ t∈l,zbl t=true) (hk:k < 6) (D:DCur w base gR pl s.all.length cl (onm k) way e) (hT:Tris w (.slice pl s.all.length cl) s.all) (hn60:s.all.length≤65536) (hc:∀ t∈s.all,zbl t=true) (hb:base≤w.heap.size):
 Calls Tryz.prog 23 #[.pointer (some ⟨gR,0,none⟩)] w fun x w'=>zh6 s k (c.opn s k) (c.opens s k) base gR pl s.all.length cl w x w':=by
 have hlen:=h.len
 have h3:=hf.d3
 by_cases hs:c.d=3∨e=true
 ·obtain ⟨q1,q2⟩:=h.shut hf hs
  obtain ⟨⟨pw,cw,B,_⟩,_⟩:=id D
  refine (zxm w gR pl _ cl (onm k) pw way.length way.length cw e (by rw [hlen];exact hs) B).mono ?_
  rintro x w' ⟨rfl,rfl⟩
  rw [q1,q2]
  exact ⟨way,e,h,D,rfl,Below.refl _ _⟩
 ·obtain ⟨hd,he⟩:=not_or.1 hs
  obtain rfl:e=false:=by simpa using he
  refine (openRef s.all pl cl k hk base gR way (by omega) w D (h.plain hl hok) hT hn60 hc hb).mono ?_
  rintro x w' ⟨ks,hi,T⟩
  rw [hlen] at hi
  obtain ⟨hb2,way',r1,r2,r3⟩:=h.opnTo hf hl hL hok hk (by omega) hi T
  exact ⟨way',false,r1,r2,r3,hb2⟩
theorem zrz (h:Rel s k c way e) (hf:Fit s k c) (D:DCur w base gR pl s.all.length cl (onm k) way e):
 Calls Tryz.prog 31 #[.pointer (some ⟨gR,0,none⟩)] w fun x w'=>∃ (y:V6) (q:List Val),Is w y (c.kval s k) q∧x=.returned (.tuple #[.agg #[.int .i64 y.k,.bool y.b,.int .i64 y.n,.string y.t,.string y.x,.slice y.p y.len y.cap],.bool c.on])∧Below w.heap.size w w':=by
 have hlen:=h.len
 have h3:=hf.d3
 obtain ⟨⟨pw,cw,B,⟨d,hd,hown⟩,hnb⟩,hbR⟩:=id D
 by_cases hs:c.d=0∨e=true
 ·obtain ⟨_,_,q2⟩:=h.still hf hs
  refine (keyRef0 w gR pl _ cl (onm k) pw way.length way.length cw e (by rw [hlen];exact hs) B).mono ?_
  rintro x w' ⟨rfl,hb2⟩
  refine ⟨⟨0,false,0,⟨#[]⟩,⟨#[]⟩,none,0,0⟩,[],?_,by rw [q2],hb2⟩
  unfold CS.kval
  rw [if_neg (by rw [q2];exact Bool.false_ne_true)]
  exact ⟨rfl,rfl,by constructor <;> decide,⟨none,0,rfl⟩⟩
 ·obtain ⟨hd0,he⟩:=not_or.1 hs
  obtain rfl:e=false:=by simpa using he
  have hm:way.length=c.d - 1+1:=by omega
  obtain ⟨hw,hpf⟩:=h.wl hf (by omega) (c.d - 1) hm
  obtain ⟨gw,rfl⟩:∃ gw,pw=some ⟨gw,0,none⟩:=by
   rcases hown.2 with ⟨_,e⟩ | ⟨g,cap,cur,e,_⟩
   ·omega
   ·injection e with e _ _
    exact ⟨g,e⟩
  have hw1:=zdu hown
  rw [hd] at hw1
  obtain ⟨y,q,iy,ry⟩:=isOf (zar.at_ way 0 hw1 (c.d - 1) (by omega))
  rw [Nat.zero_add] at ry
  have hon:c.on=true:=CS.on_of (by omega) hpf
  have hkv:c.kval s k=way[c.d - 1]'(by omega):=by
   unfold CS.kval
   rw [if_pos hon,hw]
   unfold CS.val SM.pt SM.part
   rw [hf.lev_top (by omega)]
   rfl
  refine (keyRef w gR pl _ cl (onm k) gw way.length (c.d - 1) cw hm (by omega) y B ry).mono ?_
  rintro x w' ⟨rfl,hb2⟩
  refine ⟨y,q,?_,by rw [hon],hb2⟩
  rw [hkv]
  exact iy
end
end
theorem DCur.only {W W':World} {base gR g:Nat} {pl:Option Addr} {N cl:Nat} {ord:ByteArray} {way:List Val} {e:Bool} (h:DCur W base gR pl N cl ord way e) (o:Only g W W') (hg:g < base):DCur W' base gR pl N cl ord way e:=by
 obtain ⟨⟨pw,cw,B,⟨d,hd,hown⟩,hn⟩,hb⟩:=h
 refine ⟨⟨pw,cw,(o.block _ (zac B) (by omega)).trans B,⟨d,hd,zdh hown o fun q=>?_⟩,hn⟩,hb⟩
 rcases hown.2 with ⟨q2,_⟩ | ⟨g2,cap,cur,q2,h1,_⟩
 ·rw [q2] at q;cases q
 ·rw [q2] at q
  injection q with q
  have q:g2=g:=q
  omega
theorem zbj.past {W0 W W':World} {s:SM} {g k base:Nat} {c:CS} (h:zbj W0 s W g c k) (b:Below base W W') (hg:g < base) (hb:W0.heap.size≤base):zbj W0 s W' g c k:=
 ⟨⟨h.at_.S,h.at_.n,h.at_.l,h.at_.h0,h.at_.h1,h.at_.h2,h.at_.hg,h.at_.b.trans (b.mono hb),(b.block _ hg).trans h.at_.B⟩,h.fit,h.ok,h.so,h.hk⟩
theorem namedNo (t:ByteArray) (ht:∀ j,j < 6→onm j≠t) (w:World):Calls Tryz.prog 53 #[.string t] w fun e w'=>e=.returned (.tuple #[.int .i64 0,.bool false])∧w'=w:=by
 have e0:(t.toList == [115,112,111])=false:=by have q:=zez (s:=⟨#[115,112,111]⟩) (k:=t) (fun e=>ht 0 (by decide) (by rw [e];rfl));rwa [za7 ⟨#[115,112,111]⟩] at q
 have e1:(t.toList == [115,111,112])=false:=by have q:=zez (s:=⟨#[115,111,112]⟩) (k:=t) (fun e=>ht 1 (by decide) (by rw [e];rfl));rwa [za7 ⟨#[115,111,112]⟩] at q
 have e2:(t.toList == [112,115,111])=false:=by have q:=zez (s:=⟨#[112,115,111]⟩) (k:=t) (fun e=>ht 2 (by decide) (by rw [e];rfl));rwa [za7 ⟨#[112,115,111]⟩] at q
 have e3:(t.toList == [112,111,115])=false:=by have q:=zez (s:=⟨#[112,111,115]⟩) (k:=t) (fun e=>ht 3 (by decide) (by rw [e];rfl));rwa [za7 ⟨#[112,111,115]⟩] at q
 have e4:(t.toList == [111,115,112])=false:=by have q:=zez (s:=⟨#[111,115,112]⟩) (k:=t) (fun e=>ht 4 (by decide) (by rw [e];rfl));rwa [za7 ⟨#[111,115,112]⟩] at q
 have e5:(t.toList == [111,112,115])=false:=by have q:=zez (s:=⟨#[111,112,115]⟩) (k:=t) (fun e=>ht 5 (by decide) (by rw [e];rfl));rwa [za7 ⟨#[111,112,115]⟩] at q
 clear ht
 go_enter Tryz.func53,Tryz.ntmps53
 go_wp2_with fail
 exact bodyPost_ret (results_tmp2 Tryz.results53 _ _ _) rfl ⟨rfl,rfl⟩
theorem zxo (A:Value) (t:ByteArray) (ht:∀ j,j < 6→onm j≠t) (w:World):Calls Tryz.prog 20 #[A,.string t] w fun e w'=>e=.returned (.tuple #[.pointer none,.int .i64 1])∧w'=w:=by
 go_enter Tryz.func20,Tryz.ntmps20
 go_wp2_with (go_at_call 53;(with_reducible refine (namedNo t ht w).mono ?_);rintro e0 w3 ⟨rfl,rfl⟩)
 exact bodyPost_ret (results_tmp2 Tryz.results20 _ _ _) rfl ⟨rfl,rfl⟩
theorem zxp (n:Nat) (p0:Option Addr) (cap:Nat) (P0 A B:Value) (w:World) (hG:Gd w) (hT:Tab w) (hn:60 < n):
 Calls Tryz.prog 4 #[.agg #[.slice p0 n cap,P0,A,B]] w fun e w'=>e=.returned (.bool true)∧Below w.heap.size w w':=by
 obtain ⟨W1,hW1⟩:∃ W1,W1=w.alloc (.cells #[.slice p0 n cap,P0,A,B] 26):=⟨_,rfl⟩
 have b1:Below w.heap.size w W1:=by rw [hW1];exact za0 _ _
 have c0:W1.cell? ⟨w.heap.size,0,none⟩=some (.slice p0 n cap):=by rw [hW1];exact zab (zah _ _ rfl) 0 rfl
 have hni:(60:Int) < n:=by omega
 have HWK:=Lib.hid (zrn W1 (hG.below b1) (hT.below b1))
 have HW:=Lib.hid hW1
 have HB:=Lib.hid b1
 clear hW1 b1 hG hT hn
 go_enter Tryz.func4,Tryz.ntmps4
 go_upto_region 1 with fail
 rw [← HW.out]
 go_wp2_with (go_at_call 8;(with_reducible refine HWK.out.mono ?_);rintro e w2 ⟨rfl,hb2⟩)
 go_ret
 exact ⟨rfl,HB.out.trans (hb2.mono HB.out.size)⟩
theorem cursBad (l:List Tri3) (p0:Option Addr) (cap:Nat) (P0:Value) (nm:ByteArray) (dl:List (Int × Val)) (pd:Option Addr) (dcap:Nat) (w:World) (hG:Gd w) (hT:Tab w) (hl:Tris w (.slice p0 l.length cap) l) (hn:l.length≤60) (hbad:¬ ∀ t∈l,zbl t=true):
 Calls Tryz.prog 4 #[.agg #[.slice p0 l.length cap,P0,.string nm,.slice pd dl.length dcap]] w fun e w'=>e=.returned (.bool true)∧Below w.heap.size w w':=by
 obtain ⟨W1,hW1⟩:∃ W1,W1=w.alloc (.cells #[.slice p0 l.length cap,P0,.string nm,.slice pd dl.length dcap] 26):=⟨_,rfl⟩
 have b1:Below w.heap.size w W1:=by rw [hW1];exact za0 _ _
 have hS:W1.heap[w.heap.size]?=some (.cells #[.slice p0 l.length cap,P0,.string nm,.slice pd dl.length dcap] 26):=by rw [hW1];exact zah _ _ rfl
 have c0:W1.cell? ⟨w.heap.size,0,none⟩=some (.slice p0 l.length cap):=zab hS 0 rfl
 have hni:¬ (60:Int) < l.length:=by omega
 have hld:=zrj _ l W1 (hG.below b1) (hT.below b1) (hl.below b1) (by omega)
 have hrf:∀ W,Below W1.heap.size W1 W→_:=fun W b=>zk4 l _ W (hl.below (b1.trans (b.mono b1.size))) (by omega)
 have HS:=Lib.hid hS
 have HB1:=Lib.hid b1
 have HW:=Lib.hid hW1
 have HWK:Hid (∀ W,Below W1.heap.size W1 W→Calls Tryz.prog 8 #[] W fun e w'=>e=.returned (.bool true)∧Below W.heap.size W w'):=Lib.hid fun W b=>zrn W ((hG.below b1).below b) ((hT.below b1).below b)
 have hs1:=b1.size
 have HLD:=Lib.hid (hld.mono fun e w' h=>h.2 hbad)
 have HRF:=Lib.hid fun W b=>(hrf W b).mono fun e w' h=>h.2 hbad
 clear hW1 hS hld hrf hG hT hl b1 hbad
 go_enter Tryz.func4,Tryz.ntmps4
 go_upto_region 1 with fail
 rw [← HW.out]
 go_upto_region 4 with (go_at_call 10;(with_reducible refine HLD.out.mono ?_);rintro e w2 ⟨rfl,hb2⟩)
 have HB2:=Lib.hid hb2
 have HRF2:=Lib.hid (HRF.out w2 hb2)
 have c2:w2.cell? ⟨w.heap.size,0,none⟩=some (.slice p0 l.length cap):=zab ((hb2.block _ (zac HS.out)).trans HS.out) 0 rfl
 clear hb2 HRF c0 HLD
 go_wp2_with (first
  |(go_at_call 11;(with_reducible refine HRF2.out.mono ?_);rintro e w3 ⟨rfl,hb3⟩
    have HB3:=Lib.hid (HB2.out.trans (hb3.mono HB2.out.size))
    have HWK3:=Lib.hid (HWK.out w3 HB3.out)
    clear hb3)
  |(go_at_call 8;(with_reducible refine HWK3.out.mono ?_);rintro e w4 ⟨rfl,hb4⟩))
 go_ret
 exact ⟨rfl,HB1.out.trans ((HB3.out.trans (hb4.mono HB3.out.size)).mono hs1)⟩
theorem zxq (l:List Tri3) (p0:Option Addr) (cap:Nat) (P0:Value) (nm:ByteArray) (dl:List (Int × Val)) (pd:Option Addr) (dcap:Nat) (w:World) (hG:Gd w) (hT:Tab w) (hl:Tris w (.slice p0 l.length cap) l) (hn:l.length≤60) (hgood:∀ t∈l,zbl t=true) (hnm:∀ j,j < 6→onm j≠nm):
 Calls Tryz.prog 4 #[.agg #[.slice p0 l.length cap,P0,.string nm,.slice pd dl.length dcap]] w fun e w'=>e=.returned (.bool true)∧Below w.heap.size w w':=by
 obtain ⟨W1,hW1⟩:∃ W1,W1=w.alloc (.cells #[.slice p0 l.length cap,P0,.string nm,.slice pd dl.length dcap] 26):=⟨_,rfl⟩
 have b1:Below w.heap.size w W1:=by rw [hW1];exact za0 _ _
 have hS:W1.heap[w.heap.size]?=some (.cells #[.slice p0 l.length cap,P0,.string nm,.slice pd dl.length dcap] 26):=by rw [hW1];exact zah _ _ rfl
 have c0:W1.cell? ⟨w.heap.size,0,none⟩=some (.slice p0 l.length cap):=zab hS 0 rfl
 have hni:¬ (60:Int) < l.length:=by omega
 have hld:=zrj _ l W1 (hG.below b1) (hT.below b1) (hl.below b1) (by omega)
 have hrf:∀ W,Below W1.heap.size W1 W→_:=fun W b=>zk4 l _ W (hl.below (b1.trans (b.mono b1.size))) (by omega)
 have HS:=Lib.hid hS
 have HB1:=Lib.hid b1
 have HW:=Lib.hid hW1
 have HWK:Hid (∀ W,Below W1.heap.size W1 W→Calls Tryz.prog 8 #[] W fun e w'=>e=.returned (.bool true)∧Below W.heap.size W w'):=Lib.hid fun W b=>zrn W ((hG.below b1).below b) ((hT.below b1).below b)
 have hs1:=b1.size
 have HLD:=Lib.hid (hld.mono fun e w' h=>h.1 hgood)
 have HRF:=Lib.hid fun W b=>(hrf W b).mono fun e w' h=>h.1 hgood
 have HNO:=Lib.hid hnm
 clear hW1 hS hld hrf hG hT hl b1 hgood hnm
 go_enter Tryz.func4,Tryz.ntmps4
 go_upto_region 1 with fail
 rw [← HW.out]
 go_upto_region 4 with (go_at_call 10;(with_reducible refine HLD.out.mono ?_);rintro e w2 ⟨sp,s,rfl,hin,hlo,hb2⟩)
 have HB2:=Lib.hid hb2
 have HRF2:=Lib.hid (HRF.out w2 hb2)
 have c2:w2.cell? ⟨w.heap.size,0,none⟩=some (.slice p0 l.length cap):=zab ((hb2.block _ (zac HS.out)).trans HS.out) 0 rfl
 clear hb2 HRF c0 HLD hin hlo
 go_upto_region 5 with (go_at_call 11;(with_reducible refine HRF2.out.mono ?_);rintro e w3 ⟨V,out,rfl,hins,hvt,hvo,hb3⟩)
 have HB3:=Lib.hid (HB2.out.trans (hb3.mono HB2.out.size))
 have c3:w3.cell? ⟨w.heap.size,2,none⟩=some (.string nm):=zab ((HB3.out.block _ (zac HS.out)).trans HS.out) 2 rfl
 have HMN:=Lib.hid (mayNo w3 nm HNO.out)
 clear hb3 hins hvt hvo HRF2 c2
 go_wp2_with (first
  |(go_at_call 20;(with_reducible refine (zxo _ nm HNO.out w3).mono ?_);rintro e w4 ⟨rfl,rfl⟩)
  |(go_at_call 21;(with_reducible refine HMN.out.mono ?_);rintro e w5 ⟨rfl,hb5⟩
    have HB5:=Lib.hid (HB3.out.trans (hb5.mono HB3.out.size))
    have HWK3:=Lib.hid (HWK.out w5 HB5.out)
    clear hb5)
  |(go_at_call 8;(with_reducible refine HWK3.out.mono ?_);rintro e w6 ⟨rfl,hb6⟩))
 go_ret
 exact ⟨rfl,HB1.out.trans ((HB5.out.trans (hb6.mono HB5.out.size)).mono hs1)⟩
end Go.Proofs.YtanbgdhmfjgihaaGreatDoor
