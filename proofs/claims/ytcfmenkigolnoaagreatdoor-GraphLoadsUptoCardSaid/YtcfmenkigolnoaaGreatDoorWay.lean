/- Texts of one kind, one behind the other: each says ahead of itself what it shows. -/
import Derived.Test.YtcfmenkigolnoaaGreatDoorWax
import Derived.Test.YtcfmenkigolnoaaGreatDoorWav
/- GNO -/
namespace Go.Proofs.YtcfmenkigolnoaaGreatDoor
open Go.RowKit
def Btw (lo hi:Nat):Nat→Prop:=fun g=>lo≤g∧g < hi
def zui (lo hi:Nat) (w w':World):Prop:=∀ g,lo≤g→g < hi→w'.heap[g]?=w.heap[g]?
def zct (w:World) (lo hi:Nat) (r:Option Nat) (pv:Value) (ps:List zax):Prop:=
 ps.length≤2097152∧(∀ g,pv.ownBlock=some g→g < hi)∧∃ xs,w.ownsRow lo 70 7 pv ps.length xs∧RowE za0 w (fun g=>Btw lo hi g∧pv.ownBlock≠some g∧r≠some g) xs ps
theorem zct.keep {w w':World} {lo hi:Nat} {r:Option Nat} {pv:Value} {ps:List zax} (h:zct w lo hi r pv ps) (hs:∀ g,lo≤g→g < hi→r≠some g→w'.heap[g]?=w.heap[g]?) (hr:∀ g,pv.ownBlock=some g→r≠some g):zct w' lo hi r pv ps:=by
 obtain ⟨h1,h2,xs,h3,h4⟩:=h
 exact ⟨h1,h2,xs,zaw h3 fun g e=>hs g (h3.lt g e).1 (h2 g e) (hr g e),h4.stays fun g hg=>⟨hg,hs g hg.1.1 hg.1.2 hg.2.2⟩⟩
theorem zct.slice {w:World} {lo hi:Nat} {r:Option Nat} {pv:Value} {ps:List zax} (h:zct w lo hi r pv ps):zak za0 w (Btw lo hi) pv ps:=by
 obtain ⟨h1,h2,xs,h3,h4⟩:=h
 rcases id h3.2 with ⟨rfl,e⟩ | ⟨g,cap,cur,rfl,hb,hg,hc,hm,hsz,htk⟩
 ·rw [List.length_eq_zero_iff.1 e]
  exact zak.nil _ _
 ·refine ⟨_,cap,rfl,fun _=>⟨g,0,xs,rfl,⟨hb,h2 g rfl⟩,fun j u hj=>?_,h4.stays fun i hi=>⟨hi.1,rfl⟩⟩⟩
  rw [Nat.zero_add]
  refine zac hg j ?_
  rw [← htk,List.getElem?_take] at hj
  split at hj
  ·rw [Array.getElem?_toList] at hj
   exact hj
  ·simp at hj
def zcp (w:World) (lo hi:Nat) (lv:Value) (ls:List ByteArray):Prop:=
 ls.length≤2097152∧(∀ t∈ls,t.size≤2097152)∧(∀ g,lv.ownBlock=some g→g < hi)∧w.ownsRow lo 9 1 lv ls.length (ls.map Value.string)
theorem zcp.keep {w w':World} {lo hi:Nat} {lv:Value} {ls:List ByteArray} (h:zcp w lo hi lv ls) (hs:∀ g,lv.ownBlock=some g→w'.heap[g]?=w.heap[g]?):zcp w' lo hi lv ls:=
 ⟨h.1,h.2.1,h.2.2.1,zaw h.2.2.2 fun g e=>hs g e⟩
theorem zcp.slice {w:World} {lo hi:Nat} {lv:Value} {ls:List ByteArray} (h:zcp w lo hi lv ls):zak zbq w (Btw lo hi) lv ls:=
 zhx h.2.2.2 h.2.1 fun g e=>⟨(h.2.2.2.lt g e).1,h.2.2.1 g e⟩
def zdb (w:World) (lo hi:Nat) (c:List Value) (a:zap):Prop:=
 ∃ lv pv,c=[.int .i64 a.id,lv,pv]∧(Lit.int .i64 a.id).wf=true∧zcp w lo hi lv a.labels∧zct w lo hi lv.ownBlock pv a.props∧∀ g,lv.ownBlock=some g→pv.ownBlock≠some g
def zfe (w:World) (lo hi:Nat) (c:List Value) (a:zat):Prop:=
 ∃ pv,c=[.int .i64 a.id,.int .i64 a.src,.int .i64 a.dst,.string a.type,pv]∧((Lit.int .i64 a.id).wf=true∧(Lit.int .i64 a.src).wf=true∧(Lit.int .i64 a.dst).wf=true)∧a.type.size≤2097152∧zct w lo hi none pv a.props
theorem zdb.rel {w:World} {lo hi:Nat} {c:List Value} {a:zap} (h:zdb w lo hi c a):za4.rel w (Btw lo hi) c a:=by
 obtain ⟨lv,pv,rfl,h1,h2,h3,_⟩:=h
 exact ⟨lv,pv,rfl,h1,h2.1,h3.1,h2.slice,h3.slice⟩
theorem zfe.rel {w:World} {lo hi:Nat} {c:List Value} {a:zat} (h:zfe w lo hi c a):zaz.rel w (Btw lo hi) c a:=by
 obtain ⟨pv,rfl,h1,h2,h3⟩:=h
 exact ⟨pv,rfl,h1,h2,h3.1,h3.slice⟩
theorem zdb.keep {w w':World} {lo hi:Nat} {c:List Value} {a:zap} (h:zdb w lo hi c a) (hs:zui lo hi w w'):zdb w' lo hi c a:=by
 obtain ⟨lv,pv,rfl,h1,h2,h3,h4⟩:=h
 exact ⟨lv,pv,rfl,h1,h2.keep fun g e=>hs g (h2.2.2.2.lt g e).1 (h2.2.2.1 g e),h3.keep (fun g a b _=>hs g a b) fun g e q=>h4 g q e,h4⟩
theorem zfe.keep {w w':World} {lo hi:Nat} {c:List Value} {a:zat} (h:zfe w lo hi c a) (hs:zui lo hi w w'):zfe w' lo hi c a:=by
 obtain ⟨pv,rfl,h1,h2,h3⟩:=h
 exact ⟨pv,rfl,h1,h2,h3.keep (fun g a b _=>hs g a b) fun g _ q=>by simp at q⟩
theorem zdb.sortLabels {w:World} {lo hi:Nat} {id:Int} {ls:List ByteArray} {ps:List zax} {lv pv:Value} (h:zdb w lo hi [.int .i64 id,lv,pv] ⟨id,ls,ps⟩) (hh:hi≤w.heap.size):
 Calls Tryz.prog 43 #[lv] w fun e w'=>e=.returned (.tuple #[])∧zdb w' lo hi [.int .i64 id,lv,pv] ⟨id,sortS ls,ps⟩∧w.grownBy w' lv.ownBlock:=by
 obtain ⟨lv',pv',e,h1,h2,h3,h4⟩:=h
 injection e with _ e
 injection e with e1 e
 injection e with e2 _
 subst e1 e2
 refine (znh ls lv lo w h2.2.2.2 h2.1).mono ?_
 rintro e w' ⟨rfl,ho,hg⟩
 refine ⟨rfl,⟨lv,pv,rfl,h1,⟨by rw [zdr];exact h2.1,fun t ht=>h2.2.1 t ((zmb _ _).1 ht),h2.2.2.1,by rw [zdr];exact ho⟩,?_,h4⟩,hg⟩
 obtain ⟨q1,q2,xs,q3,q4⟩:=h3
 refine ⟨q1,q2,xs,zaw q3 fun g e=>hg.block g (q3.lt g e).2 (fun q=>h4 g q.symm e),?_⟩
 refine q4.stays fun g hg2=>⟨hg2,?_⟩
 exact hg.block g (Nat.lt_of_lt_of_le hg2.1.2 hh) (fun q=>hg2.2.2 q.symm)
theorem zct.sort {w:World} {lo hi:Nat} {r:Option Nat} {ps:List zax} {pv:Value} (h:zct w lo hi r pv ps) (hh:hi≤w.heap.size):
 Calls Tryz.prog 44 #[pv] w fun e w'=>e=.returned (.tuple #[])∧(∃ ps',zej ps ps'∧zct w' lo hi r pv ps')∧w.grownBy w' pv.ownBlock:=by
 obtain ⟨h1,h2,xs,h3,h4⟩:=h
 refine (zni ps pv lo xs _ w h3 h4 (fun i hi=>⟨Nat.lt_of_lt_of_le hi.1.2 hh,hi.2.1⟩) h1).mono ?_
 rintro e w' ⟨rfl,⟨ps',xs',hp,ho,hr⟩,hg⟩
 have hl:ps'.length=ps.length:=hp.1.length_eq
 exact ⟨rfl,⟨ps',hp,by rw [hl];exact h1,h2,xs',by rw [hl];exact ho,hr⟩,hg⟩
theorem zdb.sortProps {w:World} {lo hi:Nat} {id:Int} {ls:List ByteArray} {ps:List zax} {lv pv:Value} (h:zdb w lo hi [.int .i64 id,lv,pv] ⟨id,ls,ps⟩) (hh:hi≤w.heap.size):
 Calls Tryz.prog 44 #[pv] w fun e w'=>e=.returned (.tuple #[])∧(∃ ps',zej ps ps'∧zdb w' lo hi [.int .i64 id,lv,pv] ⟨id,ls,ps'⟩)∧w.grownBy w' pv.ownBlock:=by
 obtain ⟨lv',pv',e,h1,h2,h3,h4⟩:=h
 injection e with _ e
 injection e with e1 e
 injection e with e2 _
 subst e1 e2
 refine (h3.sort hh).mono ?_
 rintro e w' ⟨rfl,⟨ps',hp,ho⟩,hg⟩
 exact ⟨rfl,⟨ps',hp,lv,pv,rfl,h1,h2.keep fun g e=>hg.block g (h2.2.2.2.lt g e).2 (fun q=>h4 g e q.symm),ho,h4⟩,hg⟩
theorem zfe.sortProps {w:World} {lo hi:Nat} {id src dst:Int} {ty:ByteArray} {ps:List zax} {pv:Value} (h:zfe w lo hi [.int .i64 id,.int .i64 src,.int .i64 dst,.string ty,pv] ⟨id,src,dst,ty,ps⟩) (hh:hi≤w.heap.size):
 Calls Tryz.prog 44 #[pv] w fun e w'=>e=.returned (.tuple #[])∧(∃ ps',zej ps ps'∧zfe w' lo hi [.int .i64 id,.int .i64 src,.int .i64 dst,.string ty,pv] ⟨id,src,dst,ty,ps'⟩)∧w.grownBy w' pv.ownBlock:=by
 obtain ⟨pv',e,h1,h2,h3⟩:=h
 have e2:pv=pv':=by simpa using e
 subst e2
 refine (h3.sort hh).mono ?_
 rintro e w' ⟨rfl,⟨ps',hp,ho⟩,hg⟩
 exact ⟨rfl,⟨ps',hp,pv,rfl,h1,h2,ho⟩,hg⟩
end Go.Proofs.YtcfmenkigolnoaaGreatDoor

/- GNP -/
namespace Go.Proofs.YtcfmenkigolnoaaGreatDoor
open Go.RowKit
theorem zcp.wide {w:World} {lo hi lo2 hi2:Nat} {lv:Value} {ls:List ByteArray} (h:zcp w lo hi lv ls) (h1:lo2≤lo) (h2:hi≤hi2):zcp w lo2 hi2 lv ls:=
 ⟨h.1,h.2.1,fun g e=>Nat.lt_of_lt_of_le (h.2.2.1 g e) h2,zcd h.2.2.2 h1⟩
theorem zct.wide {w:World} {lo hi lo2 hi2:Nat} {r:Option Nat} {pv:Value} {ps:List zax} (h:zct w lo hi r pv ps) (h1:lo2≤lo) (h2:hi≤hi2):zct w lo2 hi2 r pv ps:=by
 obtain ⟨q1,q2,xs,q3,q4⟩:=h
 exact ⟨q1,fun g e=>Nat.lt_of_lt_of_le (q2 g e) h2,xs,zcd q3 h1,q4.stays fun g hg=>⟨⟨⟨Nat.le_trans h1 hg.1.1,Nat.lt_of_lt_of_le hg.1.2 h2⟩,hg.2⟩,rfl⟩⟩
theorem zct.shun {w:World} {lo hi:Nat} {r:Option Nat} {pv:Value} {ps:List zax} (h:zct w lo hi none pv ps) (hr:∀ g,r=some g→¬ Btw lo hi g):zct w lo hi r pv ps:=by
 obtain ⟨q1,q2,xs,q3,q4⟩:=h
 exact ⟨q1,q2,xs,q3,q4.stays fun g hg=>⟨⟨hg.1,hg.2.1,fun e=>hr g e hg.1⟩,rfl⟩⟩
theorem zcp.below {w w':World} {lo hi:Nat} {lv:Value} {ls:List ByteArray} (h:zcp w lo hi lv ls) (b:Below w.heap.size w w'):zcp w' lo hi lv ls:=
 h.keep fun g e=>b.block g (h.2.2.2.lt g e).2
theorem zqo (V:Value) (ts:List ByteArray) (W:World) (h:zcu W V ts) (hnil:nilK V) (hn:ts.length≤2097152) (hs:∀ t∈ts,t.size≤2097152):
 Calls Tryz.prog 34 #[V] W fun e w'=>∃ R,e=.returned R∧zcp w' W.heap.size w'.heap.size R ts∧Below W.heap.size W w':=by
 refine (znf V ts W h hnil hn).mono ?_
 rintro e w' ⟨R,rfl,ho,hb⟩
 exact ⟨R,rfl,⟨hn,hs,fun g e=>(ho.lt g e).2,ho⟩,hb⟩
theorem zji (V:Value) (ps:List zax) (W:World) (h:zak za0 W (Old W) V ps) (hn:ps.length≤2097152):
 Calls Tryz.prog 35 #[V] W fun e w'=>∃ R,e=.returned R∧zct w' W.heap.size w'.heap.size none R ps∧Below W.heap.size W w':=by
 refine (zne V ps W h hn).mono ?_
 rintro e w' ⟨R,xs,rfl,ho,hr,hb⟩
 exact ⟨R,rfl,⟨hn,fun g e=>(ho.lt g e).2,xs,ho,hr.stays fun g hg=>⟨⟨⟨hg.1,hg.2.1⟩,hg.2.2,by simp⟩,rfl⟩⟩,hb⟩
theorem zjz {w:World} {lo m hi:Nat} {id:Int} {ls:List ByteArray} {ps:List zax} {lv pv:Value} (hid:(Lit.int .i64 id).wf=true) (h:(zcp w lo m lv ls∧zct w m hi none pv ps)∨(zct w lo m none pv ps∧zcp w m hi lv ls)) (h1:lo≤m) (h2:m≤hi):zdb w lo hi [.int .i64 id,lv,pv] ⟨id,ls,ps⟩:=by
 rcases h with ⟨hl,hp⟩ | ⟨hp,hl⟩
 ·refine ⟨lv,pv,rfl,hid,hl.wide (Nat.le_refl _) h2,(hp.shun fun g e q=>?_).wide h1 (Nat.le_refl _),fun g e q=>?_⟩
  ·have:=hl.2.2.1 g e
   have:=q.1
   omega
  ·have:=hl.2.2.1 g e
   obtain ⟨_,_,xs,q3,_⟩:=hp
   have:=(q3.lt g q).1
   omega
 ·refine ⟨lv,pv,rfl,hid,hl.wide h1 (Nat.le_refl _),(hp.shun fun g e q=>?_).wide (Nat.le_refl _) h2,fun g e q=>?_⟩
  ·have:=(hl.2.2.2.lt g e).1
   have:=q.2
   omega
  ·have:=(hl.2.2.2.lt g e).1
   obtain ⟨_,q2,_⟩:=hp
   have:=q2 g q
   omega
end Go.Proofs.YtcfmenkigolnoaaGreatDoor

/- GAO -/
namespace Go.Proofs.YtcfmenkigolnoaaGreatDoor
open Go.RowKit
structure zeb (α:Type) where
 E:Elem α
 rel:World→Nat→Nat→List Value→α→Prop
 keep:∀ {w w' lo hi c a},rel w lo hi c a→zui lo hi w w'→rel w' lo hi c a
 toE:∀ {w lo hi c a},rel w lo hi c a→E.rel w (Btw lo hi) c a
theorem zv5 {w:World} {base size n:Nat} {e:TypeId} {v:Value} {xs:List Value} (h:w.ownsRow base e size v n xs):capK v∧nilK v:=by
 rcases h.2 with ⟨rfl,rfl⟩ | ⟨g,cap,cur,rfl,hb,hg,hc,hm,hsz,htk⟩
 ·refine ⟨fun p m c e=>?_,fun m c e=>?_⟩
  ·injection e with _ e2 e3
   omega
  ·injection e with _ e2 e3
   exact ⟨e2.symm,e3.symm⟩
 ·refine ⟨fun p m c e=>?_,fun m c e=>?_⟩
  ·injection e with _ e2 e3
   omega
  ·injection e with e1
   cases e1
theorem zdb.relK {w:World} {lo hi:Nat} {c:List Value} {a:zap} (h:zdb w lo hi c a):zgw.rel w (Btw lo hi) c a:=by
 refine ⟨h.rel,?_⟩
 obtain ⟨lv,pv,rfl,_,h2,_⟩:=h
 intro v hv
 have e:lv=v:=Option.some.inj hv
 subst e
 exact zv5 h2.2.2.2
def zbw:zeb zap:=⟨zgw,zdb,zdb.keep,zdb.relK⟩
def zdy:zeb zat:=⟨zaz,zfe,zfe.keep,zfe.rel⟩
structure Item (α:Type) where
 c:List Value
 a:α
 lo:Nat
 hi:Nat
def Off {α:Type} (x y:Item α):Prop:=x.hi≤y.lo∨y.hi≤x.lo
section
variable {α:Type} {O:zeb α} {w w':World} {base top:Nat} {r:Option Nat} {L L':List (Item α)}
theorem zeb.len {lo hi:Nat} {c:List Value} {a:α} (h:O.rel w lo hi c a):c.length=O.E.k:=O.E.len (O.toE h)
theorem zeb.one {lo hi:Nat} {c:List Value} {a:α} (h:O.rel w lo hi c a):∀ u∈c,u.oneCell'=true:=O.E.one (O.toE h)
theorem zj0 {x y:Item α} (h:Off x y):Off y x:=h.symm
structure zbr (O:zeb α) (w:World) (base top:Nat) (r:Option Nat) (L:List (Item α)):Prop where
 rel:∀ x∈L,O.rel w x.lo x.hi x.c x.a
 bnd:∀ x∈L,base≤x.lo∧x.lo≤x.hi∧x.hi≤top∧∀ g,r=some g→¬ Btw x.lo x.hi g
 off:L.Pairwise Off
theorem zbr.keep (h:zbr O w base top r L) (hs:∀ g,base≤g→g < top→r≠some g→w'.heap[g]?=w.heap[g]?):zbr O w' base top r L:=
 ⟨fun x hx=>O.keep (h.rel x hx) fun g a b=>by
  obtain ⟨b1,b2,b3,b4⟩:=h.bnd x hx
  exact hs g (Nat.le_trans b1 a) (Nat.lt_of_lt_of_le b b3) (fun e=>b4 g e ⟨a,b⟩),h.bnd,h.off⟩
theorem zbr.perm (h:zbr O w base top r L) (p:L'.Perm L):zbr O w base top r L':=
 ⟨fun x hx=>h.rel x (p.mem_iff.1 hx),fun x hx=>h.bnd x (p.mem_iff.1 hx),(p.pairwise_iff zj0).2 h.off⟩
theorem zbr.apart (h:zbr O w base top r L) {i j:Nat} (hi:i < L.length) (hj:j < L.length) (hne:j≠i):Off L[i] L[j]:=by
 have q:=List.pairwise_iff_getElem.1 h.off
 rcases Nat.lt_or_gt_of_ne hne with e | e
 ·exact zj0 (q j i hj hi e)
 ·exact q i j hi hj e
theorem zbr.set (h:zbr O w base top r L) (i:Nat) (hi:i < L.length) (c':List Value) (a':α) (hs:∀ g,base≤g→g < top→r≠some g→¬ Btw L[i].lo L[i].hi g→w'.heap[g]?=w.heap[g]?) (hr:O.rel w' L[i].lo L[i].hi c' a'):
 zbr O w' base top r (L.set i ⟨c',a',L[i].lo,L[i].hi⟩):=by
 have hcase:∀ x∈L.set i ⟨c',a',L[i].lo,L[i].hi⟩,x=⟨c',a',L[i].lo,L[i].hi⟩∨∃ j,∃ hj:j < L.length,j≠i∧x=L[j]:=by
  intro x hx
  obtain ⟨j,hj,rfl⟩:=List.getElem_of_mem hx
  rw [List.length_set] at hj
  rw [List.getElem_set]
  by_cases e:i=j
  ·exact .inl (by rw [if_pos e])
  ·exact .inr ⟨j,hj,fun q=>e q.symm,by rw [if_neg e]⟩
 refine ⟨fun x hx=>?_,fun x hx=>?_,?_⟩
 ·rcases hcase x hx with rfl | ⟨j,hj,hne,rfl⟩
  ·exact hr
  ·refine O.keep (h.rel _ (List.getElem_mem hj)) fun g a b=>?_
   obtain ⟨b1,b2,b3,b4⟩:=h.bnd _ (List.getElem_mem hj)
   refine hs g (Nat.le_trans b1 a) (Nat.lt_of_lt_of_le b b3) (fun e=>b4 g e ⟨a,b⟩) (fun q=>?_)
   obtain ⟨q1,q2⟩:=q
   rcases h.apart hi hj hne with e | e <;> omega
 ·rcases hcase x hx with rfl | ⟨j,hj,hne,rfl⟩
  ·exact h.bnd L[i] (List.getElem_mem hi)
  ·exact h.bnd _ (List.getElem_mem hj)
 ·refine List.pairwise_iff_getElem.2 fun j k hj hk hjk=>?_
  rw [List.length_set] at hj hk
  rw [List.getElem_set,List.getElem_set]
  by_cases e1:i=j
  ·rw [if_pos e1,if_neg (by omega)]
   exact h.apart hi hk (by omega)
  ·rw [if_neg e1]
   by_cases e2:i=k
   ·rw [if_pos e2]
    exact zj0 (h.apart hi hj (by omega))
   ·rw [if_neg e2]
    exact h.apart hj hk (by omega)
end
structure Mod (P:Nat→Prop) (w w':World):Prop where
 os:w'.os=w.os
 tape:w'.tape=w.tape
 output:w'.output=w.output
 size:w.heap.size≤w'.heap.size
 block:∀ g,g < w.heap.size→¬ P g→w'.heap[g]?=w.heap[g]?
section
variable {P:Nat→Prop} {a b c:World}
theorem Mod.refl (P:Nat→Prop) (w:World):Mod P w w:=⟨rfl,rfl,rfl,Nat.le_refl _,fun _ _ _=>rfl⟩
theorem Mod.trans (h:Mod P a b) (k:Mod P b c):Mod P a c:=
 ⟨k.os.trans h.os,k.tape.trans h.tape,k.output.trans h.output,Nat.le_trans h.size k.size,fun g hg hp=>(k.block g (Nat.lt_of_lt_of_le hg h.size) hp).trans (h.block g hg hp)⟩
theorem Mod.drewN (h:Mod P a b) (n:Nat):Mod P a (b.drewN n):=h.trans ⟨rfl,rfl,rfl,Nat.le_refl _,fun _ _ _=>rfl⟩
theorem Mod.drew (h:Mod P a b):Mod P a b.drew:=h.trans ⟨rfl,rfl,rfl,Nat.le_refl _,fun _ _ _=>rfl⟩
theorem Mod.below {B:Nat} (h:Below B a b) (hB:a.heap.size≤B):Mod P a b:=⟨h.os,h.tape,h.output,h.size,fun g hg _=>h.block g (Nat.lt_of_lt_of_le hg hB)⟩
theorem Mod.grown {r:Option Nat} (h:a.grownBy b r) (hr:∀ g,r=some g→P g):Mod P a b:=⟨h.os,h.tape,h.output,h.size,fun g hg hp=>h.block g hg (fun e=>hp (hr g e.symm))⟩
theorem Mod.only {g:Nat} (h:Only g a b) (hg:P g):Mod P a b:=⟨h.os,h.tape,h.output,h.size,fun k hk hp=>h.block k hk (fun e=>hp (by rw [e];exact hg))⟩
theorem Mod.toBelow {B:Nat} (h:Mod P a b) (hB:B≤a.heap.size) (hP:∀ g,P g→B≤g):Below B a b:=⟨h.os,h.tape,h.output,h.size,fun g hg=>h.block g (Nat.lt_of_lt_of_le hg hB) (fun p=>by have:=hP g p;omega)⟩
end
section
variable {α:Type} {O:zeb α} {D:TypeId} {w w' w3 w5 wr:World} {base top:Nat} {bs:List α} {A A2:Value}
def AccO (O:zeb α) (D:TypeId) (base top:Nat) (bs:List α) (A:Value) (w:World):Prop:=
 top≤w.heap.size∧(∀ g,A.ownBlock=some g→g < top)∧∃ L:List (Item α),L.map (·.a)=bs∧w.ownsRow base D O.E.k A bs.length (L.map (·.c)).flatten∧zbr O w base top A.ownBlock L
theorem AccO.start (O:zeb α) (D:TypeId) (base top:Nat) (w:World) (h:top≤w.heap.size):AccO O D base top [] (.slice none 0 0) w:=
 ⟨h,(fun g e=>by cases e),[],rfl,World.ownsRow_nil _ _ _ _,⟨by simp,by simp,List.Pairwise.nil⟩⟩
theorem AccO.keep (h:AccO O D base top bs A w) (hs:∀ g,base≤g→g < top→w'.heap[g]?=w.heap[g]?) (hz:w.heap.size≤w'.heap.size):AccO O D base top bs A w':=by
 obtain ⟨h1,h2,L,h3,h4,h5⟩:=h
 exact ⟨Nat.le_trans h1 hz,h2,L,h3,zaw h4 fun g e=>hs g (h4.lt g e).1 (h2 g e),h5.keep fun g a b _=>hs g a b⟩
theorem AccO.next {L:List (Item α)} {b:α} {c:List Value} {lo hi:Nat} {o:Obj} (h1:top≤wr.heap.size) (h2:∀ g,A.ownBlock=some g→base≤g∧g < top) (hL:L.map (·.a)=bs) (hit:zbr O wr base top A.ownBlock L) (hb:base≤wr.heap.size)
 (hk:∀ g,base≤g→g < wr.heap.size→w3.heap[g]?=wr.heap[g]?) (hs:wr.heap.size≤w3.heap.size) (hc:O.rel w3 lo hi c b) (hlo:wr.heap.size≤lo) (hlh:lo≤hi) (hhi:hi≤w3.heap.size)
 (ho:w5.ownsRow base D O.E.k A2 (bs.length+1) ((L.map (·.c)).flatten++c)) (hg:(w3.alloc o).grownBy w5 A.ownBlock) (hloc:A2.ownBlock=A.ownBlock∨A2.ownBlock=some (w3.alloc o).heap.size):AccO O D base w5.heap.size (bs++[b]) A2 w5:=by
 have s4:(w3.alloc o).heap.size=w3.heap.size+1:=by simp
 have s5:=hg.size
 have h53:∀ g,g < w3.heap.size→A.ownBlock≠some g→w5.heap[g]?=w3.heap[g]?:=fun g hlt hne=>(hg.block g (by omega) (fun e=>hne e.symm)).trans (Below.heap_alloc _ _ _ hlt)
 refine ⟨Nat.le_refl _,fun g e=>(ho.lt g e).2,L++[⟨c,b,lo,hi⟩],by simp [hL],by simpa using ho,?_,?_,?_⟩
 ·intro x hx
  rcases List.mem_append.1 hx with hx | hx
  ·obtain ⟨b1,b2,b3,b4⟩:=hit.bnd x hx
   refine O.keep (hit.rel x hx) fun g p q=>?_
   exact (h53 g (by omega) (fun e=>b4 g e ⟨p,q⟩)).trans (hk g (by omega) (by omega))
  ·obtain rfl:=List.mem_singleton.1 hx
   refine O.keep hc fun g p q=>h53 g (Nat.lt_of_lt_of_le q hhi) (fun e=>?_)
   have:=h2 g e
   simp only at p
   omega
 ·intro x hx
  rcases List.mem_append.1 hx with hx | hx
  ·obtain ⟨b1,b2,b3,b4⟩:=hit.bnd x hx
   refine ⟨b1,b2,by omega,fun g e=>?_⟩
   rcases hloc with q | q
   ·exact b4 g (by rw [← q];exact e)
   ·rw [q] at e
    cases e
    intro p
    have:=p.2
    omega
  ·obtain rfl:=List.mem_singleton.1 hx
   refine ⟨Nat.le_trans hb hlo,hlh,by show hi≤_;omega,fun g e p=>?_⟩
   obtain ⟨p1,p2⟩:=p
   simp only at p1 p2
   rcases hloc with q | q
   ·have:=h2 g (by rw [← q];exact e)
    omega
   ·rw [q] at e
    cases e
    omega
 ·rw [List.pairwise_append]
  refine ⟨hit.off,List.pairwise_singleton _ _,fun x hx y hy=>?_⟩
  obtain rfl:=List.mem_singleton.1 hy
  obtain ⟨b1,b2,b3,b4⟩:=hit.bnd x hx
  exact .inl (by show x.hi≤lo;omega)
theorem zff {k n g cap:Nat} {C:List (List Value)} (h:w.ownsRow base D k (.slice (some ⟨g,0,none⟩) n cap) n C.flatten) (hC:∀ c∈C,c.length=k) (hl:C.length=n) (ho:∀ c∈C,∀ u∈c,u.oneCell'=true):zbz w g 0 k D (cap*k) C:=by
 rcases h.2 with ⟨e,_⟩ | ⟨g',cap',cur,e,hb,hg,hc,hm,hsz,htk⟩
 ·cases e
 ·cases e
  have hcap:n*k≤cap*k:=Nat.mul_le_mul_right _ hc
  have hij:∀ i j,i < n→j < k→i*k+j < n*k:=fun i j hi hj=>by
   have:=Nat.mul_le_mul_right k (show i+1≤n from hi)
   rw [Nat.succ_mul] at this
   omega
  refine ⟨fun i c hi=>⟨fun j u hj=>?_,hC c (List.mem_of_getElem? hi),ho c (List.mem_of_getElem? hi)⟩,fun i hi j hj=>?_,⟨cur,hg,hsz⟩⟩
  ·have hck:=hC c (List.mem_of_getElem? hi)
   have hjk:j < k:=by rw [← hck];exact (List.getElem?_eq_some_iff.1 hj).1
   have hin:i < n:=by rw [← hl];exact (List.getElem?_eq_some_iff.1 hi).1
   have h1:=zij k C hC i c hi j hjk
   rw [← htk,List.getElem?_take,if_pos (hij i j hin hjk),hj,Array.getElem?_toList] at h1
   rw [Nat.zero_add]
   exact zac hg _ h1
  ·have hlt:0+i*k+j < cur.size:=by have:=hij i j (by omega) hj;omega
   exact ⟨by rw [zac hg _ (Array.getElem?_eq_getElem hlt)];rfl,zbj hg _⟩
theorem zuj {g off k t N:Nat} {C:List (List Value)} (h:zbz w g off k t N C) (hk:0 < k):w.rangeAt g off C.flatten:=by
 have hC:∀ c∈C,c.length=k:=fun c hc=>by
  obtain ⟨i,hi⟩:=List.mem_iff_getElem?.1 hc
  exact (h.rng i c hi).2.1
 intro j u hj
 have hlt:=(List.getElem?_eq_some_iff.1 hj).1
 rw [zg8 k C hC] at hlt
 have hd:j / k < C.length:=Nat.div_lt_of_lt_mul (by rw [Nat.mul_comm];exact hlt)
 obtain ⟨c,hc⟩:∃ c,C[j / k]?=some c:=⟨_,List.getElem?_eq_getElem hd⟩
 have e:j / k*k+j % k=j:=by rw [Nat.mul_comm];exact Nat.div_add_mod j k
 have h1:=zij k C hC (j / k) c hc (j % k) (Nat.mod_lt _ hk)
 rw [e,hj] at h1
 have h2:=(h.rng (j / k) c hc).1 (j % k) u h1.symm
 rwa [Nat.add_assoc,e] at h2
theorem zf7 {g k N cap:Nat} {r:Option Nat} {L:List (Item α)} {P:Nat→Prop} (h:zbz w g 0 k D N (L.map (·.c))) (_hk:O.E.k=k) (h0:0 < k) (hi:zbr O w base top r L) (hP:∀ i,base≤i→i < top→P i) (hg:P g):zak O.E w P (.slice (some ⟨g,0,none⟩) L.length cap) (L.map (·.a)):=by
 refine ⟨_,cap,by rw [List.length_map],fun _=>⟨g,0,(L.map (·.c)).flatten,rfl,hg,zuj h h0,?_⟩⟩
 have e1:L.map (·.c)=(L.map fun x=>(x.c,x.a)).map (·.1):=by rw [List.map_map];rfl
 have e2:L.map (·.a)=(L.map fun x=>(x.c,x.a)).map (·.2):=by rw [List.map_map];rfl
 rw [e1,e2]
 refine zjy _ fun y hy=>?_
 obtain ⟨x,hx,rfl⟩:=List.mem_map.1 hy
 obtain ⟨b1,b2,b3,b4⟩:=hi.bnd x hx
 exact O.E.stays (fun i hi=>⟨hP i (Nat.le_trans b1 hi.1) (Nat.lt_of_lt_of_le hi.2 b3),rfl⟩) (O.toE (hi.rel x hx))
theorem AccO.slice {P:Nat→Prop} (h:AccO O D base top bs A w) (hk:0 < O.E.k) (hP:∀ i,base≤i→i < top→P i):zak O.E w P A bs:=by
 obtain ⟨h1,h2,L,rfl,h4,h5⟩:=h
 rw [List.length_map] at h4
 rcases id h4.2 with ⟨rfl,e⟩ | ⟨g,cap,cur,rfl,hb,_⟩
 ·obtain rfl:L=[]:=List.length_eq_zero_iff.1 e
  exact zak.nil _ _
 ·exact zf7 (zff h4 (fun c hc=>by
   obtain ⟨x,hx,rfl⟩:=List.mem_map.1 hc
   exact zeb.len (h5.rel x hx)) (List.length_map _) (fun c hc=>by
   obtain ⟨x,hx,rfl⟩:=List.mem_map.1 hc
   exact zeb.one (h5.rel x hx))) rfl hk h5 hP (hP g hb (h2 g rfl))
end
end Go.Proofs.YtcfmenkigolnoaaGreatDoor
