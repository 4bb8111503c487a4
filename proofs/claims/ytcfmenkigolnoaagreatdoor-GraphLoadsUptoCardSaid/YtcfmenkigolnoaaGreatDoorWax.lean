/- Texts of one kind, one behind the other: each says ahead of itself what it shows. -/
import Derived.Test.YtcfmenkigolnoaaGreatDoorWah
import Derived.Deep.MidRow
import Derived.Deep.LoopGhost
import Derived.Test.YtcfmenkigolnoaaGreatDoorWaw
import Derived.Laws.AppendOwnNone
/- HB -/
namespace Go.Proofs.YtcfmenkigolnoaaGreatDoor
open Go.RowKit
theorem zcn {w w':World} {g:Nat} (h:w'.heap[g]?=w.heap[g]?) {o:Nat} {cs:List Value} (r:w.rangeAt g o cs):w'.rangeAt g o cs:=fun j v hv=>(World.cell?_of_block (a:=⟨g,o+j,none⟩) h).trans (r j v hv)
theorem zdp {w w':World} {g:Nat} (h:w'.heap[g]?=w.heap[g]?) {o n:Nat} (r:w.there g o n):w'.there g o n:=fun j hj=>
 ⟨by rw [World.cell?_of_block (a:=⟨g,o+j,none⟩) h];exact (r j hj).1,by rw [World.frozen?_of_block (a:=⟨g,o+j,none⟩) h];exact (r j hj).2⟩
mutual
def OneT (w:World) (g off s e:Nat):Val→Prop
 | .mk k b n t x l=>∃ L,w.rangeAt g off [.int .i64 k,.bool b,.int .i64 n,.string t,.string x,L]∧w.there g off 6∧Fine n t x l.length∧zdi w s e L l
def zdi (w:World) (lo hi:Nat) (L:Value):List Val→Prop
 | []=>∃ p cap,L=.slice p 0 cap
 | v::r=>∃ g off cap s e,L=.slice (some ⟨g,off,none⟩) (r.length+1) cap∧lo≤g∧g < hi∧lo≤s∧s≤e∧e≤hi∧¬ (s≤g∧g < e)∧OneT w g off s e v∧zcj w g (off+6) e hi r
def zcj (w:World) (g off lo hi:Nat):List Val→Prop
 | []=>True
 | v::r=>∃ s e,lo≤s∧s≤e∧e≤hi∧¬ (s≤g∧g < e)∧OneT w g off s e v∧zcj w g (off+6) e hi r
end
mutual
theorem OneT.held {w:World} {g off s e:Nat}:(v:Val)→OneT w g off s e v→za7 w g off v
 | .mk k b n t x l,h=>by
   unfold OneT at h
   unfold za7
   obtain ⟨L,r,_,hf,hl⟩:=h
   exact ⟨r 0 _ rfl,r 1 _ rfl,r 2 _ rfl,r 3 _ rfl,r 4 _ rfl,hf,L,r 5 _ rfl,zdi.held l hl⟩
theorem zdi.held {w:World} {lo hi:Nat} {L:Value}:(l:List Val)→zdi w lo hi L l→Held w L l
 | [],h=>by
   unfold zdi at h
   unfold Held
   exact h
 | v::r,h=>by
   unfold zdi at h
   unfold Held
   obtain ⟨g,off,cap,s,e,rfl,_,_,_,_,_,_,hv,hr⟩:=h
   exact ⟨g,off,cap,rfl,OneT.held v hv,zcj.held r hr⟩
theorem zcj.held {w:World} {g off lo hi:Nat}:(l:List Val)→zcj w g off lo hi l→zb5 w g off l
 | [],_=>by unfold zb5;trivial
 | v::r,h=>by
   unfold zcj at h
   unfold zb5
   obtain ⟨s,e,_,_,_,_,hv,hr⟩:=h
   exact ⟨OneT.held v hv,zcj.held r hr⟩
end
structure Keep (w w':World) (g off lo hi:Nat):Prop where
 rng:∀ o cs,off≤o→w.rangeAt g o cs→w'.rangeAt g o cs
 thr:∀ o n,off≤o→w.there g o n→w'.there g o n
 blk:∀ i,lo≤i→i < hi→i≠g→w'.heap[i]?=w.heap[i]?
theorem Keep.more {w w':World} {g off lo hi off2 lo2 hi2:Nat} (h:Keep w w' g off lo hi) (h1:off≤off2) (h2:lo≤lo2) (h3:hi2≤hi):Keep w w' g off2 lo2 hi2:=
 ⟨fun o cs ho=>h.rng o cs (by omega),fun o n ho=>h.thr o n (by omega),fun i a b c=>h.blk i (by omega) (by omega) c⟩
theorem Keep.heap {w w':World} {g off lo hi:Nat} (hg:w'.heap[g]?=w.heap[g]?) (h:∀ i,lo≤i→i < hi→w'.heap[i]?=w.heap[i]?):Keep w w' g off lo hi:=
 ⟨fun _ _ _ r=>zcn hg r,fun _ _ _ r=>zdp hg r,fun i a b _=>h i a b⟩
mutual
theorem OneT.keep {w w':World} {g off s e:Nat} (h:Keep w w' g off s e) (hn:¬ (s≤g∧g < e)):(v:Val)→OneT w g off s e v→OneT w' g off s e v
 | .mk k b n t x l,hv=>by
   unfold OneT at hv ⊢
   obtain ⟨L,r,th,hf,hl⟩:=hv
   exact ⟨L,h.rng _ _ (Nat.le_refl _) r,h.thr _ _ (Nat.le_refl _) th,hf,zdi.stays (fun i a b=>h.blk i a b (fun q=>hn ⟨q ▸ a,q ▸ b⟩)) l hl⟩
theorem zdi.stays {w w':World} {lo hi:Nat} {L:Value} (h:∀ i,lo≤i→i < hi→w'.heap[i]?=w.heap[i]?):(l:List Val)→zdi w lo hi L l→zdi w' lo hi L l
 | [],hl=>by
   unfold zdi at hl ⊢
   exact hl
 | v::r,hl=>by
   unfold zdi at hl ⊢
   obtain ⟨g,off,cap,s,e,rfl,h1,h2,h3,h4,h5,h6,hv,hr⟩:=hl
   have k:Keep w w' g off lo hi:=Keep.heap (h g h1 h2) h
   exact ⟨g,off,cap,s,e,rfl,h1,h2,h3,h4,h5,h6,OneT.keep (k.more (Nat.le_refl _) h3 h5) h6 v hv,zcj.keep (k.more (by omega) (by omega) (Nat.le_refl _)) r hr⟩
theorem zcj.keep {w w':World} {g off lo hi:Nat} (h:Keep w w' g off lo hi):(l:List Val)→zcj w g off lo hi l→zcj w' g off lo hi l
 | [],_=>by unfold zcj;trivial
 | v::r,hl=>by
   unfold zcj at hl ⊢
   obtain ⟨s,e,h3,h4,h5,h6,hv,hr⟩:=hl
   exact ⟨s,e,h3,h4,h5,h6,OneT.keep (h.more (Nat.le_refl _) h3 h5) h6 v hv,zcj.keep (h.more (by omega) (by omega) (Nat.le_refl _)) r hr⟩
end
theorem zcj.wide {w:World} {g off lo hi lo2:Nat} (h:lo2≤lo):(l:List Val)→zcj w g off lo hi l→zcj w g off lo2 hi l
 | [],_=>by unfold zcj;trivial
 | v::r,hl=>by
   unfold zcj at hl ⊢
   obtain ⟨s,e,h3,hl⟩:=hl
   exact ⟨s,e,by omega,hl⟩
theorem zcj.high {w:World} {g:Nat}:(l:List Val)→(off lo hi hi2:Nat)→hi≤hi2→zcj w g off lo hi l→zcj w g off lo hi2 l
 | [],_,_,_,_,_,_=>by unfold zcj;trivial
 | v::r,off,lo,hi,hi2,h,hl=>by
   unfold zcj at hl ⊢
   obtain ⟨s,e,h3,h4,h5,h6,hv,hr⟩:=hl
   exact ⟨s,e,h3,h4,by omega,h6,hv,zcj.high r _ _ _ _ h hr⟩
theorem zdi.wide {w:World} {lo hi lo2 hi2:Nat} {L:Value} (h:lo2≤lo) (h2:hi≤hi2):(l:List Val)→zdi w lo hi L l→zdi w lo2 hi2 L l
 | [],hl=>by
   unfold zdi at hl ⊢
   exact hl
 | v::r,hl=>by
   unfold zdi at hl ⊢
   obtain ⟨g,off,cap,s,e,rfl,h1,h2',h3,h4,h5,h6,hv,hr⟩:=hl
   exact ⟨g,off,cap,s,e,rfl,by omega,by omega,by omega,h4,by omega,h6,hv,zcj.high r _ _ _ _ h2 hr⟩
theorem zdi.form {w:World} {lo hi:Nat} {p:Option Addr} {n cap:Nat} {v:Val} {r:List Val} (h:zdi w lo hi (.slice p n cap) (v::r)):∃ g off,p=some ⟨g,off,none⟩∧n=r.length+1∧lo≤g∧g < hi∧zcj w g off lo hi (v::r):=by
 unfold zdi at h
 obtain ⟨g,off,cap',s,e,q,h1,h2,h3,h4,h5,h6,hv,hr⟩:=h
 injection q with q1 q2 q3
 unfold zcj
 exact ⟨g,off,q1,q2,h1,h2,s,e,h3,h4,h5,h6,hv,hr⟩
theorem zdi.mk {w:World} {lo hi:Nat} {g off cap:Nat} {l:List Val} (h1:lo≤g) (h2:g < hi) (h:zcj w g off lo hi l):zdi w lo hi (.slice (some ⟨g,off,none⟩) l.length cap) l:=by
 cases l with
 | nil=>unfold zdi;exact ⟨_,_,rfl⟩
 | cons v r=>
   unfold zcj at h
   unfold zdi
   obtain ⟨s,e,h3,h4,h5,h6,hv,hr⟩:=h
   exact ⟨g,off,cap,s,e,rfl,h1,h2,h3,h4,h5,h6,hv,hr⟩
def zc6 (w:World) (own:Option Nat) (lo hi:Nat):List Value→List Val→Prop
 | xs,[]=>xs=[]
 | xs,.mk k b n t x q::r=>∃ L ys s e,xs=.int .i64 k::.bool b::.int .i64 n::.string t::.string x::L::ys∧Fine n t x q.length∧lo≤s∧s≤e∧e≤hi∧(∀ g,own=some g→¬ (s≤g∧g < e))∧zdi w s e L q∧zc6 w own e hi ys r
theorem zc6.stays {w w':World} {own:Option Nat} {hi:Nat}:(l:List Val)→(lo:Nat)→{xs:List Value}→(∀ i,lo≤i→i < hi→own≠some i→w'.heap[i]?=w.heap[i]?)→zc6 w own lo hi xs l→zc6 w' own lo hi xs l
 | [],_,_,_,h=>by unfold zc6 at h ⊢;exact h
 | .mk k b n t x q::l,lo,_,hs,h=>by
   unfold zc6 at h ⊢
   obtain ⟨L,ys,s,e,rfl,hf,g1,g2,g3,g4,hq,hr⟩:=h
   exact ⟨L,ys,s,e,rfl,hf,g1,g2,g3,g4,hq.stays (fun i a b=>hs i (by omega) (by omega) (fun o=>g4 i o ⟨a,b⟩)) q,zc6.stays l e (fun i a b=>hs i (by omega) b) hr⟩
theorem zc6.high {w:World} {own:Option Nat} {hi hi2:Nat} (h2:hi≤hi2):(l:List Val)→(lo:Nat)→{xs:List Value}→zc6 w own lo hi xs l→zc6 w own lo hi2 xs l
 | [],_,_,h=>by unfold zc6 at h ⊢;exact h
 | .mk k b n t x q::l,lo,_,h=>by
   unfold zc6 at h ⊢
   obtain ⟨L,ys,s,e,rfl,hf,g1,g2,g3,g4,hq,hr⟩:=h
   exact ⟨L,ys,s,e,rfl,hf,g1,g2,by omega,g4,hq,zc6.high h2 l e hr⟩
theorem zc6.rest {w:World} {g hi:Nat}:(l:List Val)→(off lo:Nat)→{xs:List Value}→zc6 w (some g) lo hi xs l→w.rangeAt g off xs→w.there g off (l.length*6)→zcj w g off lo hi l
 | [],_,_,_,_,_,_=>by unfold zcj;trivial
 | .mk k b n t x q::l,off,lo,_,h,hr,ht=>by
   unfold zc6 at h
   obtain ⟨L,ys,s,e,rfl,hf,g1,g2,g3,g4,hq,hl⟩:=h
   unfold zcj
   refine ⟨s,e,g1,g2,g3,g4 g rfl,?_,zc6.rest l (off+6) e hl (fun j v hv=>?_) (fun j hj=>?_)⟩
   ·unfold OneT
    refine ⟨L,fun j v hv=>hr j v ?_,fun j hj=>ht j (by simp only [List.length_cons];omega),hf,hq⟩
    match j,hv with
    | 0,hv=>exact hv
    | 1,hv=>exact hv
    | 2,hv=>exact hv
    | 3,hv=>exact hv
    | 4,hv=>exact hv
    | 5,hv=>exact hv
    | j+6,hv=>simp at hv
   ·have:=hr (j+6) v hv
    rwa [show off+(j+6)=off+6+j by omega] at this
   ·have:=ht (j+6) (by simp only [List.length_cons];omega)
    rwa [show off+(j+6)=off+6+j by omega] at this
end Go.Proofs.YtcfmenkigolnoaaGreatDoor

/- HC -/
namespace Go.Proofs.YtcfmenkigolnoaaGreatDoor
open Go.RowKit
structure AccT (w:World) (l:List Val) (A:Value) (wr:World):Prop where
 own:∃ xs hi,wr.ownsRow w.heap.size 60 6 A l.length xs∧zc6 wr A.ownBlock w.heap.size hi xs l∧w.heap.size≤hi∧hi≤wr.heap.size
 bel:Below w.heap.size w wr
end Go.Proofs.YtcfmenkigolnoaaGreatDoor

/- HD -/
namespace Go.Proofs.YtcfmenkigolnoaaGreatDoor
open Go.RowKit
structure zjx (lo hi:Nat) (w w':World):Prop where
 os:w'.os=w.os
 tape:w'.tape=w.tape
 output:w'.output=w.output
 size:w.heap.size≤w'.heap.size
 block:∀ i,i < w.heap.size→¬ (lo≤i∧i < hi)→w'.heap[i]?=w.heap[i]?
theorem zjx.trans {lo hi:Nat} {a b c:World} (h:zjx lo hi a b) (k:zjx lo hi b c):zjx lo hi a c:=
 ⟨k.os.trans h.os,k.tape.trans h.tape,k.output.trans h.output,Nat.le_trans h.size k.size,fun i hi hn=>(k.block i (Nat.lt_of_lt_of_le hi h.size) hn).trans (h.block i hi hn)⟩
theorem zjx.wide {lo hi lo2 hi2:Nat} {a b:World} (h:zjx lo hi a b) (h1:lo2≤lo) (h2:hi≤hi2):zjx lo2 hi2 a b:=
 ⟨h.os,h.tape,h.output,h.size,fun i hi hn=>h.block i hi (fun q=>hn ⟨by omega,by omega⟩)⟩
theorem zjx.below {lo hi:Nat} {w a b:World} (h:zjx lo hi a b) (k:Below w.heap.size w a) (hl:w.heap.size≤lo):Below w.heap.size w b:=
 ⟨h.os.trans k.os,h.tape.trans k.tape,h.output.trans k.output,Nat.le_trans k.size h.size,fun i hi=>(h.block i (Nat.lt_of_lt_of_le hi k.size) (by omega)).trans (k.block i hi)⟩
theorem zde (b:Nat):∀ (vs:List Value) (o:Nat) (w:World),(w.setCells b o vs).os=w.os∧(w.setCells b o vs).tape=w.tape∧(w.setCells b o vs).output=w.output∧(w.setCells b o vs).heap.size=w.heap.size∧∀ i,i≠b→(w.setCells b o vs).heap[i]?=w.heap[i]?
 | [],_,_=>⟨rfl,rfl,rfl,rfl,fun _ _=>rfl⟩
 | v::vs,o,w=>by
   have h1:Only b w (w.setCell ⟨b,o,none⟩ v):=(Only.refl b w).setCell o none v
   have h2:=zde b vs (o+1) (w.setCell ⟨b,o,none⟩ v)
   refine ⟨h2.1.trans h1.os,h2.2.1.trans h1.tape,h2.2.2.1.trans h1.output,?_,fun i hi=>?_⟩
   ·rw [show (w.setCells b o (v::vs)).heap.size=((w.setCell ⟨b,o,none⟩ v).setCells b (o+1) vs).heap.size from rfl,h2.2.2.2.1]
    simp [World.setCell]
   ·by_cases hlt:i < w.heap.size
    ·exact (h2.2.2.2.2 i hi).trans (h1.block i hlt hi)
    ·have e1:((w.setCell ⟨b,o,none⟩ v).setCells b (o+1) vs).heap.size=w.heap.size:=h2.2.2.2.1.trans (by simp [World.setCell])
     show ((w.setCell ⟨b,o,none⟩ v).setCells b (o+1) vs).heap[i]?=_
     rw [Array.getElem?_eq_none (by omega),Array.getElem?_eq_none (by omega)]
theorem zcj.at_ {w:World} {g:Nat}:(l:List Val)→(off lo hi:Nat)→zcj w g off lo hi l→(h:0 < l.length)→∃ s e,lo≤s∧s≤e∧e≤hi∧¬ (s≤g∧g < e)∧OneT w g off s e (l[0]'h)∧zcj w g (off+6) e hi (l.drop 1)
 | [],_,_,_,_,h=>absurd h (by simp)
 | v::r,off,lo,hi,hr,_=>by
   unfold zcj at hr
   exact hr
end Go.Proofs.YtcfmenkigolnoaaGreatDoor

/- GMU -/
namespace Go.Proofs.YtcfmenkigolnoaaGreatDoor
open Go.RowKit
def InsG {α:Type} (le:α→α→Bool) (L0 L:List α) (i k:Nat):Prop:=∃ A x B R,L=A++x::(B++R)∧A.length=k∧A.length+B.length=i∧(A++B).Pairwise (fun a b=>le a b=true)∧(∀ b∈B,le x b=true)∧L.Perm L0
section
variable {α:Type} {le:α→α→Bool}
theorem InsG.start {L0 L:List α} {i:Nat} (hi:i < L.length) (hp:L.Perm L0) (hs:(L.take i).Pairwise (fun a b=>le a b=true)):InsG le L0 L i i:=by
 refine ⟨L.take i,L[i],[],L.drop (i+1),?_,by rw [List.length_take];omega,by rw [List.length_take,List.length_nil];omega,by rw [List.append_nil];exact hs,by simp,hp⟩
 rw [List.nil_append,← List.drop_eq_getElem_cons hi,List.take_append_drop]
theorem InsG.at_ {L0 L:List α} {i k:Nat} (h:InsG le L0 L i k):k < L.length∧k≤i∧i < L.length∧L.Perm L0:=by
 obtain ⟨A,x,B,R,rfl,h1,h2,_,_,h5⟩:=h
 have e:(A++x::(B++R)).length=A.length+(B.length+R.length+1):=by simp
 exact ⟨by omega,by omega,by omega,h5⟩
theorem InsG.step {L0 L:List α} {i m:Nat} {x y:α} (h:InsG le L0 L i (m+1)) (hx:L[m+1]?=some x) (hy:L[m]?=some y) (hlt:le x y=true):InsG le L0 ((L.set (m+1) y).set m x) i m:=by
 obtain ⟨A,x1,B,R,rfl,h1,h2,h3,h4,h5⟩:=h
 rcases List.eq_nil_or_concat A with rfl | ⟨A',y1,rfl⟩
 ·simp at h1
 ·rw [List.concat_eq_append] at*
  have hm:A'.length=m:=by simpa using h1
  subst hm
  have ex:x1=x:=by simpa [List.getElem?_append] using hx
  have ey:y1=y:=by simpa [List.getElem?_append] using hy
  subst ex ey
  refine ⟨A',x1,y1::B,R,?_,rfl,by simp at h2 ⊢;omega,by simpa using h3,?_,?_⟩
  ·simp []
  ·intro b hb
   rcases List.mem_cons.1 hb with rfl | hb
   ·exact hlt
   ·exact h4 b hb
  ·have e:((A'++[y1]++x1::(B++R)).set (A'.length+1) y1).set A'.length x1=A'++x1::(y1::B++R):=by simp []
   rw [e]
   refine List.Perm.trans ?_ h5
   have:A'++[y1]++x1::(B++R)=A'++y1::x1::(B++R):=by simp
   rw [this]
   exact (List.Perm.swap _ _ _).append_left A'
theorem InsG.stop (tr:∀ a b c,le a b=true→le b c=true→le a c=true) {L0 L:List α} {i k:Nat} (h:InsG le L0 L i k) (hk:k=0∨∃ x y,L[k]?=some x∧L[k - 1]?=some y∧le y x=true):L.Perm L0∧(L.take (i+1)).Pairwise (fun a b=>le a b=true):=by
 obtain ⟨A,x1,B,R,rfl,h1,h2,h3,h4,h5⟩:=h
 refine ⟨h5,?_⟩
 have e:(A++x1::(B++R)).take (i+1)=A++x1::B:=by
  rw [show A++x1::(B++R)=(A++x1::B)++R by simp]
  exact List.take_left' (by simp;omega)
 rw [e]
 rw [List.pairwise_append] at h3 ⊢
 obtain ⟨s1,s2,s3⟩:=h3
 refine ⟨s1,List.pairwise_cons.2 ⟨h4,s2⟩,fun a ha b hb=>?_⟩
 rcases List.mem_cons.1 hb with rfl | hb
 ·rcases hk with rfl | ⟨x,y,hx,hy,hyx⟩
  ·rw [List.length_eq_zero_iff.1 h1] at ha
   simp at ha
  ·rcases List.eq_nil_or_concat A with rfl | ⟨A',y1,rfl⟩
   ·simp at ha
   ·rw [List.concat_eq_append] at*
    have hm:k=A'.length+1:=by simpa using h1.symm
    subst hm
    have ex:b=x:=by simpa [List.getElem?_append] using hx
    have ey:y1=y:=by simpa [List.getElem?_append] using hy
    subst ex ey
    rcases List.mem_append.1 ha with ha | ha
    ·have:=(List.pairwise_append.1 s1).2.2 a ha y1 (by simp)
     exact tr _ _ _ this hyx
    ·rw [List.mem_singleton.1 ha]
     exact hyx
 ·exact s3 a ha b hb
end
theorem zjh (g:Nat) (t:TypeId):(vs:List Value)→(o:Nat)→(w:World)→(cur:Array Value)→w.heap[g]?=some (.cells cur t (0,0))→∃ cur',(w.setCells g o vs).heap[g]?=some (.cells cur' t (0,0))∧cur'.size=cur.size
 | [],_,_,cur,h=>⟨cur,h,rfl⟩
 | v::vs,o,w,cur,h=>by
   obtain ⟨c,h1,h2⟩:=zjh g t vs (o+1) (w.setCell ⟨g,o,none⟩ v) _ (za6 h o v)
   exact ⟨c,h1,by rw [h2,Array.size_setIfInBounds]⟩
structure zbz (w:World) (g off m:Nat) (t N:Nat) (L:List (List Value)):Prop where
 rng:∀ k c,L[k]?=some c→w.rangeAt g (off+k*m) c∧c.length=m∧∀ u∈c,u.oneCell'=true
 thr:∀ k,k < L.length→w.there g (off+k*m) m
 blk:∃ cur,w.heap[g]?=some (.cells cur t (0,0))∧cur.size=N
theorem zbz.heap {w w':World} {g off m t N:Nat} {L:List (List Value)} (h:zbz w g off m t N L) (e:w'.heap[g]?=w.heap[g]?):zbz w' g off m t N L:=
 ⟨fun k c hc=>⟨zcn e (h.rng k c hc).1,(h.rng k c hc).2⟩,fun k hk=>zdp e (h.thr k hk),by rw [e];exact h.blk⟩
theorem zbz.set {w:World} {g off m t N:Nat} {L:List (List Value)} (h:zbz w g off m t N L) (k:Nat) (c:List Value) (hk:k < L.length) (hc:c.length=m) (ho:∀ u∈c,u.oneCell'=true):zbz (w.setCells g (off+k*m) c) g off m t N (L.set k c):=by
 refine ⟨fun j d hd=>?_,fun j hj=>World.there_setCells (h.thr j (by rwa [List.length_set] at hj)) _ _ _,by
  obtain ⟨cur,h1,h2⟩:=h.blk
  obtain ⟨c',h3,h4⟩:=zjh g t c (off+k*m) w cur h1
  exact ⟨c',h3,by rw [h4,h2]⟩⟩
 rw [List.getElem?_set] at hd
 by_cases e:k=j
 ·subst e
  rw [if_pos rfl,if_pos hk] at hd
  cases hd
  exact ⟨World.rangeAt_setCells_same _ _ _ _ (by rw [hc];exact h.thr k hk),hc,ho⟩
 ·rw [if_neg e] at hd
  obtain ⟨h1,h2,h3⟩:=h.rng j d hd
  refine ⟨World.rangeAt_setCells_apart h1 _ _ _ (.inr ?_),h2,h3⟩
  rw [h2,hc]
  rcases Nat.lt_or_gt_of_ne e with q | q
  ·have:=Nat.mul_le_mul_right m (show k+1≤j by omega)
   rw [Nat.succ_mul] at this
   omega
  ·have:=Nat.mul_le_mul_right m (show j+1≤k by omega)
   rw [Nat.succ_mul] at this
   omega
theorem zbz.lt {w:World} {g off m t N:Nat} {L:List (List Value)} (h:zbz w g off m t N L) (hm:0 < m) (hl:0 < L.length):g < w.heap.size:=by
 obtain ⟨v,hv⟩:=Option.isSome_iff_exists.1 ((h.thr 0 hl) 0 hm).1
 exact World.block_lt_of_cell? w _ hv
theorem zbo (g o:Nat) (vs:List Value) (w:World):Only g w (w.setCells g o vs):=by
 have h:=zde g vs o w
 exact ⟨h.1,h.2.1,h.2.2.1,Nat.le_of_eq h.2.2.2.1.symm,fun k _ hne=>h.2.2.2.2 k hne⟩
theorem zca {ops:Array Oper} {rest:List Oper} {op:Oper} {a:Act} {w:World} {Q:Exit→Act→World→Prop} (u v:Operand) (ty g o k:Nat) (cs:List Value) (hk:cs.length=k) (h1:∀ u∈cs,u.oneCell'=true) (ht:w.there g o k) (hi:(Tryz.prog.info? ty).map (·.size)=some k)
 (hgd:op.guard=none) (ho:op.op=.store ty u v) (hx:a.eval u=.pointer (some ⟨g,o,none⟩)) (hy:a.eval v=.agg cs.toArray)
 (h:wpList Tryz.prog ops Q rest (a.put op.dst undef) (w.setCells g o cs)):wpList Tryz.prog ops Q (op::rest) a w:=
 wpList_store_mid hgd ty u v ho g o cs.toArray hx hy (by simpa [hk] using ht) (by rw [hi];simp [hk]) (all_oneCell_toArray h1) h
def leQ (x y:List Value × zax):Bool:=leT x.2.key y.2.key
theorem zwo:∀ a b c:List Value × zax,leQ a b=true→leQ b c=true→leQ a c=true:=fun _ _ _=>zgk _ _ _
set_option maxHeartbeats 6400000 in
set_option maxRecDepth 20000 in
theorem znd (L0:List (List Value × zax)) (g off cap N:Nat) (W:World) (h:zbz W g off 7 70 N (L0.map (·.1))) (hk:∀ a∈L0,a.1[0]?=some (.string a.2.key)) (hn:L0.length≤2097152) (h0:1≤L0.length):
 Calls Tryz.prog 44 #[.slice (some ⟨g,off,none⟩) L0.length cap] W fun e w'=>e=.returned (.tuple #[])∧Only g W w'∧∃ L:List (List Value × zax),L.Perm L0∧L.Pairwise (fun a b=>leQ a b=true)∧zbz w' g off 7 70 N (L.map (·.1)):=by
 obtain ⟨n,hl⟩:∃ n,n=L0.length:=⟨_,rfl⟩
 rw [← hl] at hn h0 ⊢
 have HL:=Lib.hid hl
 have HT:=Lib.hid h
 have HK:=Lib.hid hk
 clear h hl hk
 go_enter Tryz.func44,Tryz.ntmps44
 go_wp2_with fail
 go_loopg [2] n (fun gg s2 wr=>∃ i:Nat,i+gg=n+1∧1≤i∧s2=.int .i64 i∧∃ L:List (List Value × zax),Hid (zbz wr g off 7 70 N (L.map (·.1))∧L.Perm L0∧(L.take i).Pairwise (fun a b=>leQ a b=true))∧Hid (Only g W wr))
 case atStart=>exact ⟨1,by omega,by omega,rfl,L0,Lib.hid ⟨HT.out,List.Perm.refl _,by
  match L0 with
  | []=>simp
  | a::r=>simp⟩,Lib.hid (Only.refl _ _)⟩
 case round=>
  obtain ⟨i,hig,hi1,rfl,L,HA,HO⟩:=hrel
  have HLN:Hid (L.length=n):=Lib.hid (by rw [HA.out.2.1.length_eq,HL.out])
  by_cases hi:(i:Int) < n
  ·have HS:Hid (InsG leQ L0 L i i):=Lib.hid (InsG.start (by have:=HLN.out;omega) HA.out.2.1 HA.out.2.2)
   have HTR:=Lib.hid HA.out.1
   clear HA HLN
   go_wp2_with fail
   go_loopg [3] i (fun gg s3 wr2=>∃ k:Nat,(k≤gg∧gg≤k)∧s3=.int .i64 k∧∃ L:List (List Value × zax),Hid (InsG leQ L0 L i k)∧Hid (zbz wr2 g off 7 70 N (L.map (·.1)))∧Hid (Only g W wr2))
   case atStart=>exact ⟨i,⟨Nat.le_refl _,Nat.le_refl _⟩,rfl,L,HS,HTR,HO⟩
   case round=>
    clear HS HTR HO
    obtain ⟨k,hkg,rfl,L,HS,HTR,HO⟩:=hrel
    have hat:=HS.out.at_
    have hLn:L.length=n:=by rw [hat.2.2.2.length_eq,HL.out]
    by_cases hk:k=0
    ·subst hk
     have HE:=Lib.hid (HS.out.stop zwo (.inl rfl))
     clear hat hLn HS
     go_upto_region 4 with fail
     go_quiet (fail)
     have HO9:Hid (Only g W (wr.drewN nq)):=Lib.hid (HO.out.drewN nq)
     have HTR9:Hid (zbz (wr.drewN nq) g off 7 70 N (L.map (·.1))):=Lib.hid (HTR.out.heap rfl)
     clear HO HTR
     generalize wr.drewN nq=w9 at*
     go_wp2_with fail
     go_roundg (n+1 - (i+1))
     case measure=>omega
     case rel=>exact ⟨i+1,by omega,by omega,by go_num,L,Lib.hid ⟨HTR9.out,HE.out⟩,HO9⟩
    ·obtain ⟨m,rfl⟩:∃ m,k=m+1:=⟨k - 1,by omega⟩
     obtain ⟨x,hx⟩:∃ x,L[m+1]?=some x:=⟨_,List.getElem?_eq_getElem hat.1⟩
     obtain ⟨y,hy⟩:∃ y,L[m]?=some y:=⟨_,List.getElem?_eq_getElem (by omega)⟩
     have hrx:=HTR.out.rng (m+1) x.1 (by rw [List.getElem?_map,hx];rfl)
     have hry:=HTR.out.rng m y.1 (by rw [List.getElem?_map,hy];rfl)
     have kx:=HK.out x (hat.2.2.2.mem_iff.1 (List.mem_of_getElem? hx))
     have ky:=HK.out y (hat.2.2.2.mem_iff.1 (List.mem_of_getElem? hy))
     have hgw:=HTR.out.lt (by omega) (by rw [List.length_map];omega)
     obtain ⟨cx,bx⟩:=x
     obtain ⟨cy,by'⟩:=y
     obtain ⟨kx1,hkx1⟩:∃ s,s=bx.key:=⟨_,rfl⟩
     obtain ⟨ky1,hky1⟩:∃ s,s=by'.key:=⟨_,rfl⟩
     have c0:wr.cell? ⟨g,off+(m+1)*7,none⟩=some (.string kx1):=by rw [hkx1];exact hrx.1 0 _ kx
     have c1:wr.cell? ⟨g,off+m*7,none⟩=some (.string ky1):=by rw [hky1];exact hry.1 0 _ ky
     have hpos:decide ((0:Int) < ((m+1:Nat):Int))=true:=decide_eq_true (by omega)
     have hsub:(((m+1:Nat):Int) - 1)=(m:Int):=by omega
     have hmn:m+1 < n:=by omega
     have hmi:((m:Int)+1) < n:=by omega
     by_cases hlt:bl kx1 < bl ky1
     ·have hb:Op.bytesLess kx1.toList ky1.toList=true:=by rw [bytesLess_eq];simpa [bl,Lib.toList_data] using hlt
      have HS2:=Lib.hid (HS.out.step hx hy (by
       unfold leQ
       simp only [leT,leB,decide_eq_true_eq]
       rw [hkx1,hky1] at hlt
       exact List.le_of_lt hlt))
      have HN:=Lib.hid (And.intro hat.1 hLn)
      have HRYL:Hid (Option.map (·.1) L[m]?=some cy):=Lib.hid (by rw [hy];rfl)
      have HRX:=Lib.hid hrx
      have HRY:=Lib.hid hry
      have hgl:g < wr.heap.size:=hgw
      clear hx hy hat hLn HS hlt hkx1 hky1 kx ky hrx hry hgw
      go_upto_region 4 with fail
      go_quiet (fail)
      have HO9:Hid (Only g W (wr.drewN nq)):=Lib.hid (HO.out.drewN nq)
      have HTR9:Hid (zbz (wr.drewN nq) g off 7 70 N (L.map (·.1))):=Lib.hid (HTR.out.heap rfl)
      have hx9:(wr.drewN nq).rangeAt g (off+(m+1)*7) cx:=zcn rfl HRX.out.1
      have hg9:g < (wr.drewN nq).heap.size:=hgl
      have hlx:cx.length=7:=HRX.out.2.1
      have hly:cy.length=7:=HRY.out.2.1
      have hox:=HRX.out.2.2
      have hoy:=HRY.out.2.2
      clear HO HTR c0 c1 hgl HRX
      generalize wr.drewN nq=w9 at*
      go_upto_region 7 with (first
       |((with_reducible refine zav (.tmp 32) g (off+(m+1)*7) 70 cx 7 _ hx9 hlx Tryz.underlying70 rfl zbb ?_ ?_ ?_ ?_);rfl;rfl;rfl)
       |((with_reducible refine zah (.tmp 4) (.tmp 33) w9.heap.size 70 70 _ cx 7 (zae _ _ rfl) hlx ?_ ?_ ?_ ?_ zbb rfl hox ?_);rfl;rfl;rfl;rfl;intro wX oX hx))
      have bX:Below w9.heap.size w9 wX:=zag (zas w9 _) oX (Nat.le_refl _) (by simp)
      obtain ⟨xb,hxb⟩:∃ xb,xb=w9.heap.size:=⟨_,rfl⟩
      rw [← hxb] at hx ⊢
      have hne:xb≠g:=by omega
      have HTX:=Lib.hid (HTR9.out.heap (bX.block g hg9))
      have HOX:=Lib.hid (HO9.out.trans (Only.of_below bX))
      have hyX:wX.rangeAt g (off+m*7) cy:=(HTX.out.rng m cy (by
       rw [List.getElem?_map]
       exact HRYL.out)).1
      have thX:=HTX.out.thr (m+1) (by rw [List.length_map];exact HN.out.1)
      clear hx9 HTR9 HO9 oX bX hxb hg9 HRY
      go_upto_region 8 with (first
       |((with_reducible refine zav (.tmp 39) g (off+m*7) 70 cy 7 _ hyX hly Tryz.underlying70 rfl zbb ?_ ?_ ?_ ?_);rfl;rfl;rfl)
       |((with_reducible refine zca (.tmp 41) (.tmp 40) 70 g (off+(m+1)*7) 7 cy hly hoy thX zbb ?_ ?_ ?_ ?_ ?_);rfl;rfl;rfl;rfl))
      have HTA:=Lib.hid (HTX.out.set (m+1) cy (by rw [List.length_map];exact HN.out.1) hly hoy)
      have HOA:=Lib.hid (HOX.out.trans (zbo g (off+(m+1)*7) cy wX))
      have hxA:(wX.setCells g (off+(m+1)*7) cy).heap[xb]?=_:=((zde g cy (off+(m+1)*7) wX).2.2.2.2 xb hne).trans hx
      have thA:=HTA.out.thr m (by rw [List.length_set,List.length_map];have:=HN.out.1;omega)
      clear hyX HTX HOX thX hx
      generalize wX.setCells g (off+(m+1)*7) cy=wA at*
      go_wp2_with (first
       |((with_reducible refine zaf (.tmp 4) xb 70 70 cx 7 _ hxA hlx Tryz.underlying70 rfl zbb ?_ ?_ ?_ ?_);rfl;rfl;rfl)
       |((with_reducible refine zca (.tmp 46) (.tmp 45) 70 g (off+m*7) 7 cx hlx hox thA zbb ?_ ?_ ?_ ?_ ?_);rfl;rfl;rfl;rfl))
      go_roundg (gk - 1)
      case measure=>omega
      case rel=>
       refine ⟨m,by omega,by go_num,_,HS2,Lib.hid ?_,Lib.hid (HOA.out.trans (zbo g (off+m*7) cx wA))⟩
       have:=HTA.out.set m cx (by rw [List.length_set,List.length_map];have:=HN.out.1;omega) hlx hox
       rw [List.map_set,List.map_set]
       exact this
     ·have hb:Op.bytesLess kx1.toList ky1.toList=false:=by rw [bytesLess_eq];simpa [bl,Lib.toList_data] using hlt
      have HE:=Lib.hid (HS.out.stop zwo (.inr ⟨_,_,hx,hy,by
       unfold leQ
       simp only [leT,leB,decide_eq_true_eq]
       rw [hkx1,hky1] at hlt
       exact List.not_lt.1 hlt⟩))
      clear hx hy hat hLn HS hlt hkx1 hky1 kx ky hrx hry hgw
      go_upto_region 4 with fail
      go_quiet (fail)
      have HO9:Hid (Only g W (wr.drewN nq)):=Lib.hid (HO.out.drewN nq)
      have HTR9:Hid (zbz (wr.drewN nq) g off 7 70 N (L.map (·.1))):=Lib.hid (HTR.out.heap rfl)
      clear HO HTR c0 c1
      generalize wr.drewN nq=w9 at*
      go_wp2_with fail
      go_roundg (n+1 - (i+1))
      case measure=>omega
      case rel=>exact ⟨i+1,by omega,by omega,by go_num,L,Lib.hid ⟨HTR9.out,HE.out⟩,HO9⟩
  ·have hs:L.Pairwise (fun a b=>leQ a b=true):=by
    have:=HA.out.2.2
    rwa [List.take_of_length_le (by have:=HLN.out;omega)] at this
   have HZ:=Lib.hid hs
   clear hs
   go_wp2_with fail
   go_end0
   exact ⟨rfl,HO.out,L,HA.out.2.1,HZ.out,HA.out.1⟩
end Go.Proofs.YtcfmenkigolnoaaGreatDoor

/- GMV -/
namespace Go.Proofs.YtcfmenkigolnoaaGreatDoor
open Go.RowKit
set_option maxHeartbeats 6400000 in
set_option maxRecDepth 20000 in
theorem zne (V:Value) (ps:List zax) (W:World) (h:zak za0 W (Old W) V ps) (hn:ps.length≤2097152):Calls Tryz.prog 35 #[V] W (za9 za0 70 W ps):=by
 obtain ⟨i0,hi,hz0,hz1,hz2⟩:=info_parts zi1
 obtain ⟨p,cap,rfl⟩:=h.slice
 obtain ⟨n,hl⟩:∃ n,n=ps.length:=⟨_,rfl⟩
 rw [← hl]
 rw [← hl] at hn
 have H1:=Lib.hid h
 have HL:=Lib.hid hl
 clear h hl
 go_enter Tryz.func35,Tryz.ntmps35
 go_wp2_with fail
 go_loopg [3,4] n (fun gg s3 s4 wr=>∃ (j:Nat) (A:Value),j+gg=n∧s4=.int .i64 j∧A=s3∧Hid (AccE za0 70 W (ps.take j) A wr))
 case atStart=>exact ⟨0,_,by omega,rfl,rfl,Lib.hid (AccE.start za0 70 W)⟩
 case round=>
  obtain ⟨j,A,hjg,rfl,hA,HA⟩:=hrel
  subst hA
  by_cases hj:(j:Int) < n
  ·have hj1:j < ps.length:=by have:=HL.out;omega
   obtain ⟨g,o,cp1,cc1,e1,hg1,hr1,hra1⟩:=H1.out.at_ j hj1
   replace hr1:=za0.stays (zad HA.out.bel) hr1
   replace hra1:=za8 hra1 HA.out.bel
   injection e1 with e11 e12 e13
   subst e11
   obtain ⟨x,hx⟩:∃ x,x=ps[j]:=⟨_,rfl⟩
   rw [← hx] at hr1
   obtain ⟨key,⟨k1,b1,i1,t1,x1,q1⟩⟩:=x
   obtain ⟨c61,rfl,hks,hv1⟩:=hr1
   obtain ⟨L1,rfl,hf1,hq1⟩:=hv1
   have hh1:=zay.held q1 hq1
   obtain ⟨lp1,lc1,rfl⟩:=za5 hh1
   have ra:wr.rangeAt g (o+j*7) [.string key,.int .i64 k1,.bool b1,.int .i64 i1,.string t1,.string x1,.slice lp1 q1.length lc1]:=hra1
   have hjl:(ps.take j).length=j:=by rw [List.length_take];omega
   have etk:ps.take (j+1)=ps.take j++[⟨key,.mk k1 b1 i1 t1 x1 q1⟩]:=by rw [List.take_succ_eq_append_getElem hj1,← hx]
   have HK:=Lib.hid (And.intro hjl (And.intro etk (And.intro hf1 hks)))
   have hgW:g < W.heap.size:=hg1
   have hgl:g < wr.heap.size:=Nat.lt_of_lt_of_le hgW HA.out.bel.size
   have hHH:=Held.below q1 hh1 (Below.refl wr.heap.size wr).drew
   have HCV:=Lib.hid (rcopyAt k1 b1 i1 t1 x1 q1 lp1 lc1 wr.drew hf1 hHH)
   have hbD:Below wr.heap.size wr wr.drew:=(Below.refl wr.heap.size wr).drew
   replace ra:=za8 ra hbD
   clear hra1 hx hq1 hh1 hHH e12 e13 hjl etk hf1 hks
   go_upto_region 5 with fail
   refine wp_region_held_drew (S:=fun W'=>W'.rangeAt g (o+j*7) [.string key,.int .i64 k1,.bool b1,.int .i64 i1,.string t1,.string x1,.slice lp1 q1.length lc1]) (by kernel_rfl) (za8 ra (Below.refl _ _)) (fun _=>?_)
   generalize wr.drew=wD at*
   refine tg (i:=0) A rfl (ra) ?_
   refine tg (i:=1) (.slice (some ⟨g,o,none⟩) n cap) rfl (ra) ?_
   refine tg (i:=2) (.int .i64 (j:Int)) rfl (ra) ?_
   refine tg (i:=6) (.slice (some ⟨g,o,none⟩) n cap) rfl (ra) ?_
   refine tg (i:=7) (.int .i64 (j:Int)) rfl (ra) ?_
   refine tg (i:=3) (.pointer (some ⟨g,o+j*7,none⟩)) rfl (ra) ?_
   refine tg (i:=8) (.pointer (some ⟨g,o+j*7,none⟩)) rfl (ra) ?_
   refine tg (i:=4) (.pointer (some ⟨g,o+j*7,none⟩)) rfl (ra) ?_
   refine tg (i:=9) (.pointer (some ⟨g,o+j*7+1,none⟩)) rfl (ra) ?_
   refine tk (i:=5) (v:=.string key) rfl (Or.inl ⟨by rfl,fun W' h=>by have c0:W'.cell? ⟨g,o+j*7,none⟩=some (.string key):=h 0 _ rfl;go_simp⟩) (ra) ?_
   refine tk (i:=10) (v:=.agg #[.int .i64 k1,.bool b1,.int .i64 i1,.string t1,.string x1,.slice lp1 q1.length lc1]) rfl (yieldsIf_load_mid (by rfl) 60 (.tmp 20) rfl g (o+j*7+1) rfl [.int .i64 k1,.bool b1,.int .i64 i1,.string t1,.string x1,.slice lp1 q1.length lc1] _ (fun W' h=>zgc h) Tryz.underlying60 rfl zcg) (ra) ?_
   refine tr 11 rfl (fun K hK=>?_)
   rw [if_pos (by rfl)]
   go_simp
   refine HCV.out.mono ?_
   rintro e0 w3 ⟨pv,cv,rfl,hH,hb3⟩
   have ra3:=za8 ra hb3
   refine hK.out _ _ (ra3) (fun _=>?_)
   clear hK K
   try simp only [putS]
   refine tg (i:=12) (.agg #[.string key,.int .i64 k1,.bool b1,.int .i64 i1,.string t1,.string x1,.slice pv q1.length cv]) rfl (ra3) ?_
   refine tr 13 rfl (fun K hK=>?_)
   try rw [if_pos (by rfl)]
   go_simp
   obtain ⟨⟨xs,hown,hrow⟩,hbel⟩:=HA.out
   replace hown:wr.ownsRow W.heap.size 70 7 A (ps.take j).length xs:=hown
   have own3:=(za2 (za2 hown hbD) hb3).alloc (.cells #[.string key,.int .i64 k1,.bool b1,.int .i64 i1,.string t1,.string x1,.slice pv q1.length cv] 70)
   have ra4:=za8 ra3 (zas w3 (.cells #[.string key,.int .i64 k1,.bool b1,.int .i64 i1,.string t1,.string x1,.slice pv q1.length cv] 70))
   refine hK.out _ _ (ra4) (fun _=>?_)
   clear hK K
   try simp only [putS]
   refine tr 14 rfl (fun K hK=>?_)
   rw [if_pos (by rfl)]
   refine zbf (P:=Tryz.prog) (w:=w3.alloc (.cells #[.string key,.int .i64 k1,.bool b1,.int .i64 i1,.string t1,.string x1,.slice pv q1.length cv] 70)) (.tmp 11) (.tmp 24) 36 rfl W.heap.size 70 i0 (.agg #[.string ⟨#[]⟩,.int .i64 0,.bool false,.int .i64 0,.string ⟨#[]⟩,.string ⟨#[]⟩,.slice none 0 0]) 7 96 Tryz.underlying36 hi hz0 hz1 hz2 rfl (by decide) A (ps.take j).length xs rfl own3 ⟨w3.heap.size,0,none⟩ 1 1 [.string key,.int .i64 k1,.bool b1,.int .i64 i1,.string t1,.string x1,.slice pv q1.length cv] rfl rfl (World.news_of_block (cs:=#[.string key,.int .i64 k1,.bool b1,.int .i64 i1,.string t1,.string x1,.slice pv q1.length cv]) (t:=70) (fr:=(0,0)) (by exact heap_alloc_new w3 _)) (by simp [Value.oneCell']) (by rw [HK.out.1];unfold maxLen;omega) (by rw [HK.out.1];omega) (by have:=hbel.size;have:=hbD.size;have:=hb3.size;simp;omega) ?_
   intro v4 w4 ho4 hg4 _ hloc4
   have ra5:w4.rangeAt g (o+j*7) [.string key,.int .i64 k1,.bool b1,.int .i64 i1,.string t1,.string x1,.slice lp1 q1.length lc1]:=zcn (hg4.block g (by have:=hbD.size;have:=hb3.size;simp;omega) (fun e=>by have:=(hown.lt g e.symm).1;omega)) ra4
   refine hK.out _ _ (ra5) (fun _=>?_)
   clear hK K
   try simp only [putS]
   refine tg (i:=15) v4 rfl (ra5) ?_
   refine wpAnyH_done (by kernel_rfl) ?_ _
   have hval:zfn w3 (New wD w3) [.int .i64 k1,.bool b1,.int .i64 i1,.string t1,.string x1,.slice pv q1.length cv] (.mk k1 b1 i1 t1 x1 q1):=⟨_,rfl,HK.out.2.2.1,zay.stays (show zc9 (fun g=>wD.heap.size < g∧g < w3.heap.size) (New wD w3) w3 w3 from fun i hi=>⟨⟨Nat.le_of_lt hi.1,hi.2⟩,rfl⟩) q1 hH⟩
   have hpair:za0.rel w3 (New wD w3) [.string key,.int .i64 k1,.bool b1,.int .i64 i1,.string t1,.string x1,.slice pv q1.length cv] ⟨key,.mk k1 b1 i1 t1 x1 q1⟩:=⟨_,rfl,HK.out.2.2.2,hval⟩
   have HC:=Lib.hid (AccE.next hown hrow hbel hbD hb3 hpair ho4 hg4 (by simpa using hloc4))
   clear hval hpair
   clear ra ra3 ra4 ra5 ho4 hg4 hloc4 own3 hown hrow hH HA HCV
   go_wp2_with fail
   go_roundg (gk - 1)
   case measure=>omega
   case rel=>exact ⟨j+1,_,by omega,by go_num,rfl,Lib.hid (by rw [HK.out.2.1];exact HC.out)⟩
  ·have e:ps.take j=ps:=by rw [List.take_of_length_le];have:=HL.out;omega
   have hA:=HA.out
   rw [e] at hA
   obtain ⟨⟨xs,hown,hrow⟩,hbel⟩:=hA
   have HX:=Lib.hid (And.intro hown (And.intro hrow hbel))
   clear HA e hown hrow hbel
   go_wp2_with fail
   go_ret
   exact ⟨_,xs,rfl,HX.out.1,HX.out.2.1,HX.out.2.2⟩
end Go.Proofs.YtcfmenkigolnoaaGreatDoor

/- GMW -/
namespace Go.Proofs.YtcfmenkigolnoaaGreatDoor
open Go.RowKit
def zuh (W:World) (ts:List ByteArray) (e:Ending) (w':World):Prop:=∃ R,e=.returned R∧w'.ownsRow W.heap.size 9 1 R ts.length (ts.map Value.string)∧Below W.heap.size W w'
set_option maxHeartbeats 3200000 in
set_option maxRecDepth 20000 in
theorem znf (V:Value) (ts:List ByteArray) (W:World) (h:zcu W V ts) (hnil:nilK V) (hn:ts.length≤2097152):Calls Tryz.prog 34 #[V] W (zuh W ts):=by
 obtain ⟨i0,hi,hz0,hz1,hz2⟩:=info_parts zex
 obtain ⟨p,cap,rfl,hc⟩:=h
 obtain ⟨n,hl⟩:∃ n,n=ts.length:=⟨_,rfl⟩
 rw [← hl] at hnil hn ⊢
 cases p with
 | none=>
   obtain ⟨e1,rfl⟩:=hnil _ _ rfl
   subst e1
   have ht:ts=[]:=List.length_eq_zero_iff.1 hl.symm
   subst ht
   clear hc hl hnil hn
   go_enter Tryz.func34,Tryz.ntmps34
   go_wp2_with (first
    |(at_builtin;refine wpList_append_own_none rfl _ _ 35 rfl W.heap.size 9 i0 1 Tryz.underlying35 hi (.slice none 0 0) 0 [] rfl (World.ownsRow_nil _ _ _ _) rfl ?_))
   go_ret
   exact ⟨_,rfl,World.ownsRow_nil _ _ _ _,Below.refl _ _⟩
 | some ad=>
   have hnews:∀ j u,(ts.map Value.string)[j]?=some u→W.cell? (ad.add j)=some u:=by
    intro j u hu
    have hj:j < ts.length:=by
     have:=(List.getElem?_eq_some_iff.1 hu).1
     rwa [List.length_map] at this
    obtain ⟨g,off,e,hcj⟩:=hc (by intro q;rw [q] at hj;simp at hj)
    cases e
    rw [Addr.add_mid,hcj j hj]
    rw [List.getElem?_map,List.getElem?_eq_getElem hj] at hu
    rw [← Option.some.inj hu]
    simp [hj]
   have HL:=Lib.hid hl
   have HN:=Lib.hid hnews
   have hlen:(ts.map Value.string).length=n*1:=by rw [List.length_map,hl,Nat.mul_one]
   have hone:∀ u∈ts.map Value.string,u.oneCell'=true:=by
    intro u hu
    obtain ⟨t,_,rfl⟩:=List.mem_map.1 hu
    rfl
   clear hc hl hnil hnews
   go_enter Tryz.func34,Tryz.ntmps34
   go_wp2_with (first
    |(at_builtin;refine wpList_append_own_at _ rfl _ _ 35 rfl W.heap.size 9 i0 (.string ⟨#[]⟩) 1 16 Tryz.underlying35 hi hz0 hz1 hz2 rfl (by decide) (.slice none 0 0) 0 [] rfl (World.ownsRow_nil _ _ _ _) ad n cap (ts.map Value.string) rfl hlen HN.out hone ?_ ?_ ?_ ?_))
   all_goals (try (first |(unfold maxLen;omega) | omega | exact Nat.le_refl _))
   intro v' w5 ho5 hg5 _ _
   have hb5:Below W.heap.size W w5:=(Below.refl _ _).grown hg5 (Nat.le_refl _) (fun g hg=>by simp [Value.ownBlock] at hg)
   have HB:=Lib.hid (And.intro ho5 hb5)
   clear ho5 hg5 hb5 hlen hone
   go_wp2_with fail
   go_ret
   refine ⟨_,rfl,?_,HB.out.2⟩
   rw [← HL.out]
   exact HB.out.1
end Go.Proofs.YtcfmenkigolnoaaGreatDoor

/- GMX -/
namespace Go.Proofs.YtcfmenkigolnoaaGreatDoor
open Go.RowKit
theorem zv4 {w:World} {base g n cap:Nat} {e:TypeId} {xs:List Value} (h:w.ownsRow base e 1 (.slice (some ⟨g,0,none⟩) n cap) n xs) (k:Nat) (u:Value):∃ xs',(w.setCell ⟨g,k,none⟩ u).ownsRow base e 1 (.slice (some ⟨g,0,none⟩) n cap) n xs':=by
 rcases h.2 with ⟨e,_⟩ | ⟨g',cap',cur,e,hb,hg,hc,hm,hsz,htk⟩
 ·cases e
 ·cases e
  have h2:=za6 hg k u
  refine ⟨(cur.setIfInBounds k u).toList.take (n*1),?_,.inr ⟨g,cap,_,rfl,hb,h2,hc,hm,by rw [Array.size_setIfInBounds];exact hsz,rfl⟩⟩
  rw [List.length_take,Array.length_toList,Array.size_setIfInBounds,hsz]
  omega
theorem zoi {w:World} {base g n cap:Nat} {e:TypeId} {xs:List Value} (h:w.ownsRow base e 1 (.slice (some ⟨g,0,none⟩) n cap) n xs) (k:Nat) (hk:k < n):(∃ v,w.cell? ⟨g,k,none⟩=some v)∧w.frozen? ⟨g,k,none⟩=false∧base≤g:=by
 rcases h.2 with ⟨e,_⟩ | ⟨g',cap',cur,e,hb,hg,hc,hm,hsz,htk⟩
 ·cases e
 ·cases e
  have hlt:k < cur.size:=by omega
  exact ⟨⟨cur[k],zac hg k (by rw [Array.getElem?_eq_getElem hlt])⟩,zbj hg _,hb⟩
theorem zpi {w:World} {base n:Nat} {e:TypeId} {V:Value} {xs:List Value} (h:w.ownsRow base e 1 V (n+1) xs):∃ g cap,V=.slice (some ⟨g,0,none⟩) (n+1) cap:=by
 rcases h.2 with ⟨_,e⟩ | ⟨g',cap',cur,e,_⟩
 ·omega
 ·exact ⟨_,_,e⟩
end Go.Proofs.YtcfmenkigolnoaaGreatDoor

/- GMY -/
namespace Go.Proofs.YtcfmenkigolnoaaGreatDoor
open Go.RowKit
theorem zng {α:Type} {E:Elem α} {w:World} {P:Nat→Prop}:{xs:List Value}→(l:List α)→RowE E w P xs l→∃ L:List (List Value × α),L.map (·.2)=l∧(L.map (·.1)).flatten=xs∧∀ a∈L,E.rel w P a.1 a.2
 | xs,[],h=>⟨[],rfl,by unfold RowE at h;rw [h];rfl,by simp⟩
 | xs,b::l,h=>by
   obtain ⟨c,ys,rfl,h1,h2⟩:=h
   obtain ⟨L,e1,e2,e3⟩:=zng l h2
   exact ⟨(c,b)::L,by simp [e1],by simp [e2],fun a ha=>by
    rcases List.mem_cons.1 ha with rfl | ha
    ·exact h1
    ·exact e3 a ha⟩
theorem zjy {α:Type} {E:Elem α} {w:World} {P:Nat→Prop}:(L:List (List Value × α))→(∀ a∈L,E.rel w P a.1 a.2)→RowE E w P (L.map (·.1)).flatten (L.map (·.2))
 | [],_=>RowE.nil
 | a::L,h=>⟨a.1,(L.map (·.1)).flatten,by simp,h a (by simp),zjy L fun b hb=>h b (List.mem_cons_of_mem _ hb)⟩
theorem zg8 (m:Nat):(L:List (List Value))→(∀ c∈L,c.length=m)→L.flatten.length=L.length*m
 | [],_=>by simp
 | c::L,h=>by
   rw [List.flatten_cons,List.length_append,h c (by simp),zg8 m L fun d hd=>h d (List.mem_cons_of_mem _ hd),List.length_cons,Nat.succ_mul,Nat.add_comm]
theorem zij (m:Nat):(L:List (List Value))→(∀ c∈L,c.length=m)→(k:Nat)→(c:List Value)→L[k]?=some c→(j:Nat)→j < m→L.flatten[k*m+j]?=c[j]?
 | [],_,_,_,h,_,_=>by simp at h
 | d::L,hl,0,c,h,j,hj=>by
   have e:d=c:=by simpa using h
   subst e
   rw [List.flatten_cons,Nat.zero_mul,Nat.zero_add,List.getElem?_append_left (by rw [hl d (by simp)];exact hj)]
 | d::L,hl,k+1,c,h,j,hj=>by
   have hd:=hl d (by simp)
   rw [List.flatten_cons,List.getElem?_append_right (by rw [hd,Nat.succ_mul];omega),hd,show (k+1)*m+j - m=k*m+j by rw [Nat.succ_mul];omega]
   exact zij m L (fun x hx=>hl x (List.mem_cons_of_mem _ hx)) k c (by simpa using h) j hj
theorem zqm (p:Option Addr) (cap:Nat) (W:World):Calls Tryz.prog 43 #[.slice p 0 cap] W fun e w'=>e=.returned (.tuple #[])∧W=w':=by
 go_enter Tryz.func43,Tryz.ntmps43
 go_wp2_with fail
 go_loopg [2] 0 (fun gg s2 wr=>gg=0∧s2=.int .i64 1∧W=wr)
 case atStart=>exact ⟨rfl,rfl,rfl⟩
 case round=>
  obtain ⟨_,rfl,rfl⟩:=hrel
  go_wp2_with fail
  go_end0
  exact ⟨rfl,rfl⟩
theorem zqn (p:Option Addr) (cap:Nat) (W:World):Calls Tryz.prog 44 #[.slice p 0 cap] W fun e w'=>e=.returned (.tuple #[])∧W=w':=by
 go_enter Tryz.func44,Tryz.ntmps44
 go_wp2_with fail
 go_loopg [2] 0 (fun gg s2 wr=>gg=0∧s2=.int .i64 1∧W=wr)
 case atStart=>exact ⟨rfl,rfl,rfl⟩
 case round=>
  obtain ⟨_,rfl,rfl⟩:=hrel
  go_wp2_with fail
  go_end0
  exact ⟨rfl,rfl⟩
theorem zcf {w:World} {base size n:Nat} {e:TypeId} {V:Value} {xs:List Value} (h:w.ownsRow base e size V n xs):∃ p cap,V=.slice p n cap:=by
 rcases h.2 with ⟨rfl,rfl⟩ | ⟨g,cap,cur,rfl,_⟩
 ·exact ⟨none,0,rfl⟩
 ·exact ⟨_,cap,rfl⟩
theorem znh (ls:List ByteArray) (V:Value) (base:Nat) (W:World) (h:W.ownsRow base 9 1 V ls.length (ls.map Value.string)) (hn:ls.length≤2097152):
 Calls Tryz.prog 43 #[V] W fun e w'=>e=.returned (.tuple #[])∧w'.ownsRow base 9 1 V ls.length ((sortS ls).map Value.string)∧W.grownBy w' V.ownBlock:=by
 by_cases h0:ls.length=0
 ·obtain ⟨p,cap,rfl⟩:=zcf h
  have hl:ls=[]:=List.length_eq_zero_iff.1 h0
  subst hl
  refine (zqm p cap W).mono ?_
  rintro e w' ⟨rfl,rfl⟩
  have es:sortS []=[]:=by simp [sortS]
  exact ⟨rfl,by rw [es];exact h,World.grownBy.refl _ _⟩
 ·rcases id h.2 with ⟨_,e⟩ | ⟨g,cap,cur,rfl,hb,hg,hc,hm,hsz,htk⟩
  ·exact absurd e h0
  ·obtain ⟨T,hT⟩:∃ T,T=cur.toList.drop (ls.length*1):=⟨_,rfl⟩
   have hcur:cur=(ls.map Value.string++T).toArray:=by
    rw [← htk,hT,List.take_append_drop]
   have hlen:ls.length+T.length=cap*1:=by
    rw [← hsz,hcur]
    simp
   refine (znc ls T g cap W (by unfold zc4;rw [← hcur];exact hg) hn (by omega)).mono ?_
   rintro e w' ⟨rfl,hr,ho⟩
   refine ⟨rfl,⟨by rw [List.length_map,zdr,Nat.mul_one],.inr ⟨g,cap,_,rfl,hb,hr,hc,hm,?_,?_⟩⟩,ho.grown⟩
   ·simp [zdr]
    omega
   ·rw [List.take_left' (by rw [List.length_map,zdr,Nat.mul_one])]
set_option maxHeartbeats 1600000 in
theorem zni (ps:List zax) (V:Value) (base:Nat) (xs:List Value) (P:Nat→Prop) (W:World) (h:W.ownsRow base 70 7 V ps.length xs) (hrow:RowE za0 W P xs ps) (hP:∀ i,P i→i < W.heap.size∧V.ownBlock≠some i) (hn:ps.length≤2097152):
 Calls Tryz.prog 44 #[V] W fun e w'=>e=.returned (.tuple #[])∧(∃ ps' xs',zej ps ps'∧w'.ownsRow base 70 7 V ps.length xs'∧RowE za0 w' P xs' ps')∧W.grownBy w' V.ownBlock:=by
 by_cases h0:ps.length=0
 ·obtain ⟨p,cap,rfl⟩:=zcf h
  have hl:ps=[]:=List.length_eq_zero_iff.1 h0
  subst hl
  refine (zqn p cap W).mono ?_
  rintro e w' ⟨rfl,rfl⟩
  exact ⟨rfl,⟨[],xs,⟨List.Perm.refl _,List.Pairwise.nil⟩,h,hrow⟩,World.grownBy.refl _ _⟩
 ·rcases id h.2 with ⟨_,e⟩ | ⟨g,cap,cur,rfl,hb,hg,hc,hm,hsz,htk⟩
  ·exact absurd e h0
  ·obtain ⟨L0,e1,e2,e3⟩:=zng ps hrow
   have hL:L0.length=ps.length:=by rw [← e1,List.length_map]
   have h7:∀ c∈L0.map (·.1),c.length=7:=by
    intro c hc
    obtain ⟨a,ha,rfl⟩:=List.mem_map.1 hc
    exact za0.len (e3 a ha)
   have hcap:ps.length*7≤cap*7:=Nat.mul_le_mul_right _ hc
   have hR:zbz W g 0 7 70 (cap*7) (L0.map (·.1)):=by
    refine ⟨fun k c hk=>⟨fun j u hj=>?_,h7 c (List.mem_of_getElem? hk),?_⟩,fun k hk j hj=>?_,⟨cur,hg,hsz⟩⟩
    ·have hc7:=h7 c (List.mem_of_getElem? hk)
     have hj7:j < 7:=by rw [← hc7];exact (List.getElem?_eq_some_iff.1 hj).1
     have hkl:k < ps.length:=by
      have:=(List.getElem?_eq_some_iff.1 hk).1
      rw [List.length_map] at this
      omega
     have h1:=zij 7 _ h7 k c hk j hj7
     rw [e2,← htk,List.getElem?_take,if_pos (by omega),hj,Array.getElem?_toList] at h1
     rw [Nat.zero_add]
     exact zac hg _ h1
    ·obtain ⟨a,ha,rfl⟩:=List.mem_map.1 (List.mem_of_getElem? hk)
     exact za0.one (e3 a ha)
    ·rw [List.length_map] at hk
     have hlt:0+k*7+j < cur.size:=by omega
     exact ⟨by rw [zac hg _ (Array.getElem?_eq_getElem hlt)];rfl,zbj hg _⟩
   have hk0:∀ a∈L0,a.1[0]?=some (.string a.2.key):=by
    intro a ha
    obtain ⟨c,e,_⟩:=e3 a ha
    rw [e]
    rfl
   have hcall:=znd L0 g 0 cap (cap*7) W hR hk0 (by omega) (by omega)
   rw [hL] at hcall
   refine hcall.mono ?_
   rintro e w' ⟨rfl,ho,L,hp,hs,hR2⟩
   obtain ⟨cur2,hg2,hsz2⟩:=hR2.blk
   have hLl:L.length=ps.length:=by rw [hp.length_eq,hL]
   have h72:∀ c∈L.map (·.1),c.length=7:=by
    intro c hc
    obtain ⟨k,hk⟩:=List.mem_iff_getElem?.1 hc
    exact (hR2.rng k c hk).2.1
   refine ⟨rfl,⟨L.map (·.2),(L.map (·.1)).flatten,⟨by rw [← e1];exact hp.map _,?_⟩,⟨?_,.inr ⟨g,cap,cur2,rfl,hb,hg2,hc,hm,hsz2,?_⟩⟩,?_⟩,ho.grown⟩
   ·rw [List.pairwise_map]
    exact hs
   ·rw [zg8 7 _ h72,List.length_map,hLl]
   ·refine List.ext_getElem? fun i=>?_
    rw [List.getElem?_take]
    by_cases hi:i < ps.length*7
    ·rw [if_pos hi]
     obtain ⟨c,hk⟩:∃ c,(L.map (·.1))[i / 7]?=some c:=⟨_,List.getElem?_eq_getElem (by rw [List.length_map];omega)⟩
     have h1:=zij 7 _ h72 (i / 7) c hk (i % 7) (by omega)
     rw [show i / 7*7+i % 7=i by omega] at h1
     rw [h1,Array.getElem?_toList]
     obtain ⟨r1,r2,_⟩:=hR2.rng (i / 7) c hk
     obtain ⟨u,hu⟩:∃ u,c[i % 7]?=some u:=⟨_,List.getElem?_eq_getElem (by omega)⟩
     have c1:=r1 (i % 7) u hu
     rw [show 0+i / 7*7+i % 7=i by omega] at c1
     have hlt:i < cur2.size:=by omega
     have c2:=zac hg2 i (Array.getElem?_eq_getElem hlt)
     rw [hu,Array.getElem?_eq_getElem hlt]
     rw [c1] at c2
     exact c2.symm
    ·rw [if_neg hi,List.getElem?_eq_none (by rw [zg8 7 _ h72,List.length_map,hLl];omega)]
   ·refine zjy L fun a ha=>?_
    exact za0.stays (fun i hi=>⟨hi,ho.block i (hP i hi).1 (fun e=>(hP i hi).2 (by rw [e];rfl))⟩) (e3 a (hp.mem_iff.1 ha))
end Go.Proofs.YtcfmenkigolnoaaGreatDoor
