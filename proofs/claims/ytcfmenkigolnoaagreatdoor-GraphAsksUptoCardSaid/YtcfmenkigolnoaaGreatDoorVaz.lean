/- Texts of one kind, one behind the other: each says ahead of itself what it shows. -/
import Derived.Test.YtcfmenkigolnoaaGreatDoorVay
import Derived.Deep.LoopGhost
import Derived.Laws.AppendOwnNone
/- HD -/
namespace Go.Proofs.YtcfmenkigolnoaaGreatDoor
open Go.RowKit
structure zfo (lo hi:Nat) (w w':World):Prop where
 os:w'.os=w.os
 tape:w'.tape=w.tape
 output:w'.output=w.output
 size:w.heap.size≤w'.heap.size
 block:∀ i,i < w.heap.size→¬ (lo≤i∧i < hi)→w'.heap[i]?=w.heap[i]?
theorem zfo.trans {lo hi:Nat} {a b c:World} (h:zfo lo hi a b) (k:zfo lo hi b c):zfo lo hi a c:=
 ⟨k.os.trans h.os,k.tape.trans h.tape,k.output.trans h.output,Nat.le_trans h.size k.size,fun i hi hn=>(k.block i (Nat.lt_of_lt_of_le hi h.size) hn).trans (h.block i hi hn)⟩
theorem zfo.of_below {lo hi:Nat} {a b:World} (h:Below a.heap.size a b):zfo lo hi a b:=⟨h.os,h.tape,h.output,h.size,fun i hi _=>h.block i hi⟩
theorem zfo.wide {lo hi lo2 hi2:Nat} {a b:World} (h:zfo lo hi a b) (h1:lo2≤lo) (h2:hi≤hi2):zfo lo2 hi2 a b:=
 ⟨h.os,h.tape,h.output,h.size,fun i hi hn=>h.block i hi (fun q=>hn ⟨by omega,by omega⟩)⟩
theorem zfo.below {lo hi:Nat} {w a b:World} (h:zfo lo hi a b) (k:Below w.heap.size w a) (hl:w.heap.size≤lo):Below w.heap.size w b:=
 ⟨h.os.trans k.os,h.tape.trans k.tape,h.output.trans k.output,Nat.le_trans k.size h.size,fun i hi=>(h.block i (Nat.lt_of_lt_of_le hi k.size) (by omega)).trans (k.block i hi)⟩
theorem zdp (b:Nat):∀ (vs:List Value) (o:Nat) (w:World),(w.setCells b o vs).os=w.os∧(w.setCells b o vs).tape=w.tape∧(w.setCells b o vs).output=w.output∧(w.setCells b o vs).heap.size=w.heap.size∧∀ i,i≠b→(w.setCells b o vs).heap[i]?=w.heap[i]?
 | [],_,_=>⟨rfl,rfl,rfl,rfl,fun _ _=>rfl⟩
 | v::vs,o,w=>by
   have h1:Only b w (w.setCell ⟨b,o,none⟩ v):=(Only.refl b w).setCell o none v
   have h2:=zdp b vs (o+1) (w.setCell ⟨b,o,none⟩ v)
   refine ⟨h2.1.trans h1.os,h2.2.1.trans h1.tape,h2.2.2.1.trans h1.output,?_,fun i hi=>?_⟩
   ·rw [show (w.setCells b o (v::vs)).heap.size=((w.setCell ⟨b,o,none⟩ v).setCells b (o+1) vs).heap.size from rfl,h2.2.2.2.1]
    simp [World.setCell]
   ·by_cases hlt:i < w.heap.size
    ·exact (h2.2.2.2.2 i hi).trans (h1.block i hlt hi)
    ·have e1:((w.setCell ⟨b,o,none⟩ v).setCells b (o+1) vs).heap.size=w.heap.size:=h2.2.2.2.1.trans (by simp [World.setCell])
     show ((w.setCell ⟨b,o,none⟩ v).setCells b (o+1) vs).heap[i]?=_
     rw [Array.getElem?_eq_none (by omega),Array.getElem?_eq_none (by omega)]
def zfv (w:World) (lo hi:Nat) (e:Ending) (w':World):Prop:=e=.returned (.tuple #[])∧zfo lo hi w w'
def zou (v:Val):Prop:=∀ (w:World) (lo hi:Nat) (k:Int) (b:Bool) (n:Int) (t x:ByteArray) (q:List Val) (p:Option Addr) (cap:Nat),v=.mk k b n t x q→q.length≤2097152→zcx w lo hi (.slice p q.length cap) q→hi≤w.heap.size→
 Calls Tryz.prog 61 #[.agg #[.int .i64 k,.bool b,.int .i64 n,.string t,.string x,.slice p q.length cap]] w (zfv w lo hi)
theorem zb2.at_ {w:World} {g:Nat}:(l:List Val)→(off lo hi:Nat)→zb2 w g off lo hi l→(h:0 < l.length)→∃ s e,lo≤s∧s≤e∧e≤hi∧¬ (s≤g∧g < e)∧OneT w g off s e (l[0]'h)∧zb2 w g (off+6) e hi (l.drop 1)
 | [],_,_,_,_,h=>absurd h (by simp)
 | v::r,off,lo,hi,hr,_=>by
   unfold zb2 at hr
   exact hr
theorem OneT.open_ {w:World} {g off s e:Nat}:{v:Val}→OneT w g off s e v→∃ k b n t x q p cap,v=.mk k b n t x q∧w.rangeAt g off [.int .i64 k,.bool b,.int .i64 n,.string t,.string x,.slice p q.length cap]∧w.there g off 6∧Fine n t x q.length∧zcx w s e (.slice p q.length cap) q
 | .mk k b n t x q,h=>by
   unfold OneT at h
   obtain ⟨L,hr,ht,hf,hl⟩:=h
   obtain ⟨p,cap,rfl⟩:=za7 (zcx.held q hl)
   exact ⟨k,b,n,t,x,q,p,cap,rfl,hr,ht,hf,hl⟩
structure zy7 (w w':World) (g o:Nat):Prop where
 os:w'.os=w.os
 tape:w'.tape=w.tape
 output:w'.output=w.output
 size:w'.heap.size=w.heap.size
 blk:∀ i,i≠g→w'.heap[i]?=w.heap[i]?
 rng:∀ o' cs,o+6≤o'→w.rangeAt g o' cs→w'.rangeAt g o' cs
 thr:∀ o' n,w.there g o' n→w'.there g o' n
theorem junked (w:World) (g o:Nat) (vs:List Value) (hv:vs.length=6):zy7 w (w.setCells g o vs) g o:=by
 have h:=zdp g vs o w
 exact ⟨h.1,h.2.1,h.2.2.1,h.2.2.2.1,h.2.2.2.2,fun o' cs ho r=>World.rangeAt_setCells_apart r g o vs (.inr (.inr (by omega))),fun o' n r=>World.there_setCells r g o vs⟩
theorem zhv {ops:Array Oper} {rest:List Oper} {op:Oper} {a:Act} {w:World} {Q:Exit→Act→World→Prop} {k:Int} {b:Bool} {n:Int} {t x:ByteArray} {p:Option Addr} {len cap:Nat} (hgd:op.guard=none) (u v:Operand) (ho:op.op=.store 60 u v)
 (g o:Nat) (hx:a.eval u=.pointer (some ⟨g,o,none⟩)) (hy:a.eval v=.agg #[.int .i64 k,.bool b,.int .i64 n,.string t,.string x,.slice p len cap])
 (ht:w.there g o 6) (h:∀ w',zy7 w w' g o→wpList Tryz.prog ops Q rest (a.put op.dst undef) w'):wpList Tryz.prog ops Q (op::rest) a w:=
 wpList_store_mid hgd 60 u v ho g o _ hx hy ht zhe (by simp [Value.oneCell']) (h _ (junked w g o _ rfl))
set_option maxRecDepth 20000 in
set_option maxHeartbeats 6400000 in
theorem zyl (q:List Val) (k:Int) (b:Bool) (n:Int) (t x:ByteArray) (g off cap lo hi:Nat) (w:World) (hn:q.length≤2097152) (h1:lo≤g) (h2:g < hi) (hr:zb2 w g off lo hi q) (hs:hi≤w.heap.size) (each:∀ u∈q,zou u):
 Calls Tryz.prog 61 #[.agg #[.int .i64 k,.bool b,.int .i64 n,.string t,.string x,.slice (some ⟨g,off,none⟩) q.length cap]] w (zfv w lo hi):=by
 obtain ⟨W0,hW0⟩:∃ W0,W0=w.alloc (.cells #[.int .i64 k,.bool b,.int .i64 n,.string t,.string x,.slice (some ⟨g,off,none⟩) q.length cap] 60):=⟨_,rfl⟩
 have S:Six W0 w.heap.size k b n t x (some ⟨g,off,none⟩) q.length cap:=by rw [hW0];exact zal _ rfl
 have b0:Below w.heap.size w W0:=by rw [hW0];exact zar _ _
 have r0:zb2 W0 g off lo hi q:=zb2.keep (Keep.heap (b0.block g (by omega)) (fun i _ c=>b0.block i (by omega))) q hr
 have HE:=Lib.hid each
 have H0:=Lib.hid hW0
 clear hr each hW0
 go_enter Tryz.func61,Tryz.ntmps61
 go_wp2_with fail
 rw [← H0.out]
 go_loopg [2] q.length (fun gg s2 wr=>∃ (j lj:Nat),j+gg=q.length∧s2=.int .i64 j∧lo≤lj∧Six wr w.heap.size k b n t x (some ⟨g,off,none⟩) q.length cap∧Hid (zb2 wr g (off+j*6) lj hi (q.drop j))∧zfo lo hi w wr)
 case atStart=>exact ⟨0,lo,by omega,rfl,Nat.le_refl _,S,Lib.hid (by simpa using r0),zfo.of_below b0⟩
 case round=>
  clear S b0 r0
  obtain ⟨j,lj,hjg,rfl,hlj,S,HR,HW⟩:=hrel
  have f5:=S.c5
  by_cases hlt:(j:Int) < q.length
  ·have hj1:j < q.length:=by omega
   obtain ⟨s,e,g1,g2,g3,g4,ho,hrest⟩:=zb2.at_ (q.drop j) _ _ _ HR.out (by simp;omega)
   have hv:(q.drop j)[0]'(by simp;omega)=q[j]:=by simp
   rw [hv] at ho
   obtain ⟨k',b',n',t',x',q',p',cp',ev,hrg,hth,hf',hl'⟩:=ho.open_
   have hd:(q.drop j).drop 1=q.drop (j+1):=by rw [List.drop_drop]
   rw [hd] at hrest
   have hws:=HW.size
   have hc:=HE.out q[j] (List.getElem_mem hj1) wr s e k' b' n' t' x' q' p' cp' ev hf'.hn hl' (by omega)
   unfold zfv at hc
   have c0:wr.cell? ⟨g,off+j*6,none⟩=some (.int .i64 k'):=hrg 0 _ rfl
   have c1:=hrg 1 _ rfl
   have c2:=hrg 2 _ rfl
   have c3:=hrg 3 _ rfl
   have c4:=hrg 4 _ rfl
   have c5:=hrg 5 _ rfl
   have HRR:=Lib.hid hrest
   have HTH:=Lib.hid hth
   clear hrest hth hrg ho hl' hv hd
   go_wp2_with (first
    |((with_reducible refine zbu (.tmp 13) g (off+j*6) k' b' n' t' x' (.slice p' q'.length cp') c0 c1 c2 c3 c4 c5 ?_ ?_ ?_ ?_);rfl;rfl;rfl)
    |(go_at_call 61;(with_reducible refine hc.mono ?_);rintro e9 w3 ⟨rfl,wr3⟩
      have S3:Six w3 w.heap.size k b n t x (some ⟨g,off,none⟩) q.length cap:=(wr3.block _ S.lt (by omega)).trans S
      have f5:=S3.c5
      have th3:w3.there g (off+j*6) 6:=zhd (wr3.block g (by omega) g4) HTH.out
      clear c0 c1 c2 c3 c4 c5)
    |((with_reducible refine zhv (k:=98) (b:=false) (n:=0) (t:=⟨#[]⟩) (x:=⟨#[]⟩) (p:=none) (len:=0) (cap:=0) ?_ (.tmp 20) (.tmp 19) ?_ g (off+j*6) ?_ ?_ th3 ?_);rfl;rfl;rfl;rfl;intro w4 jk))
   have W4:zfo lo hi w w4:=(HW.trans (wr3.wide (by omega) (by omega))).trans ⟨jk.os,jk.tape,jk.output,Nat.le_of_eq jk.size.symm,fun i _ hn=>jk.blk i (fun e=>hn (by omega))⟩
   have S4:Six w4 w.heap.size k b n t x (some ⟨g,off,none⟩) q.length cap:=(jk.blk _ (by omega)).trans S3
   have R4:zb2 w4 g (off+(j+1)*6) e hi (q.drop (j+1)):=by
    have hk1:Keep wr w3 g (off+(j+1)*6) e hi:=Keep.heap (wr3.block g (by omega) g4) (fun i a c=>wr3.block i (by omega) (by omega))
    have hk2:Keep w3 w4 g (off+(j+1)*6) e hi:=⟨fun o cs ho r=>jk.rng o cs (by omega) r,fun o n _ r=>jk.thr o n r,fun i _ _ hne=>jk.blk i hne⟩
    exact zb2.keep hk2 _ (zb2.keep hk1 _ (by have h:=HRR.out;rwa [show off+j*6+6=off+(j+1)*6 by omega] at h))
   have HR4:=Lib.hid R4
   clear R4 HRR HTH jk th3 S3 wr3 HR hc f5
   go_wp2_with fail
   go_roundg (gk - 1)
   case measure=>omega
   case rel=>exact ⟨j+1,e,by omega,by go_num,by omega,S4,HR4,W4⟩
  ·go_wp2_with fail
   go_end0
   exact ⟨rfl,HW⟩
set_option maxRecDepth 20000 in
set_option maxHeartbeats 6400000 in
theorem zym (k:Int) (b:Bool) (n:Int) (t x:ByteArray) (p:Option Addr) (cap lo hi:Nat) (w:World):
 Calls Tryz.prog 61 #[.agg #[.int .i64 k,.bool b,.int .i64 n,.string t,.string x,.slice p 0 cap]] w (zfv w lo hi):=by
 obtain ⟨W0,hW0⟩:∃ W0,W0=w.alloc (.cells #[.int .i64 k,.bool b,.int .i64 n,.string t,.string x,.slice p 0 cap] 60):=⟨_,rfl⟩
 have S:Six W0 w.heap.size k b n t x p 0 cap:=by rw [hW0];exact zal _ rfl
 have b0:Below w.heap.size w W0:=by rw [hW0];exact zar _ _
 have H0:=Lib.hid hW0
 clear hW0
 go_enter Tryz.func61,Tryz.ntmps61
 go_wp2_with fail
 rw [← H0.out]
 go_loopg [2] 0 (fun gg s2 wr=>gg=0∧s2=.int .i64 0∧wr=W0)
 case atStart=>exact ⟨rfl,rfl,rfl⟩
 case round=>
  obtain ⟨_,rfl,rfl⟩:=hrel
  have f5:=S.c5
  go_wp2_with fail
  go_end0
  exact ⟨rfl,zfo.of_below b0⟩
theorem zyn (v:Val) (k:Int) (b:Bool) (n:Int) (t x:ByteArray) (q:List Val) (ev:v=.mk k b n t x q) (each:∀ u∈q,zou u):zou v:=by
 subst ev
 intro w lo hi k1 b1 n1 t1 x1 q1 p cap e hn hl hs
 cases e
 cases q with
 | nil=>exact zym k b n t x p cap lo hi w
 | cons v r=>
   obtain ⟨g,off,rfl,_,h1,h2,hr⟩:=hl.form
   exact zyl (v::r) k b n t x g off cap lo hi w hn h1 h2 hr hs each
mutual
theorem zwm:(v:Val)→zou v
 | .mk k b n t x q=>zyn _ k b n t x q rfl (zq7 q)
theorem zq7:(q:List Val)→∀ u∈q,zou u
 | [],_,h=>absurd h (by simp)
 | v::r,u,h=>by
   rcases List.mem_cons.1 h with h | h
   ·rw [h];exact zwm v
   ·exact zq7 r u h
end
set_option maxRecDepth 20000 in
set_option maxHeartbeats 3200000 in
theorem zwn (k:Int) (b:Bool) (n:Int) (t x:ByteArray) (q:List Val) (p:Option Addr) (cap lo hi:Nat) (w:World) (hn:q.length≤2097152) (hl:zcx w lo hi (.slice p q.length cap) q) (hs:hi≤w.heap.size):
 Calls Tryz.prog 30 #[.agg #[.int .i64 k,.bool b,.int .i64 n,.string t,.string x,.slice p q.length cap]] w (zfv w lo hi):=by
 obtain ⟨W0,hW0⟩:∃ W0,W0=w.alloc (.cells #[.int .i64 k,.bool b,.int .i64 n,.string t,.string x,.slice p q.length cap] 60):=⟨_,rfl⟩
 have S:Six W0 w.heap.size k b n t x p q.length cap:=by rw [hW0];exact zal _ rfl
 have b0:Below w.heap.size w W0:=by rw [hW0];exact zar _ _
 have hc:=zwm (.mk k b n t x q) W0 lo hi k b n t x q p cap rfl hn (zcx.stays (fun i _ c=>b0.block i (by omega)) q hl) (by have:=b0.size;omega)
 unfold zfv at hc
 have H0:=Lib.hid hW0
 clear hW0 hl
 go_enter Tryz.func30,Tryz.ntmps30
 go_wp2_with (first
  |((try rw [← H0.out]);(with_reducible refine zan (.tmp 1) w.heap.size S ?_ ?_ ?_ ?_);rfl;rfl;rfl)
  |(go_at_call 61;(with_reducible refine hc.mono ?_);rintro e9 w3 ⟨rfl,wr3⟩))
 go_end0
 exact ⟨rfl,(zfo.of_below b0).trans wr3⟩
end Go.Proofs.YtcfmenkigolnoaaGreatDoor

/- GMU -/
namespace Go.Proofs.YtcfmenkigolnoaaGreatDoor
open Go.RowKit
def InsG {α:Type} (le:α→α→Bool) (L0 L:List α) (i k:Nat):Prop:=∃ A x B R,L=A++x::(B++R)∧A.length=k∧A.length+B.length=i∧(A++B).Pairwise (fun a b=>le a b=true)∧(∀ b∈B,le x b=true)∧L.Perm L0
section
variable {α:Type} {le:α→α→Bool}
theorem InsG.start {L0 L:List α} {i:Nat} (hi:i < L.length) (hp:L.Perm L0) (hs:(L.take i).Pairwise (fun a b=>le a b=true)):InsG le L0 L i i:=by
 refine ⟨L.take i,L[i],[],L.drop (i+1),?_,by rw [List.length_take];omega,by rw [List.length_take,List.length_nil];omega,by rw [List.append_nil];exact hs,by simp,hp⟩
 rw [List.nil_append,← List.drop_eq_getElem_cons hi,List.take_append_drop]
theorem InsG.at_ {L0 L:List α} {i k:Nat} (h:InsG le L0 L i k):k < L.length∧k≤i∧i < L.length∧L.Perm L0:=by
 obtain ⟨A,x,B,R,rfl,h1,h2,_,_,h5⟩:=h
 have e:(A++x::(B++R)).length=A.length+(B.length+R.length+1):=by simp
 exact ⟨by omega,by omega,by omega,h5⟩
theorem InsG.step {L0 L:List α} {i m:Nat} {x y:α} (h:InsG le L0 L i (m+1)) (hx:L[m+1]?=some x) (hy:L[m]?=some y) (hlt:le x y=true):InsG le L0 ((L.set (m+1) y).set m x) i m:=by
 obtain ⟨A,x1,B,R,rfl,h1,h2,h3,h4,h5⟩:=h
 rcases List.eq_nil_or_concat A with rfl | ⟨A',y1,rfl⟩
 ·simp at h1
 ·rw [List.concat_eq_append] at*
  have hm:A'.length=m:=by simpa using h1
  subst hm
  have ex:x1=x:=by simpa [List.getElem?_append] using hx
  have ey:y1=y:=by simpa [List.getElem?_append] using hy
  subst ex ey
  refine ⟨A',x1,y1::B,R,?_,rfl,by simp at h2 ⊢;omega,by simpa using h3,?_,?_⟩
  ·simp [List.set_append]
  ·intro b hb
   rcases List.mem_cons.1 hb with rfl | hb
   ·exact hlt
   ·exact h4 b hb
  ·have e:((A'++[y1]++x1::(B++R)).set (A'.length+1) y1).set A'.length x1=A'++x1::(y1::B++R):=by simp [List.set_append]
   rw [e]
   refine List.Perm.trans ?_ h5
   have:A'++[y1]++x1::(B++R)=A'++y1::x1::(B++R):=by simp
   rw [this]
   exact (List.Perm.swap _ _ _).append_left A'
theorem InsG.stop (tr:∀ a b c,le a b=true→le b c=true→le a c=true) {L0 L:List α} {i k:Nat} (h:InsG le L0 L i k) (hk:k=0∨∃ x y,L[k]?=some x∧L[k - 1]?=some y∧le y x=true):L.Perm L0∧(L.take (i+1)).Pairwise (fun a b=>le a b=true):=by
 obtain ⟨A,x1,B,R,rfl,h1,h2,h3,h4,h5⟩:=h
 refine ⟨h5,?_⟩
 have e:(A++x1::(B++R)).take (i+1)=A++x1::B:=by
  rw [show A++x1::(B++R)=(A++x1::B)++R by simp]
  exact List.take_left' (by simp;omega)
 rw [e]
 rw [List.pairwise_append] at h3 ⊢
 obtain ⟨s1,s2,s3⟩:=h3
 refine ⟨s1,List.pairwise_cons.2 ⟨h4,s2⟩,fun a ha b hb=>?_⟩
 rcases List.mem_cons.1 hb with rfl | hb
 ·rcases hk with rfl | ⟨x,y,hx,hy,hyx⟩
  ·rw [List.length_eq_zero_iff.1 h1] at ha
   simp at ha
  ·rcases List.eq_nil_or_concat A with rfl | ⟨A',y1,rfl⟩
   ·simp at ha
   ·rw [List.concat_eq_append] at*
    have hm:k=A'.length+1:=by simpa using h1.symm
    subst hm
    have ex:b=x:=by simpa [List.getElem?_append] using hx
    have ey:y1=y:=by simpa [List.getElem?_append] using hy
    subst ex ey
    rcases List.mem_append.1 ha with ha | ha
    ·have:=(List.pairwise_append.1 s1).2.2 a ha y1 (by simp)
     exact tr _ _ _ this hyx
    ·rw [List.mem_singleton.1 ha]
     exact hyx
 ·exact s3 a ha b hb
end
theorem zkn (g:Nat) (t:TypeId):(vs:List Value)→(o:Nat)→(w:World)→(cur:Array Value)→w.heap[g]?=some (.cells cur t (0,0))→∃ cur',(w.setCells g o vs).heap[g]?=some (.cells cur' t (0,0))∧cur'.size=cur.size
 | [],_,_,cur,h=>⟨cur,h,rfl⟩
 | v::vs,o,w,cur,h=>by
   obtain ⟨c,h1,h2⟩:=zkn g t vs (o+1) (w.setCell ⟨g,o,none⟩ v) _ (zbe h o v)
   exact ⟨c,h1,by rw [h2,Array.size_setIfInBounds]⟩
structure zb4 (w:World) (g off m:Nat) (t N:Nat) (L:List (List Value)):Prop where
 rng:∀ k c,L[k]?=some c→w.rangeAt g (off+k*m) c∧c.length=m∧∀ u∈c,u.oneCell'=true
 thr:∀ k,k < L.length→w.there g (off+k*m) m
 blk:∃ cur,w.heap[g]?=some (.cells cur t (0,0))∧cur.size=N
theorem zb4.heap {w w':World} {g off m t N:Nat} {L:List (List Value)} (h:zb4 w g off m t N L) (e:w'.heap[g]?=w.heap[g]?):zb4 w' g off m t N L:=
 ⟨fun k c hc=>⟨zcw e (h.rng k c hc).1,(h.rng k c hc).2⟩,fun k hk=>zhd e (h.thr k hk),by rw [e];exact h.blk⟩
theorem zb4.set {w:World} {g off m t N:Nat} {L:List (List Value)} (h:zb4 w g off m t N L) (k:Nat) (c:List Value) (hk:k < L.length) (hc:c.length=m) (ho:∀ u∈c,u.oneCell'=true):zb4 (w.setCells g (off+k*m) c) g off m t N (L.set k c):=by
 refine ⟨fun j d hd=>?_,fun j hj=>World.there_setCells (h.thr j (by rwa [List.length_set] at hj)) _ _ _,by
  obtain ⟨cur,h1,h2⟩:=h.blk
  obtain ⟨c',h3,h4⟩:=zkn g t c (off+k*m) w cur h1
  exact ⟨c',h3,by rw [h4,h2]⟩⟩
 rw [List.getElem?_set] at hd
 by_cases e:k=j
 ·subst e
  rw [if_pos rfl,if_pos hk] at hd
  cases hd
  exact ⟨World.rangeAt_setCells_same _ _ _ _ (by rw [hc];exact h.thr k hk),hc,ho⟩
 ·rw [if_neg e] at hd
  obtain ⟨h1,h2,h3⟩:=h.rng j d hd
  refine ⟨World.rangeAt_setCells_apart h1 _ _ _ (.inr ?_),h2,h3⟩
  rw [h2,hc]
  rcases Nat.lt_or_gt_of_ne e with q | q
  ·have:=Nat.mul_le_mul_right m (show k+1≤j by omega)
   rw [Nat.succ_mul] at this
   omega
  ·have:=Nat.mul_le_mul_right m (show j+1≤k by omega)
   rw [Nat.succ_mul] at this
   omega
theorem zb4.lt {w:World} {g off m t N:Nat} {L:List (List Value)} (h:zb4 w g off m t N L) (hm:0 < m) (hl:0 < L.length):g < w.heap.size:=by
 obtain ⟨v,hv⟩:=Option.isSome_iff_exists.1 ((h.thr 0 hl) 0 hm).1
 exact World.block_lt_of_cell? w _ hv
theorem zcy (g o:Nat) (vs:List Value) (w:World):Only g w (w.setCells g o vs):=by
 have h:=zdp g vs o w
 exact ⟨h.1,h.2.1,h.2.2.1,Nat.le_of_eq h.2.2.2.1.symm,fun k _ hne=>h.2.2.2.2 k hne⟩
theorem zdf {ops:Array Oper} {rest:List Oper} {op:Oper} {a:Act} {w:World} {Q:Exit→Act→World→Prop} (u v:Operand) (ty g o k:Nat) (cs:List Value) (hk:cs.length=k) (h1:∀ u∈cs,u.oneCell'=true) (ht:w.there g o k) (hi:(Tryz.prog.info? ty).map (·.size)=some k)
 (hgd:op.guard=none) (ho:op.op=.store ty u v) (hx:a.eval u=.pointer (some ⟨g,o,none⟩)) (hy:a.eval v=.agg cs.toArray)
 (h:wpList Tryz.prog ops Q rest (a.put op.dst undef) (w.setCells g o cs)):wpList Tryz.prog ops Q (op::rest) a w:=
 wpList_store_mid hgd ty u v ho g o cs.toArray hx hy (by simpa [hk] using ht) (by rw [hi];simp [hk]) (all_oneCell_toArray h1) h
def leQ (x y:List Value × za2):Bool:=leT x.2.key y.2.key
theorem zy8:∀ a b c:List Value × za2,leQ a b=true→leQ b c=true→leQ a c=true:=fun _ _ _=>zhi _ _ _
set_option maxHeartbeats 6400000 in
set_option maxRecDepth 20000 in
theorem zov (L0:List (List Value × za2)) (g off cap N:Nat) (W:World) (h:zb4 W g off 7 70 N (L0.map (·.1))) (hk:∀ a∈L0,a.1[0]?=some (.string a.2.key)) (hn:L0.length≤2097152) (h0:1≤L0.length):
 Calls Tryz.prog 44 #[.slice (some ⟨g,off,none⟩) L0.length cap] W fun e w'=>e=.returned (.tuple #[])∧Only g W w'∧∃ L:List (List Value × za2),L.Perm L0∧L.Pairwise (fun a b=>leQ a b=true)∧zb4 w' g off 7 70 N (L.map (·.1)):=by
 obtain ⟨n,hl⟩:∃ n,n=L0.length:=⟨_,rfl⟩
 rw [← hl] at hn h0 ⊢
 have HL:=Lib.hid hl
 have HT:=Lib.hid h
 have HK:=Lib.hid hk
 clear h hl hk
 go_enter Tryz.func44,Tryz.ntmps44
 go_wp2_with fail
 go_loopg [2] n (fun gg s2 wr=>∃ i:Nat,i+gg=n+1∧1≤i∧s2=.int .i64 i∧∃ L:List (List Value × za2),Hid (zb4 wr g off 7 70 N (L.map (·.1))∧L.Perm L0∧(L.take i).Pairwise (fun a b=>leQ a b=true))∧Hid (Only g W wr))
 case atStart=>exact ⟨1,by omega,by omega,rfl,L0,Lib.hid ⟨HT.out,List.Perm.refl _,by
  match L0 with
  | []=>simp
  | a::r=>simp⟩,Lib.hid (Only.refl _ _)⟩
 case round=>
  obtain ⟨i,hig,hi1,rfl,L,HA,HO⟩:=hrel
  have HLN:Hid (L.length=n):=Lib.hid (by rw [HA.out.2.1.length_eq,HL.out])
  by_cases hi:(i:Int) < n
  ·have HS:Hid (InsG leQ L0 L i i):=Lib.hid (InsG.start (by have:=HLN.out;omega) HA.out.2.1 HA.out.2.2)
   have HTR:=Lib.hid HA.out.1
   clear HA HLN
   go_wp2_with fail
   go_loopg [3] i (fun gg s3 wr2=>∃ k:Nat,(k≤gg∧gg≤k)∧s3=.int .i64 k∧∃ L:List (List Value × za2),Hid (InsG leQ L0 L i k)∧Hid (zb4 wr2 g off 7 70 N (L.map (·.1)))∧Hid (Only g W wr2))
   case atStart=>exact ⟨i,⟨Nat.le_refl _,Nat.le_refl _⟩,rfl,L,HS,HTR,HO⟩
   case round=>
    clear HS HTR HO
    obtain ⟨k,hkg,rfl,L,HS,HTR,HO⟩:=hrel
    have hat:=HS.out.at_
    have hLn:L.length=n:=by rw [hat.2.2.2.length_eq,HL.out]
    by_cases hk:k=0
    ·subst hk
     have HE:=Lib.hid (HS.out.stop zy8 (.inl rfl))
     clear hat hLn HS
     go_upto_region 4 with fail
     go_quiet (fail)
     have HO9:Hid (Only g W (wr.drewN nq)):=Lib.hid (HO.out.drewN nq)
     have HTR9:Hid (zb4 (wr.drewN nq) g off 7 70 N (L.map (·.1))):=Lib.hid (HTR.out.heap rfl)
     clear HO HTR
     generalize wr.drewN nq=w9 at*
     go_wp2_with fail
     go_roundg (n+1 - (i+1))
     case measure=>omega
     case rel=>exact ⟨i+1,by omega,by omega,by go_num,L,Lib.hid ⟨HTR9.out,HE.out⟩,HO9⟩
    ·obtain ⟨m,rfl⟩:∃ m,k=m+1:=⟨k - 1,by omega⟩
     obtain ⟨x,hx⟩:∃ x,L[m+1]?=some x:=⟨_,List.getElem?_eq_getElem hat.1⟩
     obtain ⟨y,hy⟩:∃ y,L[m]?=some y:=⟨_,List.getElem?_eq_getElem (by omega)⟩
     have hrx:=HTR.out.rng (m+1) x.1 (by rw [List.getElem?_map,hx];rfl)
     have hry:=HTR.out.rng m y.1 (by rw [List.getElem?_map,hy];rfl)
     have kx:=HK.out x (hat.2.2.2.mem_iff.1 (List.mem_of_getElem? hx))
     have ky:=HK.out y (hat.2.2.2.mem_iff.1 (List.mem_of_getElem? hy))
     have hgw:=HTR.out.lt (by omega) (by rw [List.length_map];omega)
     obtain ⟨cx,bx⟩:=x
     obtain ⟨cy,by'⟩:=y
     obtain ⟨kx1,hkx1⟩:∃ s,s=bx.key:=⟨_,rfl⟩
     obtain ⟨ky1,hky1⟩:∃ s,s=by'.key:=⟨_,rfl⟩
     have c0:wr.cell? ⟨g,off+(m+1)*7,none⟩=some (.string kx1):=by rw [hkx1];exact hrx.1 0 _ kx
     have c1:wr.cell? ⟨g,off+m*7,none⟩=some (.string ky1):=by rw [hky1];exact hry.1 0 _ ky
     have hpos:decide ((0:Int) < ((m+1:Nat):Int))=true:=decide_eq_true (by omega)
     have hsub:(((m+1:Nat):Int) - 1)=(m:Int):=by omega
     have hmn:m+1 < n:=by omega
     have hmi:((m:Int)+1) < n:=by omega
     by_cases hlt:bl kx1 < bl ky1
     ·have hb:Op.bytesLess kx1.toList ky1.toList=true:=by rw [bytesLess_eq];simpa [bl,Lib.toList_data] using hlt
      have HS2:=Lib.hid (HS.out.step hx hy (by
       unfold leQ
       simp only [leT,leB,decide_eq_true_eq]
       rw [hkx1,hky1] at hlt
       exact List.le_of_lt hlt))
      have HN:=Lib.hid (And.intro hat.1 hLn)
      have HRYL:Hid (Option.map (·.1) L[m]?=some cy):=Lib.hid (by rw [hy];rfl)
      have HRX:=Lib.hid hrx
      have HRY:=Lib.hid hry
      have hgl:g < wr.heap.size:=hgw
      clear hx hy hat hLn HS hlt hkx1 hky1 kx ky hrx hry hgw
      go_upto_region 4 with fail
      go_quiet (fail)
      have HO9:Hid (Only g W (wr.drewN nq)):=Lib.hid (HO.out.drewN nq)
      have HTR9:Hid (zb4 (wr.drewN nq) g off 7 70 N (L.map (·.1))):=Lib.hid (HTR.out.heap rfl)
      have hx9:(wr.drewN nq).rangeAt g (off+(m+1)*7) cx:=zcw rfl HRX.out.1
      have hg9:g < (wr.drewN nq).heap.size:=hgl
      have hlx:cx.length=7:=HRX.out.2.1
      have hly:cy.length=7:=HRY.out.2.1
      have hox:=HRX.out.2.2
      have hoy:=HRY.out.2.2
      clear HO HTR c0 c1 hgl HRX
      generalize wr.drewN nq=w9 at*
      go_upto_region 7 with (first
       |((with_reducible refine zap (.tmp 32) g (off+(m+1)*7) 70 cx 7 _ hx9 hlx Tryz.underlying70 rfl zbb ?_ ?_ ?_ ?_);rfl;rfl;rfl)
       |((with_reducible refine zag (.tmp 4) (.tmp 33) w9.heap.size 70 70 _ cx 7 (zae _ _ rfl) hlx ?_ ?_ ?_ ?_ zbb rfl hox ?_);rfl;rfl;rfl;rfl;intro wX oX hx))
      have bX:Below w9.heap.size w9 wX:=zaf (zar w9 _) oX (Nat.le_refl _) (by simp)
      obtain ⟨xb,hxb⟩:∃ xb,xb=w9.heap.size:=⟨_,rfl⟩
      rw [← hxb] at hx ⊢
      have hne:xb≠g:=by omega
      have HTX:=Lib.hid (HTR9.out.heap (bX.block g hg9))
      have HOX:=Lib.hid (HO9.out.trans (Only.of_below bX))
      have hyX:wX.rangeAt g (off+m*7) cy:=(HTX.out.rng m cy (by
       rw [List.getElem?_map]
       exact HRYL.out)).1
      have thX:=HTX.out.thr (m+1) (by rw [List.length_map];exact HN.out.1)
      clear hx9 HTR9 HO9 oX bX hxb hg9 HRY
      go_upto_region 8 with (first
       |((with_reducible refine zap (.tmp 39) g (off+m*7) 70 cy 7 _ hyX hly Tryz.underlying70 rfl zbb ?_ ?_ ?_ ?_);rfl;rfl;rfl)
       |((with_reducible refine zdf (.tmp 41) (.tmp 40) 70 g (off+(m+1)*7) 7 cy hly hoy thX zbb ?_ ?_ ?_ ?_ ?_);rfl;rfl;rfl;rfl))
      have HTA:=Lib.hid (HTX.out.set (m+1) cy (by rw [List.length_map];exact HN.out.1) hly hoy)
      have HOA:=Lib.hid (HOX.out.trans (zcy g (off+(m+1)*7) cy wX))
      have hxA:(wX.setCells g (off+(m+1)*7) cy).heap[xb]?=_:=((zdp g cy (off+(m+1)*7) wX).2.2.2.2 xb hne).trans hx
      have thA:=HTA.out.thr m (by rw [List.length_set,List.length_map];have:=HN.out.1;omega)
      clear hyX HTX HOX thX hx
      generalize wX.setCells g (off+(m+1)*7) cy=wA at*
      go_wp2_with (first
       |((with_reducible refine zai (.tmp 4) xb 70 70 cx 7 _ hxA hlx Tryz.underlying70 rfl zbb ?_ ?_ ?_ ?_);rfl;rfl;rfl)
       |((with_reducible refine zdf (.tmp 46) (.tmp 45) 70 g (off+m*7) 7 cx hlx hox thA zbb ?_ ?_ ?_ ?_ ?_);rfl;rfl;rfl;rfl))
      go_roundg (gk - 1)
      case measure=>omega
      case rel=>
       refine ⟨m,by omega,by go_num,_,HS2,Lib.hid ?_,Lib.hid (HOA.out.trans (zcy g (off+m*7) cx wA))⟩
       have:=HTA.out.set m cx (by rw [List.length_set,List.length_map];have:=HN.out.1;omega) hlx hox
       rw [List.map_set,List.map_set]
       exact this
     ·have hb:Op.bytesLess kx1.toList ky1.toList=false:=by rw [bytesLess_eq];simpa [bl,Lib.toList_data] using hlt
      have HE:=Lib.hid (HS.out.stop zy8 (.inr ⟨_,_,hx,hy,by
       unfold leQ
       simp only [leT,leB,decide_eq_true_eq]
       rw [hkx1,hky1] at hlt
       exact List.not_lt.1 hlt⟩))
      clear hx hy hat hLn HS hlt hkx1 hky1 kx ky hrx hry hgw
      go_upto_region 4 with fail
      go_quiet (fail)
      have HO9:Hid (Only g W (wr.drewN nq)):=Lib.hid (HO.out.drewN nq)
      have HTR9:Hid (zb4 (wr.drewN nq) g off 7 70 N (L.map (·.1))):=Lib.hid (HTR.out.heap rfl)
      clear HO HTR c0 c1
      generalize wr.drewN nq=w9 at*
      go_wp2_with fail
      go_roundg (n+1 - (i+1))
      case measure=>omega
      case rel=>exact ⟨i+1,by omega,by omega,by go_num,L,Lib.hid ⟨HTR9.out,HE.out⟩,HO9⟩
  ·have hs:L.Pairwise (fun a b=>leQ a b=true):=by
    have:=HA.out.2.2
    rwa [List.take_of_length_le (by have:=HLN.out;omega)] at this
   have HZ:=Lib.hid hs
   clear hs
   go_wp2_with fail
   go_end0
   exact ⟨rfl,HO.out,L,HA.out.2.1,HZ.out,HA.out.1⟩
end Go.Proofs.YtcfmenkigolnoaaGreatDoor

/- GMV -/
namespace Go.Proofs.YtcfmenkigolnoaaGreatDoor
open Go.RowKit
set_option maxHeartbeats 6400000 in
set_option maxRecDepth 20000 in
theorem zow (V:Value) (ps:List za2) (W:World) (h:zaj za8 W (Old W) V ps) (hn:ps.length≤2097152):Calls Tryz.prog 35 #[V] W (zbg za8 70 W ps):=by
 obtain ⟨i0,hi,hz0,hz1,hz2⟩:=info_parts zj6
 obtain ⟨p,cap,rfl⟩:=h.slice
 obtain ⟨n,hl⟩:∃ n,n=ps.length:=⟨_,rfl⟩
 rw [← hl]
 rw [← hl] at hn
 have H1:=Lib.hid h
 have HL:=Lib.hid hl
 clear h hl
 go_enter Tryz.func35,Tryz.ntmps35
 go_wp2_with fail
 go_loopg [3,4] n (fun gg s3 s4 wr=>∃ (j:Nat) (A:Value),j+gg=n∧s4=.int .i64 j∧A=s3∧Hid (AccE za8 70 W (ps.take j) A wr))
 case atStart=>exact ⟨0,_,by omega,rfl,rfl,Lib.hid (AccE.start za8 70 W)⟩
 case round=>
  obtain ⟨j,A,hjg,rfl,hA,HA⟩:=hrel
  subst hA
  by_cases hj:(j:Int) < n
  ·have hj1:j < ps.length:=by have:=HL.out;omega
   obtain ⟨g,o,cp1,cc1,e1,hg1,hr1,hra1⟩:=H1.out.at_ j hj1
   replace hr1:=za8.stays (zad HA.out.bel) hr1
   replace hra1:=zaz hra1 HA.out.bel
   injection e1 with e11 e12 e13
   subst e11
   obtain ⟨x,hx⟩:∃ x,x=ps[j]:=⟨_,rfl⟩
   rw [← hx] at hr1
   obtain ⟨key,⟨k1,b1,i1,t1,x1,q1⟩⟩:=x
   obtain ⟨c61,rfl,hks,hv1⟩:=hr1
   obtain ⟨L1,rfl,hf1,hq1⟩:=hv1
   have hh1:=za9.held q1 hq1
   obtain ⟨lp1,lc1,rfl⟩:=za7 hh1
   have ra:wr.rangeAt g (o+j*7) [.string key,.int .i64 k1,.bool b1,.int .i64 i1,.string t1,.string x1,.slice lp1 q1.length lc1]:=hra1
   have hjl:(ps.take j).length=j:=by rw [List.length_take];omega
   have etk:ps.take (j+1)=ps.take j++[⟨key,.mk k1 b1 i1 t1 x1 q1⟩]:=by rw [List.take_succ_eq_append_getElem hj1,← hx]
   have HK:=Lib.hid (And.intro hjl (And.intro etk (And.intro hf1 hks)))
   have hgW:g < W.heap.size:=hg1
   have hgl:g < wr.heap.size:=Nat.lt_of_lt_of_le hgW HA.out.bel.size
   have hHH:=Held.below q1 hh1 (Below.refl wr.heap.size wr).drew
   have HCV:=Lib.hid (rcopyAt k1 b1 i1 t1 x1 q1 lp1 lc1 wr.drew hf1 hHH)
   have hbD:Below wr.heap.size wr wr.drew:=(Below.refl wr.heap.size wr).drew
   replace ra:=zaz ra hbD
   clear hra1 hx hq1 hh1 hHH e12 e13 hjl etk hf1 hks
   go_upto_region 5 with fail
   refine wp_region_held_drew (S:=fun W'=>W'.rangeAt g (o+j*7) [.string key,.int .i64 k1,.bool b1,.int .i64 i1,.string t1,.string x1,.slice lp1 q1.length lc1]) (by kernel_rfl) (zaz ra (Below.refl _ _)) (fun _=>?_)
   generalize wr.drew=wD at*
   refine tg (i:=0) A rfl (ra) ?_
   refine tg (i:=1) (.slice (some ⟨g,o,none⟩) n cap) rfl (ra) ?_
   refine tg (i:=2) (.int .i64 (j:Int)) rfl (ra) ?_
   refine tg (i:=6) (.slice (some ⟨g,o,none⟩) n cap) rfl (ra) ?_
   refine tg (i:=7) (.int .i64 (j:Int)) rfl (ra) ?_
   refine tg (i:=3) (.pointer (some ⟨g,o+j*7,none⟩)) rfl (ra) ?_
   refine tg (i:=8) (.pointer (some ⟨g,o+j*7,none⟩)) rfl (ra) ?_
   refine tg (i:=4) (.pointer (some ⟨g,o+j*7,none⟩)) rfl (ra) ?_
   refine tg (i:=9) (.pointer (some ⟨g,o+j*7+1,none⟩)) rfl (ra) ?_
   refine tk (i:=5) (v:=.string key) rfl (Or.inl ⟨by rfl,fun W' h=>by have c0:W'.cell? ⟨g,o+j*7,none⟩=some (.string key):=h 0 _ rfl;go_simp⟩) (ra) ?_
   refine tk (i:=10) (v:=.agg #[.int .i64 k1,.bool b1,.int .i64 i1,.string t1,.string x1,.slice lp1 q1.length lc1]) rfl (yieldsIf_load_mid (by rfl) 60 (.tmp 20) rfl g (o+j*7+1) rfl [.int .i64 k1,.bool b1,.int .i64 i1,.string t1,.string x1,.slice lp1 q1.length lc1] _ (fun W' h=>zdz h) Tryz.underlying60 rfl za1) (ra) ?_
   refine tr 11 rfl (fun K hK=>?_)
   rw [if_pos (by rfl)]
   go_simp
   refine HCV.out.mono ?_
   rintro e0 w3 ⟨pv,cv,rfl,hH,hb3⟩
   have ra3:=zaz ra hb3
   refine hK.out _ _ (ra3) (fun _=>?_)
   clear hK K
   try simp only [putS]
   refine tg (i:=12) (.agg #[.string key,.int .i64 k1,.bool b1,.int .i64 i1,.string t1,.string x1,.slice pv q1.length cv]) rfl (ra3) ?_
   refine tr 13 rfl (fun K hK=>?_)
   try rw [if_pos (by rfl)]
   go_simp
   obtain ⟨⟨xs,hown,hrow⟩,hbel⟩:=HA.out
   replace hown:wr.ownsRow W.heap.size 70 7 A (ps.take j).length xs:=hown
   have own3:=(zav (zav hown hbD) hb3).alloc (.cells #[.string key,.int .i64 k1,.bool b1,.int .i64 i1,.string t1,.string x1,.slice pv q1.length cv] 70)
   have ra4:=zaz ra3 (zar w3 (.cells #[.string key,.int .i64 k1,.bool b1,.int .i64 i1,.string t1,.string x1,.slice pv q1.length cv] 70))
   refine hK.out _ _ (ra4) (fun _=>?_)
   clear hK K
   try simp only [putS]
   refine tr 14 rfl (fun K hK=>?_)
   rw [if_pos (by rfl)]
   refine zbl (P:=Tryz.prog) (w:=w3.alloc (.cells #[.string key,.int .i64 k1,.bool b1,.int .i64 i1,.string t1,.string x1,.slice pv q1.length cv] 70)) (.tmp 11) (.tmp 24) 36 rfl W.heap.size 70 i0 (.agg #[.string ⟨#[]⟩,.int .i64 0,.bool false,.int .i64 0,.string ⟨#[]⟩,.string ⟨#[]⟩,.slice none 0 0]) 7 96 Tryz.underlying36 hi hz0 hz1 hz2 rfl (by decide) A (ps.take j).length xs rfl own3 ⟨w3.heap.size,0,none⟩ 1 1 [.string key,.int .i64 k1,.bool b1,.int .i64 i1,.string t1,.string x1,.slice pv q1.length cv] rfl rfl (World.news_of_block (cs:=#[.string key,.int .i64 k1,.bool b1,.int .i64 i1,.string t1,.string x1,.slice pv q1.length cv]) (t:=70) (fr:=(0,0)) (by exact heap_alloc_new w3 _)) (by simp [Value.oneCell']) (by rw [HK.out.1];unfold maxLen;omega) (by rw [HK.out.1];omega) (by have:=hbel.size;have:=hbD.size;have:=hb3.size;simp;omega) ?_
   intro v4 w4 ho4 hg4 _ hloc4
   have ra5:w4.rangeAt g (o+j*7) [.string key,.int .i64 k1,.bool b1,.int .i64 i1,.string t1,.string x1,.slice lp1 q1.length lc1]:=zcw (hg4.block g (by have:=hbD.size;have:=hb3.size;simp;omega) (fun e=>by have:=(hown.lt g e.symm).1;omega)) ra4
   refine hK.out _ _ (ra5) (fun _=>?_)
   clear hK K
   try simp only [putS]
   refine tg (i:=15) v4 rfl (ra5) ?_
   refine wpAnyH_done (by kernel_rfl) ?_ _
   have hval:zfw w3 (New wD w3) [.int .i64 k1,.bool b1,.int .i64 i1,.string t1,.string x1,.slice pv q1.length cv] (.mk k1 b1 i1 t1 x1 q1):=⟨_,rfl,HK.out.2.2.1,za9.stays (show zdr (fun g=>wD.heap.size < g∧g < w3.heap.size) (New wD w3) w3 w3 from fun i hi=>⟨⟨Nat.le_of_lt hi.1,hi.2⟩,rfl⟩) q1 hH⟩
   have hpair:za8.rel w3 (New wD w3) [.string key,.int .i64 k1,.bool b1,.int .i64 i1,.string t1,.string x1,.slice pv q1.length cv] ⟨key,.mk k1 b1 i1 t1 x1 q1⟩:=⟨_,rfl,HK.out.2.2.2,hval⟩
   have HC:=Lib.hid (AccE.next hown hrow hbel hbD hb3 hpair ho4 hg4 (by simpa using hloc4))
   clear hval hpair
   clear ra ra3 ra4 ra5 ho4 hg4 hloc4 own3 hown hrow hH HA HCV
   go_wp2_with fail
   go_roundg (gk - 1)
   case measure=>omega
   case rel=>exact ⟨j+1,_,by omega,by go_num,rfl,Lib.hid (by rw [HK.out.2.1];exact HC.out)⟩
  ·have e:ps.take j=ps:=by rw [List.take_of_length_le];have:=HL.out;omega
   have hA:=HA.out
   rw [e] at hA
   obtain ⟨⟨xs,hown,hrow⟩,hbel⟩:=hA
   have HX:=Lib.hid (And.intro hown (And.intro hrow hbel))
   clear HA e hown hrow hbel
   go_wp2_with fail
   go_ret
   exact ⟨_,xs,rfl,HX.out.1,HX.out.2.1,HX.out.2.2⟩
end Go.Proofs.YtcfmenkigolnoaaGreatDoor

/- GMW -/
namespace Go.Proofs.YtcfmenkigolnoaaGreatDoor
open Go.RowKit
def zwo (W:World) (ts:List ByteArray) (e:Ending) (w':World):Prop:=∃ R,e=.returned R∧w'.ownsRow W.heap.size 9 1 R ts.length (ts.map Value.string)∧Below W.heap.size W w'
set_option maxHeartbeats 3200000 in
set_option maxRecDepth 20000 in
theorem zox (V:Value) (ts:List ByteArray) (W:World) (h:zcd W V ts) (hnil:nilK V) (hn:ts.length≤2097152):Calls Tryz.prog 34 #[V] W (zwo W ts):=by
 obtain ⟨i0,hi,hz0,hz1,hz2⟩:=info_parts zg2
 obtain ⟨p,cap,rfl,hc⟩:=h
 obtain ⟨n,hl⟩:∃ n,n=ts.length:=⟨_,rfl⟩
 rw [← hl] at hnil hn ⊢
 cases p with
 | none=>
   obtain ⟨e1,rfl⟩:=hnil _ _ rfl
   subst e1
   have ht:ts=[]:=List.length_eq_zero_iff.1 hl.symm
   subst ht
   clear hc hl hnil hn
   go_enter Tryz.func34,Tryz.ntmps34
   go_wp2_with (first
    |(at_builtin;refine wpList_append_own_none rfl _ _ 35 rfl W.heap.size 9 i0 1 Tryz.underlying35 hi (.slice none 0 0) 0 [] rfl (World.ownsRow_nil _ _ _ _) rfl ?_))
   go_ret
   exact ⟨_,rfl,World.ownsRow_nil _ _ _ _,Below.refl _ _⟩
 | some ad=>
   have hnews:∀ j u,(ts.map Value.string)[j]?=some u→W.cell? (ad.add j)=some u:=by
    intro j u hu
    have hj:j < ts.length:=by
     have:=(List.getElem?_eq_some_iff.1 hu).1
     rwa [List.length_map] at this
    obtain ⟨g,off,e,hcj⟩:=hc (by intro q;rw [q] at hj;simp at hj)
    cases e
    rw [Addr.add_mid,hcj j hj]
    rw [List.getElem?_map,List.getElem?_eq_getElem hj] at hu
    rw [← Option.some.inj hu]
    simp [hj]
   have HL:=Lib.hid hl
   have HN:=Lib.hid hnews
   have hlen:(ts.map Value.string).length=n*1:=by rw [List.length_map,hl,Nat.mul_one]
   have hone:∀ u∈ts.map Value.string,u.oneCell'=true:=by
    intro u hu
    obtain ⟨t,_,rfl⟩:=List.mem_map.1 hu
    rfl
   clear hc hl hnil hnews
   go_enter Tryz.func34,Tryz.ntmps34
   go_wp2_with (first
    |(at_builtin;refine wpList_append_own_at _ rfl _ _ 35 rfl W.heap.size 9 i0 (.string ⟨#[]⟩) 1 16 Tryz.underlying35 hi hz0 hz1 hz2 rfl (by decide) (.slice none 0 0) 0 [] rfl (World.ownsRow_nil _ _ _ _) ad n cap (ts.map Value.string) rfl hlen HN.out hone ?_ ?_ ?_ ?_))
   all_goals (try (first |(unfold maxLen;omega) | omega | exact Nat.le_refl _))
   intro v' w5 ho5 hg5 _ _
   have hb5:Below W.heap.size W w5:=(Below.refl _ _).grown hg5 (Nat.le_refl _) (fun g hg=>by simp [Value.ownBlock] at hg)
   have HB:=Lib.hid (And.intro ho5 hb5)
   clear ho5 hg5 hb5 hlen hone
   go_wp2_with fail
   go_ret
   refine ⟨_,rfl,?_,HB.out.2⟩
   rw [← HL.out]
   exact HB.out.1
end Go.Proofs.YtcfmenkigolnoaaGreatDoor

/- GMX -/
namespace Go.Proofs.YtcfmenkigolnoaaGreatDoor
open Go.RowKit
theorem zyo {w:World} {base g n cap:Nat} {e:TypeId} {xs:List Value} (h:w.ownsRow base e 1 (.slice (some ⟨g,0,none⟩) n cap) n xs) (k:Nat) (u:Value):∃ xs',(w.setCell ⟨g,k,none⟩ u).ownsRow base e 1 (.slice (some ⟨g,0,none⟩) n cap) n xs':=by
 rcases h.2 with ⟨e,_⟩ | ⟨g',cap',cur,e,hb,hg,hc,hm,hsz,htk⟩
 ·cases e
 ·cases e
  have h2:=zbe hg k u
  refine ⟨(cur.setIfInBounds k u).toList.take (n*1),?_,.inr ⟨g,cap,_,rfl,hb,h2,hc,hm,by rw [Array.size_setIfInBounds];exact hsz,rfl⟩⟩
  rw [List.length_take,Array.length_toList,Array.size_setIfInBounds,hsz]
  omega
theorem zpy {w:World} {base g n cap:Nat} {e:TypeId} {xs:List Value} (h:w.ownsRow base e 1 (.slice (some ⟨g,0,none⟩) n cap) n xs) (k:Nat) (hk:k < n):(∃ v,w.cell? ⟨g,k,none⟩=some v)∧w.frozen? ⟨g,k,none⟩=false∧base≤g:=by
 rcases h.2 with ⟨e,_⟩ | ⟨g',cap',cur,e,hb,hg,hc,hm,hsz,htk⟩
 ·cases e
 ·cases e
  have hlt:k < cur.size:=by omega
  exact ⟨⟨cur[k],zac hg k (by rw [Array.getElem?_eq_getElem hlt])⟩,zbo hg _,hb⟩
theorem zq8 {w:World} {base n:Nat} {e:TypeId} {V:Value} {xs:List Value} (h:w.ownsRow base e 1 V (n+1) xs):∃ g cap,V=.slice (some ⟨g,0,none⟩) (n+1) cap:=by
 rcases h.2 with ⟨_,e⟩ | ⟨g',cap',cur,e,_⟩
 ·omega
 ·exact ⟨_,_,e⟩
def OverB (base:Nat) (W:World) (e:Ending) (w':World):Prop:=e=.returned (.tuple #[])∧Below base W w'
set_option maxHeartbeats 3200000 in
set_option maxRecDepth 20000 in
theorem zk5 (V:Value) (n base:Nat) (xs:List Value) (W:World) (h:W.ownsRow base 2 1 V n xs) (hn:n≤2097152) (hbase:base≤W.heap.size):Calls Tryz.prog 26 #[V] W (OverB base W):=by
 obtain ⟨i0,hi,hz0,hz1,hz2⟩:=info_parts zdc
 rcases id h.2 with ⟨rfl,rfl⟩ | ⟨g,cap,cur,rfl,-⟩
 ·have ho:=h
  have hb:Below base W W:=Below.refl _ _
  clear h
  go_enter Tryz.func26,Tryz.ntmps26
  go_wp2_with fail
  go_loopg [2] 0 (fun gg s2 wr=>gg=0∧s2=.int .i64 0∧W=wr)
  case atStart=>exact ⟨rfl,rfl,rfl⟩
  case round=>
   obtain ⟨_,rfl,rfl⟩:=hrel
   go_wp2_with (first
    |(at_builtin;refine wpList_append_own_at _ rfl _ _ 42 rfl base 2 i0 (.int .i64 0) 1 8 Tryz.underlying42 hi hz0 hz1 hz2 rfl (by decide) (.slice none 0 0) 0 xs rfl (ho.alloc _) ⟨W.heap.size,0,none⟩ 1 1 [.int .i64 1] rfl rfl (zbc W [.int .i64 1] 2) (by simp [Value.oneCell']) ?_ ?_ ?_ ?_))
   all_goals (try (first |(unfold maxLen;omega) | omega |(have:=hb.size;omega) |(simp;have:=hb.size;omega)))
   intro v' w5 ho5 hg5 _ _
   have hb5:Below base W w5:=(hb.alloc (by have:=hb.size;omega) _).grown hg5 (by have:=hb.size;simp;omega) (fun j e=>(ho.lt j e).1)
   obtain ⟨g5,cap5,rfl⟩:=zq8 ho5
   obtain ⟨⟨v5,c5⟩,f5,q5⟩:=zpy ho5 0 (by omega)
   have HB:=Lib.hid (And.intro hb5 (And.intro q5 (show base≤w5.heap.size by have:=hb5.size;omega)))
   clear ho5 hg5 hb5 q5 ho hb
   go_wp2_with fail
   go_end0
   exact ⟨rfl,zao HB.out.1 none _ HB.out.2.1 HB.out.2.2⟩
 ·have H0:=Lib.hid h
  clear h
  go_enter Tryz.func26,Tryz.ntmps26
  go_wp2_with fail
  go_loopg [2] n (fun gg s2 wr=>∃ j:Nat,j+gg=n∧s2=.int .i64 j∧∃ xs,Hid (wr.ownsRow base 2 1 (.slice (some ⟨g,0,none⟩) n cap) n xs∧Below base W wr))
  case atStart=>exact ⟨0,by omega,rfl,xs,Lib.hid ⟨H0.out,Below.refl _ _⟩⟩
  case round=>
   clear H0
   obtain ⟨j,hjg,rfl,xs,HA⟩:=hrel
   by_cases hj:(j:Int) < n
   ·obtain ⟨⟨v,c0⟩,f0,q0⟩:=zpy HA.out.1 j (by omega)
    obtain ⟨xs',h'⟩:=zyo HA.out.1 j (.int .i64 (-99))
    have HS:=Lib.hid (And.intro h' (zao (o:=j) HA.out.2 none (.int .i64 (-99)) q0 (by have:=HA.out.2.size;omega)))
    clear HA h' q0
    go_wp2_with fail
    go_roundg (gk - 1)
    case measure=>omega
    case rel=>exact ⟨j+1,by omega,by go_num,xs',HS⟩
   ·have ho:=HA.out.1
    have hb:=HA.out.2
    go_wp2_with (first
     |(at_builtin;refine wpList_append_own_at _ rfl _ _ 42 rfl base 2 i0 (.int .i64 0) 1 8 Tryz.underlying42 hi hz0 hz1 hz2 rfl (by decide) (.slice (some ⟨g,0,none⟩) n cap) n xs rfl (ho.alloc _) ⟨wr.heap.size,0,none⟩ 1 1 [.int .i64 1] rfl rfl (zbc wr [.int .i64 1] 2) (by simp [Value.oneCell']) ?_ ?_ ?_ ?_))
    all_goals (try (first |(unfold maxLen;omega) | omega |(have:=hb.size;omega) |(simp;have:=hb.size;omega)))
    intro v' w5 ho5 hg5 _ _
    have hb5:Below base W w5:=(hb.alloc (by have:=hb.size;omega) _).grown hg5 (by have:=hb.size;simp;omega) (fun j e=>(ho.lt j e).1)
    obtain ⟨g5,cap5,rfl⟩:=zq8 ho5
    obtain ⟨⟨v5,c5⟩,f5,q5⟩:=zpy ho5 n (by omega)
    have HB:=Lib.hid (And.intro hb5 (And.intro q5 (show base≤w5.heap.size by have:=hb5.size;omega)))
    clear ho5 hg5 hb5 q5 ho hb
    go_wp2_with fail
    go_end0
    exact ⟨rfl,zao HB.out.1 none _ HB.out.2.1 HB.out.2.2⟩
end Go.Proofs.YtcfmenkigolnoaaGreatDoor
