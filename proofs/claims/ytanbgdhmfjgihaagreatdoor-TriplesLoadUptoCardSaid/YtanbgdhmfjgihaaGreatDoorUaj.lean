/- Texts of one kind, one behind the other: each says ahead of itself what it shows. -/
import Derived.Test.YtanbgdhmfjgihaaGreatDoorUai
import Derived.Test.YtanbgdhmfjgihaaGreatDoorUaf
namespace Go.Proofs.YtanbgdhmfjgihaaGreatDoor
open Go.RowKit
set_option maxHeartbeats 12800000
set_option maxRecDepth 20000
def zo9 (v:Val):Prop:=∀ (lang:Int) (W:World) (k:Int) (b:Bool) (n:Int) (t x:ByteArray) (q:List Val) (p:Option Addr) (cap:Nat) (v2:Val) (k2:Int) (b2:Bool) (n2:Int) (t2 x2:ByteArray) (q2:List Val) (p2:Option Addr) (cap2:Nat),
 v=.mk k b n t x q→v2=.mk k2 b2 n2 t2 x2 q2→Gd W→Tab W→Fine n t x q.length→Fine n2 t2 x2 q2.length→Held W (.slice p q.length cap) q→Held W (.slice p2 q2.length cap2) q2→
 Calls Tryz.prog 102 #[.int .i64 lang,.agg #[.int .i64 k,.bool b,.int .i64 n,.string t,.string x,.slice p q.length cap],.agg #[.int .i64 k2,.bool b2,.int .i64 n2,.string t2,.string x2,.slice p2 q2.length cap2]] W
  fun e w'=>e=.returned (.int .i64 (za1 lang v v2))∧Low W.heap.size W w'
theorem zmu (lang:Int) (l l2:List Val) (j:Nat) (h:j < l.length) (h2:j < l2.length):zbi lang (l.drop j) (l2.drop j)=lexI (za1 lang l[j] l2[j]) (zbi lang (l.drop (j+1)) (l2.drop (j+1))):=by
 rw [List.drop_eq_getElem_cons h,List.drop_eq_getElem_cons h2,zbi]
theorem zmv (lang:Int) (l l2:List Val) (j:Nat) (h:j < l.length) (h2:l2.length≤j):zbi lang (l.drop j) (l2.drop j)=1:=by
 rw [List.drop_eq_getElem_cons h,List.drop_eq_nil_of_le h2,zbi]
theorem zk3 (lang:Int) (l l2:List Val) (h2:l.length < l2.length):zbi lang (l.drop l.length) (l2.drop l.length)=-1:=by
 rw [List.drop_eq_nil_of_le (Nat.le_refl _),List.drop_eq_getElem_cons h2,zbi]
theorem zpa (lang:Int) (l l2:List Val) (h2:l2.length≤l.length):zbi lang (l.drop l.length) (l2.drop l.length)=0:=by
 rw [List.drop_eq_nil_of_le (Nat.le_refl _),List.drop_eq_nil_of_le h2,zbi]
theorem zt8 {v:Val} (h:zo9 v) (lang:Int) (gl:Nat) (W:World) (k:Int) (b:Bool) (n:Int) (t x:ByteArray) (q:List Val) (p:Option Addr) (cap:Nat) (v2:Val) (k2:Int) (b2:Bool) (n2:Int) (t2 x2:ByteArray) (q2:List Val) (p2:Option Addr) (cap2:Nat)
 (e1:v=.mk k b n t x q) (e2:v2=.mk k2 b2 n2 t2 x2 q2) (hG:Gd W) (hT:Tab W) (hf:Fine n t x q.length) (hf2:Fine n2 t2 x2 q2.length) (hl:Held W (.slice p q.length cap) q) (hl2:Held W (.slice p2 q2.length cap2) q2) (hcl:W.cell? ⟨gl,0,none⟩=some (.int .i64 lang)):
 Calls Tryz.prog 166 #[.agg #[.int .i64 k,.bool b,.int .i64 n,.string t,.string x,.slice p q.length cap],.agg #[.int .i64 k2,.bool b2,.int .i64 n2,.string t2,.string x2,.slice p2 q2.length cap2],.pointer (some ⟨gl,0,none⟩)] W
  fun e w'=>e=.returned (.int .i64 (za1 lang v v2))∧Low W.heap.size W w':=by
 obtain ⟨W0,hW0⟩:∃ W0,W0=(W.alloc (.cells #[.int .i64 k,.bool b,.int .i64 n,.string t,.string x,.slice p q.length cap] 39)).alloc (.cells #[.int .i64 k2,.bool b2,.int .i64 n2,.string t2,.string x2,.slice p2 q2.length cap2] 39):=⟨_,rfl⟩
 have S4:Six W0 W.heap.size k b n t x p q.length cap:=by rw [hW0];exact (zah _ rfl).alloc _
 have S5:Six W0 (W.heap.size+1) k2 b2 n2 t2 x2 p2 q2.length cap2:=by rw [hW0];exact zah _ (by simp)
 have b0:Low W.heap.size W W0:=by rw [hW0];exact low2 _ _ _
 have hc0:W0.cell? ⟨gl,0,none⟩=some (.int .i64 lang):=(b0.cell (p:=⟨gl,0,none⟩) (World.block_lt_of_cell? W _ hcl)).trans hcl
 have hc:=h lang W0 k b n t x q p cap v2 k2 b2 n2 t2 x2 q2 p2 cap2 e1 e2 (hG.below b0.is) (hT.below b0.is) hf hf2 (Held.below q hl b0.is) (Held.below q2 hl2 b0.is)
 have hc00:=hc0
 rw [hW0] at hc00
 have z0:=b0.size
 have H0:=Lib.hid hW0
 clear hl hl2 hf hf2 hG hT hW0 e1 e2 h hcl
 generalize za1 lang v v2=r at hc ⊢
 go_enter Tryz.func166,Tryz.ntmps166
 go_wp2_with (first
  |(rw [← H0.out];(with_reducible refine zaa (.tmp 3) W.heap.size S4 ?_ ?_ ?_ ?_);rfl;rfl;rfl)
  |((with_reducible refine zaa (.tmp 3) W.heap.size S4 ?_ ?_ ?_ ?_);rfl;rfl;rfl)
  |((with_reducible refine zaa (.tmp 4) (W.heap.size+1) S5 ?_ ?_ ?_ ?_);rfl;rfl;rfl)
  |(go_at_call 102;(with_reducible refine hc.mono ?_);rintro e w3 ⟨rfl,hb3⟩;replace b0:=zad b0 hb3 z0))
 go_ret
 exact ⟨rfl,b0⟩
theorem zt9 (lang:Int) (p p2:Option Addr) (l2:List Val) (cap cap2:Nat) (F:Value) (w:World):
 Calls Tryz.prog 165 #[.slice p 0 cap,.slice p2 l2.length cap2,F] w fun e w'=>e=.returned (.int .i64 (zbi lang [] l2))∧Low w.heap.size w w':=by
 cases l2 with
 | nil=>
   rw [show zbi lang [] []=0 from by unfold zbi;rfl,List.length_nil]
   go_enter Tryz.func165,Tryz.ntmps165
   go_wp2_with fail
   go_loopw [13] (fun i wr=>i=.int .i64 0∧wr=w) (fun _ _=>0)
   case atStart=>exact ⟨rfl,rfl⟩
   case round=>
    obtain ⟨rfl,rfl⟩:=hrel
    go_wp2_with fail
    go_ret
    exact ⟨rfl,Low.refl _ _⟩
 | cons v r=>
   rw [show zbi lang [] (v::r)=-1 from by unfold zbi;rfl,List.length_cons]
   go_enter Tryz.func165,Tryz.ntmps165
   go_wp2_with fail
   go_loopw [13] (fun i wr=>i=.int .i64 0∧wr=w) (fun _ _=>0)
   case atStart=>exact ⟨rfl,rfl⟩
   case round=>
    obtain ⟨rfl,rfl⟩:=hrel
    go_wp2_with fail
    go_ret
    exact ⟨rfl,Low.refl _ _⟩
theorem zk4 (lang:Int) (gl:Nat) (l l2:List Val) (g off cap:Nat) (P2:Option Addr) (g2 off2 cap2:Nat) (w:World) (hG:Gd w) (hT:Tab w) (hcl:w.cell? ⟨gl,0,none⟩=some (.int .i64 lang)) (hl:zaq w g off l) (hl2:zaq w g2 off2 l2)
 (hP2:0 < l2.length→P2=some ⟨g2,off2,none⟩) (hn:l.length≤2097152) (hn2:l2.length≤2097152) (each:∀ v∈l,zo9 v):
 Calls Tryz.prog 165 #[.slice (some ⟨g,off,none⟩) l.length cap,.slice P2 l2.length cap2,.func (.func 166) #[] #[.pointer (some ⟨gl,0,none⟩)]] w fun e w'=>e=.returned (.int .i64 (zbi lang l l2))∧Low w.heap.size w w':=by
 have HH:=Lib.hid hl
 have HH2:=Lib.hid hl2
 have HE:=Lib.hid each
 have HP:=Lib.hid hP2
 clear hl hl2 each hP2
 go_enter Tryz.func165,Tryz.ntmps165
 go_wp2_with fail
 go_loopw [13] (fun i wr=>∃ j:Nat,j≤l.length∧i=.int .i64 j∧Low w.heap.size w wr∧Hid (zbi lang l l2=zbi lang (l.drop j) (l2.drop j))) (fun i _=>l.length - (intOf i).toNat)
 case atStart=>exact ⟨0,Nat.zero_le _,rfl,Low.refl _ _,Lib.hid (by rw [List.drop_zero,List.drop_zero])⟩
 case round=>
  obtain ⟨j,hj,rfl,hb,HA⟩:=hrel
  by_cases hlt:j < l.length
  ·obtain ⟨k,b,n,t,x,q,p,cp,o1⟩:=((zaq.at_ l off HH.out j hlt).below _ hb.is).opens
   have hs:w.heap.size≤wr.heap.size:=hb.size
   by_cases hlt2:j < l2.length
   ·obtain rfl:=HP.out (by omega)
    obtain ⟨k2,b2,n2,t2,x2,q2,p2,cp2,o2⟩:=((zaq.at_ l2 off2 HH2.out j hlt2).below _ hb.is).opens
    obtain ⟨c1,hc1⟩:∃ c1,c1=Obj.cells #[.int .i64 k,.bool b,.int .i64 n,.string t,.string x,.slice p q.length cp] 39:=⟨_,rfl⟩
    obtain ⟨c2,hc2⟩:∃ c2,c2=Obj.cells #[.int .i64 k2,.bool b2,.int .i64 n2,.string t2,.string x2,.slice p2 q2.length cp2] 39:=⟨_,rfl⟩
    have bb:=low2 wr c1 c2
    have b0:Low w.heap.size w ((wr.alloc c1).alloc c2):=(hb.alloc hs _).alloc (by simp;omega) _
    have hcl2:((wr.alloc c1).alloc c2).cell? ⟨gl,0,none⟩=some (.int .i64 lang):=(b0.cell (p:=⟨gl,0,none⟩) (World.block_lt_of_cell? w _ hcl)).trans hcl
    have hc:=zt8 (HE.out l[j] (List.getElem_mem hlt)) lang gl ((wr.alloc c1).alloc c2) k b n t x q p cp l2[j] k2 b2 n2 t2 x2 q2 p2 cp2 o1.e o2.e (hG.below b0.is) (hT.below b0.is) o1.hf o2.hf (Held.below q o1.hl bb.is) (Held.below q2 o2.hl bb.is) hcl2
    obtain ⟨r,hr⟩:∃ r,r=za1 lang l[j] l2[j]:=⟨_,rfl⟩
    rw [← hr] at hc
    have hA:=HA.out
    rw [zmu lang l l2 j hlt hlt2,← hr] at hA
    have l0:Six ((wr.alloc c1).alloc c2) wr.heap.size k b n t x p q.length cp:=by rw [hc1];exact (zah _ rfl).alloc _
    have l1:Six ((wr.alloc c1).alloc c2) (wr.heap.size+1) k2 b2 n2 t2 x2 p2 q2.length cp2:=by rw [hc2];exact zah _ (by simp)
    have z0:w.heap.size≤((wr.alloc c1).alloc c2).heap.size:=b0.size
    have O1:=Lib.hid o1
    have O2:=Lib.hid (o2.below (low1 wr c1).is)
    clear o1 o2 bb hr HA hcl2
    by_cases hr0:r=0
    ·subst hr0
     rw [zbj] at hA
     have HA:=Lib.hid hA
     clear hA
     subst hc1 hc2
     go_wp2_with (first
      |((with_reducible refine zay (.tmp 16) g (off+j*6) k b n t x (.slice p q.length cp) O1.out.c0 O1.out.c1 O1.out.c2 O1.out.c3 O1.out.c4 O1.out.c5 ?_ ?_ ?_ ?_);rfl;rfl;rfl)
      |((with_reducible refine zay (.tmp 24) g2 (off2+j*6) k2 b2 n2 t2 x2 (.slice p2 q2.length cp2) O2.out.c0 O2.out.c1 O2.out.c2 O2.out.c3 O2.out.c4 O2.out.c5 ?_ ?_ ?_ ?_);rfl;rfl;rfl)
      |((with_reducible refine zaa (.tmp 8) wr.heap.size l0 ?_ ?_ ?_ ?_);rfl;rfl;rfl)
      |((with_reducible refine zaa (.tmp 9) (wr.heap.size+1) l1 ?_ ?_ ?_ ?_);rfl;rfl;rfl)
      |(go_at_call 166;(with_reducible refine hc.mono ?_);rintro e w3 ⟨rfl,hb3⟩;have b3:=zad b0 hb3 z0))
     go_roundw
     case rel=>exact ⟨j+1,by omega,by go_num,b3,HA⟩
     case measure=>simp [intOf];omega
    ·have e:lexI r (zbi lang (l.drop (j+1)) (l2.drop (j+1)))=r:=by unfold lexI;rw [if_neg hr0]
     rw [e] at hA
     have HA:=Lib.hid hA
     have e2:(r != 0)=true:=by simpa using hr0
     clear hA e
     subst hc1 hc2
     go_wp2_with (first
      |((with_reducible refine zay (.tmp 16) g (off+j*6) k b n t x (.slice p q.length cp) O1.out.c0 O1.out.c1 O1.out.c2 O1.out.c3 O1.out.c4 O1.out.c5 ?_ ?_ ?_ ?_);rfl;rfl;rfl)
      |((with_reducible refine zay (.tmp 24) g2 (off2+j*6) k2 b2 n2 t2 x2 (.slice p2 q2.length cp2) O2.out.c0 O2.out.c1 O2.out.c2 O2.out.c3 O2.out.c4 O2.out.c5 ?_ ?_ ?_ ?_);rfl;rfl;rfl)
      |((with_reducible refine zaa (.tmp 8) wr.heap.size l0 ?_ ?_ ?_ ?_);rfl;rfl;rfl)
      |((with_reducible refine zaa (.tmp 9) (wr.heap.size+1) l1 ?_ ?_ ?_ ?_);rfl;rfl;rfl)
      |(go_at_call 166;(with_reducible refine hc.mono ?_);rintro e w3 ⟨rfl,hb3⟩;have b3:=zad b0 hb3 z0))
     go_ret
     exact ⟨by rw [HA.out];rfl,b3⟩
   ·have hA:=HA.out
    rw [zmv lang l l2 j hlt (by omega)] at hA
    have HA2:=Lib.hid hA
    have O1:=Lib.hid o1
    have b0:Low w.heap.size w (wr.alloc (.cells #[.int .i64 k,.bool b,.int .i64 n,.string t,.string x,.slice p q.length cp] 39)):=hb.alloc hs _
    clear hA HA o1
    go_wp2_with (first
     |((with_reducible refine zay (.tmp 16) g (off+j*6) k b n t x (.slice p q.length cp) O1.out.c0 O1.out.c1 O1.out.c2 O1.out.c3 O1.out.c4 O1.out.c5 ?_ ?_ ?_ ?_);rfl;rfl;rfl))
    go_ret
    exact ⟨by rw [HA2.out];rfl,b0⟩
  ·obtain rfl:j=l.length:=by omega
   have hA:=HA.out
   by_cases hs:l.length < l2.length
   ·rw [zk3 lang l l2 hs] at hA
    have HA2:=Lib.hid hA
    clear hA HA
    go_wp2_with fail
    go_ret
    exact ⟨by rw [HA2.out];rfl,hb⟩
   ·rw [zpa lang l l2 (by omega)] at hA
    have HA2:=Lib.hid hA
    clear hA HA
    go_wp2_with fail
    go_ret
    exact ⟨by rw [HA2.out];rfl,hb⟩
theorem zv1 (lang:Int) (gl:Nat) (l l2:List Val) (p p2:Option Addr) (cap cap2:Nat) (w:World) (hG:Gd w) (hT:Tab w) (hcl:w.cell? ⟨gl,0,none⟩=some (.int .i64 lang)) (hl:Held w (.slice p l.length cap) l) (hl2:Held w (.slice p2 l2.length cap2) l2) (hn:l.length≤2097152) (hn2:l2.length≤2097152) (each:∀ v∈l,zo9 v):
 Calls Tryz.prog 165 #[.slice p l.length cap,.slice p2 l2.length cap2,.func (.func 166) #[] #[.pointer (some ⟨gl,0,none⟩)]] w fun e w'=>e=.returned (.int .i64 (zbi lang l l2))∧Low w.heap.size w w':=by
 cases l with
 | nil=>exact zt9 lang p p2 l2 cap cap2 _ w
 | cons v r=>
   obtain ⟨g,off,rfl,hh⟩:=hl.form
   cases l2 with
   | nil=>exact zk4 lang gl (v::r) [] g off cap p2 0 0 cap2 w hG hT hcl hh (by unfold zaq;trivial) (fun h=>absurd h (by simp)) hn hn2 each
   | cons v2 r2=>
     obtain ⟨g2,off2,rfl,hh2⟩:=hl2.form
     exact zk4 lang gl (v::r) (v2::r2) g off cap _ g2 off2 cap2 w hG hT hcl hh hh2 (fun _=>rfl) hn hn2 each
theorem zq2 (lang k:Int) (b:Bool) (n:Int) (t x:ByteArray) (q:List Val) (p:Option Addr) (cap:Nat) (k2:Int) (b2:Bool) (n2:Int) (t2 x2:ByteArray) (q2:List Val) (p2:Option Addr) (cap2:Nat) (w:World) (hk0:k=0):
 Calls Tryz.prog 137 #[.int .i64 lang,.agg #[.int .i64 k,.bool b,.int .i64 n,.string t,.string x,.slice p q.length cap],.agg #[.int .i64 k2,.bool b2,.int .i64 n2,.string t2,.string x2,.slice p2 q2.length cap2]] w fun e w'=>e=.returned (.int .i64 (lexI (zaj t.toList t2.toList) (zaj x.toList x2.toList)))∧Low w.heap.size w w':=by
 obtain ⟨W0,hW0⟩:∃ W0,W0=((w.alloc (.cells #[.int .i64 lang] 3)).alloc (.cells #[.int .i64 k,.bool b,.int .i64 n,.string t,.string x,.slice p q.length cap] 39)).alloc (.cells #[.int .i64 k2,.bool b2,.int .i64 n2,.string t2,.string x2,.slice p2 q2.length cap2] 39):=⟨_,rfl⟩
 have S4:Six W0 (w.heap.size+1) k b n t x p q.length cap:=by rw [hW0];exact (zah _ (by simp)).alloc _
 have S5:Six W0 (w.heap.size+2) k2 b2 n2 t2 x2 p2 q2.length cap2:=by rw [hW0];exact zah _ (by simp)
 have b0:Low w.heap.size w W0:=by rw [hW0];exact low3 _ _ _ _
 have c0:W0.cell? ⟨w.heap.size,0,none⟩=some (.int .i64 lang):=by
  rw [hW0]
  have e:(w.alloc (.cells #[.int .i64 lang] 3)).cell? ⟨w.heap.size,0,none⟩=some (.int .i64 lang):=zab (zag _ _ rfl) _ rfl
  exact ((low2 _ _ _).cell (p:=⟨w.heap.size,0,none⟩) (by simp)).trans e
 have H0:=Lib.hid hW0
 clear hW0
 subst hk0
 go_enter Tryz.func137,Tryz.ntmps137
 go_wp2_with (first
  |(rw [← H0.out];(with_reducible refine zaa (.tmp 4) (w.heap.size+1) S4 ?_ ?_ ?_ ?_);rfl;rfl;rfl)
  |((with_reducible refine zaa (.tmp 4) (w.heap.size+1) S4 ?_ ?_ ?_ ?_);rfl;rfl;rfl)
  |((with_reducible refine zaa (.tmp 5) (w.heap.size+2) S5 ?_ ?_ ?_ ?_);rfl;rfl;rfl)
  |(go_at_call 107;(with_reducible refine (zas 0 b n t x _ 145 rfl _).mono ?_);rintro e w' ⟨rfl,hb⟩;replace S4:=S4.below hb.is;replace S5:=S5.below hb.is;replace c0:=(hb.cell (p:=⟨w.heap.size,0,none⟩) (World.block_lt_of_cell? _ _ c0)).trans c0;replace b0:=zad b0 hb b0.size;have f1:=S4.c1;have f2:=S4.c2;have f5:=S4.c5;have g1:=S5.c1;have g2:=S5.c2;have g5:=S5.c5;clear hb)
  |(simp only [zgc,zf9,zga,zf7,zf8,zgb,Result.andThen_ok]))
 obtain ⟨N,hN⟩:∃ N,N=w'.heap.size:=⟨_,rfl⟩
 refine wp_region_held_drew (S:=fun w'=>Six w' (w.heap.size+1) 0 b n t x p q.length cap∧Six w' (w.heap.size+2) k2 b2 n2 t2 x2 p2 q2.length cap2∧Low w.heap.size w w'∧Hid (N < w'.heap.size→w'.cell? ⟨N,0,none⟩=some (.int .i64 (zaj t.toList t2.toList))∧w'.cell? ⟨N,1,none⟩=some (.int .i64 (zaj x.toList x2.toList)))) (by kernel_rfl) ⟨S4,S5,b0.drew,Lib.hid fun h=>absurd h (by rw [hN];exact Nat.lt_irrefl _)⟩ (fun hHeld=>?_)
 refine tg (i:=0) (.pointer (some ⟨w.heap.size+1,3,none⟩)) rfl hHeld ?_
 refine tk (i:=1) (v:=.string t) rfl (Or.inl ⟨by rfl,fun W h=>by have c0:=h.1.c3;go_simp⟩) hHeld ?_
 refine tg (i:=2) (.pointer (some ⟨w.heap.size+2,3,none⟩)) rfl hHeld ?_
 refine tk (i:=3) (v:=.string t2) rfl (Or.inl ⟨by rfl,fun W h=>by have c0:=h.2.1.c3;go_simp⟩) hHeld ?_
 refine tg (i:=5) (.pointer (some ⟨w.heap.size+1,4,none⟩)) rfl hHeld ?_
 refine tk (i:=6) (v:=.string x) rfl (Or.inl ⟨by rfl,fun W h=>by have c0:=h.1.c4;go_simp⟩) hHeld ?_
 refine tg (i:=7) (.pointer (some ⟨w.heap.size+2,4,none⟩)) rfl hHeld ?_
 refine tk (i:=8) (v:=.string x2) rfl (Or.inl ⟨by rfl,fun W h=>by have c0:=h.2.1.c4;go_simp⟩) hHeld ?_
 obtain ⟨u1,u2,u3,u4⟩:=hHeld
 refine tr 4 rfl (fun K hK=>?_)
 rw [if_pos (by rfl)]
 go_simp
 refine (zcb t t2 _).mono ?_
 rintro e w3 ⟨rfl,rfl⟩
 refine hK.out _ _ ⟨u1,u2,u3,u4⟩ (fun hHeld=>?_)
 clear hK K u1 u2 u3 u4
 try simp only [putS]
 obtain ⟨u1,u2,u3,u4⟩:=hHeld
 refine tr 9 rfl (fun K hK=>?_)
 rw [if_pos (by rfl)]
 go_simp
 refine (zcb x x2 _).mono ?_
 rintro e w3 ⟨rfl,rfl⟩
 refine hK.out _ _ ⟨u1,u2,u3,u4⟩ (fun hHeld=>?_)
 clear hK K u1 u2 u3 u4
 try simp only [putS]
 obtain ⟨u1,u2,u3,u4⟩:=hHeld
 refine tr 10 rfl (fun K hK=>?_)
 go_simp
 rw [← hN]
 have x4:Six (w'.alloc (Obj.cells #[.int .i64 (zaj t.toList t2.toList),.int .i64 (zaj x.toList x2.toList)] 3)) (w.heap.size+1) 0 b n t x p q.length cap:=S4.alloc _
 have x5:Six (w'.alloc (Obj.cells #[.int .i64 (zaj t.toList t2.toList),.int .i64 (zaj x.toList x2.toList)] 3)) (w.heap.size+2) k2 b2 n2 t2 x2 p2 q2.length cap2:=S5.alloc _
 have xb:Low w.heap.size w (w'.alloc (Obj.cells #[.int .i64 (zaj t.toList t2.toList),.int .i64 (zaj x.toList x2.toList)] 3)).drew:=(b0.alloc b0.size _).drew
 have y0:(w'.alloc (Obj.cells #[.int .i64 (zaj t.toList t2.toList),.int .i64 (zaj x.toList x2.toList)] 3)).cell? ⟨N,0,none⟩=some (.int .i64 (zaj t.toList t2.toList)):=zab (zag w' _ hN.symm) 0 rfl
 have y1:(w'.alloc (Obj.cells #[.int .i64 (zaj t.toList t2.toList),.int .i64 (zaj x.toList x2.toList)] 3)).cell? ⟨N,1,none⟩=some (.int .i64 (zaj x.toList x2.toList)):=zab (zag w' _ hN.symm) 1 rfl
 have ys:N < (w'.alloc (Obj.cells #[.int .i64 (zaj t.toList t2.toList),.int .i64 (zaj x.toList x2.toList)] 3)).drew.heap.size:=by rw [hN];show w'.heap.size < (w'.alloc _).heap.size;simp
 generalize (w'.alloc (Obj.cells #[.int .i64 (zaj t.toList t2.toList),.int .i64 (zaj x.toList x2.toList)] 3))=V at x4 x5 xb y0 y1 ys ⊢
 clear u1 u2 u3 u4
 refine hK.out _ _ ⟨x4,x5,xb,Lib.hid fun _=>⟨y0,y1⟩⟩ (fun hHeld=>?_)
 clear hK K
 try simp only [putS]
 obtain ⟨u1,u2,u3,u4⟩:=hHeld
 obtain ⟨v0,v1⟩:=u4.out ys
 refine tr 11 rfl (fun K hK=>?_)
 rw [if_pos (by rfl)]
 go_simp
 rw [hN] at v0 v1
 with_reducible refine (orAt _ _ _ _ v0 v1).mono ?_
 rintro e w3 ⟨rfl,rfl⟩
 refine hK.out _ _ ⟨u1,u2,u3,u4⟩ (fun hHeld=>?_)
 clear hK K u1 u2 u4 v0 v1
 try simp only [putS]
 refine tr 12 rfl (fun K hK=>?_)
 go_simp
 refine hK.out _ _ hHeld (fun _=>?_)
 clear hK K hHeld
 try simp only [putS]
 refine wpAnyH_done (by kernel_rfl) ?_ _
 go_wp2_with fail
 go_ret
 exact ⟨rfl,u3⟩
theorem zq3 (lang k:Int) (b:Bool) (n:Int) (t x:ByteArray) (q:List Val) (p:Option Addr) (cap:Nat) (k2:Int) (b2:Bool) (n2:Int) (t2 x2:ByteArray) (q2:List Val) (p2:Option Addr) (cap2:Nat) (w:World) (hk0:k=4):
 Calls Tryz.prog 137 #[.int .i64 lang,.agg #[.int .i64 k,.bool b,.int .i64 n,.string t,.string x,.slice p q.length cap],.agg #[.int .i64 k2,.bool b2,.int .i64 n2,.string t2,.string x2,.slice p2 q2.length cap2]] w fun e w'=>e=.returned (.int .i64 (lexI (zaj t.toList t2.toList) (zaj x.toList x2.toList)))∧Low w.heap.size w w':=by
 obtain ⟨W0,hW0⟩:∃ W0,W0=((w.alloc (.cells #[.int .i64 lang] 3)).alloc (.cells #[.int .i64 k,.bool b,.int .i64 n,.string t,.string x,.slice p q.length cap] 39)).alloc (.cells #[.int .i64 k2,.bool b2,.int .i64 n2,.string t2,.string x2,.slice p2 q2.length cap2] 39):=⟨_,rfl⟩
 have S4:Six W0 (w.heap.size+1) k b n t x p q.length cap:=by rw [hW0];exact (zah _ (by simp)).alloc _
 have S5:Six W0 (w.heap.size+2) k2 b2 n2 t2 x2 p2 q2.length cap2:=by rw [hW0];exact zah _ (by simp)
 have b0:Low w.heap.size w W0:=by rw [hW0];exact low3 _ _ _ _
 have c0:W0.cell? ⟨w.heap.size,0,none⟩=some (.int .i64 lang):=by
  rw [hW0]
  have e:(w.alloc (.cells #[.int .i64 lang] 3)).cell? ⟨w.heap.size,0,none⟩=some (.int .i64 lang):=zab (zag _ _ rfl) _ rfl
  exact ((low2 _ _ _).cell (p:=⟨w.heap.size,0,none⟩) (by simp)).trans e
 have H0:=Lib.hid hW0
 clear hW0
 subst hk0
 go_enter Tryz.func137,Tryz.ntmps137
 go_wp2_with (first
  |(rw [← H0.out];(with_reducible refine zaa (.tmp 4) (w.heap.size+1) S4 ?_ ?_ ?_ ?_);rfl;rfl;rfl)
  |((with_reducible refine zaa (.tmp 4) (w.heap.size+1) S4 ?_ ?_ ?_ ?_);rfl;rfl;rfl)
  |((with_reducible refine zaa (.tmp 5) (w.heap.size+2) S5 ?_ ?_ ?_ ?_);rfl;rfl;rfl)
  |(go_at_call 107;(with_reducible refine (zas 4 b n t x _ 151 rfl _).mono ?_);rintro e w' ⟨rfl,hb⟩;replace S4:=S4.below hb.is;replace S5:=S5.below hb.is;replace c0:=(hb.cell (p:=⟨w.heap.size,0,none⟩) (World.block_lt_of_cell? _ _ c0)).trans c0;replace b0:=zad b0 hb b0.size;have f1:=S4.c1;have f2:=S4.c2;have f5:=S4.c5;have g1:=S5.c1;have g2:=S5.c2;have g5:=S5.c5;clear hb)
  |(simp only [zg0,zgx,zgy,zgv,zgw,zgz,Result.andThen_ok]))
 obtain ⟨N,hN⟩:∃ N,N=w'.heap.size:=⟨_,rfl⟩
 refine wp_region_held_drew (S:=fun w'=>Six w' (w.heap.size+1) 4 b n t x p q.length cap∧Six w' (w.heap.size+2) k2 b2 n2 t2 x2 p2 q2.length cap2∧Low w.heap.size w w'∧Hid (N < w'.heap.size→w'.cell? ⟨N,0,none⟩=some (.int .i64 (zaj t.toList t2.toList))∧w'.cell? ⟨N,1,none⟩=some (.int .i64 (zaj x.toList x2.toList)))) (by kernel_rfl) ⟨S4,S5,b0.drew,Lib.hid fun h=>absurd h (by rw [hN];exact Nat.lt_irrefl _)⟩ (fun hHeld=>?_)
 refine tg (i:=0) (.pointer (some ⟨w.heap.size+1,3,none⟩)) rfl hHeld ?_
 refine tk (i:=1) (v:=.string t) rfl (Or.inl ⟨by rfl,fun W h=>by have c0:=h.1.c3;go_simp⟩) hHeld ?_
 refine tg (i:=2) (.pointer (some ⟨w.heap.size+2,3,none⟩)) rfl hHeld ?_
 refine tk (i:=3) (v:=.string t2) rfl (Or.inl ⟨by rfl,fun W h=>by have c0:=h.2.1.c3;go_simp⟩) hHeld ?_
 refine tg (i:=5) (.pointer (some ⟨w.heap.size+1,4,none⟩)) rfl hHeld ?_
 refine tk (i:=6) (v:=.string x) rfl (Or.inl ⟨by rfl,fun W h=>by have c0:=h.1.c4;go_simp⟩) hHeld ?_
 refine tg (i:=7) (.pointer (some ⟨w.heap.size+2,4,none⟩)) rfl hHeld ?_
 refine tk (i:=8) (v:=.string x2) rfl (Or.inl ⟨by rfl,fun W h=>by have c0:=h.2.1.c4;go_simp⟩) hHeld ?_
 obtain ⟨u1,u2,u3,u4⟩:=hHeld
 refine tr 4 rfl (fun K hK=>?_)
 rw [if_pos (by rfl)]
 go_simp
 refine (zcb t t2 _).mono ?_
 rintro e w3 ⟨rfl,rfl⟩
 refine hK.out _ _ ⟨u1,u2,u3,u4⟩ (fun hHeld=>?_)
 clear hK K u1 u2 u3 u4
 try simp only [putS]
 obtain ⟨u1,u2,u3,u4⟩:=hHeld
 refine tr 9 rfl (fun K hK=>?_)
 rw [if_pos (by rfl)]
 go_simp
 refine (zcb x x2 _).mono ?_
 rintro e w3 ⟨rfl,rfl⟩
 refine hK.out _ _ ⟨u1,u2,u3,u4⟩ (fun hHeld=>?_)
 clear hK K u1 u2 u3 u4
 try simp only [putS]
 obtain ⟨u1,u2,u3,u4⟩:=hHeld
 refine tr 10 rfl (fun K hK=>?_)
 go_simp
 rw [← hN]
 have x4:Six (w'.alloc (Obj.cells #[.int .i64 (zaj t.toList t2.toList),.int .i64 (zaj x.toList x2.toList)] 3)) (w.heap.size+1) 4 b n t x p q.length cap:=S4.alloc _
 have x5:Six (w'.alloc (Obj.cells #[.int .i64 (zaj t.toList t2.toList),.int .i64 (zaj x.toList x2.toList)] 3)) (w.heap.size+2) k2 b2 n2 t2 x2 p2 q2.length cap2:=S5.alloc _
 have xb:Low w.heap.size w (w'.alloc (Obj.cells #[.int .i64 (zaj t.toList t2.toList),.int .i64 (zaj x.toList x2.toList)] 3)).drew:=(b0.alloc b0.size _).drew
 have y0:(w'.alloc (Obj.cells #[.int .i64 (zaj t.toList t2.toList),.int .i64 (zaj x.toList x2.toList)] 3)).cell? ⟨N,0,none⟩=some (.int .i64 (zaj t.toList t2.toList)):=zab (zag w' _ hN.symm) 0 rfl
 have y1:(w'.alloc (Obj.cells #[.int .i64 (zaj t.toList t2.toList),.int .i64 (zaj x.toList x2.toList)] 3)).cell? ⟨N,1,none⟩=some (.int .i64 (zaj x.toList x2.toList)):=zab (zag w' _ hN.symm) 1 rfl
 have ys:N < (w'.alloc (Obj.cells #[.int .i64 (zaj t.toList t2.toList),.int .i64 (zaj x.toList x2.toList)] 3)).drew.heap.size:=by rw [hN];show w'.heap.size < (w'.alloc _).heap.size;simp
 generalize (w'.alloc (Obj.cells #[.int .i64 (zaj t.toList t2.toList),.int .i64 (zaj x.toList x2.toList)] 3))=V at x4 x5 xb y0 y1 ys ⊢
 clear u1 u2 u3 u4
 refine hK.out _ _ ⟨x4,x5,xb,Lib.hid fun _=>⟨y0,y1⟩⟩ (fun hHeld=>?_)
 clear hK K
 try simp only [putS]
 obtain ⟨u1,u2,u3,u4⟩:=hHeld
 obtain ⟨v0,v1⟩:=u4.out ys
 refine tr 11 rfl (fun K hK=>?_)
 rw [if_pos (by rfl)]
 go_simp
 rw [hN] at v0 v1
 with_reducible refine (orAt _ _ _ _ v0 v1).mono ?_
 rintro e w3 ⟨rfl,rfl⟩
 refine hK.out _ _ ⟨u1,u2,u3,u4⟩ (fun hHeld=>?_)
 clear hK K u1 u2 u4 v0 v1
 try simp only [putS]
 refine tr 12 rfl (fun K hK=>?_)
 go_simp
 refine hK.out _ _ hHeld (fun _=>?_)
 clear hK K hHeld
 try simp only [putS]
 refine wpAnyH_done (by kernel_rfl) ?_ _
 go_wp2_with fail
 go_ret
 exact ⟨rfl,u3⟩
theorem zq4 (lang k:Int) (b:Bool) (n:Int) (t x:ByteArray) (q:List Val) (p:Option Addr) (cap:Nat) (k2:Int) (b2:Bool) (n2:Int) (t2 x2:ByteArray) (q2:List Val) (p2:Option Addr) (cap2:Nat) (w:World) (hk0:k=8):
 Calls Tryz.prog 137 #[.int .i64 lang,.agg #[.int .i64 k,.bool b,.int .i64 n,.string t,.string x,.slice p q.length cap],.agg #[.int .i64 k2,.bool b2,.int .i64 n2,.string t2,.string x2,.slice p2 q2.length cap2]] w fun e w'=>e=.returned (.int .i64 (lexI (zaj t.toList t2.toList) (zaj x.toList x2.toList)))∧Low w.heap.size w w':=by
 obtain ⟨W0,hW0⟩:∃ W0,W0=((w.alloc (.cells #[.int .i64 lang] 3)).alloc (.cells #[.int .i64 k,.bool b,.int .i64 n,.string t,.string x,.slice p q.length cap] 39)).alloc (.cells #[.int .i64 k2,.bool b2,.int .i64 n2,.string t2,.string x2,.slice p2 q2.length cap2] 39):=⟨_,rfl⟩
 have S4:Six W0 (w.heap.size+1) k b n t x p q.length cap:=by rw [hW0];exact (zah _ (by simp)).alloc _
 have S5:Six W0 (w.heap.size+2) k2 b2 n2 t2 x2 p2 q2.length cap2:=by rw [hW0];exact zah _ (by simp)
 have b0:Low w.heap.size w W0:=by rw [hW0];exact low3 _ _ _ _
 have c0:W0.cell? ⟨w.heap.size,0,none⟩=some (.int .i64 lang):=by
  rw [hW0]
  have e:(w.alloc (.cells #[.int .i64 lang] 3)).cell? ⟨w.heap.size,0,none⟩=some (.int .i64 lang):=zab (zag _ _ rfl) _ rfl
  exact ((low2 _ _ _).cell (p:=⟨w.heap.size,0,none⟩) (by simp)).trans e
 have H0:=Lib.hid hW0
 clear hW0
 subst hk0
 go_enter Tryz.func137,Tryz.ntmps137
 go_wp2_with (first
  |(rw [← H0.out];(with_reducible refine zaa (.tmp 4) (w.heap.size+1) S4 ?_ ?_ ?_ ?_);rfl;rfl;rfl)
  |((with_reducible refine zaa (.tmp 4) (w.heap.size+1) S4 ?_ ?_ ?_ ?_);rfl;rfl;rfl)
  |((with_reducible refine zaa (.tmp 5) (w.heap.size+2) S5 ?_ ?_ ?_ ?_);rfl;rfl;rfl)
  |(go_at_call 107;(with_reducible refine (zas 8 b n t x _ 152 rfl _).mono ?_);rintro e w' ⟨rfl,hb⟩;replace S4:=S4.below hb.is;replace S5:=S5.below hb.is;replace c0:=(hb.cell (p:=⟨w.heap.size,0,none⟩) (World.block_lt_of_cell? _ _ c0)).trans c0;replace b0:=zad b0 hb b0.size;have f1:=S4.c1;have f2:=S4.c2;have f5:=S4.c5;have g1:=S5.c1;have g2:=S5.c2;have g5:=S5.c5;clear hb)
  |(simp only [zg6,zg3,zg4,zg1,zg2,zg5,Result.andThen_ok]))
 obtain ⟨N,hN⟩:∃ N,N=w'.heap.size:=⟨_,rfl⟩
 refine wp_region_held_drew (S:=fun w'=>Six w' (w.heap.size+1) 8 b n t x p q.length cap∧Six w' (w.heap.size+2) k2 b2 n2 t2 x2 p2 q2.length cap2∧Low w.heap.size w w'∧Hid (N < w'.heap.size→w'.cell? ⟨N,0,none⟩=some (.int .i64 (zaj t.toList t2.toList))∧w'.cell? ⟨N,1,none⟩=some (.int .i64 (zaj x.toList x2.toList)))) (by kernel_rfl) ⟨S4,S5,b0.drew,Lib.hid fun h=>absurd h (by rw [hN];exact Nat.lt_irrefl _)⟩ (fun hHeld=>?_)
 refine tg (i:=0) (.pointer (some ⟨w.heap.size+1,3,none⟩)) rfl hHeld ?_
 refine tk (i:=1) (v:=.string t) rfl (Or.inl ⟨by rfl,fun W h=>by have c0:=h.1.c3;go_simp⟩) hHeld ?_
 refine tg (i:=2) (.pointer (some ⟨w.heap.size+2,3,none⟩)) rfl hHeld ?_
 refine tk (i:=3) (v:=.string t2) rfl (Or.inl ⟨by rfl,fun W h=>by have c0:=h.2.1.c3;go_simp⟩) hHeld ?_
 refine tg (i:=5) (.pointer (some ⟨w.heap.size+1,4,none⟩)) rfl hHeld ?_
 refine tk (i:=6) (v:=.string x) rfl (Or.inl ⟨by rfl,fun W h=>by have c0:=h.1.c4;go_simp⟩) hHeld ?_
 refine tg (i:=7) (.pointer (some ⟨w.heap.size+2,4,none⟩)) rfl hHeld ?_
 refine tk (i:=8) (v:=.string x2) rfl (Or.inl ⟨by rfl,fun W h=>by have c0:=h.2.1.c4;go_simp⟩) hHeld ?_
 obtain ⟨u1,u2,u3,u4⟩:=hHeld
 refine tr 4 rfl (fun K hK=>?_)
 rw [if_pos (by rfl)]
 go_simp
 refine (zcb t t2 _).mono ?_
 rintro e w3 ⟨rfl,rfl⟩
 refine hK.out _ _ ⟨u1,u2,u3,u4⟩ (fun hHeld=>?_)
 clear hK K u1 u2 u3 u4
 try simp only [putS]
 obtain ⟨u1,u2,u3,u4⟩:=hHeld
 refine tr 9 rfl (fun K hK=>?_)
 rw [if_pos (by rfl)]
 go_simp
 refine (zcb x x2 _).mono ?_
 rintro e w3 ⟨rfl,rfl⟩
 refine hK.out _ _ ⟨u1,u2,u3,u4⟩ (fun hHeld=>?_)
 clear hK K u1 u2 u3 u4
 try simp only [putS]
 obtain ⟨u1,u2,u3,u4⟩:=hHeld
 refine tr 10 rfl (fun K hK=>?_)
 go_simp
 rw [← hN]
 have x4:Six (w'.alloc (Obj.cells #[.int .i64 (zaj t.toList t2.toList),.int .i64 (zaj x.toList x2.toList)] 3)) (w.heap.size+1) 8 b n t x p q.length cap:=S4.alloc _
 have x5:Six (w'.alloc (Obj.cells #[.int .i64 (zaj t.toList t2.toList),.int .i64 (zaj x.toList x2.toList)] 3)) (w.heap.size+2) k2 b2 n2 t2 x2 p2 q2.length cap2:=S5.alloc _
 have xb:Low w.heap.size w (w'.alloc (Obj.cells #[.int .i64 (zaj t.toList t2.toList),.int .i64 (zaj x.toList x2.toList)] 3)).drew:=(b0.alloc b0.size _).drew
 have y0:(w'.alloc (Obj.cells #[.int .i64 (zaj t.toList t2.toList),.int .i64 (zaj x.toList x2.toList)] 3)).cell? ⟨N,0,none⟩=some (.int .i64 (zaj t.toList t2.toList)):=zab (zag w' _ hN.symm) 0 rfl
 have y1:(w'.alloc (Obj.cells #[.int .i64 (zaj t.toList t2.toList),.int .i64 (zaj x.toList x2.toList)] 3)).cell? ⟨N,1,none⟩=some (.int .i64 (zaj x.toList x2.toList)):=zab (zag w' _ hN.symm) 1 rfl
 have ys:N < (w'.alloc (Obj.cells #[.int .i64 (zaj t.toList t2.toList),.int .i64 (zaj x.toList x2.toList)] 3)).drew.heap.size:=by rw [hN];show w'.heap.size < (w'.alloc _).heap.size;simp
 generalize (w'.alloc (Obj.cells #[.int .i64 (zaj t.toList t2.toList),.int .i64 (zaj x.toList x2.toList)] 3))=V at x4 x5 xb y0 y1 ys ⊢
 clear u1 u2 u3 u4
 refine hK.out _ _ ⟨x4,x5,xb,Lib.hid fun _=>⟨y0,y1⟩⟩ (fun hHeld=>?_)
 clear hK K
 try simp only [putS]
 obtain ⟨u1,u2,u3,u4⟩:=hHeld
 obtain ⟨v0,v1⟩:=u4.out ys
 refine tr 11 rfl (fun K hK=>?_)
 rw [if_pos (by rfl)]
 go_simp
 rw [hN] at v0 v1
 with_reducible refine (orAt _ _ _ _ v0 v1).mono ?_
 rintro e w3 ⟨rfl,rfl⟩
 refine hK.out _ _ ⟨u1,u2,u3,u4⟩ (fun hHeld=>?_)
 clear hK K u1 u2 u4 v0 v1
 try simp only [putS]
 refine tr 12 rfl (fun K hK=>?_)
 go_simp
 refine hK.out _ _ hHeld (fun _=>?_)
 clear hK K hHeld
 try simp only [putS]
 refine wpAnyH_done (by kernel_rfl) ?_ _
 go_wp2_with fail
 go_ret
 exact ⟨rfl,u3⟩
theorem zq5 (lang k:Int) (b:Bool) (n:Int) (t x:ByteArray) (q:List Val) (p:Option Addr) (cap:Nat) (k2:Int) (b2:Bool) (n2:Int) (t2 x2:ByteArray) (q2:List Val) (p2:Option Addr) (cap2:Nat) (w:World) (hk0:k=9):
 Calls Tryz.prog 137 #[.int .i64 lang,.agg #[.int .i64 k,.bool b,.int .i64 n,.string t,.string x,.slice p q.length cap],.agg #[.int .i64 k2,.bool b2,.int .i64 n2,.string t2,.string x2,.slice p2 q2.length cap2]] w fun e w'=>e=.returned (.int .i64 (lexI (zaj t.toList t2.toList) (zaj x.toList x2.toList)))∧Low w.heap.size w w':=by
 obtain ⟨W0,hW0⟩:∃ W0,W0=((w.alloc (.cells #[.int .i64 lang] 3)).alloc (.cells #[.int .i64 k,.bool b,.int .i64 n,.string t,.string x,.slice p q.length cap] 39)).alloc (.cells #[.int .i64 k2,.bool b2,.int .i64 n2,.string t2,.string x2,.slice p2 q2.length cap2] 39):=⟨_,rfl⟩
 have S4:Six W0 (w.heap.size+1) k b n t x p q.length cap:=by rw [hW0];exact (zah _ (by simp)).alloc _
 have S5:Six W0 (w.heap.size+2) k2 b2 n2 t2 x2 p2 q2.length cap2:=by rw [hW0];exact zah _ (by simp)
 have b0:Low w.heap.size w W0:=by rw [hW0];exact low3 _ _ _ _
 have c0:W0.cell? ⟨w.heap.size,0,none⟩=some (.int .i64 lang):=by
  rw [hW0]
  have e:(w.alloc (.cells #[.int .i64 lang] 3)).cell? ⟨w.heap.size,0,none⟩=some (.int .i64 lang):=zab (zag _ _ rfl) _ rfl
  exact ((low2 _ _ _).cell (p:=⟨w.heap.size,0,none⟩) (by simp)).trans e
 have H0:=Lib.hid hW0
 clear hW0
 subst hk0
 go_enter Tryz.func137,Tryz.ntmps137
 go_wp2_with (first
  |(rw [← H0.out];(with_reducible refine zaa (.tmp 4) (w.heap.size+1) S4 ?_ ?_ ?_ ?_);rfl;rfl;rfl)
  |((with_reducible refine zaa (.tmp 4) (w.heap.size+1) S4 ?_ ?_ ?_ ?_);rfl;rfl;rfl)
  |((with_reducible refine zaa (.tmp 5) (w.heap.size+2) S5 ?_ ?_ ?_ ?_);rfl;rfl;rfl)
  |(go_at_call 107;(with_reducible refine (zas 9 b n t x _ 153 rfl _).mono ?_);rintro e w' ⟨rfl,hb⟩;replace S4:=S4.below hb.is;replace S5:=S5.below hb.is;replace c0:=(hb.cell (p:=⟨w.heap.size,0,none⟩) (World.block_lt_of_cell? _ _ c0)).trans c0;replace b0:=zad b0 hb b0.size;have f1:=S4.c1;have f2:=S4.c2;have f5:=S4.c5;have g1:=S5.c1;have g2:=S5.c2;have g5:=S5.c5;clear hb)
  |(simp only [zhc,zg9,zha,zg7,zg8,zhb,Result.andThen_ok]))
 obtain ⟨N,hN⟩:∃ N,N=w'.heap.size:=⟨_,rfl⟩
 refine wp_region_held_drew (S:=fun w'=>Six w' (w.heap.size+1) 9 b n t x p q.length cap∧Six w' (w.heap.size+2) k2 b2 n2 t2 x2 p2 q2.length cap2∧Low w.heap.size w w'∧Hid (N < w'.heap.size→w'.cell? ⟨N,0,none⟩=some (.int .i64 (zaj t.toList t2.toList))∧w'.cell? ⟨N,1,none⟩=some (.int .i64 (zaj x.toList x2.toList)))) (by kernel_rfl) ⟨S4,S5,b0.drew,Lib.hid fun h=>absurd h (by rw [hN];exact Nat.lt_irrefl _)⟩ (fun hHeld=>?_)
 refine tg (i:=0) (.pointer (some ⟨w.heap.size+1,3,none⟩)) rfl hHeld ?_
 refine tk (i:=1) (v:=.string t) rfl (Or.inl ⟨by rfl,fun W h=>by have c0:=h.1.c3;go_simp⟩) hHeld ?_
 refine tg (i:=2) (.pointer (some ⟨w.heap.size+2,3,none⟩)) rfl hHeld ?_
 refine tk (i:=3) (v:=.string t2) rfl (Or.inl ⟨by rfl,fun W h=>by have c0:=h.2.1.c3;go_simp⟩) hHeld ?_
 refine tg (i:=5) (.pointer (some ⟨w.heap.size+1,4,none⟩)) rfl hHeld ?_
 refine tk (i:=6) (v:=.string x) rfl (Or.inl ⟨by rfl,fun W h=>by have c0:=h.1.c4;go_simp⟩) hHeld ?_
 refine tg (i:=7) (.pointer (some ⟨w.heap.size+2,4,none⟩)) rfl hHeld ?_
 refine tk (i:=8) (v:=.string x2) rfl (Or.inl ⟨by rfl,fun W h=>by have c0:=h.2.1.c4;go_simp⟩) hHeld ?_
 obtain ⟨u1,u2,u3,u4⟩:=hHeld
 refine tr 4 rfl (fun K hK=>?_)
 rw [if_pos (by rfl)]
 go_simp
 refine (zcb t t2 _).mono ?_
 rintro e w3 ⟨rfl,rfl⟩
 refine hK.out _ _ ⟨u1,u2,u3,u4⟩ (fun hHeld=>?_)
 clear hK K u1 u2 u3 u4
 try simp only [putS]
 obtain ⟨u1,u2,u3,u4⟩:=hHeld
 refine tr 9 rfl (fun K hK=>?_)
 rw [if_pos (by rfl)]
 go_simp
 refine (zcb x x2 _).mono ?_
 rintro e w3 ⟨rfl,rfl⟩
 refine hK.out _ _ ⟨u1,u2,u3,u4⟩ (fun hHeld=>?_)
 clear hK K u1 u2 u3 u4
 try simp only [putS]
 obtain ⟨u1,u2,u3,u4⟩:=hHeld
 refine tr 10 rfl (fun K hK=>?_)
 go_simp
 rw [← hN]
 have x4:Six (w'.alloc (Obj.cells #[.int .i64 (zaj t.toList t2.toList),.int .i64 (zaj x.toList x2.toList)] 3)) (w.heap.size+1) 9 b n t x p q.length cap:=S4.alloc _
 have x5:Six (w'.alloc (Obj.cells #[.int .i64 (zaj t.toList t2.toList),.int .i64 (zaj x.toList x2.toList)] 3)) (w.heap.size+2) k2 b2 n2 t2 x2 p2 q2.length cap2:=S5.alloc _
 have xb:Low w.heap.size w (w'.alloc (Obj.cells #[.int .i64 (zaj t.toList t2.toList),.int .i64 (zaj x.toList x2.toList)] 3)).drew:=(b0.alloc b0.size _).drew
 have y0:(w'.alloc (Obj.cells #[.int .i64 (zaj t.toList t2.toList),.int .i64 (zaj x.toList x2.toList)] 3)).cell? ⟨N,0,none⟩=some (.int .i64 (zaj t.toList t2.toList)):=zab (zag w' _ hN.symm) 0 rfl
 have y1:(w'.alloc (Obj.cells #[.int .i64 (zaj t.toList t2.toList),.int .i64 (zaj x.toList x2.toList)] 3)).cell? ⟨N,1,none⟩=some (.int .i64 (zaj x.toList x2.toList)):=zab (zag w' _ hN.symm) 1 rfl
 have ys:N < (w'.alloc (Obj.cells #[.int .i64 (zaj t.toList t2.toList),.int .i64 (zaj x.toList x2.toList)] 3)).drew.heap.size:=by rw [hN];show w'.heap.size < (w'.alloc _).heap.size;simp
 generalize (w'.alloc (Obj.cells #[.int .i64 (zaj t.toList t2.toList),.int .i64 (zaj x.toList x2.toList)] 3))=V at x4 x5 xb y0 y1 ys ⊢
 clear u1 u2 u3 u4
 refine hK.out _ _ ⟨x4,x5,xb,Lib.hid fun _=>⟨y0,y1⟩⟩ (fun hHeld=>?_)
 clear hK K
 try simp only [putS]
 obtain ⟨u1,u2,u3,u4⟩:=hHeld
 obtain ⟨v0,v1⟩:=u4.out ys
 refine tr 11 rfl (fun K hK=>?_)
 rw [if_pos (by rfl)]
 go_simp
 rw [hN] at v0 v1
 with_reducible refine (orAt _ _ _ _ v0 v1).mono ?_
 rintro e w3 ⟨rfl,rfl⟩
 refine hK.out _ _ ⟨u1,u2,u3,u4⟩ (fun hHeld=>?_)
 clear hK K u1 u2 u4 v0 v1
 try simp only [putS]
 refine tr 12 rfl (fun K hK=>?_)
 go_simp
 refine hK.out _ _ hHeld (fun _=>?_)
 clear hK K hHeld
 try simp only [putS]
 refine wpAnyH_done (by kernel_rfl) ?_ _
 go_wp2_with fail
 go_ret
 exact ⟨rfl,u3⟩
theorem zpb (lang k:Int) (b:Bool) (n:Int) (t x:ByteArray) (q:List Val) (p:Option Addr) (cap:Nat) (k2:Int) (b2:Bool) (n2:Int) (t2 x2:ByteArray) (q2:List Val) (p2:Option Addr) (cap2:Nat) (w:World) (hk0:k=10):
 Calls Tryz.prog 137 #[.int .i64 lang,.agg #[.int .i64 k,.bool b,.int .i64 n,.string t,.string x,.slice p q.length cap],.agg #[.int .i64 k2,.bool b2,.int .i64 n2,.string t2,.string x2,.slice p2 q2.length cap2]] w fun e w'=>e=.returned (.int .i64 (lexI (zaj t.toList t2.toList) (zaj x.toList x2.toList)))∧Low w.heap.size w w':=by
 obtain ⟨W0,hW0⟩:∃ W0,W0=((w.alloc (.cells #[.int .i64 lang] 3)).alloc (.cells #[.int .i64 k,.bool b,.int .i64 n,.string t,.string x,.slice p q.length cap] 39)).alloc (.cells #[.int .i64 k2,.bool b2,.int .i64 n2,.string t2,.string x2,.slice p2 q2.length cap2] 39):=⟨_,rfl⟩
 have S4:Six W0 (w.heap.size+1) k b n t x p q.length cap:=by rw [hW0];exact (zah _ (by simp)).alloc _
 have S5:Six W0 (w.heap.size+2) k2 b2 n2 t2 x2 p2 q2.length cap2:=by rw [hW0];exact zah _ (by simp)
 have b0:Low w.heap.size w W0:=by rw [hW0];exact low3 _ _ _ _
 have c0:W0.cell? ⟨w.heap.size,0,none⟩=some (.int .i64 lang):=by
  rw [hW0]
  have e:(w.alloc (.cells #[.int .i64 lang] 3)).cell? ⟨w.heap.size,0,none⟩=some (.int .i64 lang):=zab (zag _ _ rfl) _ rfl
  exact ((low2 _ _ _).cell (p:=⟨w.heap.size,0,none⟩) (by simp)).trans e
 have H0:=Lib.hid hW0
 clear hW0
 subst hk0
 go_enter Tryz.func137,Tryz.ntmps137
 go_wp2_with (first
  |(rw [← H0.out];(with_reducible refine zaa (.tmp 4) (w.heap.size+1) S4 ?_ ?_ ?_ ?_);rfl;rfl;rfl)
  |((with_reducible refine zaa (.tmp 4) (w.heap.size+1) S4 ?_ ?_ ?_ ?_);rfl;rfl;rfl)
  |((with_reducible refine zaa (.tmp 5) (w.heap.size+2) S5 ?_ ?_ ?_ ?_);rfl;rfl;rfl)
  |(go_at_call 107;(with_reducible refine (zas 10 b n t x _ 154 rfl _).mono ?_);rintro e w' ⟨rfl,hb⟩;replace S4:=S4.below hb.is;replace S5:=S5.below hb.is;replace c0:=(hb.cell (p:=⟨w.heap.size,0,none⟩) (World.block_lt_of_cell? _ _ c0)).trans c0;replace b0:=zad b0 hb b0.size;have f1:=S4.c1;have f2:=S4.c2;have f5:=S4.c5;have g1:=S5.c1;have g2:=S5.c2;have g5:=S5.c5;clear hb)
  |(simp only [zew,zet,zeu,zer,zes,zev,Result.andThen_ok]))
 obtain ⟨N,hN⟩:∃ N,N=w'.heap.size:=⟨_,rfl⟩
 refine wp_region_held_drew (S:=fun w'=>Six w' (w.heap.size+1) 10 b n t x p q.length cap∧Six w' (w.heap.size+2) k2 b2 n2 t2 x2 p2 q2.length cap2∧Low w.heap.size w w'∧Hid (N < w'.heap.size→w'.cell? ⟨N,0,none⟩=some (.int .i64 (zaj t.toList t2.toList))∧w'.cell? ⟨N,1,none⟩=some (.int .i64 (zaj x.toList x2.toList)))) (by kernel_rfl) ⟨S4,S5,b0.drew,Lib.hid fun h=>absurd h (by rw [hN];exact Nat.lt_irrefl _)⟩ (fun hHeld=>?_)
 refine tg (i:=0) (.pointer (some ⟨w.heap.size+1,3,none⟩)) rfl hHeld ?_
 refine tk (i:=1) (v:=.string t) rfl (Or.inl ⟨by rfl,fun W h=>by have c0:=h.1.c3;go_simp⟩) hHeld ?_
 refine tg (i:=2) (.pointer (some ⟨w.heap.size+2,3,none⟩)) rfl hHeld ?_
 refine tk (i:=3) (v:=.string t2) rfl (Or.inl ⟨by rfl,fun W h=>by have c0:=h.2.1.c3;go_simp⟩) hHeld ?_
 refine tg (i:=5) (.pointer (some ⟨w.heap.size+1,4,none⟩)) rfl hHeld ?_
 refine tk (i:=6) (v:=.string x) rfl (Or.inl ⟨by rfl,fun W h=>by have c0:=h.1.c4;go_simp⟩) hHeld ?_
 refine tg (i:=7) (.pointer (some ⟨w.heap.size+2,4,none⟩)) rfl hHeld ?_
 refine tk (i:=8) (v:=.string x2) rfl (Or.inl ⟨by rfl,fun W h=>by have c0:=h.2.1.c4;go_simp⟩) hHeld ?_
 obtain ⟨u1,u2,u3,u4⟩:=hHeld
 refine tr 4 rfl (fun K hK=>?_)
 rw [if_pos (by rfl)]
 go_simp
 refine (zcb t t2 _).mono ?_
 rintro e w3 ⟨rfl,rfl⟩
 refine hK.out _ _ ⟨u1,u2,u3,u4⟩ (fun hHeld=>?_)
 clear hK K u1 u2 u3 u4
 try simp only [putS]
 obtain ⟨u1,u2,u3,u4⟩:=hHeld
 refine tr 9 rfl (fun K hK=>?_)
 rw [if_pos (by rfl)]
 go_simp
 refine (zcb x x2 _).mono ?_
 rintro e w3 ⟨rfl,rfl⟩
 refine hK.out _ _ ⟨u1,u2,u3,u4⟩ (fun hHeld=>?_)
 clear hK K u1 u2 u3 u4
 try simp only [putS]
 obtain ⟨u1,u2,u3,u4⟩:=hHeld
 refine tr 10 rfl (fun K hK=>?_)
 go_simp
 rw [← hN]
 have x4:Six (w'.alloc (Obj.cells #[.int .i64 (zaj t.toList t2.toList),.int .i64 (zaj x.toList x2.toList)] 3)) (w.heap.size+1) 10 b n t x p q.length cap:=S4.alloc _
 have x5:Six (w'.alloc (Obj.cells #[.int .i64 (zaj t.toList t2.toList),.int .i64 (zaj x.toList x2.toList)] 3)) (w.heap.size+2) k2 b2 n2 t2 x2 p2 q2.length cap2:=S5.alloc _
 have xb:Low w.heap.size w (w'.alloc (Obj.cells #[.int .i64 (zaj t.toList t2.toList),.int .i64 (zaj x.toList x2.toList)] 3)).drew:=(b0.alloc b0.size _).drew
 have y0:(w'.alloc (Obj.cells #[.int .i64 (zaj t.toList t2.toList),.int .i64 (zaj x.toList x2.toList)] 3)).cell? ⟨N,0,none⟩=some (.int .i64 (zaj t.toList t2.toList)):=zab (zag w' _ hN.symm) 0 rfl
 have y1:(w'.alloc (Obj.cells #[.int .i64 (zaj t.toList t2.toList),.int .i64 (zaj x.toList x2.toList)] 3)).cell? ⟨N,1,none⟩=some (.int .i64 (zaj x.toList x2.toList)):=zab (zag w' _ hN.symm) 1 rfl
 have ys:N < (w'.alloc (Obj.cells #[.int .i64 (zaj t.toList t2.toList),.int .i64 (zaj x.toList x2.toList)] 3)).drew.heap.size:=by rw [hN];show w'.heap.size < (w'.alloc _).heap.size;simp
 generalize (w'.alloc (Obj.cells #[.int .i64 (zaj t.toList t2.toList),.int .i64 (zaj x.toList x2.toList)] 3))=V at x4 x5 xb y0 y1 ys ⊢
 clear u1 u2 u3 u4
 refine hK.out _ _ ⟨x4,x5,xb,Lib.hid fun _=>⟨y0,y1⟩⟩ (fun hHeld=>?_)
 clear hK K
 try simp only [putS]
 obtain ⟨u1,u2,u3,u4⟩:=hHeld
 obtain ⟨v0,v1⟩:=u4.out ys
 refine tr 11 rfl (fun K hK=>?_)
 rw [if_pos (by rfl)]
 go_simp
 rw [hN] at v0 v1
 with_reducible refine (orAt _ _ _ _ v0 v1).mono ?_
 rintro e w3 ⟨rfl,rfl⟩
 refine hK.out _ _ ⟨u1,u2,u3,u4⟩ (fun hHeld=>?_)
 clear hK K u1 u2 u4 v0 v1
 try simp only [putS]
 refine tr 12 rfl (fun K hK=>?_)
 go_simp
 refine hK.out _ _ hHeld (fun _=>?_)
 clear hK K hHeld
 try simp only [putS]
 refine wpAnyH_done (by kernel_rfl) ?_ _
 go_wp2_with fail
 go_ret
 exact ⟨rfl,u3⟩
end Go.Proofs.YtanbgdhmfjgihaaGreatDoor
