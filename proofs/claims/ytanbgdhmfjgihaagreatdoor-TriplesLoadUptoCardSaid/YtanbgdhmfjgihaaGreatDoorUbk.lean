/- Texts of one kind, one behind the other: each says ahead of itself what it shows. -/
import Derived.Test.YtanbgdhmfjgihaaGreatDoorUbj
import Derived.Test.YtanbgdhmfjgihaaGreatDoorUbh
namespace Go.Proofs.YtanbgdhmfjgihaaGreatDoor
open Go.RowKit
set_option maxHeartbeats 12800000
set_option maxRecDepth 20000
theorem zti {a b:ByteArray} (h:a.toList=b.toList):a=b:=by
 rw [zbk,zbk] at h
 exact ByteArray.ext (Array.toList_inj.1 h)
def v3f (v0 v1 v2:V6):Nat→V6
 | 0=>v0
 | 1=>v1
 | _=>v2
theorem zz4 {v0 v1 v2:V6} {u0 u1 u2 t0 t1 t2:Val} (h:∀ i,i < 3→((v3f v0 v1 v2 i).k=0∨za7 (u3 u0 u1 u2 i) (u3 t0 t1 t2 i)=true)∧∀ k,k < i→twD (v3f v0 v1 v2 k) (v3f v0 v1 v2 i) (u3 t0 t1 t2 k) (u3 t0 t1 t2 i)=false):zf4 v0 v1 v2 u0 u1 u2 ⟨t0,t1,t2⟩=true:=by
 have h0:=(h 0 (by omega)).1
 have h1:=(h 1 (by omega)).1
 have h2:=(h 2 (by omega)).1
 have g1:=(h 1 (by omega)).2 0 (by omega)
 have g2:=(h 2 (by omega)).2 0 (by omega)
 have g3:=(h 2 (by omega)).2 1 (by omega)
 simp only [v3f,u3] at h0 h1 h2 g1 g2 g3
 unfold zf4
 rw [g1,g2,g3]
 simp [h0,h1,h2]
theorem zx0 {v0 v1 v2:V6} {u0 u1 u2 t0 t1 t2:Val} (i:Nat) (hi:i < 3) (h:((v3f v0 v1 v2 i).k≠0∧za7 (u3 u0 u1 u2 i) (u3 t0 t1 t2 i)=false)∨∃ k,k < i∧twD (v3f v0 v1 v2 k) (v3f v0 v1 v2 i) (u3 t0 t1 t2 k) (u3 t0 t1 t2 i)=true):zf4 v0 v1 v2 u0 u1 u2 ⟨t0,t1,t2⟩=false:=by
 unfold zf4
 rcases h with ⟨h1,h2⟩ | ⟨k,hk,h1⟩
 ·obtain rfl | rfl | rfl:i=0∨i=1∨i=2:=by omega
  all_goals (simp only [v3f,u3] at h1 h2;simp [h1,h2])
 ·obtain ⟨rfl,rfl⟩ | ⟨rfl,rfl⟩ | ⟨rfl,rfl⟩:(i=1∧k=0)∨(i=2∧k=0)∨(i=2∧k=1):=by omega
  all_goals (simp only [v3f,u3] at h1;simp [h1])
theorem zlv {w:World} {c:Array Value} {t:TypeId}:(w.alloc (.cells c t)).rangeAt w.heap.size 0 c.toList:=fun i v hv=>by
 rw [Nat.zero_add]
 exact zab (zag w _ rfl) i (by simpa using hv)
theorem rng_f {W:World} {g:Nat} {v0 v1 v2:V6} (h:W.rangeAt g 0 [.int .i64 v0.k,.bool v0.b,.int .i64 v0.n,.string v0.t,.string v0.x,.slice v0.p v0.len v0.cap,.int .i64 v1.k,.bool v1.b,.int .i64 v1.n,.string v1.t,.string v1.x,.slice v1.p v1.len v1.cap,.int .i64 v2.k,.bool v2.b,.int .i64 v2.n,.string v2.t,.string v2.x,.slice v2.p v2.len v2.cap]) (i:Nat) (hi:i < 3):W.rangeAt g (i*6) [.int .i64 (v3f v0 v1 v2 i).k,.bool (v3f v0 v1 v2 i).b,.int .i64 (v3f v0 v1 v2 i).n,.string (v3f v0 v1 v2 i).t,.string (v3f v0 v1 v2 i).x,.slice (v3f v0 v1 v2 i).p (v3f v0 v1 v2 i).len (v3f v0 v1 v2 i).cap]:=by
 obtain rfl | rfl | rfl:i=0∨i=1∨i=2:=by omega
 ·exact zoc h
 ·exact zof h
 ·exact zod h
def q3f (q0 q1 q2:List Val):Nat→List Val
 | 0=>q0
 | 1=>q1
 | _=>q2
theorem is_f {W:World} {v0 v1 v2:V6} {u0 u1 u2:Val} {q0 q1 q2:List Val} (h0:Is W v0 u0 q0) (h1:Is W v1 u1 q1) (h2:Is W v2 u2 q2) (i:Nat) (hi:i < 3):Is W (v3f v0 v1 v2 i) (u3 u0 u1 u2 i) (q3f q0 q1 q2 i):=by
 obtain rfl | rfl | rfl:i=0∨i=1∨i=2:=by omega
 ·exact h0
 ·exact h1
 ·exact h2
theorem zx1 (v0 v1 v2 a0 a1 a2:V6) (u0 u1 u2 t0 t1 t2:Val) (q0 q1 q2 p0 p1 p2:List Val) (w:World) (i0:Is w v0 u0 q0) (i1:Is w v1 u1 q1) (i2:Is w v2 u2 q2) (j0:Is w a0 t0 p0) (j1:Is w a1 t1 p1) (j2:Is w a2 t2 p2):
 Calls Tryz.prog 52 #[.agg #[.int .i64 v0.k,.bool v0.b,.int .i64 v0.n,.string v0.t,.string v0.x,.slice v0.p v0.len v0.cap,.int .i64 v1.k,.bool v1.b,.int .i64 v1.n,.string v1.t,.string v1.x,.slice v1.p v1.len v1.cap,.int .i64 v2.k,.bool v2.b,.int .i64 v2.n,.string v2.t,.string v2.x,.slice v2.p v2.len v2.cap],.agg #[.int .i64 a0.k,.bool a0.b,.int .i64 a0.n,.string a0.t,.string a0.x,.slice a0.p a0.len a0.cap,.int .i64 a1.k,.bool a1.b,.int .i64 a1.n,.string a1.t,.string a1.x,.slice a1.p a1.len a1.cap,.int .i64 a2.k,.bool a2.b,.int .i64 a2.n,.string a2.t,.string a2.x,.slice a2.p a2.len a2.cap]] w fun e w'=>e=.returned (.bool (zf4 v0 v1 v2 u0 u1 u2 ⟨t0,t1,t2⟩))∧Below w.heap.size w w':=by
 obtain ⟨RR,hRR⟩:∃ R,R=zf4 v0 v1 v2 u0 u1 u2 ⟨t0,t1,t2⟩:=⟨_,rfl⟩
 rw [← hRR]
 have HRR:=Lib.hid hRR
 clear hRR
 obtain ⟨W0,hW0⟩:∃ W0,W0=(w.alloc (.cells #[.int .i64 v0.k,.bool v0.b,.int .i64 v0.n,.string v0.t,.string v0.x,.slice v0.p v0.len v0.cap,.int .i64 v1.k,.bool v1.b,.int .i64 v1.n,.string v1.t,.string v1.x,.slice v1.p v1.len v1.cap,.int .i64 v2.k,.bool v2.b,.int .i64 v2.n,.string v2.t,.string v2.x,.slice v2.p v2.len v2.cap] 45)).alloc (.cells #[.int .i64 a0.k,.bool a0.b,.int .i64 a0.n,.string a0.t,.string a0.x,.slice a0.p a0.len a0.cap,.int .i64 a1.k,.bool a1.b,.int .i64 a1.n,.string a1.t,.string a1.x,.slice a1.p a1.len a1.cap,.int .i64 a2.k,.bool a2.b,.int .i64 a2.n,.string a2.t,.string a2.x,.slice a2.p a2.len a2.cap] 41):=⟨_,rfl⟩
 have b0:Below w.heap.size w W0:=by rw [hW0];exact zdx _ _ _
 have z0:W0.heap.size=w.heap.size+2:=by rw [hW0];simp
 have rA:W0.rangeAt w.heap.size 0 [.int .i64 v0.k,.bool v0.b,.int .i64 v0.n,.string v0.t,.string v0.x,.slice v0.p v0.len v0.cap,.int .i64 v1.k,.bool v1.b,.int .i64 v1.n,.string v1.t,.string v1.x,.slice v1.p v1.len v1.cap,.int .i64 v2.k,.bool v2.b,.int .i64 v2.n,.string v2.t,.string v2.x,.slice v2.p v2.len v2.cap]:=by
  rw [hW0]
  exact zaf zlv (zap _ _)
 have rB:W0.rangeAt (w.heap.size+1) 0 [.int .i64 a0.k,.bool a0.b,.int .i64 a0.n,.string a0.t,.string a0.x,.slice a0.p a0.len a0.cap,.int .i64 a1.k,.bool a1.b,.int .i64 a1.n,.string a1.t,.string a1.x,.slice a1.p a1.len a1.cap,.int .i64 a2.k,.bool a2.b,.int .i64 a2.n,.string a2.t,.string a2.x,.slice a2.p a2.len a2.cap]:=by
  rw [hW0]
  have h:=zlv (w:=w.alloc (.cells #[.int .i64 v0.k,.bool v0.b,.int .i64 v0.n,.string v0.t,.string v0.x,.slice v0.p v0.len v0.cap,.int .i64 v1.k,.bool v1.b,.int .i64 v1.n,.string v1.t,.string v1.x,.slice v1.p v1.len v1.cap,.int .i64 v2.k,.bool v2.b,.int .i64 v2.n,.string v2.t,.string v2.x,.slice v2.p v2.len v2.cap] 45)) (c:=#[.int .i64 a0.k,.bool a0.b,.int .i64 a0.n,.string a0.t,.string a0.x,.slice a0.p a0.len a0.cap,.int .i64 a1.k,.bool a1.b,.int .i64 a1.n,.string a1.t,.string a1.x,.slice a1.p a1.len a1.cap,.int .i64 a2.k,.bool a2.b,.int .i64 a2.n,.string a2.t,.string a2.x,.slice a2.p a2.len a2.cap]) (t:=41)
  rwa [show (w.alloc (.cells #[.int .i64 v0.k,.bool v0.b,.int .i64 v0.n,.string v0.t,.string v0.x,.slice v0.p v0.len v0.cap,.int .i64 v1.k,.bool v1.b,.int .i64 v1.n,.string v1.t,.string v1.x,.slice v1.p v1.len v1.cap,.int .i64 v2.k,.bool v2.b,.int .i64 v2.n,.string v2.t,.string v2.x,.slice v2.p v2.len v2.cap] 45)).heap.size=w.heap.size+1 by simp] at h
 have rA0:=zoc rA
 have rA1:=zof rA
 have rA2:=zod rA
 have bq:=zap W0 (.cells #[.int .i64 v0.k,.bool v0.b,.int .i64 v0.n,.string v0.t,.string v0.x,.slice v0.p v0.len v0.cap,.int .i64 v1.k,.bool v1.b,.int .i64 v1.n,.string v1.t,.string v1.x,.slice v1.p v1.len v1.cap,.int .i64 v2.k,.bool v2.b,.int .i64 v2.n,.string v2.t,.string v2.x,.slice v2.p v2.len v2.cap] 39)
 have rB0:=zaf (zoc rB) bq
 have rB1:=zaf (zof rB) bq
 have rB2:=zaf (zod rB) bq
 obtain ⟨W1,hW1⟩:∃ W1,W1=W0.alloc (.cells #[.int .i64 v0.k,.bool v0.b,.int .i64 v0.n,.string v0.t,.string v0.x,.slice v0.p v0.len v0.cap,.int .i64 v1.k,.bool v1.b,.int .i64 v1.n,.string v1.t,.string v1.x,.slice v1.p v1.len v1.cap,.int .i64 v2.k,.bool v2.b,.int .i64 v2.n,.string v2.t,.string v2.x,.slice v2.p v2.len v2.cap] 39):=⟨_,rfl⟩
 obtain ⟨W2,hW2⟩:∃ W2,W2=W1.alloc (.cells #[.int .i64 a0.k,.bool a0.b,.int .i64 a0.n,.string a0.t,.string a0.x,.slice a0.p a0.len a0.cap,.int .i64 a1.k,.bool a1.b,.int .i64 a1.n,.string a1.t,.string a1.x,.slice a1.p a1.len a1.cap,.int .i64 a2.k,.bool a2.b,.int .i64 a2.n,.string a2.t,.string a2.x,.slice a2.p a2.len a2.cap] 39):=⟨_,rfl⟩
 obtain ⟨gA,hgA⟩:∃ gA,gA=W0.heap.size:=⟨_,rfl⟩
 obtain ⟨gB,hgB⟩:∃ gB,gB=W1.heap.size:=⟨_,rfl⟩
 have b2:Below w.heap.size w W2:=by
  rw [hW2,hW1]
  exact (b0.alloc b0.size _).alloc (by simp;have:=b0.size;omega) _
 have XA:W2.rangeAt gA 0 [.int .i64 v0.k,.bool v0.b,.int .i64 v0.n,.string v0.t,.string v0.x,.slice v0.p v0.len v0.cap,.int .i64 v1.k,.bool v1.b,.int .i64 v1.n,.string v1.t,.string v1.x,.slice v1.p v1.len v1.cap,.int .i64 v2.k,.bool v2.b,.int .i64 v2.n,.string v2.t,.string v2.x,.slice v2.p v2.len v2.cap]:=by
  rw [hW2,hW1,hgA]
  exact zaf zlv (zap _ _)
 have XB:W2.rangeAt gB 0 [.int .i64 a0.k,.bool a0.b,.int .i64 a0.n,.string a0.t,.string a0.x,.slice a0.p a0.len a0.cap,.int .i64 a1.k,.bool a1.b,.int .i64 a1.n,.string a1.t,.string a1.x,.slice a1.p a1.len a1.cap,.int .i64 a2.k,.bool a2.b,.int .i64 a2.n,.string a2.t,.string a2.x,.slice a2.p a2.len a2.cap]:=by
  rw [hW2,hgB]
  exact zlv
 rw [← hW1] at rB0 rB1 rB2
 have HW0:=Lib.hid hW0
 have HW1:=Lib.hid hW1
 have HW2:=Lib.hid hW2
 have HGA:=Lib.hid hgA
 have HGB:=Lib.hid hgB
 have HRA:=Lib.hid (fun (W:World) (hb:Below W2.heap.size W2 W) (i:Nat) (hi:i < 3)=>rng_f (zaf XA hb) i hi)
 have HRB:=Lib.hid (fun (W:World) (hb:Below W2.heap.size W2 W) (i:Nat) (hi:i < 3)=>rng_f (zaf XB hb) i hi)
 have HIV:=Lib.hid (fun (W:World) (hb:Below W2.heap.size W2 W) (i:Nat) (hi:i < 3)=>is_f (i0.below (b2.trans (hb.mono b2.size))) (i1.below (b2.trans (hb.mono b2.size))) (i2.below (b2.trans (hb.mono b2.size))) i hi)
 have HIT:=Lib.hid (fun (W:World) (hb:Below W2.heap.size W2 W) (i:Nat) (hi:i < 3)=>is_f (j0.below (b2.trans (hb.mono b2.size))) (j1.below (b2.trans (hb.mono b2.size))) (j2.below (b2.trans (hb.mono b2.size))) i hi)
 have HB2:=Lib.hid b2
 clear hW0 hW1 hW2 hgA hgB b0 z0 rA rB bq XA XB i0 i1 i2 j0 j1 j2 b2
 go_enter Tryz.func52,Tryz.ntmps52
 go_upto_region 1 with fail
 rw [← HW0.out]
 go_upto_region 2 with (first
  |((with_reducible refine zam (.tmp 9) w.heap.size 0 v0 rA0 ?_ ?_ ?_ ?_);rfl;rfl;rfl)
  |((with_reducible refine zam (.tmp 11) w.heap.size (0+6) v1 rA1 ?_ ?_ ?_ ?_);rfl;rfl;rfl)
  |((with_reducible refine zam (.tmp 13) w.heap.size (0+12) v2 rA2 ?_ ?_ ?_ ?_);rfl;rfl;rfl))
 rw [← HW1.out,← HGA.out]
 go_upto_region 3 with (first
  |((with_reducible refine zam (.tmp 16) (w.heap.size+1) 0 a0 rB0 ?_ ?_ ?_ ?_);rfl;rfl;rfl)
  |((with_reducible refine zam (.tmp 18) (w.heap.size+1) (0+6) a1 rB1 ?_ ?_ ?_ ?_);rfl;rfl;rfl)
  |((with_reducible refine zam (.tmp 20) (w.heap.size+1) (0+12) a2 rB2 ?_ ?_ ?_ ?_);rfl;rfl;rfl))
 rw [← HW2.out,← HGB.out]
 clear rA0 rA1 rA2 rB0 rB1 rB2
 go_wp2_with fail
 go_loopg [7] 3 (fun gg s7 wr=>∃ i:Nat,i+gg=3∧s7=.int .i64 i∧Hid (Below W2.heap.size W2 wr)∧Hid (∀ i',i' < i→((v3f v0 v1 v2 i').k=0∨za7 (u3 u0 u1 u2 i') (u3 t0 t1 t2 i')=true)∧∀ k,k < i'→twD (v3f v0 v1 v2 k) (v3f v0 v1 v2 i') (u3 t0 t1 t2 k) (u3 t0 t1 t2 i')=false))
 case atStart=>exact ⟨0,by omega,rfl,Lib.hid (Below.refl _ _),Lib.hid fun _ h=>absurd h (by omega)⟩
 case round=>
  obtain ⟨i,hig,rfl,HB,HA⟩:=hrel
  by_cases hlt:(i:Int) < 3
  ·have hi3:i < 3:=by omega
   obtain ⟨x,hx⟩:∃ x,x=v3f v0 v1 v2 i:=⟨_,rfl⟩
   obtain ⟨y,hy⟩:∃ y,y=v3f a0 a1 a2 i:=⟨_,rfl⟩
   have ra:=HRA.out wr HB.out i hi3
   have rb:=HRB.out wr HB.out i hi3
   have ix:=HIV.out wr HB.out i hi3
   have iy:=HIT.out wr HB.out i hi3
   rw [← hx] at ra ix
   rw [← hy] at rb iy
   have c0:wr.cell? ⟨gA,i*6,none⟩=some (.int .i64 x.k):=ra 0 _ rfl
   have HX:=Lib.hid hx
   have HY:=Lib.hid hy
   clear hx hy
   by_cases hk:x.k=0
   ·have hkb:(x.k != (0:Int))=false:=by simp [hk]
    have HK:=Lib.hid hk
    clear hk
    have HIY:=Lib.hid iy
    clear ix iy
    go_wp2_with fail
    clear c0
    have HBo:=HB
    clear HB
    go_loopg [8] i (fun gg s8 wr=>∃ k:Nat,k+gg=i∧s8=.int .i64 k∧Hid (Below W2.heap.size W2 wr)∧Hid (∀ k',k' < k→twD (v3f v0 v1 v2 k') x (u3 t0 t1 t2 k') (u3 t0 t1 t2 i)=false))
    case atStart=>exact ⟨0,by omega,rfl,HBo,Lib.hid fun _ h=>absurd h (by omega)⟩
    case round=>
     obtain ⟨k,hkg,rfl,HB,HT⟩:=hrel
     by_cases hlk:(k:Int) < i
     ·have hk3:k < 3:=by omega
      have hki3:(k:Int) < 3:=by omega
      clear ra rb
      have ra:=HRA.out wr HB.out i hi3
      have rb:=HRB.out wr HB.out i hi3
      have iy:=HIT.out wr HB.out i hi3
      rw [← HX.out] at ra
      rw [← HY.out] at rb iy
      obtain ⟨x2,hx2⟩:∃ x,x=v3f v0 v1 v2 k:=⟨_,rfl⟩
      obtain ⟨y2,hy2⟩:∃ y,y=v3f a0 a1 a2 k:=⟨_,rfl⟩
      have rak:=HRA.out wr HB.out k hk3
      have rbk:=HRB.out wr HB.out k hk3
      have iyk:=HIT.out wr HB.out k hk3
      rw [← hx2] at rak
      rw [← hy2] at rbk iyk
      have HX2:=Lib.hid hx2
      clear hx2 hy2
      by_cases h1:x2.k=0
      ·have h1b:(x2.k == (0:Int))=true:=by simp [h1]
       have H1:=Lib.hid h1
       clear h1
       by_cases h2:x.t=⟨#[]⟩
       ·go_upto_region 12 with fail
        have L0:Below wr.heap.size wr wr.drew:=(Below.refl _ _).drew
        refine wp_region_held_drew (S:=fun W=>(W.rangeAt gA (i*6) [.int .i64 x.k,.bool x.b,.int .i64 x.n,.string x.t,.string x.x,.slice x.p x.len x.cap]∧W.rangeAt gB (i*6) [.int .i64 y.k,.bool y.b,.int .i64 y.n,.string y.t,.string y.x,.slice y.p y.len y.cap])∧W.rangeAt gA (k*6) [.int .i64 x2.k,.bool x2.b,.int .i64 x2.n,.string x2.t,.string x2.x,.slice x2.p x2.len x2.cap]∧W.rangeAt gB (k*6) [.int .i64 y2.k,.bool y2.b,.int .i64 y2.n,.string y2.t,.string y2.x,.slice y2.p y2.len y2.cap]) (by kernel_rfl) ⟨⟨ra,rb⟩,rak,rbk⟩ (fun hHeld=>?_)
        refine tg (i:=0) (.slice (some ⟨gA,0,none⟩) 3 3) rfl hHeld ?_
        refine tg (i:=1) (.int .i64 (k:Int)) rfl hHeld ?_
        refine tg (i:=2) (.pointer (some ⟨gA,k*6,none⟩)) rfl hHeld ?_
        refine tg (i:=3) (.pointer (some ⟨gA,k*6,none⟩)) rfl hHeld ?_
        refine tk (i:=4) (v:=.int .i64 x2.k) rfl (Or.inl ⟨by rfl,fun W h=>by have c0:W.cell? ⟨gA,k*6,none⟩=some (.int .i64 x2.k):=h.2.1 0 _ rfl;go_simp⟩) hHeld ?_
        refine tg (i:=5) (.bool true) rfl hHeld ?_
        refine tg (i:=6) (.bool true) rfl hHeld ?_
        refine tg (i:=7) (.slice (some ⟨gA,0,none⟩) 3 3) rfl hHeld ?_
        refine tg (i:=8) (.int .i64 (i:Int)) rfl hHeld ?_
        refine tg (i:=9) (.pointer (some ⟨gA,i*6,none⟩)) rfl hHeld ?_
        refine tg (i:=10) (.pointer (some ⟨gA,i*6+3,none⟩)) rfl hHeld ?_
        refine tk (i:=11) (v:=.string x.t) rfl (Or.inl ⟨by rfl,fun W h=>by have c0:W.cell? ⟨gA,i*6+3,none⟩=some (.string x.t):=h.1.1 3 _ rfl;go_simp⟩) hHeld ?_
        refine tg (i:=12) (.bool false) rfl hHeld ?_
        refine tg (i:=13) (.bool false) rfl hHeld ?_
        refine tg (i:=14) (.bool false) rfl hHeld ?_
        refine tn (i:=15) rfl hHeld ?_
        refine tn (i:=16) rfl hHeld ?_
        refine tn (i:=17) rfl hHeld ?_
        refine tn (i:=18) rfl hHeld ?_
        refine tn (i:=19) rfl hHeld ?_
        refine tn (i:=20) rfl hHeld ?_
        refine tn (i:=21) rfl hHeld ?_
        refine tn (i:=22) rfl hHeld ?_
        refine tn (i:=23) rfl hHeld ?_
        refine tn (i:=24) rfl hHeld ?_
        refine tn (i:=25) rfl hHeld ?_
        refine tg (i:=26) (.bool false) rfl hHeld ?_
        refine tg (i:=27) (.bool false) rfl hHeld ?_
        refine tn (i:=28) rfl hHeld ?_
        refine tn (i:=29) rfl hHeld ?_
        refine tn (i:=30) rfl hHeld ?_
        refine tn (i:=31) rfl hHeld ?_
        refine tn (i:=32) rfl hHeld ?_
        refine tn (i:=33) rfl hHeld ?_
        refine tn (i:=34) rfl hHeld ?_
        refine tn (i:=35) rfl hHeld ?_
        refine tn (i:=36) rfl hHeld ?_
        refine tn (i:=37) rfl hHeld ?_
        refine tg (i:=38) (.bool false) rfl hHeld ?_
        refine wpAnyH_done (by kernel_rfl) ?_ _
        have HB2:Hid (Below W2.heap.size W2 wr.drew):=Lib.hid (HB.out.drew)
        have HT2:Hid (∀ k',k' < k+1→twD (v3f v0 v1 v2 k') x (u3 t0 t1 t2 k') (u3 t0 t1 t2 i)=false):=Lib.hid fun k' h=>by
         by_cases e:k'=k
         ·subst e
          rw [← HX2.out]
          unfold twD zd8
          simp [h2]
         ·exact HT.out k' (by omega)
        clear hHeld
        go_wp2_with fail
        go_roundg (i - (k+1))
        case measure=>omega
        case rel=>exact ⟨k+1,by omega,by go_num,HB2,HT2⟩
       ·have HNE:Hid (¬ x.t.toList=[]):=Lib.hid fun e=>h2 (zti (b:=⟨#[]⟩) (e.trans (by rw [zbk])))
        have H2:=Lib.hid h2
        clear h2
        by_cases h3:x2.t=x.t
        ·obtain ⟨r,hr⟩:∃ r,r=za7 (u3 t0 t1 t2 k) (u3 t0 t1 t2 i):=⟨_,rfl⟩
         have HC:Hid (∀ W,Below wr.heap.size wr W→Calls Tryz.prog 32 #[.agg #[.int .i64 y2.k,.bool y2.b,.int .i64 y2.n,.string y2.t,.string y2.x,.slice y2.p y2.len y2.cap],.agg #[.int .i64 y.k,.bool y.b,.int .i64 y.n,.string y.t,.string y.x,.slice y.p y.len y.cap]] W fun e w'=>e=.returned (.bool r)∧Below W.heap.size W w'):=Lib.hid fun W hb=>by
          rw [hr]
          exact zpv y2 y _ _ _ _ W (iyk.below hb) (iy.below hb)
         have HR:=Lib.hid hr
         clear hr iyk iy
         cases r with
         | true=>
           go_upto_region 12 with fail
           have L0:Below wr.heap.size wr wr.drew:=(Below.refl _ _).drew
           refine wp_region_held_drew (S:=fun W=>(W.rangeAt gA (i*6) [.int .i64 x.k,.bool x.b,.int .i64 x.n,.string x.t,.string x.x,.slice x.p x.len x.cap]∧W.rangeAt gB (i*6) [.int .i64 y.k,.bool y.b,.int .i64 y.n,.string y.t,.string y.x,.slice y.p y.len y.cap])∧W.rangeAt gA (k*6) [.int .i64 x2.k,.bool x2.b,.int .i64 x2.n,.string x2.t,.string x2.x,.slice x2.p x2.len x2.cap]∧W.rangeAt gB (k*6) [.int .i64 y2.k,.bool y2.b,.int .i64 y2.n,.string y2.t,.string y2.x,.slice y2.p y2.len y2.cap]) (by kernel_rfl) ⟨⟨ra,rb⟩,rak,rbk⟩ (fun hHeld=>?_)
           refine tg (i:=0) (.slice (some ⟨gA,0,none⟩) 3 3) rfl hHeld ?_
           refine tg (i:=1) (.int .i64 (k:Int)) rfl hHeld ?_
           refine tg (i:=2) (.pointer (some ⟨gA,k*6,none⟩)) rfl hHeld ?_
           refine tg (i:=3) (.pointer (some ⟨gA,k*6,none⟩)) rfl hHeld ?_
           refine tk (i:=4) (v:=.int .i64 x2.k) rfl (Or.inl ⟨by rfl,fun W h=>by have c0:W.cell? ⟨gA,k*6,none⟩=some (.int .i64 x2.k):=h.2.1 0 _ rfl;go_simp⟩) hHeld ?_
           refine tg (i:=5) (.bool true) rfl hHeld ?_
           refine tg (i:=6) (.bool true) rfl hHeld ?_
           refine tg (i:=7) (.slice (some ⟨gA,0,none⟩) 3 3) rfl hHeld ?_
           refine tg (i:=8) (.int .i64 (i:Int)) rfl hHeld ?_
           refine tg (i:=9) (.pointer (some ⟨gA,i*6,none⟩)) rfl hHeld ?_
           refine tg (i:=10) (.pointer (some ⟨gA,i*6+3,none⟩)) rfl hHeld ?_
           refine tk (i:=11) (v:=.string x.t) rfl (Or.inl ⟨by rfl,fun W h=>by have c0:W.cell? ⟨gA,i*6+3,none⟩=some (.string x.t):=h.1.1 3 _ rfl;go_simp⟩) hHeld ?_
           refine tk (i:=12) (v:=.bool true) rfl (Or.inl ⟨by rfl,fun W _=>by go_simp;exact HNE.out⟩) hHeld ?_
           refine tg (i:=13) (.bool true) rfl hHeld ?_
           refine tg (i:=14) (.bool true) rfl hHeld ?_
           refine tg (i:=15) (.slice (some ⟨gA,0,none⟩) 3 3) rfl hHeld ?_
           refine tg (i:=16) (.int .i64 (k:Int)) rfl hHeld ?_
           refine tg (i:=17) (.pointer (some ⟨gA,k*6,none⟩)) rfl hHeld ?_
           refine tg (i:=18) (.pointer (some ⟨gA,k*6+3,none⟩)) rfl hHeld ?_
           refine tk (i:=19) (v:=.string x2.t) rfl (Or.inl ⟨by rfl,fun W h=>by have c0:W.cell? ⟨gA,k*6+3,none⟩=some (.string x2.t):=h.2.1 3 _ rfl;go_simp⟩) hHeld ?_
           refine tg (i:=20) (.slice (some ⟨gA,0,none⟩) 3 3) rfl hHeld ?_
           refine tg (i:=21) (.int .i64 (i:Int)) rfl hHeld ?_
           refine tg (i:=22) (.pointer (some ⟨gA,i*6,none⟩)) rfl hHeld ?_
           refine tg (i:=23) (.pointer (some ⟨gA,i*6+3,none⟩)) rfl hHeld ?_
           refine tk (i:=24) (v:=.string x.t) rfl (Or.inl ⟨by rfl,fun W h=>by have c0:W.cell? ⟨gA,i*6+3,none⟩=some (.string x.t):=h.1.1 3 _ rfl;go_simp⟩) hHeld ?_
           refine tg (i:=25) (.bool true) rfl hHeld ?_
           refine tg (i:=26) (.bool true) rfl hHeld ?_
           refine tg (i:=27) (.bool true) rfl hHeld ?_
           refine tg (i:=28) (.slice (some ⟨gB,0,none⟩) 3 3) rfl hHeld ?_
           refine tg (i:=29) (.int .i64 (k:Int)) rfl hHeld ?_
           refine tg (i:=30) (.pointer (some ⟨gB,k*6,none⟩)) rfl hHeld ?_
           refine tk (i:=31) rfl (yieldsIf_load_mid (by rfl) 39 (.tmp 78) rfl (gB) (k*6) rfl [.int .i64 y2.k,.bool y2.b,.int .i64 y2.n,.string y2.t,.string y2.x,.slice y2.p y2.len y2.cap] _ (fun W h=>h.2.2) Tryz.underlying39 rfl zav) hHeld ?_
           refine tg (i:=32) (.slice (some ⟨gB,0,none⟩) 3 3) rfl hHeld ?_
           refine tg (i:=33) (.int .i64 (i:Int)) rfl hHeld ?_
           refine tg (i:=34) (.pointer (some ⟨gB,i*6,none⟩)) rfl hHeld ?_
           refine tk (i:=35) rfl (yieldsIf_load_mid (by rfl) 39 (.tmp 82) rfl (gB) (i*6) rfl [.int .i64 y.k,.bool y.b,.int .i64 y.n,.string y.t,.string y.x,.slice y.p y.len y.cap] _ (fun W h=>h.1.2) Tryz.underlying39 rfl zav) hHeld ?_
           refine tr 36 rfl (fun K hK=>?_)
           rw [if_pos (by rfl)]
           go_simp
           refine (HC.out _ L0).mono ?_
           rintro e9 w9 ⟨rfl,hb9⟩
           have hHeld9:(_∧_)∧_∧_:=⟨⟨zaf hHeld.1.1 hb9,zaf hHeld.1.2 hb9⟩,zaf hHeld.2.1 hb9,zaf hHeld.2.2 hb9⟩
           have L9:=L0.trans (hb9.mono L0.size)
           clear hb9
           refine hK.out _ _ hHeld9 (fun _=>?_)
           clear hK K
           try simp only [putS]
           refine tg (i:=37) (.bool false) rfl hHeld9 ?_
           refine tg (i:=38) (.bool false) rfl hHeld9 ?_
           refine wpAnyH_done (by kernel_rfl) ?_ _
           have HB2:Hid (Below W2.heap.size W2 w9):=Lib.hid (HB.out.trans (L9.mono HB.out.size))
           have HT2:Hid (∀ k',k' < k+1→twD (v3f v0 v1 v2 k') x (u3 t0 t1 t2 k') (u3 t0 t1 t2 i)=false):=Lib.hid fun k' h=>by
            by_cases e:k'=k
            ·subst e
             rw [← HX2.out]
             unfold twD zd8
             rw [← HR.out]
             simp
            ·exact HT.out k' (by omega)
           clear hHeld hHeld9 L9 L0
           go_wp2_with fail
           go_roundg (i - (k+1))
           case measure=>omega
           case rel=>exact ⟨k+1,by omega,by go_num,HB2,HT2⟩
         | false=>
           go_upto_region 12 with fail
           have L0:Below wr.heap.size wr wr.drew:=(Below.refl _ _).drew
           refine wp_region_held_drew (S:=fun W=>(W.rangeAt gA (i*6) [.int .i64 x.k,.bool x.b,.int .i64 x.n,.string x.t,.string x.x,.slice x.p x.len x.cap]∧W.rangeAt gB (i*6) [.int .i64 y.k,.bool y.b,.int .i64 y.n,.string y.t,.string y.x,.slice y.p y.len y.cap])∧W.rangeAt gA (k*6) [.int .i64 x2.k,.bool x2.b,.int .i64 x2.n,.string x2.t,.string x2.x,.slice x2.p x2.len x2.cap]∧W.rangeAt gB (k*6) [.int .i64 y2.k,.bool y2.b,.int .i64 y2.n,.string y2.t,.string y2.x,.slice y2.p y2.len y2.cap]) (by kernel_rfl) ⟨⟨ra,rb⟩,rak,rbk⟩ (fun hHeld=>?_)
           refine tg (i:=0) (.slice (some ⟨gA,0,none⟩) 3 3) rfl hHeld ?_
           refine tg (i:=1) (.int .i64 (k:Int)) rfl hHeld ?_
           refine tg (i:=2) (.pointer (some ⟨gA,k*6,none⟩)) rfl hHeld ?_
           refine tg (i:=3) (.pointer (some ⟨gA,k*6,none⟩)) rfl hHeld ?_
           refine tk (i:=4) (v:=.int .i64 x2.k) rfl (Or.inl ⟨by rfl,fun W h=>by have c0:W.cell? ⟨gA,k*6,none⟩=some (.int .i64 x2.k):=h.2.1 0 _ rfl;go_simp⟩) hHeld ?_
           refine tg (i:=5) (.bool true) rfl hHeld ?_
           refine tg (i:=6) (.bool true) rfl hHeld ?_
           refine tg (i:=7) (.slice (some ⟨gA,0,none⟩) 3 3) rfl hHeld ?_
           refine tg (i:=8) (.int .i64 (i:Int)) rfl hHeld ?_
           refine tg (i:=9) (.pointer (some ⟨gA,i*6,none⟩)) rfl hHeld ?_
           refine tg (i:=10) (.pointer (some ⟨gA,i*6+3,none⟩)) rfl hHeld ?_
           refine tk (i:=11) (v:=.string x.t) rfl (Or.inl ⟨by rfl,fun W h=>by have c0:W.cell? ⟨gA,i*6+3,none⟩=some (.string x.t):=h.1.1 3 _ rfl;go_simp⟩) hHeld ?_
           refine tk (i:=12) (v:=.bool true) rfl (Or.inl ⟨by rfl,fun W _=>by go_simp;exact HNE.out⟩) hHeld ?_
           refine tg (i:=13) (.bool true) rfl hHeld ?_
           refine tg (i:=14) (.bool true) rfl hHeld ?_
           refine tg (i:=15) (.slice (some ⟨gA,0,none⟩) 3 3) rfl hHeld ?_
           refine tg (i:=16) (.int .i64 (k:Int)) rfl hHeld ?_
           refine tg (i:=17) (.pointer (some ⟨gA,k*6,none⟩)) rfl hHeld ?_
           refine tg (i:=18) (.pointer (some ⟨gA,k*6+3,none⟩)) rfl hHeld ?_
           refine tk (i:=19) (v:=.string x2.t) rfl (Or.inl ⟨by rfl,fun W h=>by have c0:W.cell? ⟨gA,k*6+3,none⟩=some (.string x2.t):=h.2.1 3 _ rfl;go_simp⟩) hHeld ?_
           refine tg (i:=20) (.slice (some ⟨gA,0,none⟩) 3 3) rfl hHeld ?_
           refine tg (i:=21) (.int .i64 (i:Int)) rfl hHeld ?_
           refine tg (i:=22) (.pointer (some ⟨gA,i*6,none⟩)) rfl hHeld ?_
           refine tg (i:=23) (.pointer (some ⟨gA,i*6+3,none⟩)) rfl hHeld ?_
           refine tk (i:=24) (v:=.string x.t) rfl (Or.inl ⟨by rfl,fun W h=>by have c0:W.cell? ⟨gA,i*6+3,none⟩=some (.string x.t):=h.1.1 3 _ rfl;go_simp⟩) hHeld ?_
           refine tg (i:=25) (.bool true) rfl hHeld ?_
           refine tg (i:=26) (.bool true) rfl hHeld ?_
           refine tg (i:=27) (.bool true) rfl hHeld ?_
           refine tg (i:=28) (.slice (some ⟨gB,0,none⟩) 3 3) rfl hHeld ?_
           refine tg (i:=29) (.int .i64 (k:Int)) rfl hHeld ?_
           refine tg (i:=30) (.pointer (some ⟨gB,k*6,none⟩)) rfl hHeld ?_
           refine tk (i:=31) rfl (yieldsIf_load_mid (by rfl) 39 (.tmp 78) rfl (gB) (k*6) rfl [.int .i64 y2.k,.bool y2.b,.int .i64 y2.n,.string y2.t,.string y2.x,.slice y2.p y2.len y2.cap] _ (fun W h=>h.2.2) Tryz.underlying39 rfl zav) hHeld ?_
           refine tg (i:=32) (.slice (some ⟨gB,0,none⟩) 3 3) rfl hHeld ?_
           refine tg (i:=33) (.int .i64 (i:Int)) rfl hHeld ?_
           refine tg (i:=34) (.pointer (some ⟨gB,i*6,none⟩)) rfl hHeld ?_
           refine tk (i:=35) rfl (yieldsIf_load_mid (by rfl) 39 (.tmp 82) rfl (gB) (i*6) rfl [.int .i64 y.k,.bool y.b,.int .i64 y.n,.string y.t,.string y.x,.slice y.p y.len y.cap] _ (fun W h=>h.1.2) Tryz.underlying39 rfl zav) hHeld ?_
           refine tr 36 rfl (fun K hK=>?_)
           rw [if_pos (by rfl)]
           go_simp
           refine (HC.out _ L0).mono ?_
           rintro e9 w9 ⟨rfl,hb9⟩
           have hHeld9:(_∧_)∧_∧_:=⟨⟨zaf hHeld.1.1 hb9,zaf hHeld.1.2 hb9⟩,zaf hHeld.2.1 hb9,zaf hHeld.2.2 hb9⟩
           have L9:=L0.trans (hb9.mono L0.size)
           clear hb9
           refine hK.out _ _ hHeld9 (fun _=>?_)
           clear hK K
           try simp only [putS]
           refine tg (i:=37) (.bool true) rfl hHeld9 ?_
           refine tg (i:=38) (.bool true) rfl hHeld9 ?_
           refine wpAnyH_done (by kernel_rfl) ?_ _
           have HBF:Hid (Below w.heap.size w w9):=Lib.hid (HB2.out.trans ((HB.out.trans (L9.mono HB.out.size)).mono HB2.out.size))
           have hno:Hid (RR=false):=Lib.hid <| HRR.out.trans <| show zf4 v0 v1 v2 u0 u1 u2 ⟨t0,t1,t2⟩=false from zx0 i hi3 (.inr ⟨k,by omega,by
            rw [← HX.out,← HX2.out]
            unfold twD zd8
            rw [← HR.out]
            have hne:=HNE.out
            have hk:=HK.out
            have h1:=H1.out
            simp [hk,h1,h3,hne]⟩)
           clear hHeld hHeld9 L9 L0 ra rb rak rbk
           go_wp2_with fail
           go_ret
           exact ⟨by rw [hno.out];rfl,HBF.out⟩
        ·have HNT:Hid (¬ x2.t.toList=x.t.toList):=Lib.hid fun e=>h3 (zti e)
         clear h3
         go_upto_region 12 with fail
         have L0:Below wr.heap.size wr wr.drew:=(Below.refl _ _).drew
         refine wp_region_held_drew (S:=fun W=>(W.rangeAt gA (i*6) [.int .i64 x.k,.bool x.b,.int .i64 x.n,.string x.t,.string x.x,.slice x.p x.len x.cap]∧W.rangeAt gB (i*6) [.int .i64 y.k,.bool y.b,.int .i64 y.n,.string y.t,.string y.x,.slice y.p y.len y.cap])∧W.rangeAt gA (k*6) [.int .i64 x2.k,.bool x2.b,.int .i64 x2.n,.string x2.t,.string x2.x,.slice x2.p x2.len x2.cap]∧W.rangeAt gB (k*6) [.int .i64 y2.k,.bool y2.b,.int .i64 y2.n,.string y2.t,.string y2.x,.slice y2.p y2.len y2.cap]) (by kernel_rfl) ⟨⟨ra,rb⟩,rak,rbk⟩ (fun hHeld=>?_)
         refine tg (i:=0) (.slice (some ⟨gA,0,none⟩) 3 3) rfl hHeld ?_
         refine tg (i:=1) (.int .i64 (k:Int)) rfl hHeld ?_
         refine tg (i:=2) (.pointer (some ⟨gA,k*6,none⟩)) rfl hHeld ?_
         refine tg (i:=3) (.pointer (some ⟨gA,k*6,none⟩)) rfl hHeld ?_
         refine tk (i:=4) (v:=.int .i64 x2.k) rfl (Or.inl ⟨by rfl,fun W h=>by have c0:W.cell? ⟨gA,k*6,none⟩=some (.int .i64 x2.k):=h.2.1 0 _ rfl;go_simp⟩) hHeld ?_
         refine tg (i:=5) (.bool true) rfl hHeld ?_
         refine tg (i:=6) (.bool true) rfl hHeld ?_
         refine tg (i:=7) (.slice (some ⟨gA,0,none⟩) 3 3) rfl hHeld ?_
         refine tg (i:=8) (.int .i64 (i:Int)) rfl hHeld ?_
         refine tg (i:=9) (.pointer (some ⟨gA,i*6,none⟩)) rfl hHeld ?_
         refine tg (i:=10) (.pointer (some ⟨gA,i*6+3,none⟩)) rfl hHeld ?_
         refine tk (i:=11) (v:=.string x.t) rfl (Or.inl ⟨by rfl,fun W h=>by have c0:W.cell? ⟨gA,i*6+3,none⟩=some (.string x.t):=h.1.1 3 _ rfl;go_simp⟩) hHeld ?_
         refine tk (i:=12) (v:=.bool true) rfl (Or.inl ⟨by rfl,fun W _=>by go_simp;exact HNE.out⟩) hHeld ?_
         refine tg (i:=13) (.bool true) rfl hHeld ?_
         refine tg (i:=14) (.bool true) rfl hHeld ?_
         refine tg (i:=15) (.slice (some ⟨gA,0,none⟩) 3 3) rfl hHeld ?_
         refine tg (i:=16) (.int .i64 (k:Int)) rfl hHeld ?_
         refine tg (i:=17) (.pointer (some ⟨gA,k*6,none⟩)) rfl hHeld ?_
         refine tg (i:=18) (.pointer (some ⟨gA,k*6+3,none⟩)) rfl hHeld ?_
         refine tk (i:=19) (v:=.string x2.t) rfl (Or.inl ⟨by rfl,fun W h=>by have c0:W.cell? ⟨gA,k*6+3,none⟩=some (.string x2.t):=h.2.1 3 _ rfl;go_simp⟩) hHeld ?_
         refine tg (i:=20) (.slice (some ⟨gA,0,none⟩) 3 3) rfl hHeld ?_
         refine tg (i:=21) (.int .i64 (i:Int)) rfl hHeld ?_
         refine tg (i:=22) (.pointer (some ⟨gA,i*6,none⟩)) rfl hHeld ?_
         refine tg (i:=23) (.pointer (some ⟨gA,i*6+3,none⟩)) rfl hHeld ?_
         refine tk (i:=24) (v:=.string x.t) rfl (Or.inl ⟨by rfl,fun W h=>by have c0:W.cell? ⟨gA,i*6+3,none⟩=some (.string x.t):=h.1.1 3 _ rfl;go_simp⟩) hHeld ?_
         refine tk (i:=25) (v:=.bool false) rfl (Or.inl ⟨by rfl,fun W _=>by go_simp;exact HNT.out⟩) hHeld ?_
         refine tg (i:=26) (.bool false) rfl hHeld ?_
         refine tg (i:=27) (.bool false) rfl hHeld ?_
         refine tn (i:=28) rfl hHeld ?_
         refine tn (i:=29) rfl hHeld ?_
         refine tn (i:=30) rfl hHeld ?_
         refine tn (i:=31) rfl hHeld ?_
         refine tn (i:=32) rfl hHeld ?_
         refine tn (i:=33) rfl hHeld ?_
         refine tn (i:=34) rfl hHeld ?_
         refine tn (i:=35) rfl hHeld ?_
         refine tn (i:=36) rfl hHeld ?_
         refine tn (i:=37) rfl hHeld ?_
         refine tg (i:=38) (.bool false) rfl hHeld ?_
         refine wpAnyH_done (by kernel_rfl) ?_ _
         have HB2:Hid (Below W2.heap.size W2 wr.drew):=Lib.hid (HB.out.drew)
         have HT2:Hid (∀ k',k' < k+1→twD (v3f v0 v1 v2 k') x (u3 t0 t1 t2 k') (u3 t0 t1 t2 i)=false):=Lib.hid fun k' h=>by
          by_cases e:k'=k
          ·subst e
           rw [← HX2.out]
           unfold twD zd8
           rw [show (x.t.toList == x2.t.toList)=false from beq_eq_false_iff_ne.2 fun e=>HNT.out e.symm]
           simp
          ·exact HT.out k' (by omega)
         clear hHeld
         go_wp2_with fail
         go_roundg (i - (k+1))
         case measure=>omega
         case rel=>exact ⟨k+1,by omega,by go_num,HB2,HT2⟩
      ·have h1b:(x2.k == (0:Int))=false:=by simp [h1]
       have H1:=Lib.hid h1
       clear h1
       go_upto_region 12 with fail
       have L0:Below wr.heap.size wr wr.drew:=(Below.refl _ _).drew
       refine wp_region_held_drew (S:=fun W=>(W.rangeAt gA (i*6) [.int .i64 x.k,.bool x.b,.int .i64 x.n,.string x.t,.string x.x,.slice x.p x.len x.cap]∧W.rangeAt gB (i*6) [.int .i64 y.k,.bool y.b,.int .i64 y.n,.string y.t,.string y.x,.slice y.p y.len y.cap])∧W.rangeAt gA (k*6) [.int .i64 x2.k,.bool x2.b,.int .i64 x2.n,.string x2.t,.string x2.x,.slice x2.p x2.len x2.cap]∧W.rangeAt gB (k*6) [.int .i64 y2.k,.bool y2.b,.int .i64 y2.n,.string y2.t,.string y2.x,.slice y2.p y2.len y2.cap]) (by kernel_rfl) ⟨⟨ra,rb⟩,rak,rbk⟩ (fun hHeld=>?_)
       refine tg (i:=0) (.slice (some ⟨gA,0,none⟩) 3 3) rfl hHeld ?_
       refine tg (i:=1) (.int .i64 (k:Int)) rfl hHeld ?_
       refine tg (i:=2) (.pointer (some ⟨gA,k*6,none⟩)) rfl hHeld ?_
       refine tg (i:=3) (.pointer (some ⟨gA,k*6,none⟩)) rfl hHeld ?_
       refine tk (i:=4) (v:=.int .i64 x2.k) rfl (Or.inl ⟨by rfl,fun W h=>by have c0:W.cell? ⟨gA,k*6,none⟩=some (.int .i64 x2.k):=h.2.1 0 _ rfl;go_simp⟩) hHeld ?_
       refine tg (i:=5) (.bool false) rfl hHeld ?_
       refine tg (i:=6) (.bool false) rfl hHeld ?_
       refine tn (i:=7) rfl hHeld ?_
       refine tn (i:=8) rfl hHeld ?_
       refine tn (i:=9) rfl hHeld ?_
       refine tn (i:=10) rfl hHeld ?_
       refine tn (i:=11) rfl hHeld ?_
       refine tn (i:=12) rfl hHeld ?_
       refine tg (i:=13) (.bool false) rfl hHeld ?_
       refine tg (i:=14) (.bool false) rfl hHeld ?_
       refine tn (i:=15) rfl hHeld ?_
       refine tn (i:=16) rfl hHeld ?_
       refine tn (i:=17) rfl hHeld ?_
       refine tn (i:=18) rfl hHeld ?_
       refine tn (i:=19) rfl hHeld ?_
       refine tn (i:=20) rfl hHeld ?_
       refine tn (i:=21) rfl hHeld ?_
       refine tn (i:=22) rfl hHeld ?_
       refine tn (i:=23) rfl hHeld ?_
       refine tn (i:=24) rfl hHeld ?_
       refine tn (i:=25) rfl hHeld ?_
       refine tg (i:=26) (.bool false) rfl hHeld ?_
       refine tg (i:=27) (.bool false) rfl hHeld ?_
       refine tn (i:=28) rfl hHeld ?_
       refine tn (i:=29) rfl hHeld ?_
       refine tn (i:=30) rfl hHeld ?_
       refine tn (i:=31) rfl hHeld ?_
       refine tn (i:=32) rfl hHeld ?_
       refine tn (i:=33) rfl hHeld ?_
       refine tn (i:=34) rfl hHeld ?_
       refine tn (i:=35) rfl hHeld ?_
       refine tn (i:=36) rfl hHeld ?_
       refine tn (i:=37) rfl hHeld ?_
       refine tg (i:=38) (.bool false) rfl hHeld ?_
       refine wpAnyH_done (by kernel_rfl) ?_ _
       have HB2:Hid (Below W2.heap.size W2 wr.drew):=Lib.hid (HB.out.drew)
       have HT2:Hid (∀ k',k' < k+1→twD (v3f v0 v1 v2 k') x (u3 t0 t1 t2 k') (u3 t0 t1 t2 i)=false):=Lib.hid fun k' h=>by
        by_cases e:k'=k
        ·subst e
         rw [← HX2.out]
         unfold twD zd8
         have h1:=H1.out
         simp [h1]
        ·exact HT.out k' (by omega)
       clear hHeld
       go_wp2_with fail
       go_roundg (i - (k+1))
       case measure=>omega
       case rel=>exact ⟨k+1,by omega,by go_num,HB2,HT2⟩
     ·have hki:k=i:=by omega
      have HA2:Hid (∀ i',i' < i+1→((v3f v0 v1 v2 i').k=0∨za7 (u3 u0 u1 u2 i') (u3 t0 t1 t2 i')=true)∧∀ k,k < i'→twD (v3f v0 v1 v2 k) (v3f v0 v1 v2 i') (u3 t0 t1 t2 k) (u3 t0 t1 t2 i')=false):=Lib.hid fun i' h=>by
       by_cases e:i'=i
       ·subst e
        rw [← HX.out]
        exact ⟨.inl HK.out,fun k' hk'=>HT.out k' (by omega)⟩
       ·exact HA.out i' (by omega)
      clear ra rb
      go_wp2_with fail
      go_roundg (3 - (i+1))
      case measure=>omega
      case rel=>exact ⟨i+1,by omega,by go_num,HB,HA2⟩
   ·have hkb:(x.k != (0:Int))=true:=by simp [hk]
    have HK:=Lib.hid hk
    clear hk
    obtain ⟨r,hr⟩:∃ r,r=za7 (u3 u0 u1 u2 i) (u3 t0 t1 t2 i):=⟨_,rfl⟩
    have HC:Hid (∀ W,Below wr.heap.size wr W→Calls Tryz.prog 32 #[.agg #[.int .i64 x.k,.bool x.b,.int .i64 x.n,.string x.t,.string x.x,.slice x.p x.len x.cap],.agg #[.int .i64 y.k,.bool y.b,.int .i64 y.n,.string y.t,.string y.x,.slice y.p y.len y.cap]] W fun e w'=>e=.returned (.bool r)∧Below W.heap.size W w'):=Lib.hid fun W hb=>by
     rw [hr]
     exact zpv x y _ _ _ _ W (ix.below hb) (iy.below hb)
    have HR:=Lib.hid hr
    clear hr ix iy
    cases r with
    | true=>
      go_upto_region 7 with fail
      have L0:Below wr.heap.size wr wr.drew:=(Below.refl _ _).drew
      refine wp_region_held_drew (S:=fun W=>W.rangeAt gA (i*6) [.int .i64 x.k,.bool x.b,.int .i64 x.n,.string x.t,.string x.x,.slice x.p x.len x.cap]∧W.rangeAt gB (i*6) [.int .i64 y.k,.bool y.b,.int .i64 y.n,.string y.t,.string y.x,.slice y.p y.len y.cap]) (by kernel_rfl) ⟨ra,rb⟩ (fun hHeld=>?_)
      refine tg (i:=0) (.slice (some ⟨gA,0,none⟩) 3 3) rfl hHeld ?_
      refine tg (i:=1) (.int .i64 (i:Int)) rfl hHeld ?_
      refine tg (i:=2) (.pointer (some ⟨gA,i*6,none⟩)) rfl hHeld ?_
      refine tk (i:=3) rfl (yieldsIf_load_mid (by rfl) 39 (.tmp 35) rfl (gA) (i*6) rfl [.int .i64 x.k,.bool x.b,.int .i64 x.n,.string x.t,.string x.x,.slice x.p x.len x.cap] _ (fun W h=>h.1) Tryz.underlying39 rfl zav) hHeld ?_
      refine tg (i:=4) (.slice (some ⟨gB,0,none⟩) 3 3) rfl hHeld ?_
      refine tg (i:=5) (.int .i64 (i:Int)) rfl hHeld ?_
      refine tg (i:=6) (.pointer (some ⟨gB,i*6,none⟩)) rfl hHeld ?_
      refine tk (i:=7) rfl (yieldsIf_load_mid (by rfl) 39 (.tmp 39) rfl (gB) (i*6) rfl [.int .i64 y.k,.bool y.b,.int .i64 y.n,.string y.t,.string y.x,.slice y.p y.len y.cap] _ (fun W h=>h.2) Tryz.underlying39 rfl zav) hHeld ?_
      refine tr 8 rfl (fun K hK=>?_)
      rw [if_pos (by rfl)]
      go_simp
      refine (HC.out _ L0).mono ?_
      rintro e9 w9 ⟨rfl,hb9⟩
      have hHeld9:_∧_:=⟨zaf hHeld.1 hb9,zaf hHeld.2 hb9⟩
      have L9:=L0.trans (hb9.mono L0.size)
      clear hb9
      refine hK.out _ _ hHeld9 (fun _=>?_)
      clear hK K
      try simp only [putS]
      refine tg (i:=9) (.bool false) rfl hHeld9 ?_
      refine wpAnyH_done (by kernel_rfl) ?_ _
      have HB3:Hid (Below W2.heap.size W2 w9):=Lib.hid (HB.out.trans (L9.mono HB.out.size))
      have HA2:Hid (∀ i',i' < i+1→((v3f v0 v1 v2 i').k=0∨za7 (u3 u0 u1 u2 i') (u3 t0 t1 t2 i')=true)∧∀ k,k < i'→twD (v3f v0 v1 v2 k) (v3f v0 v1 v2 i') (u3 t0 t1 t2 k) (u3 t0 t1 t2 i')=false):=Lib.hid fun i' h=>by
       by_cases e:i'=i
       ·subst e
        rw [← HX.out]
        exact ⟨.inr HR.out.symm,fun k' hk'=>by have hk:=HK.out;unfold twD zd8;simp [hk]⟩
       ·exact HA.out i' (by omega)
      clear hHeld hHeld9 L9 L0 ra rb c0
      go_wp2_with fail
      go_roundg (3 - (i+1))
      case measure=>omega
      case rel=>exact ⟨i+1,by omega,by go_num,HB3,HA2⟩
    | false=>
      go_upto_region 7 with fail
      have L0:Below wr.heap.size wr wr.drew:=(Below.refl _ _).drew
      refine wp_region_held_drew (S:=fun W=>W.rangeAt gA (i*6) [.int .i64 x.k,.bool x.b,.int .i64 x.n,.string x.t,.string x.x,.slice x.p x.len x.cap]∧W.rangeAt gB (i*6) [.int .i64 y.k,.bool y.b,.int .i64 y.n,.string y.t,.string y.x,.slice y.p y.len y.cap]) (by kernel_rfl) ⟨ra,rb⟩ (fun hHeld=>?_)
      refine tg (i:=0) (.slice (some ⟨gA,0,none⟩) 3 3) rfl hHeld ?_
      refine tg (i:=1) (.int .i64 (i:Int)) rfl hHeld ?_
      refine tg (i:=2) (.pointer (some ⟨gA,i*6,none⟩)) rfl hHeld ?_
      refine tk (i:=3) rfl (yieldsIf_load_mid (by rfl) 39 (.tmp 35) rfl (gA) (i*6) rfl [.int .i64 x.k,.bool x.b,.int .i64 x.n,.string x.t,.string x.x,.slice x.p x.len x.cap] _ (fun W h=>h.1) Tryz.underlying39 rfl zav) hHeld ?_
      refine tg (i:=4) (.slice (some ⟨gB,0,none⟩) 3 3) rfl hHeld ?_
      refine tg (i:=5) (.int .i64 (i:Int)) rfl hHeld ?_
      refine tg (i:=6) (.pointer (some ⟨gB,i*6,none⟩)) rfl hHeld ?_
      refine tk (i:=7) rfl (yieldsIf_load_mid (by rfl) 39 (.tmp 39) rfl (gB) (i*6) rfl [.int .i64 y.k,.bool y.b,.int .i64 y.n,.string y.t,.string y.x,.slice y.p y.len y.cap] _ (fun W h=>h.2) Tryz.underlying39 rfl zav) hHeld ?_
      refine tr 8 rfl (fun K hK=>?_)
      rw [if_pos (by rfl)]
      go_simp
      refine (HC.out _ L0).mono ?_
      rintro e9 w9 ⟨rfl,hb9⟩
      have hHeld9:_∧_:=⟨zaf hHeld.1 hb9,zaf hHeld.2 hb9⟩
      have L9:=L0.trans (hb9.mono L0.size)
      clear hb9
      refine hK.out _ _ hHeld9 (fun _=>?_)
      clear hK K
      try simp only [putS]
      refine tg (i:=9) (.bool true) rfl hHeld9 ?_
      refine wpAnyH_done (by kernel_rfl) ?_ _
      have HBF:Hid (Below w.heap.size w w9):=Lib.hid (HB2.out.trans ((HB.out.trans (L9.mono HB.out.size)).mono HB2.out.size))
      have hno:Hid (RR=false):=Lib.hid <| HRR.out.trans <| show zf4 v0 v1 v2 u0 u1 u2 ⟨t0,t1,t2⟩=false from zx0 i hi3 (.inl ⟨by rw [← HX.out];exact HK.out,HR.out.symm⟩)
      clear hHeld hHeld9 L9 L0 ra rb c0
      go_wp2_with fail
      go_ret
      exact ⟨by rw [hno.out];rfl,HBF.out⟩
  ·have hyes:Hid (RR=true):=Lib.hid <| HRR.out.trans <| show zf4 v0 v1 v2 u0 u1 u2 ⟨t0,t1,t2⟩=true from zz4 fun i' h=>HA.out i' (by omega)
   have HBF:Hid (Below w.heap.size w wr):=Lib.hid (HB2.out.trans (HB.out.mono HB2.out.size))
   go_wp2_with fail
   go_ret
   exact ⟨by rw [hyes.out];rfl,HBF.out⟩
end Go.Proofs.YtanbgdhmfjgihaaGreatDoor
