/- Texts of one kind, one behind the other: each says ahead of itself what it shows. -/
import Derived.Test.YtoifjjgakblhhaaGreatDoorHan
import Derived.Test.YtoifjjgakblhhaaGreatDoorHav
import Derived.Test.YtoifjjgakblhhaaGreatDoorHai
import Derived.Deep.LoopGhost
/- The document's own equality in S, whole. -/
namespace Go.Proofs.YtoifjjgakblhhaaGreatDoor
open Go.RowKit

set_option maxRecDepth 20000 in
set_option maxHeartbeats 12800000 in
theorem equalSSame (k : Int) (b : Bool) (n : Int) (t x : ByteArray) (q : List Val) (p : Option Addr) (cap : Nat) (k2 : Int) (b2 : Bool) (n2 : Int) (t2 x2 : ByteArray) (q2 : List Val) (p2 : Option Addr) (cap2 : Nat) (w : World) (r : Bool) (hr : r = true) (e5 : (k == 5) = false) (e6 : (k == 6) = false) (e7 : (k == 7) = false) (g5 : (k2 == 5) = false) (g6 : (k2 == 6) = false) (g7 : (k2 == 7) = false)
    (hs : ∀ W, Below w.heap.size w W → Calls Tryz.prog 18 #[.agg #[.int .i64 k, .bool b, .int .i64 n, .string t, .string x, .slice p q.length cap], .agg #[.int .i64 k2, .bool b2, .int .i64 n2, .string t2, .string x2, .slice p2 q2.length cap2]] W fun e w' => e = .returned (.bool r) ∧ Below W.heap.size W w') :
    Calls Tryz.prog 49 #[.agg #[.int .i64 k, .bool b, .int .i64 n, .string t, .string x, .slice p q.length cap], .agg #[.int .i64 k2, .bool b2, .int .i64 n2, .string t2, .string x2, .slice p2 q2.length cap2]] w fun e w' => e = .returned (.int .i64 1) ∧ Below w.heap.size w w' := by
  obtain ⟨W0, hW0⟩ : ∃ W0, W0 = (w.alloc (.cells #[.int .i64 k, .bool b, .int .i64 n, .string t, .string x, .slice p q.length cap] 28)).alloc (.cells #[.int .i64 k2, .bool b2, .int .i64 n2, .string t2, .string x2, .slice p2 q2.length cap2] 28) := ⟨_, rfl⟩
  have S4 : Six W0 w.heap.size k b n t x p q.length cap := by rw [hW0]; exact (six_new _ rfl).alloc _
  have S5 : Six W0 (w.heap.size + 1) k2 b2 n2 t2 x2 p2 q2.length cap2 := by rw [hW0]; exact six_new _ (by simp)
  have b0 : Below w.heap.size w W0 := by rw [hW0]; exact below2 _ _ _
  have hz0 : W0.heap.size = w.heap.size + 1 + 1 := by rw [hW0]; simp
  have H0 := Lib.hid hW0
  have HZ := Lib.hid hz0
  have HS := Lib.hid hs
  clear hW0 hs hz0
  go_enter Tryz.func49, Tryz.ntmps49
  go_wp2_with fail
  rw [← H0.out]
  have T4 := S4.alloc (.cells #[.int .i64 5, .int .i64 6, .int .i64 7] 3)
  have T5 := S5.alloc (.cells #[.int .i64 5, .int .i64 6, .int .i64 7] 3)
  have bT := b0.alloc b0.size (.cells #[.int .i64 5, .int .i64 6, .int .i64 7] 3)
  go_loopg [11] 3 (fun gg s11 wr => ∃ j : Nat, j + gg = 3 ∧ s11 = .int .i64 j ∧ Six wr w.heap.size k b n t x p q.length cap ∧ Six wr (w.heap.size + 1) k2 b2 n2 t2 x2 p2 q2.length cap2 ∧ Below w.heap.size w wr ∧ wr.cell? ⟨w.heap.size + 1 + 1, 0, none⟩ = some (.int .i64 5) ∧ wr.cell? ⟨w.heap.size + 1 + 1, 1, none⟩ = some (.int .i64 6) ∧ wr.cell? ⟨w.heap.size + 1 + 1, 2, none⟩ = some (.int .i64 7))
  case atStart => exact ⟨0, by omega, rfl, T4, T5, bT, by rw [← HZ.out]; simp, by rw [← HZ.out]; simp, by rw [← HZ.out]; simp⟩
  case round =>
    obtain ⟨j, hjg, rfl, S4, S5, b0, h0, h1, h2⟩ := hrel
    subst hr
    have f0 := S4.c0
    have g0 := S5.c0
    rcases (show j = 0 ∨ j = 1 ∨ j = 2 ∨ j = 3 by omega) with rfl | rfl | rfl | rfl
    · go_wp2_with fail
      go_roundg (gk - 1)
      case measure => omega
      case rel => exact ⟨1, by omega, by go_num, S4, S5, b0, h0, h1, h2⟩
    · go_wp2_with fail
      go_roundg (gk - 1)
      case measure => omega
      case rel => exact ⟨2, by omega, by go_num, S4, S5, b0, h0, h1, h2⟩
    · go_wp2_with fail
      go_roundg (gk - 1)
      case measure => omega
      case rel => exact ⟨3, by omega, by go_num, S4, S5, b0, h0, h1, h2⟩
    · clear T4 T5 bT h0 h1 h2
      go_wp2_with (first | ((with_reducible refine wpList_load6 (.tmp 2) w.heap.size S4 ?_ ?_ ?_ ?_); rfl; rfl; rfl) | ((with_reducible refine wpList_load6 (.tmp 3) (w.heap.size + 1) S5 ?_ ?_ ?_ ?_); rfl; rfl; rfl) | (go_at_call 18; (with_reducible refine (HS.out _ b0).mono ?_); rintro e w' ⟨rfl, hb⟩; replace S4 := S4.below hb; replace S5 := S5.below hb; replace b0 := below_any b0 hb b0.size; have f0 := S4.c0; have g0 := S5.c0; clear hb))
      go_ret
      exact ⟨rfl, b0⟩

set_option maxRecDepth 20000 in
set_option maxHeartbeats 12800000 in
theorem equalSGraph (k : Int) (b : Bool) (n : Int) (t x : ByteArray) (q : List Val) (p : Option Addr) (cap : Nat) (k2 : Int) (b2 : Bool) (n2 : Int) (t2 x2 : ByteArray) (q2 : List Val) (p2 : Option Addr) (cap2 : Nat) (w : World) (r : Bool) (hg : graphB k = true ∨ graphB k2 = true)
    (hs : ∀ W, Below w.heap.size w W → Calls Tryz.prog 18 #[.agg #[.int .i64 k, .bool b, .int .i64 n, .string t, .string x, .slice p q.length cap], .agg #[.int .i64 k2, .bool b2, .int .i64 n2, .string t2, .string x2, .slice p2 q2.length cap2]] W fun e w' => e = .returned (.bool r) ∧ Below W.heap.size W w') :
    Calls Tryz.prog 49 #[.agg #[.int .i64 k, .bool b, .int .i64 n, .string t, .string x, .slice p q.length cap], .agg #[.int .i64 k2, .bool b2, .int .i64 n2, .string t2, .string x2, .slice p2 q2.length cap2]] w fun e w' => e = .returned (.int .i64 2) ∧ Below w.heap.size w w' := by
  obtain ⟨W0, hW0⟩ : ∃ W0, W0 = (w.alloc (.cells #[.int .i64 k, .bool b, .int .i64 n, .string t, .string x, .slice p q.length cap] 28)).alloc (.cells #[.int .i64 k2, .bool b2, .int .i64 n2, .string t2, .string x2, .slice p2 q2.length cap2] 28) := ⟨_, rfl⟩
  have S4 : Six W0 w.heap.size k b n t x p q.length cap := by rw [hW0]; exact (six_new _ rfl).alloc _
  have S5 : Six W0 (w.heap.size + 1) k2 b2 n2 t2 x2 p2 q2.length cap2 := by rw [hW0]; exact six_new _ (by simp)
  have b0 : Below w.heap.size w W0 := by rw [hW0]; exact below2 _ _ _
  have hz0 : W0.heap.size = w.heap.size + 1 + 1 := by rw [hW0]; simp
  have H0 := Lib.hid hW0
  have HZ := Lib.hid hz0
  have HS := Lib.hid hs
  have HG := Lib.hid hg
  clear hg
  clear hW0 hs hz0
  go_enter Tryz.func49, Tryz.ntmps49
  go_wp2_with fail
  rw [← H0.out]
  have T4 := S4.alloc (.cells #[.int .i64 5, .int .i64 6, .int .i64 7] 3)
  have T5 := S5.alloc (.cells #[.int .i64 5, .int .i64 6, .int .i64 7] 3)
  have bT := b0.alloc b0.size (.cells #[.int .i64 5, .int .i64 6, .int .i64 7] 3)
  go_loopg [11] 3 (fun gg s11 wr => ∃ j : Nat, j + gg = 3 ∧ s11 = .int .i64 j ∧ Six wr w.heap.size k b n t x p q.length cap ∧ Six wr (w.heap.size + 1) k2 b2 n2 t2 x2 p2 q2.length cap2 ∧ Below w.heap.size w wr ∧ wr.cell? ⟨w.heap.size + 1 + 1, 0, none⟩ = some (.int .i64 5) ∧ wr.cell? ⟨w.heap.size + 1 + 1, 1, none⟩ = some (.int .i64 6) ∧ wr.cell? ⟨w.heap.size + 1 + 1, 2, none⟩ = some (.int .i64 7) ∧ Hid (∀ i : Nat, i < j → k ≠ 5 + (i : Int) ∧ k2 ≠ 5 + (i : Int)))
  case atStart => exact ⟨0, by omega, rfl, T4, T5, bT, by rw [← HZ.out]; simp, by rw [← HZ.out]; simp, by rw [← HZ.out]; simp, Lib.hid (fun i hi => absurd hi (by omega))⟩
  case round =>
    obtain ⟨j, hjg, rfl, S4, S5, b0, h0, h1, h2, HJ⟩ := hrel
    have f0 := S4.c0
    have g0 := S5.c0
    clear T4 T5 bT
    rcases (show j = 0 ∨ j = 1 ∨ j = 2 ∨ j = 3 by omega) with rfl | rfl | rfl | rfl
    · have hj2 := HJ.out
      by_cases ha : k = 5
      · have ea : (k == 5) = true := by simp [ha]
        clear ha
        go_wp2_with fail
        go_ret
        exact ⟨rfl, b0⟩
      · have ea : (k == 5) = false := by simpa using ha
        by_cases hb : k2 = 5
        · have eb : (k2 == 5) = true := by simp [hb]
          clear ha hb
          go_wp2_with fail
          go_ret
          exact ⟨rfl, b0⟩
        · have eb : (k2 == 5) = false := by simpa using hb
          have HN : Hid (∀ i : Nat, i < 1 → k ≠ 5 + (i : Int) ∧ k2 ≠ 5 + (i : Int)) := Lib.hid fun i hi => by
            rcases (show i < 0 ∨ i = 0 by omega) with h | rfl
            · exact hj2 i h
            · exact ⟨by omega, by omega⟩
          clear ha hb hj2
          go_wp2_with fail
          go_roundg (gk - 1)
          case measure => omega
          case rel => exact ⟨1, by omega, by go_num, S4, S5, b0, h0, h1, h2, HN⟩
    · have hj2 := HJ.out
      by_cases ha : k = 6
      · have ea : (k == 6) = true := by simp [ha]
        clear ha
        go_wp2_with fail
        go_ret
        exact ⟨rfl, b0⟩
      · have ea : (k == 6) = false := by simpa using ha
        by_cases hb : k2 = 6
        · have eb : (k2 == 6) = true := by simp [hb]
          clear ha hb
          go_wp2_with fail
          go_ret
          exact ⟨rfl, b0⟩
        · have eb : (k2 == 6) = false := by simpa using hb
          have HN : Hid (∀ i : Nat, i < 2 → k ≠ 5 + (i : Int) ∧ k2 ≠ 5 + (i : Int)) := Lib.hid fun i hi => by
            rcases (show i < 1 ∨ i = 1 by omega) with h | rfl
            · exact hj2 i h
            · exact ⟨by omega, by omega⟩
          clear ha hb hj2
          go_wp2_with fail
          go_roundg (gk - 1)
          case measure => omega
          case rel => exact ⟨2, by omega, by go_num, S4, S5, b0, h0, h1, h2, HN⟩
    · have hj2 := HJ.out
      by_cases ha : k = 7
      · have ea : (k == 7) = true := by simp [ha]
        clear ha
        go_wp2_with fail
        go_ret
        exact ⟨rfl, b0⟩
      · have ea : (k == 7) = false := by simpa using ha
        by_cases hb : k2 = 7
        · have eb : (k2 == 7) = true := by simp [hb]
          clear ha hb
          go_wp2_with fail
          go_ret
          exact ⟨rfl, b0⟩
        · have eb : (k2 == 7) = false := by simpa using hb
          have HN : Hid (∀ i : Nat, i < 3 → k ≠ 5 + (i : Int) ∧ k2 ≠ 5 + (i : Int)) := Lib.hid fun i hi => by
            rcases (show i < 2 ∨ i = 2 by omega) with h | rfl
            · exact hj2 i h
            · exact ⟨by omega, by omega⟩
          clear ha hb hj2
          go_wp2_with fail
          go_roundg (gk - 1)
          case measure => omega
          case rel => exact ⟨3, by omega, by go_num, S4, S5, b0, h0, h1, h2, HN⟩
    · exfalso
      have a0 := HJ.out 0 (by omega)
      have a1 := HJ.out 1 (by omega)
      have a2 := HJ.out 2 (by omega)
      rcases HG.out with h | h <;> (unfold graphB at h; simp at h; omega)

/-- equalS, of any two values. -/
theorem equalSAt (k : Int) (b : Bool) (n : Int) (t x : ByteArray) (q : List Val) (p : Option Addr) (cap : Nat) (k2 : Int) (b2 : Bool) (n2 : Int) (t2 x2 : ByteArray) (q2 : List Val) (p2 : Option Addr) (cap2 : Nat) (w : World) (z : Int) (r : Bool) (hz : z = esP k k2 r)
    (hs : ∀ W, Below w.heap.size w W → Calls Tryz.prog 18 #[.agg #[.int .i64 k, .bool b, .int .i64 n, .string t, .string x, .slice p q.length cap], .agg #[.int .i64 k2, .bool b2, .int .i64 n2, .string t2, .string x2, .slice p2 q2.length cap2]] W fun e w' => e = .returned (.bool r) ∧ Below W.heap.size W w') :
    Calls Tryz.prog 49 #[.agg #[.int .i64 k, .bool b, .int .i64 n, .string t, .string x, .slice p q.length cap], .agg #[.int .i64 k2, .bool b2, .int .i64 n2, .string t2, .string x2, .slice p2 q2.length cap2]] w fun e w' => e = .returned (.int .i64 z) ∧ Below w.heap.size w w' := by
  by_cases hg : graphB k = true ∨ graphB k2 = true
  · have e : z = 2 := by
      rw [hz]
      unfold esP
      rw [if_pos (by rcases hg with h | h <;> simp [h])]
    rw [e]
    exact equalSGraph k b n t x q p cap k2 b2 n2 t2 x2 q2 p2 cap2 w r hg hs
  · have g1 : graphB k = false := by cases h : graphB k; rfl; exact absurd (.inl h) hg
    have g2 : graphB k2 = false := by cases h : graphB k2; rfl; exact absurd (.inr h) hg
    have a1 := graph_cases.1 g1
    have a2 := graph_cases.1 g2
    cases r with
    | true =>
      have e : z = 1 := by rw [hz]; unfold esP; rw [g1, g2]; rfl
      rw [e]
      exact equalSSame k b n t x q p cap k2 b2 n2 t2 x2 q2 p2 cap2 w true rfl (by simp [a1]) (by simp [a1]) (by simp [a1]) (by simp [a2]) (by simp [a2]) (by simp [a2]) hs
    | false =>
      refine equalSTail k b n t x q p cap k2 b2 n2 t2 x2 q2 p2 cap2 w z _ _ _ _ _ _ rfl rfl rfl rfl rfl rfl (by simp [a1]) (by simp [a1]) (by simp [a1]) (by simp [a2]) (by simp [a2]) (by simp [a2]) hs ?_
      rw [hz]
      unfold esP
      rw [g1, g2]
      rfl
end Go.Proofs.YtoifjjgakblhhaaGreatDoor

/- The document's own Equal: lists; all kinds put together. -/
namespace Go.Proofs.YtoifjjgakblhhaaGreatDoor
open Go.RowKit

set_option maxRecDepth 20000 in
set_option maxHeartbeats 12800000 in
theorem eqrList (lang : Int) (k : Int) (b : Bool) (n : Int) (t x : ByteArray) (q : List Val) (p : Option Addr) (cap : Nat) (k2 : Int) (b2 : Bool) (n2 : Int) (t2 x2 : ByteArray) (q2 : List Val) (p2 : Option Addr) (cap2 : Nat) (w : World) (z : Int) (hf : Fine n t x q.length) (hf2 : Fine n2 t2 x2 q2.length) (hl : Held w (.slice p q.length cap) q) (hl2 : Held w (.slice p2 q2.length cap2) q2) (m1 : mayP (.mk k b n t x q) 0 = true) (m2 : mayP (.mk k2 b2 n2 t2 x2 q2) 0 = true) (e0 : (k == 0) = false) (d0 : (k2 == 0) = false) (h1 : numB k = false) (h2 : numB k2 = false) (eL : (lang == 1) = false) (h5 : (k == 5) = true) (h5b : (k2 == 5) = true) (hlen : q.length = q2.length) (mays : ∀ u ∈ q, mayP u 0 = true) (mays2 : ∀ u ∈ q2, mayP u 0 = true) (hz : z = eachEqual lang q q2) (each : ∀ u ∈ q, EqRef u) :
    Calls Tryz.prog 20 #[.int .i64 lang, .agg #[.int .i64 k, .bool b, .int .i64 n, .string t, .string x, .slice p q.length cap], .agg #[.int .i64 k2, .bool b2, .int .i64 n2, .string t2, .string x2, .slice p2 q2.length cap2]] w fun e w' => e = .returned (.int .i64 z) ∧ Below w.heap.size w w' := by
  obtain ⟨W0, hW0⟩ : ∃ W0, W0 = (w.alloc (.cells #[.int .i64 k, .bool b, .int .i64 n, .string t, .string x, .slice p q.length cap] 28)).alloc (.cells #[.int .i64 k2, .bool b2, .int .i64 n2, .string t2, .string x2, .slice p2 q2.length cap2] 28) := ⟨_, rfl⟩
  have S4 : Six W0 w.heap.size k b n t x p q.length cap := by rw [hW0]; exact (six_new _ rfl).alloc _
  have S5 : Six W0 (w.heap.size + 1) k2 b2 n2 t2 x2 p2 q2.length cap2 := by rw [hW0]; exact six_new _ (by simp)
  have b0 : Below w.heap.size w W0 := by rw [hW0]; exact below2 _ _ _
  have hm1 := fun W (h : Below w.heap.size w W) => refMay k b n t x q p cap W hf (Held.below q hl h)
  have hm2 := fun W (h : Below w.heap.size w W) => refMay k2 b2 n2 t2 x2 q2 p2 cap2 W hf2 (Held.below q2 hl2 h)
  rw [m1] at hm1
  rw [m2] at hm2
  have hn1 := fun W => refNumberAt k b n t x p q.length cap W
  have hn2 := fun W => refNumberAt k2 b2 n2 t2 x2 p2 q2.length cap2 W
  have f0 := S4.c0
  have g0 := S5.c0
  have f5 := S4.c5
  have g5 := S5.c5
  have H0 := Lib.hid hW0
  rw [show (k == 2 || k == 3) = numB k from rfl, h1] at hn1
  rw [show (k2 == 2 || k2 == 3) = numB k2 from rfl, h2] at hn2
  clear h1 h2
  have hne1 : (k != 5) = false := by show (!(k == 5)) = false; rw [h5]; rfl
  have hne2 : (k2 != 5) = false := by show (!(k2 == 5)) = false; rw [h5b]; rfl
  have hle : ((q.length : Int) != q2.length) = false := by simp; omega
  have HL := Lib.hid hl
  have HL2 := Lib.hid hl2
  have HE := Lib.hid each
  have HM := Lib.hid (And.intro mays mays2)
  have HZ := Lib.hid hz
  have HLN := Lib.hid hlen
  have hn1z := hf.hn
  clear each mays mays2 hz hlen
  clear hW0 m1 m2
  clear hl hl2 hf hf2
  go_enter Tryz.func20, Tryz.ntmps20
  go_wp2_with (first
    | ((try rw [← H0.out]); (with_reducible refine wpList_load6 (.tmp 4) w.heap.size S4 ?_ ?_ ?_ ?_); rfl; rfl; rfl)
    | ((try rw [← H0.out]); (with_reducible refine wpList_load6g (.tmp 4) w.heap.size S4 ?_ ?_ ?_ ?_); rfl; rfl; rfl)
    | ((try rw [← H0.out]); (with_reducible refine wpList_load6 (.tmp 5) (w.heap.size + 1) S5 ?_ ?_ ?_ ?_); rfl; rfl; rfl)
    | ((try rw [← H0.out]); (with_reducible refine wpList_load6g (.tmp 5) (w.heap.size + 1) S5 ?_ ?_ ?_ ?_); rfl; rfl; rfl)
    | (go_at_call 14; (with_reducible refine (hm1 _ b0).mono ?_); rintro e w' ⟨rfl, hb⟩; replace S4 := S4.below hb; replace S5 := S5.below hb; replace b0 := below_any b0 hb b0.size; have f0 := S4.c0; have g0 := S5.c0; have f5 := S4.c5; have g5 := S5.c5; clear hb)
    | (go_at_call 14; (with_reducible refine (hm2 _ b0).mono ?_); rintro e w' ⟨rfl, hb⟩; replace S4 := S4.below hb; replace S5 := S5.below hb; replace b0 := below_any b0 hb b0.size; have f0 := S4.c0; have g0 := S5.c0; have f5 := S4.c5; have g5 := S5.c5; clear hb)
    | (go_at_call 45; (with_reducible refine (hn1 _).mono ?_); rintro e w' ⟨rfl, hb⟩; replace S4 := S4.below hb; replace S5 := S5.below hb; replace b0 := below_any b0 hb b0.size; have f0 := S4.c0; have g0 := S5.c0; have f5 := S4.c5; have g5 := S5.c5; clear hb)
    | (go_at_call 45; (with_reducible refine (hn2 _).mono ?_); rintro e w' ⟨rfl, hb⟩; replace S4 := S4.below hb; replace S5 := S5.below hb; replace b0 := below_any b0 hb b0.size; have f0 := S4.c0; have g0 := S5.c0; have f5 := S4.c5; have g5 := S5.c5; clear hb)
    | (go_at_call 46; (with_reducible refine (refTruthAt _ _).mono ?_); rintro e w' ⟨rfl, rfl⟩))
  go_loopg [7, 8] q.length (fun gg s7 s8 wr => ∃ (j : Nat) (acc : Int), j + gg = q.length ∧ s8 = .int .i64 j ∧ s7 = .int .i64 acc ∧ Hid (acc = 1 ∨ acc = 2) ∧ Hid (z = andE acc (eachEqual lang (q.drop j) (q2.drop j))) ∧ Six wr w.heap.size k b n t x p q.length cap ∧ Six wr (w.heap.size + 1) k2 b2 n2 t2 x2 p2 q2.length cap2 ∧ Below w.heap.size w wr)
  case atStart => exact ⟨0, 1, by omega, rfl, rfl, Lib.hid (.inl rfl), Lib.hid (by rw [List.drop_zero, List.drop_zero, (andE_one (e3_each lang q q2)).1]; exact HZ.out), S4, S5, b0⟩
  case round =>
    clear S4 S5 b0 f0 g0 f5 g5
    obtain ⟨j, acc, hjg, rfl, rfl, HA, HB, S4, S5, b0⟩ := hrel
    have f5 := S4.c5
    have g5 := S5.c5
    by_cases hlt : (j : Int) < q.length
    · have hj1 : j < q.length := by omega
      have hj2 : j < q2.length := by have := HLN.out; omega
      have hlt2 : (j : Int) < q2.length := by omega
      obtain ⟨g, off, rfl, hh⟩ : ∃ g off, p = some ⟨g, off, none⟩ ∧ Holds w g off q := by
        have hq := HL.out
        cases q with
        | nil => simp at hj1
        | cons v r => exact hq.form
      obtain ⟨g2, off2, rfl, hh2⟩ : ∃ g2 off2, p2 = some ⟨g2, off2, none⟩ ∧ Holds w g2 off2 q2 := by
        have hq := HL2.out
        cases q2 with
        | nil => simp at hj2
        | cons v r => exact hq.form
      obtain ⟨k', b', n', t', x', q', p', cp', o1⟩ := (Holds.at_ q off hh j hj1).opens
      obtain ⟨k2', b2', n2', t2', x2', q2', p2', cp2', o2⟩ := (Holds.at_ q2 off2 hh2 j hj2).opens
      have hc := fun W (hb : Below w.heap.size w W) => HE.out q[j] (List.getElem_mem hj1) lang W k' b' n' t' x' q' p' cp' q2[j] k2' b2' n2' t2' x2' q2' p2' cp2' o1.e o2.e o1.hf o2.hf (Held.below q' o1.hl hb) (Held.below q2' o2.hl hb)
      obtain ⟨r, hr⟩ : ∃ r, r = equalP lang q[j] q2[j] := ⟨_, rfl⟩
      have hrt : equalTop lang q[j] q2[j] = r := by unfold equalTop; rw [HM.out.1 _ (List.getElem_mem hj1), HM.out.2 _ (List.getElem_mem hj2), hr]; rfl
      rw [hrt] at hc
      have h3 : E3 r := by rw [hr]; exact e3_equal _ _ _
      have hB := HB.out
      rw [each_drop lang q q2 j hj1 hj2, ← hr] at hB
      have R1 : ∀ w', Below w.heap.size w w' → w'.rangeAt g (off + j * 6) [.int .i64 k', .bool b', .int .i64 n', .string t', .string x', .slice p' q'.length cp'] := fun w' h => (o1.below h).range
      have R2 : ∀ w', Below w.heap.size w w' → w'.rangeAt g2 (off2 + j * 6) [.int .i64 k2', .bool b2', .int .i64 n2', .string t2', .string x2', .slice p2' q2'.length cp2'] := fun w' h => (o2.below h).range
      have HC := Lib.hid hc
      have HB2 := Lib.hid hB
      have HR1 := Lib.hid R1
      have HR2 := Lib.hid R2
      have H3 := Lib.hid h3
      clear o1 o2 hr hc R1 R2 hh hh2 hB HB hrt h3
      go_wp2_with fail
      clear f5 g5
      refine wp_region_held_drew (S := fun w' => Six w' w.heap.size k b n t x (some ⟨g, off, none⟩) q.length cap ∧ Six w' (w.heap.size + 1) k2 b2 n2 t2 x2 (some ⟨g2, off2, none⟩) q2.length cap2 ∧ Below w.heap.size w w') (by kernel_rfl) ⟨S4, S5, b0.drew⟩ (fun hHeld => ?_)
      clear S4 S5 b0
      · skip
        refine wpAnyH_take (i := 0) (v := .int .i64 lang) rfl (by kernel_rfl) (by kernel_rfl) (by kernel_rfl) (fun _ _ _ h => h) (Or.inl ⟨by rfl, fun W _ => by go_simp⟩) hHeld ?_
        try simp only [Act.put, List.getElem_toArray, List.getElem_cons_succ, List.getElem_cons_zero, List.setIfInBounds_toArray, List.set_cons_zero, List.set_cons_succ]
        refine wpAnyH_take (i := 1) (v := .pointer (some ⟨w.heap.size, 5, none⟩)) rfl (by kernel_rfl) (by kernel_rfl) (by kernel_rfl) (fun _ _ _ h => h) (Or.inl ⟨by rfl, fun W _ => by go_simp⟩) hHeld ?_
        try simp only [Act.put, List.getElem_toArray, List.getElem_cons_succ, List.getElem_cons_zero, List.setIfInBounds_toArray, List.set_cons_zero, List.set_cons_succ]
        refine wpAnyH_take (i := 2) (v := .slice (some ⟨g, off, none⟩) q.length cap) rfl (by kernel_rfl) (by kernel_rfl) (by kernel_rfl) (fun _ _ _ h => h) (Or.inl ⟨by rfl, fun W h => by have c := h.1.c5; go_simp⟩) hHeld ?_
        try simp only [Act.put, List.getElem_toArray, List.getElem_cons_succ, List.getElem_cons_zero, List.setIfInBounds_toArray, List.set_cons_zero, List.set_cons_succ]
        refine wpAnyH_take (i := 3) (v := .int .i64 j) rfl (by kernel_rfl) (by kernel_rfl) (by kernel_rfl) (fun _ _ _ h => h) (Or.inl ⟨by rfl, fun W _ => by go_simp⟩) hHeld ?_
        try simp only [Act.put, List.getElem_toArray, List.getElem_cons_succ, List.getElem_cons_zero, List.setIfInBounds_toArray, List.set_cons_zero, List.set_cons_succ]
        refine wpAnyH_take (i := 4) (v := .pointer (some ⟨g, off + j * 6, none⟩)) rfl (by kernel_rfl) (by kernel_rfl) (by kernel_rfl) (fun _ _ _ h => h) (Or.inl ⟨by rfl, fun W _ => by go_simp⟩) hHeld ?_
        try simp only [Act.put, List.getElem_toArray, List.getElem_cons_succ, List.getElem_cons_zero, List.setIfInBounds_toArray, List.set_cons_zero, List.set_cons_succ]
        refine wpAnyH_take (i := 5) rfl (by kernel_rfl) (by kernel_rfl) (by kernel_rfl) (fun _ _ _ h => h) (yieldsIf_load_mid (by rfl) 28 (.tmp 76) rfl g (off + j * 6) rfl _ _ (fun w h => HR1.out w h.2.2) Tryz.underlying28 rfl info28) hHeld ?_
        try simp only [Act.put, List.getElem_toArray, List.getElem_cons_succ, List.getElem_cons_zero, List.setIfInBounds_toArray, List.set_cons_zero, List.set_cons_succ]
        refine wpAnyH_take (i := 6) (v := .pointer (some ⟨w.heap.size + 1, 5, none⟩)) rfl (by kernel_rfl) (by kernel_rfl) (by kernel_rfl) (fun _ _ _ h => h) (Or.inl ⟨by rfl, fun W _ => by go_simp⟩) hHeld ?_
        try simp only [Act.put, List.getElem_toArray, List.getElem_cons_succ, List.getElem_cons_zero, List.setIfInBounds_toArray, List.set_cons_zero, List.set_cons_succ]
        refine wpAnyH_take (i := 7) (v := .slice (some ⟨g2, off2, none⟩) q2.length cap2) rfl (by kernel_rfl) (by kernel_rfl) (by kernel_rfl) (fun _ _ _ h => h) (Or.inl ⟨by rfl, fun W h => by have c := h.2.1.c5; go_simp⟩) hHeld ?_
        try simp only [Act.put, List.getElem_toArray, List.getElem_cons_succ, List.getElem_cons_zero, List.setIfInBounds_toArray, List.set_cons_zero, List.set_cons_succ]
        refine wpAnyH_take (i := 8) (v := .int .i64 j) rfl (by kernel_rfl) (by kernel_rfl) (by kernel_rfl) (fun _ _ _ h => h) (Or.inl ⟨by rfl, fun W _ => by go_simp⟩) hHeld ?_
        try simp only [Act.put, List.getElem_toArray, List.getElem_cons_succ, List.getElem_cons_zero, List.setIfInBounds_toArray, List.set_cons_zero, List.set_cons_succ]
        refine wpAnyH_take (i := 9) (v := .pointer (some ⟨g2, off2 + j * 6, none⟩)) rfl (by kernel_rfl) (by kernel_rfl) (by kernel_rfl) (fun _ _ _ h => h) (Or.inl ⟨by rfl, fun W _ => by go_simp⟩) hHeld ?_
        try simp only [Act.put, List.getElem_toArray, List.getElem_cons_succ, List.getElem_cons_zero, List.setIfInBounds_toArray, List.set_cons_zero, List.set_cons_succ]
        refine wpAnyH_take (i := 10) rfl (by kernel_rfl) (by kernel_rfl) (by kernel_rfl) (fun _ _ _ h => h) (yieldsIf_load_mid (by rfl) 28 (.tmp 81) rfl g2 (off2 + j * 6) rfl _ _ (fun w h => HR2.out w h.2.2) Tryz.underlying28 rfl info28) hHeld ?_
        try simp only [Act.put, List.getElem_toArray, List.getElem_cons_succ, List.getElem_cons_zero, List.setIfInBounds_toArray, List.set_cons_zero, List.set_cons_succ]
        refine wpAnyH_ready (rs := [11]) (by kernel_rfl) (by simp) ?_
        refine AllReadyH.cons rfl (fun K hK => ?_) AllReadyH.nil
        rw [if_pos (by rfl)]
        go_simp
        refine (HC.out _ hHeld.2.2).mono ?_
        rintro e w3 ⟨rfl, hb3⟩
        refine hK.out _ _ ⟨hHeld.1.below hb3, hHeld.2.1.below hb3, below_any hHeld.2.2 hb3 hHeld.2.2.size⟩ (fun hHeld2 => ?_)
        clear hK K hb3 hHeld
        try simp only [Act.put, List.getElem_toArray, List.getElem_cons_succ, List.getElem_cons_zero, List.setIfInBounds_toArray, List.set_cons_zero, List.set_cons_succ]
        refine wpAnyH_take (i := 12) (v := .int .i64 r) rfl (by kernel_rfl) (by kernel_rfl) (by kernel_rfl) (fun _ _ _ h => h) (Or.inl ⟨by rfl, fun W _ => by go_simp⟩) hHeld2 ?_
        try simp only [Act.put, List.getElem_toArray, List.getElem_cons_succ, List.getElem_cons_zero, List.setIfInBounds_toArray, List.set_cons_zero, List.set_cons_succ]
        refine wpAnyH_done (by kernel_rfl) ?_ _
        obtain ⟨S4, S5, b0⟩ := hHeld2
        by_cases hr0 : r = 0
        · have e2 : (r == 0) = true := by simp [hr0]
          have hz0 : z = 0 := by
            rw [HB2.out, hr0, ← andE_assoc (by rcases HA.out with h | h <;> simp [h, E3]) (.inl rfl) (e3_each _ _ _)]
            rcases HA.out with h | h <;> (rw [h]; rcases e3_each lang (q.drop (j + 1)) (q2.drop (j + 1)) with g | g | g <;> (rw [g]; decide))
          have HZ0 := Lib.hid hz0
          clear hr0 hz0
          go_wp2_with fail
          go_ret
          exact ⟨by rw [HZ0.out]; rfl, b0⟩
        · have e2 : (r == 0) = false := by simpa using hr0
          by_cases hr2 : r = 2
          · have e3 : (r == 2) = true := by simp [hr2]
            have hz2 : z = andE 2 (eachEqual lang (q.drop (j + 1)) (q2.drop (j + 1))) := by
              rw [HB2.out, hr2, ← andE_assoc (by rcases HA.out with h | h <;> simp [h, E3]) (.inr (.inr rfl)) (e3_each _ _ _)]
              congr 1
              rcases HA.out with h | h <;> (rw [h]; decide)
            have HZ2 := Lib.hid hz2
            have HAA : Hid (r = 1 ∨ r = 2) := Lib.hid (.inr hr2)
            have HZ3 : Hid (z = andE r (eachEqual lang (q.drop (j + 1)) (q2.drop (j + 1)))) := Lib.hid (by rw [HZ2.out, hr2])
            clear hr0 hr2 hz2
            go_wp2_with fail
            go_roundg (gk - 1)
            case measure => omega
            case rel => exact ⟨j + 1, r, by omega, by go_num, rfl, HAA, HZ3, S4, S5, b0⟩
          · have e3 : (r == 2) = false := by simpa using hr2
            have hr1 : r = 1 := by rcases H3.out with h | h | h <;> omega
            have hz1 : z = andE acc (eachEqual lang (q.drop (j + 1)) (q2.drop (j + 1))) := by
              rw [HB2.out, hr1, (andE_one (e3_each _ _ _)).1]
            have HZ3 := Lib.hid hz1
            clear hr0 hr2 hz1 hr1
            go_wp2_with fail
            go_roundg (gk - 1)
            case measure => omega
            case rel => exact ⟨j + 1, acc, by omega, by go_num, rfl, HA, HZ3, S4, S5, b0⟩
    · have hza : z = acc := by rw [HB.out, each_end lang q q2 j (by omega), (andE_one (by rcases HA.out with h | h <;> simp [h, E3])).2.1]
      have HZA := Lib.hid hza
      clear hza
      go_wp2_with fail
      go_ret
      exact ⟨by rw [HZA.out]; rfl, b0⟩

theorem may_each {b : Bool} {n : Int} {t x : ByteArray} {q : List Val} (hm : mayP (.mk 5 b n t x q) 0 = true) : ∀ u ∈ q, mayP u 0 = true := fun u hu => by
  unfold mayP fitsP at hm
  simp only [show ¬ (5 : Int) = 0 by decide, show ¬ (5 : Int) = 1 by decide, show ¬ (5 : Int) = 2 by decide, show ¬ (5 : Int) = 3 by decide, show ¬ (5 : Int) = 4 by decide, if_false, if_true, Bool.and_eq_true] at hm
  exact may_out u 0 1 (by omega) (each_mem hm.1.2 hu)
theorem may_kinds {k : Int} {b : Bool} {n : Int} {t x : ByteArray} {q : List Val} (hm : mayP (.mk k b n t x q) 0 = true) : k = 0 ∨ k = 1 ∨ k = 2 ∨ k = 3 ∨ k = 4 ∨ k = 5 ∨ k = 6 ∨ k = 7 ∨ k = 8 ∨ k = 9 ∨ k = 10 := by
  unfold mayP fitsP at hm
  (repeat' split at hm) <;> first | omega | (simp at hm)
/-- equalS says just what Equal says in S. -/
theorem esP_equal {k k2 : Int} {b b2 : Bool} {n n2 : Int} {t t2 x x2 : ByteArray} {q q2 : List Val} (h1 : mayP (.mk k b n t x q) 0 = true) (h2 : mayP (.mk k2 b2 n2 t2 x2 q2) 0 = true) (e0 : k ≠ 0) (d0 : k2 ≠ 0) (hnn : ¬ (numB k = true ∧ numB k2 = true)) :
    equalP 1 (.mk k b n t x q) (.mk k2 b2 n2 t2 x2 q2) = esP k k2 (sameP (.mk k b n t x q) (.mk k2 b2 n2 t2 x2 q2)) := by
  have k1 := may_kinds h1
  have k2' := may_kinds h2
  unfold equalP
  have hc : sameP (.mk k2 b2 n2 t2 x2 q2) (.mk k b n t x q) = sameP (.mk k b n t x q) (.mk k2 b2 n2 t2 x2 q2) := sameP_comm _ _
  rw [if_neg (by omega), if_neg hnn, hc]
  generalize sameP (.mk k b n t x q) (.mk k2 b2 n2 t2 x2 q2) = r
  unfold esP openP
  clear h1 h2
  rcases k1 with rfl | rfl | rfl | rfl | rfl | rfl | rfl | rfl | rfl | rfl | rfl <;> (try exact absurd rfl e0) <;>
    rcases k2' with rfl | rfl | rfl | rfl | rfl | rfl | rfl | rfl | rfl | rfl | rfl <;> (try exact absurd rfl d0) <;> (first | (exfalso; exact hnn ⟨rfl, rfl⟩) | (cases r <;> rfl))
theorem eqRefStep (v : Val) (k : Int) (b : Bool) (n : Int) (t x : ByteArray) (q : List Val) (ev : v = .mk k b n t x q) (each : ∀ u ∈ q, EqRef u) : EqRef v := by
  subst ev
  intro lang w k1 b1 n1 t1 x1 q1 p cap v2 k2 b2 n2 t2 x2 q2 p2 cap2 e1 e2 hf hf2 hl hl2
  cases e1
  subst e2
  cases m1 : mayP (.mk k b n t x q) 0 with
  | false => exact eqrNo1 _ lang k b n t x q p cap k2 b2 n2 t2 x2 q2 p2 cap2 w _ hf hf2 hl hl2 m1 rfl (by unfold equalTop; rw [m1]; rfl)
  | true =>
    cases m2 : mayP (.mk k2 b2 n2 t2 x2 q2) 0 with
    | false => exact eqrNo2 lang k b n t x q p cap k2 b2 n2 t2 x2 q2 p2 cap2 w _ hf hf2 hl hl2 m1 m2 (by unfold equalTop; rw [m1, m2]; rfl)
    | true =>
      have top : equalTop lang (.mk k b n t x q) (.mk k2 b2 n2 t2 x2 q2) = equalP lang (.mk k b n t x q) (.mk k2 b2 n2 t2 x2 q2) := by unfold equalTop; rw [m1, m2]; rfl
      rw [top]
      by_cases n0 : k = 0
      · exact eqrNull1 lang k b n t x q p cap k2 b2 n2 t2 x2 q2 p2 cap2 w _ hf hf2 hl hl2 m1 m2 (by simp [n0]) (by unfold equalP; rw [if_pos (.inl n0)])
      have e0 : (k == 0) = false := by simpa using n0
      by_cases n1 : k2 = 0
      · exact eqrNull2 lang k b n t x q p cap k2 b2 n2 t2 x2 q2 p2 cap2 w _ hf hf2 hl hl2 m1 m2 e0 (by simp [n1]) (by unfold equalP; rw [if_pos (.inr n1)])
      have d0 : (k2 == 0) = false := by simpa using n1
      by_cases hnn : numB k = true ∧ numB k2 = true
      · exact eqrNum lang k b n t x q p cap k2 b2 n2 t2 x2 q2 p2 cap2 w _ hf hf2 hl hl2 m1 m2 _ e0 d0 hnn.1 hnn.2 rfl (by unfold equalP; rw [if_neg (by omega), if_pos hnn])
      have h12 : (numB k && numB k2) = false := by
        cases h : numB k <;> cases h' : numB k2 <;> first | rfl | exact absurd ⟨h, h'⟩ hnn
      by_cases hL : lang = 1
      · subst hL
        refine eqrS 1 k b n t x q p cap k2 b2 n2 t2 x2 q2 p2 cap2 w _ hf hf2 hl hl2 m1 m2 e0 d0 _ _ rfl rfl h12 rfl (fun W hb => ?_)
        rw [esP_equal m1 m2 n0 n1 hnn]
        exact equalSAt k b n t x q p cap k2 b2 n2 t2 x2 q2 p2 cap2 W _ _ rfl (fun W2 hb2 => sameZAll (.mk k b n t x q) W2 k b n t x q p cap (.mk k2 b2 n2 t2 x2 q2) k2 b2 n2 t2 x2 q2 p2 cap2 rfl rfl hf.hn (Held.below q hl (below_any hb hb2 hb.size)) (Held.below q2 hl2 (below_any hb hb2 hb.size)))
      have eL : (lang == 1) = false := by simpa using hL
      have hp : equalP lang (.mk k b n t x q) (.mk k2 b2 n2 t2 x2 q2) = if k = 5 ∧ k2 = 5 then (if q.length = q2.length then eachEqual lang q q2 else 0) else tI (sameP (.mk k b n t x q) (.mk k2 b2 n2 t2 x2 q2)) := by
        conv => lhs; unfold equalP
        rw [if_neg (by omega), if_neg hnn, if_neg (fun h => hL h.1)]
      rw [hp]
      by_cases h5 : k = 5 ∧ k2 = 5
      · rw [if_pos h5]
        obtain ⟨rfl, rfl⟩ := h5
        by_cases hlen : q.length = q2.length
        · rw [if_pos hlen]
          exact eqrList lang 5 b n t x q p cap 5 b2 n2 t2 x2 q2 p2 cap2 w _ hf hf2 hl hl2 m1 m2 rfl rfl rfl rfl eL rfl rfl hlen (may_each m1) (may_each m2) rfl each
        · rw [if_neg hlen]
          exact eqrLen lang 5 b n t x q p cap 5 b2 n2 t2 x2 q2 p2 cap2 w _ hf hf2 hl hl2 m1 m2 rfl rfl _ _ rfl rfl rfl eL rfl rfl hlen rfl
      · rw [if_neg h5]
        exact eqrSame lang k b n t x q p cap k2 b2 n2 t2 x2 q2 p2 cap2 w _ hf hf2 hl hl2 m1 m2 e0 d0 _ _ rfl rfl h12 eL _ _ rfl rfl (by cases h : (k == 5) <;> cases h' : (k2 == 5) <;> first | rfl | exact absurd ⟨by simpa using h, by simpa using h'⟩ h5) _
          (fun W hb => sameZAll (.mk k b n t x q) W k b n t x q p cap (.mk k2 b2 n2 t2 x2 q2) k2 b2 n2 t2 x2 q2 p2 cap2 rfl rfl hf.hn (Held.below q hl hb) (Held.below q2 hl2 hb)) rfl
mutual
theorem eqRefAll : (v : Val) → EqRef v
  | .mk k b n t x q => eqRefStep _ k b n t x q rfl (eqRefEach q)
theorem eqRefEach : (q : List Val) → ∀ u ∈ q, EqRef u
  | [], _, h => absurd h (by simp)
  | v :: r, u, h => by
    rcases List.mem_cons.1 h with h | h
    · rw [h]; exact eqRefAll v
    · exact eqRefEach r u h
end
end Go.Proofs.YtoifjjgakblhhaaGreatDoor
