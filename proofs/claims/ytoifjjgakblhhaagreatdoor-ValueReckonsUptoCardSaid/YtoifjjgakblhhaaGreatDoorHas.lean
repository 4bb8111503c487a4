/- Texts of one kind, one behind the other: each says ahead of itself what it shows. -/
import Derived.Test.YtoifjjgakblhhaaGreatDoorHak
import Derived.Test.YtoifjjgakblhhaaGreatDoorHar
import Derived.Test.YtoifjjgakblhhaaGreatDoorHap
import Derived.Deep.LoopGhost
import Derived.Test.YtoifjjgakblhhaaGreatDoorHaq
import Derived.Laws.AppendOwnNone
import Derived.Deep.QuietTactic
import Derived.BigQuiet
/- Whether two values are equal: equal, the second no number. -/
namespace Go.Proofs.YtoifjjgakblhhaaGreatDoor
open Go.RowKit

set_option maxRecDepth 4000 in
set_option maxHeartbeats 3200000 in
theorem equalNot2 (lang : Int) (k : Int) (b : Bool) (n : Int) (t x : ByteArray) (q : List Val) (p : Option Addr) (cap : Nat) (k2 : Int) (b2 : Bool) (n2 : Int) (t2 x2 : ByteArray) (q2 : List Val) (p2 : Option Addr) (cap2 : Nat) (w : World) (hG : Gd w) (hT : Tab w) (hf : Fine n t x q.length) (hf2 : Fine n2 t2 x2 q2.length) (hl : Held w (.slice p q.length cap) q) (hl2 : Held w (.slice p2 q2.length cap2) q2) (each : ∀ v ∈ q, EqualAt lang v) (n0 : ¬ k = 0) (n1 : ¬ k2 = 0) (h1 : numB k = true) (h2 : numB k2 = false) :
    Calls Tryz.prog 44 #[.int .i64 lang, .agg #[.int .i64 k, .bool b, .int .i64 n, .string t, .string x, .slice p q.length cap], .agg #[.int .i64 k2, .bool b2, .int .i64 n2, .string t2, .string x2, .slice p2 q2.length cap2]] w fun e w' => e = .returned (.int .i64 (equalP lang (.mk k b n t x q) (.mk k2 b2 n2 t2 x2 q2))) ∧ Below w.heap.size w w' := by
  obtain ⟨W0, hW0⟩ : ∃ W0, W0 = (w.alloc (.cells #[.int .i64 k, .bool b, .int .i64 n, .string t, .string x, .slice p q.length cap] 28)).alloc (.cells #[.int .i64 k2, .bool b2, .int .i64 n2, .string t2, .string x2, .slice p2 q2.length cap2] 28) := ⟨_, rfl⟩
  have S4 : Six W0 w.heap.size k b n t x p q.length cap := by rw [hW0]; exact (six_new _ rfl).alloc _
  have S5 : Six W0 (w.heap.size + 1) k2 b2 n2 t2 x2 p2 q2.length cap2 := by rw [hW0]; exact six_new _ (by simp)
  have b0 : Below w.heap.size w W0 := by rw [hW0]; exact below2 _ _ _
  have f0 := S4.c0
  have g0 := S5.c0
  have H0 := Lib.hid hW0
  have hn1 := fun W => isNumberAt k b n t x (.slice p q.length cap) W
  have hn2 := fun W => isNumberAt k2 b2 n2 t2 x2 (.slice p2 q2.length cap2) W
  have hcmp := fun W (h : Below w.heap.size w W) => cmpNumsAt k b n t x p q.length cap k2 b2 n2 t2 x2 p2 q2.length cap2 W (hG.below h) (hT.below h) hf hf2
  have hg1 := fun W => isGraphsAt k b n t x (.slice p q.length cap) W
  have hg2 := fun W => isGraphsAt k2 b2 n2 t2 x2 (.slice p2 q2.length cap2) W
  have ho1 := fun W (h : Below w.heap.size w W) => isOpenAt k b n t x q p cap k2 b2 n2 t2 x2 q2 p2 cap2 W hf (Held.below q hl h) (Held.below q2 hl2 h) _ rfl
  have ho2 := fun W (h : Below w.heap.size w W) => isOpenAt k2 b2 n2 t2 x2 q2 p2 cap2 k b n t x q p cap W hf2 (Held.below q2 hl2 h) (Held.below q hl h) _ rfl
  have hbo := fun W => bothAreAt 5 k b n t x (.slice p q.length cap) k2 b2 n2 t2 x2 (.slice p2 q2.length cap2) W
  have hls := fun W (h : Below w.heap.size w W) => eqListsAt lang q q2 p p2 cap cap2 W (hG.below h) (hT.below h) (Held.below q hl h) (Held.below q2 hl2 h) hf.hn each
  have hsm := fun W (h : Below w.heap.size w W) => sameAtV k b n t x q p cap k2 b2 n2 t2 x2 q2 p2 cap2 W hf (Held.below q hl h) (Held.below q2 hl2 h)
  clear hl hl2 hf hf2 hG hT each hW0
  have e0 : (k == 0) = false := by simpa using n0
  have e1 : (k2 == 0) = false := by simpa using n1
  have m1 : numB k = true := h1
  have hnn : ¬ (numB k = true ∧ numB k2 = true) := by rintro ⟨u, v⟩; rw [h2] at v; cases v
  rw [show (k == 2 || k == 3) = numB k from rfl, m1] at hn1
  rw [show (k2 == 2 || k2 == 3) = numB k2 from rfl, h2] at hn2
  clear m1 hcmp
  by_cases hlang : lang = 1
  · have el : (lang == 1) = true := by simpa using hlang
    cases eg1 : graphB k with
    | true =>
      have hv : equalP lang (.mk k b n t x q) (.mk k2 b2 n2 t2 x2 q2) = 2 := by unfold equalP; rw [if_neg (by omega), if_neg hnn, if_pos ⟨hlang, by rw [eg1]; rfl⟩]
      rw [hv]
      rw [show (k == 5 || k == 6 || k == 7) = graphB k from rfl, eg1] at hg1
      clear hv hnn n0 n1 hg2 ho1 ho2 hbo hls hsm
      go_enter Tryz.func44, Tryz.ntmps44
      go_wp2_with fail
      rw [← H0.out]
      go_wp2_with (first
        | ((with_reducible refine wpList_load6g (.tmp 4) w.heap.size S4 ?_ ?_ ?_ ?_); rfl; rfl; rfl)
        | ((with_reducible refine wpList_load6g (.tmp 5) (w.heap.size + 1) S5 ?_ ?_ ?_ ?_); rfl; rfl; rfl)
        | (go_at_call 50; (with_reducible refine (hn1 _).mono ?_); rintro e w' ⟨rfl, hb⟩; replace S4 := S4.below hb; replace S5 := S5.below hb; replace b0 := below_any b0 hb b0.size; have f5 := S4.c5; have g5 := S5.c5; have f00 := S4.c0; have g00 := S5.c0; clear hb)
        | (go_at_call 50; (with_reducible refine (hn2 _).mono ?_); rintro e w' ⟨rfl, hb⟩; replace S4 := S4.below hb; replace S5 := S5.below hb; replace b0 := below_any b0 hb b0.size; have f5 := S4.c5; have g5 := S5.c5; have f00 := S4.c0; have g00 := S5.c0; clear hb)
        | (go_at_call 84; (with_reducible refine (hg1 _).mono ?_); rintro e w' ⟨rfl, hb⟩; replace S4 := S4.below hb; replace S5 := S5.below hb; replace b0 := below_any b0 hb b0.size; have f5 := S4.c5; have g5 := S5.c5; have f00 := S4.c0; have g00 := S5.c0; clear hb))
      go_ret
      exact ⟨rfl, b0⟩
    | false =>
      have k5 : (k == 5) = false := by
        unfold graphB at eg1
        cases h5 : (k == 5) with
        | false => rfl
        | true => rw [h5] at eg1; cases eg1
      rw [show (k == 5 || k == 6 || k == 7) = graphB k from rfl, eg1] at hg1
      cases eg2 : graphB k2 with
      | true =>
        have hv : equalP lang (.mk k b n t x q) (.mk k2 b2 n2 t2 x2 q2) = 2 := by unfold equalP; rw [if_neg (by omega), if_neg hnn, if_pos ⟨hlang, by rw [eg1, eg2]; rfl⟩]
        rw [hv]
        rw [show (k2 == 5 || k2 == 6 || k2 == 7) = graphB k2 from rfl, eg2] at hg2
        clear hv hnn n0 n1 ho1 ho2 hbo hls hsm
        go_enter Tryz.func44, Tryz.ntmps44
        go_wp2_with fail
        rw [← H0.out]
        go_wp2_with (first
          | ((with_reducible refine wpList_load6g (.tmp 4) w.heap.size S4 ?_ ?_ ?_ ?_); rfl; rfl; rfl)
          | ((with_reducible refine wpList_load6g (.tmp 5) (w.heap.size + 1) S5 ?_ ?_ ?_ ?_); rfl; rfl; rfl)
          | (go_at_call 50; (with_reducible refine (hn1 _).mono ?_); rintro e w' ⟨rfl, hb⟩; replace S4 := S4.below hb; replace S5 := S5.below hb; replace b0 := below_any b0 hb b0.size; have f5 := S4.c5; have g5 := S5.c5; have f00 := S4.c0; have g00 := S5.c0; clear hb)
          | (go_at_call 50; (with_reducible refine (hn2 _).mono ?_); rintro e w' ⟨rfl, hb⟩; replace S4 := S4.below hb; replace S5 := S5.below hb; replace b0 := below_any b0 hb b0.size; have f5 := S4.c5; have g5 := S5.c5; have f00 := S4.c0; have g00 := S5.c0; clear hb)
          | (go_at_call 84; (with_reducible refine (hg1 _).mono ?_); rintro e w' ⟨rfl, hb⟩; replace S4 := S4.below hb; replace S5 := S5.below hb; replace b0 := below_any b0 hb b0.size; have f5 := S4.c5; have g5 := S5.c5; have f00 := S4.c0; have g00 := S5.c0; clear hb)
          | (go_at_call 84; (with_reducible refine (hg2 _).mono ?_); rintro e w' ⟨rfl, hb⟩; replace S4 := S4.below hb; replace S5 := S5.below hb; replace b0 := below_any b0 hb b0.size; have f5 := S4.c5; have g5 := S5.c5; have f00 := S4.c0; have g00 := S5.c0; clear hb))
        go_ret
        exact ⟨rfl, b0⟩
      | false =>
        rw [show (k2 == 5 || k2 == 6 || k2 == 7) = graphB k2 from rfl, eg2] at hg2
        cases eo1 : openP k k2 (sameP (.mk k b n t x q) (.mk k2 b2 n2 t2 x2 q2)) with
        | true =>
          have hv : equalP lang (.mk k b n t x q) (.mk k2 b2 n2 t2 x2 q2) = 2 := by unfold equalP; rw [if_neg (by omega), if_neg hnn, if_pos ⟨hlang, by rw [eg1, eg2, eo1]; rfl⟩]
          rw [hv]
          rw [eo1] at ho1
          clear hv hnn n0 n1 ho2 hbo hls hsm
          go_enter Tryz.func44, Tryz.ntmps44
          go_wp2_with fail
          rw [← H0.out]
          go_wp2_with (first
            | ((with_reducible refine wpList_load6g (.tmp 4) w.heap.size S4 ?_ ?_ ?_ ?_); rfl; rfl; rfl)
            | ((with_reducible refine wpList_load6g (.tmp 5) (w.heap.size + 1) S5 ?_ ?_ ?_ ?_); rfl; rfl; rfl)
            | (go_at_call 50; (with_reducible refine (hn1 _).mono ?_); rintro e w' ⟨rfl, hb⟩; replace S4 := S4.below hb; replace S5 := S5.below hb; replace b0 := below_any b0 hb b0.size; have f5 := S4.c5; have g5 := S5.c5; have f00 := S4.c0; have g00 := S5.c0; clear hb)
            | (go_at_call 50; (with_reducible refine (hn2 _).mono ?_); rintro e w' ⟨rfl, hb⟩; replace S4 := S4.below hb; replace S5 := S5.below hb; replace b0 := below_any b0 hb b0.size; have f5 := S4.c5; have g5 := S5.c5; have f00 := S4.c0; have g00 := S5.c0; clear hb)
            | (go_at_call 84; (with_reducible refine (hg1 _).mono ?_); rintro e w' ⟨rfl, hb⟩; replace S4 := S4.below hb; replace S5 := S5.below hb; replace b0 := below_any b0 hb b0.size; have f5 := S4.c5; have g5 := S5.c5; have f00 := S4.c0; have g00 := S5.c0; clear hb)
            | (go_at_call 84; (with_reducible refine (hg2 _).mono ?_); rintro e w' ⟨rfl, hb⟩; replace S4 := S4.below hb; replace S5 := S5.below hb; replace b0 := below_any b0 hb b0.size; have f5 := S4.c5; have g5 := S5.c5; have f00 := S4.c0; have g00 := S5.c0; clear hb)
            | (go_at_call 85; (with_reducible refine (ho1 _ b0).mono ?_); rintro e w' ⟨rfl, hb⟩; replace S4 := S4.below hb; replace S5 := S5.below hb; replace b0 := below_any b0 hb b0.size; have f5 := S4.c5; have g5 := S5.c5; have f00 := S4.c0; have g00 := S5.c0; clear hb))
          go_ret
          exact ⟨rfl, b0⟩
        | false =>
          rw [eo1] at ho1
          cases eo2 : openP k2 k (sameP (.mk k2 b2 n2 t2 x2 q2) (.mk k b n t x q)) with
          | true =>
            have hv : equalP lang (.mk k b n t x q) (.mk k2 b2 n2 t2 x2 q2) = 2 := by unfold equalP; rw [if_neg (by omega), if_neg hnn, if_pos ⟨hlang, by rw [eg1, eg2, eo1, eo2]; rfl⟩]
            rw [hv]
            rw [eo2] at ho2
            clear hv hnn n0 n1 hbo hls hsm
            go_enter Tryz.func44, Tryz.ntmps44
            go_wp2_with fail
            rw [← H0.out]
            go_wp2_with (first
              | ((with_reducible refine wpList_load6g (.tmp 4) w.heap.size S4 ?_ ?_ ?_ ?_); rfl; rfl; rfl)
              | ((with_reducible refine wpList_load6g (.tmp 5) (w.heap.size + 1) S5 ?_ ?_ ?_ ?_); rfl; rfl; rfl)
              | (go_at_call 50; (with_reducible refine (hn1 _).mono ?_); rintro e w' ⟨rfl, hb⟩; replace S4 := S4.below hb; replace S5 := S5.below hb; replace b0 := below_any b0 hb b0.size; have f5 := S4.c5; have g5 := S5.c5; have f00 := S4.c0; have g00 := S5.c0; clear hb)
              | (go_at_call 50; (with_reducible refine (hn2 _).mono ?_); rintro e w' ⟨rfl, hb⟩; replace S4 := S4.below hb; replace S5 := S5.below hb; replace b0 := below_any b0 hb b0.size; have f5 := S4.c5; have g5 := S5.c5; have f00 := S4.c0; have g00 := S5.c0; clear hb)
              | (go_at_call 84; (with_reducible refine (hg1 _).mono ?_); rintro e w' ⟨rfl, hb⟩; replace S4 := S4.below hb; replace S5 := S5.below hb; replace b0 := below_any b0 hb b0.size; have f5 := S4.c5; have g5 := S5.c5; have f00 := S4.c0; have g00 := S5.c0; clear hb)
              | (go_at_call 84; (with_reducible refine (hg2 _).mono ?_); rintro e w' ⟨rfl, hb⟩; replace S4 := S4.below hb; replace S5 := S5.below hb; replace b0 := below_any b0 hb b0.size; have f5 := S4.c5; have g5 := S5.c5; have f00 := S4.c0; have g00 := S5.c0; clear hb)
              | (go_at_call 85; (with_reducible refine (ho1 _ b0).mono ?_); rintro e w' ⟨rfl, hb⟩; replace S4 := S4.below hb; replace S5 := S5.below hb; replace b0 := below_any b0 hb b0.size; have f5 := S4.c5; have g5 := S5.c5; have f00 := S4.c0; have g00 := S5.c0; clear hb)
              | (go_at_call 85; (with_reducible refine (ho2 _ b0).mono ?_); rintro e w' ⟨rfl, hb⟩; replace S4 := S4.below hb; replace S5 := S5.below hb; replace b0 := below_any b0 hb b0.size; have f5 := S4.c5; have g5 := S5.c5; have f00 := S4.c0; have g00 := S5.c0; clear hb))
            go_ret
            exact ⟨rfl, b0⟩
          | false =>
            rw [eo2] at ho2
            have hv : equalP lang (.mk k b n t x q) (.mk k2 b2 n2 t2 x2 q2) = tI (sameP (.mk k b n t x q) (.mk k2 b2 n2 t2 x2 q2)) := by unfold equalP; rw [if_neg (by omega), if_neg hnn, if_neg (by rintro ⟨_, h⟩; rw [eg1, eg2, eo1, eo2] at h; cases h), if_neg (by rintro ⟨h, _⟩; rw [h] at k5; cases k5)]
            rw [hv]
            rw [k5, Bool.false_and] at hbo
            generalize sameP (.mk k b n t x q) (.mk k2 b2 n2 t2 x2 q2) = r at hsm ⊢
            clear hv hnn n0 n1 hls
            go_enter Tryz.func44, Tryz.ntmps44
            go_wp2_with fail
            rw [← H0.out]
            go_wp2_with (first
              | ((with_reducible refine wpList_load6g (.tmp 4) w.heap.size S4 ?_ ?_ ?_ ?_); rfl; rfl; rfl)
              | ((with_reducible refine wpList_load6g (.tmp 5) (w.heap.size + 1) S5 ?_ ?_ ?_ ?_); rfl; rfl; rfl)
              | (go_at_call 50; (with_reducible refine (hn1 _).mono ?_); rintro e w' ⟨rfl, hb⟩; replace S4 := S4.below hb; replace S5 := S5.below hb; replace b0 := below_any b0 hb b0.size; have f5 := S4.c5; have g5 := S5.c5; have f00 := S4.c0; have g00 := S5.c0; clear hb)
              | (go_at_call 50; (with_reducible refine (hn2 _).mono ?_); rintro e w' ⟨rfl, hb⟩; replace S4 := S4.below hb; replace S5 := S5.below hb; replace b0 := below_any b0 hb b0.size; have f5 := S4.c5; have g5 := S5.c5; have f00 := S4.c0; have g00 := S5.c0; clear hb)
              | (go_at_call 84; (with_reducible refine (hg1 _).mono ?_); rintro e w' ⟨rfl, hb⟩; replace S4 := S4.below hb; replace S5 := S5.below hb; replace b0 := below_any b0 hb b0.size; have f5 := S4.c5; have g5 := S5.c5; have f00 := S4.c0; have g00 := S5.c0; clear hb)
              | (go_at_call 84; (with_reducible refine (hg2 _).mono ?_); rintro e w' ⟨rfl, hb⟩; replace S4 := S4.below hb; replace S5 := S5.below hb; replace b0 := below_any b0 hb b0.size; have f5 := S4.c5; have g5 := S5.c5; have f00 := S4.c0; have g00 := S5.c0; clear hb)
              | (go_at_call 85; (with_reducible refine (ho1 _ b0).mono ?_); rintro e w' ⟨rfl, hb⟩; replace S4 := S4.below hb; replace S5 := S5.below hb; replace b0 := below_any b0 hb b0.size; have f5 := S4.c5; have g5 := S5.c5; have f00 := S4.c0; have g00 := S5.c0; clear hb)
              | (go_at_call 85; (with_reducible refine (ho2 _ b0).mono ?_); rintro e w' ⟨rfl, hb⟩; replace S4 := S4.below hb; replace S5 := S5.below hb; replace b0 := below_any b0 hb b0.size; have f5 := S4.c5; have g5 := S5.c5; have f00 := S4.c0; have g00 := S5.c0; clear hb)
              | (go_at_call 53; (with_reducible refine (hbo _).mono ?_); rintro e w' ⟨rfl, hb⟩; replace S4 := S4.below hb; replace S5 := S5.below hb; replace b0 := below_any b0 hb b0.size; have f5 := S4.c5; have g5 := S5.c5; have f00 := S4.c0; have g00 := S5.c0; clear hb)
              | (go_at_call 17; (with_reducible refine (hsm _ b0).mono ?_); rintro e w' ⟨rfl, hb⟩; replace S4 := S4.below hb; replace S5 := S5.below hb; replace b0 := below_any b0 hb b0.size; have f5 := S4.c5; have g5 := S5.c5; have f00 := S4.c0; have g00 := S5.c0; clear hb)
              | (go_at_call 51; (with_reducible refine (truthT _ _).mono ?_); rintro e w' ⟨rfl, rfl⟩))
            go_ret
            exact ⟨rfl, b0⟩
  · have el : (lang == 1) = false := by simpa using hlang
    cases e5 : (k == 5 && k2 == 5) with
    | true =>
      have h55 : k = 5 ∧ k2 = 5 := by simpa using e5
      have hv : equalP lang (.mk k b n t x q) (.mk k2 b2 n2 t2 x2 q2) = (if q.length = q2.length then eachEqual lang q q2 else 0) := by unfold equalP; rw [if_neg (by omega), if_neg hnn, if_neg (fun h => hlang h.1), if_pos h55]
      rw [hv]
      rw [e5] at hbo
      generalize (if q.length = q2.length then eachEqual lang q q2 else 0) = r at hls ⊢
      clear hv hnn n0 n1 h55 e5 hg1 hg2 ho1 ho2 hsm hlang
      go_enter Tryz.func44, Tryz.ntmps44
      go_wp2_with fail
      rw [← H0.out]
      go_wp2_with (first
        | ((with_reducible refine wpList_load6g (.tmp 4) w.heap.size S4 ?_ ?_ ?_ ?_); rfl; rfl; rfl)
        | ((with_reducible refine wpList_load6g (.tmp 5) (w.heap.size + 1) S5 ?_ ?_ ?_ ?_); rfl; rfl; rfl)
        | (go_at_call 50; (with_reducible refine (hn1 _).mono ?_); rintro e w' ⟨rfl, hb⟩; replace S4 := S4.below hb; replace S5 := S5.below hb; replace b0 := below_any b0 hb b0.size; have f5 := S4.c5; have g5 := S5.c5; have f00 := S4.c0; have g00 := S5.c0; clear hb)
        | (go_at_call 50; (with_reducible refine (hn2 _).mono ?_); rintro e w' ⟨rfl, hb⟩; replace S4 := S4.below hb; replace S5 := S5.below hb; replace b0 := below_any b0 hb b0.size; have f5 := S4.c5; have g5 := S5.c5; have f00 := S4.c0; have g00 := S5.c0; clear hb)
        | (go_at_call 53; (with_reducible refine (hbo _).mono ?_); rintro e w' ⟨rfl, hb⟩; replace S4 := S4.below hb; replace S5 := S5.below hb; replace b0 := below_any b0 hb b0.size; have f5 := S4.c5; have g5 := S5.c5; have f00 := S4.c0; have g00 := S5.c0; clear hb)
        | (go_at_call 86; (with_reducible refine (hls _ b0).mono ?_); rintro e w' ⟨rfl, hb⟩; replace S4 := S4.below hb; replace S5 := S5.below hb; replace b0 := below_any b0 hb b0.size; have f5 := S4.c5; have g5 := S5.c5; have f00 := S4.c0; have g00 := S5.c0; clear hb))
      go_ret
      exact ⟨rfl, b0⟩
    | false =>
      have hv : equalP lang (.mk k b n t x q) (.mk k2 b2 n2 t2 x2 q2) = tI (sameP (.mk k b n t x q) (.mk k2 b2 n2 t2 x2 q2)) := by unfold equalP; rw [if_neg (by omega), if_neg hnn, if_neg (fun h => hlang h.1), if_neg (by rintro ⟨u, v⟩; rw [u, v] at e5; cases e5)]
      rw [hv]
      rw [e5] at hbo
      generalize sameP (.mk k b n t x q) (.mk k2 b2 n2 t2 x2 q2) = r at hsm ⊢
      clear hv hnn n0 n1 e5 hg1 hg2 ho1 ho2 hls hlang
      go_enter Tryz.func44, Tryz.ntmps44
      go_wp2_with fail
      rw [← H0.out]
      go_wp2_with (first
        | ((with_reducible refine wpList_load6g (.tmp 4) w.heap.size S4 ?_ ?_ ?_ ?_); rfl; rfl; rfl)
        | ((with_reducible refine wpList_load6g (.tmp 5) (w.heap.size + 1) S5 ?_ ?_ ?_ ?_); rfl; rfl; rfl)
        | (go_at_call 50; (with_reducible refine (hn1 _).mono ?_); rintro e w' ⟨rfl, hb⟩; replace S4 := S4.below hb; replace S5 := S5.below hb; replace b0 := below_any b0 hb b0.size; have f5 := S4.c5; have g5 := S5.c5; have f00 := S4.c0; have g00 := S5.c0; clear hb)
        | (go_at_call 50; (with_reducible refine (hn2 _).mono ?_); rintro e w' ⟨rfl, hb⟩; replace S4 := S4.below hb; replace S5 := S5.below hb; replace b0 := below_any b0 hb b0.size; have f5 := S4.c5; have g5 := S5.c5; have f00 := S4.c0; have g00 := S5.c0; clear hb)
        | (go_at_call 53; (with_reducible refine (hbo _).mono ?_); rintro e w' ⟨rfl, hb⟩; replace S4 := S4.below hb; replace S5 := S5.below hb; replace b0 := below_any b0 hb b0.size; have f5 := S4.c5; have g5 := S5.c5; have f00 := S4.c0; have g00 := S5.c0; clear hb)
        | (go_at_call 17; (with_reducible refine (hsm _ b0).mono ?_); rintro e w' ⟨rfl, hb⟩; replace S4 := S4.below hb; replace S5 := S5.below hb; replace b0 := below_any b0 hb b0.size; have f5 := S4.c5; have g5 := S5.c5; have f00 := S4.c0; have g00 := S5.c0; clear hb)
        | (go_at_call 51; (with_reducible refine (truthT _ _).mono ?_); rintro e w' ⟨rfl, rfl⟩))
      go_ret
      exact ⟨rfl, b0⟩
end Go.Proofs.YtoifjjgakblhhaaGreatDoor

/- Equal, for values in one another. -/
namespace Go.Proofs.YtoifjjgakblhhaaGreatDoor
open Go.RowKit

theorem equal_step (lang : Int) (v : Val) (k : Int) (b : Bool) (n : Int) (t x : ByteArray) (q : List Val) (ev : v = .mk k b n t x q) (each : ∀ u ∈ q, EqualAt lang u) : EqualAt lang v := by
  subst ev
  intro w k1 b1 n1 t1 x1 q1 p cap k2 b2 n2 t2 x2 q2 p2 cap2 v2 e1 e2 hG hT hf hf2 hl hl2
  cases e1
  subst e2
  by_cases n0 : k = 0
  · exact equalPlain lang k b n t x q p cap k2 b2 n2 t2 x2 q2 p2 cap2 w hG hT hf hf2 hl hl2 each (.inl n0)
  · by_cases n1 : k2 = 0
    · exact equalPlain lang k b n t x q p cap k2 b2 n2 t2 x2 q2 p2 cap2 w hG hT hf hf2 hl hl2 each (.inr (.inl n1))
    · cases h1 : numB k with
      | false => exact equalNot1 lang k b n t x q p cap k2 b2 n2 t2 x2 q2 p2 cap2 w hG hT hf hf2 hl hl2 each n0 n1 h1
      | true =>
        cases h2 : numB k2 with
        | false => exact equalNot2 lang k b n t x q p cap k2 b2 n2 t2 x2 q2 p2 cap2 w hG hT hf hf2 hl hl2 each n0 n1 h1 h2
        | true => exact equalPlain lang k b n t x q p cap k2 b2 n2 t2 x2 q2 p2 cap2 w hG hT hf hf2 hl hl2 each (.inr (.inr ⟨h1, h2⟩))
mutual
theorem equalAll (lang : Int) : (v : Val) → EqualAt lang v
  | .mk k b n t x q => equal_step lang _ k b n t x q rfl (equalEach lang q)
theorem equalEach (lang : Int) : (q : List Val) → ∀ u ∈ q, EqualAt lang u
  | [], _, h => absurd h (by simp)
  | v :: r, u, h => by
    rcases List.mem_cons.1 h with h | h
    · rw [h]; exact equalAll lang v
    · exact equalEach lang r u h
end
/-- Equal, of any two values. -/
def equalTop (lang : Int) (v v2 : Val) : Int := if mayP v 0 && mayP v2 0 then equalP lang v v2 else 2
set_option maxHeartbeats 1600000 in
theorem EqualC (lang : Int) (k : Int) (b : Bool) (n : Int) (t x : ByteArray) (q : List Val) (p : Option Addr) (cap : Nat) (k2 : Int) (b2 : Bool) (n2 : Int) (t2 x2 : ByteArray) (q2 : List Val) (p2 : Option Addr) (cap2 : Nat) (w : World) (hG : Gd w) (hT : Tab w) (hf : Fine n t x q.length) (hf2 : Fine n2 t2 x2 q2.length) (hl : Held w (.slice p q.length cap) q) (hl2 : Held w (.slice p2 q2.length cap2) q2) :
    Calls Tryz.prog 19 #[.int .i64 lang, .agg #[.int .i64 k, .bool b, .int .i64 n, .string t, .string x, .slice p q.length cap], .agg #[.int .i64 k2, .bool b2, .int .i64 n2, .string t2, .string x2, .slice p2 q2.length cap2]] w fun e w' => e = .returned (.int .i64 (equalTop lang (.mk k b n t x q) (.mk k2 b2 n2 t2 x2 q2))) ∧ Below w.heap.size w w' := by
  obtain ⟨W0, hW0⟩ : ∃ W0, W0 = (w.alloc (.cells #[.int .i64 k, .bool b, .int .i64 n, .string t, .string x, .slice p q.length cap] 28)).alloc (.cells #[.int .i64 k2, .bool b2, .int .i64 n2, .string t2, .string x2, .slice p2 q2.length cap2] 28) := ⟨_, rfl⟩
  have S4 : Six W0 w.heap.size k b n t x p q.length cap := by rw [hW0]; exact (six_new _ rfl).alloc _
  have S5 : Six W0 (w.heap.size + 1) k2 b2 n2 t2 x2 p2 q2.length cap2 := by rw [hW0]; exact six_new _ (by simp)
  have b0 : Below w.heap.size w W0 := by rw [hW0]; exact below2 _ _ _
  have f0 := S4.c0
  have g0 := S5.c0
  have H0 := Lib.hid hW0
  have hc1 := fun W (h : Below w.heap.size w W) => checkAtV (.mk k b n t x q) k b n t x q (.slice p q.length cap) W rfl (hG.below h) hf.ht hf.hx (Held.below q hl h)
  have hc2 := fun W (h : Below w.heap.size w W) => checkAtV (.mk k2 b2 n2 t2 x2 q2) k2 b2 n2 t2 x2 q2 (.slice p2 q2.length cap2) W rfl (hG.below h) hf2.ht hf2.hx (Held.below q2 hl2 h)
  have he := fun W (h : Below w.heap.size w W) => equalAll lang (.mk k b n t x q) W k b n t x q p cap k2 b2 n2 t2 x2 q2 p2 cap2 (.mk k2 b2 n2 t2 x2 q2) rfl rfl (hG.below h) (hT.below h) hf hf2 (Held.below q hl h) (Held.below q2 hl2 h)
  clear hl hl2 hf hf2 hG hT hW0
  unfold equalTop
  cases m1 : mayP (.mk k b n t x q) 0 with
  | false =>
    rw [m1] at hc1
    rw [Bool.false_and, if_neg (by simp)]
    clear hc2 he
    go_enter Tryz.func19, Tryz.ntmps19
    go_wp2_with fail
    rw [← H0.out]
    go_wp2_with (first
      | ((with_reducible refine wpList_load6g (.tmp 4) w.heap.size S4 ?_ ?_ ?_ ?_); rfl; rfl; rfl)
      | ((with_reducible refine wpList_load6g (.tmp 5) (w.heap.size + 1) S5 ?_ ?_ ?_ ?_); rfl; rfl; rfl)
      | (go_at_call 13; (with_reducible refine (hc1 _ b0).mono ?_); rintro e w' ⟨rfl, hb⟩; replace S4 := S4.below hb; replace S5 := S5.below hb; replace b0 := below_any b0 hb b0.size; have f5 := S4.c5; have g5 := S5.c5; have f00 := S4.c0; have g00 := S5.c0; clear hb))
    go_ret
    exact ⟨rfl, b0⟩
  | true =>
    rw [m1] at hc1
    rw [Bool.true_and]
    cases m2 : mayP (.mk k2 b2 n2 t2 x2 q2) 0 with
    | false =>
      rw [m2] at hc2
      rw [if_neg (by simp)]
      clear he
      go_enter Tryz.func19, Tryz.ntmps19
      go_wp2_with fail
      rw [← H0.out]
      go_wp2_with (first
        | ((with_reducible refine wpList_load6g (.tmp 4) w.heap.size S4 ?_ ?_ ?_ ?_); rfl; rfl; rfl)
        | ((with_reducible refine wpList_load6g (.tmp 5) (w.heap.size + 1) S5 ?_ ?_ ?_ ?_); rfl; rfl; rfl)
        | (go_at_call 13; (with_reducible refine (hc1 _ b0).mono ?_); rintro e w' ⟨rfl, hb⟩; replace S4 := S4.below hb; replace S5 := S5.below hb; replace b0 := below_any b0 hb b0.size; have f5 := S4.c5; have g5 := S5.c5; have f00 := S4.c0; have g00 := S5.c0; clear hb)
        | (go_at_call 13; (with_reducible refine (hc2 _ b0).mono ?_); rintro e w' ⟨rfl, hb⟩; replace S4 := S4.below hb; replace S5 := S5.below hb; replace b0 := below_any b0 hb b0.size; have f5 := S4.c5; have g5 := S5.c5; have f00 := S4.c0; have g00 := S5.c0; clear hb))
      go_ret
      exact ⟨rfl, b0⟩
    | true =>
      rw [m2] at hc2
      rw [if_pos rfl]
      generalize equalP lang (.mk k b n t x q) (.mk k2 b2 n2 t2 x2 q2) = r at he ⊢
      go_enter Tryz.func19, Tryz.ntmps19
      go_wp2_with fail
      rw [← H0.out]
      go_wp2_with (first
        | ((with_reducible refine wpList_load6g (.tmp 4) w.heap.size S4 ?_ ?_ ?_ ?_); rfl; rfl; rfl)
        | ((with_reducible refine wpList_load6g (.tmp 5) (w.heap.size + 1) S5 ?_ ?_ ?_ ?_); rfl; rfl; rfl)
        | (go_at_call 13; (with_reducible refine (hc1 _ b0).mono ?_); rintro e w' ⟨rfl, hb⟩; replace S4 := S4.below hb; replace S5 := S5.below hb; replace b0 := below_any b0 hb b0.size; have f5 := S4.c5; have g5 := S5.c5; have f00 := S4.c0; have g00 := S5.c0; clear hb)
        | (go_at_call 13; (with_reducible refine (hc2 _ b0).mono ?_); rintro e w' ⟨rfl, hb⟩; replace S4 := S4.below hb; replace S5 := S5.below hb; replace b0 := below_any b0 hb b0.size; have f5 := S4.c5; have g5 := S5.c5; have f00 := S4.c0; have g00 := S5.c0; clear hb)
        | (go_at_call 44; (with_reducible refine (he _ b0).mono ?_); rintro e w' ⟨rfl, hb⟩; replace S4 := S4.below hb; replace S5 := S5.below hb; replace b0 := below_any b0 hb b0.size; have f5 := S4.c5; have g5 := S5.c5; have f00 := S4.c0; have g00 := S5.c0; clear hb))
      go_ret
      exact ⟨rfl, b0⟩
end Go.Proofs.YtoifjjgakblhhaaGreatDoor

/- The document's own Equal. -/
namespace Go.Proofs.YtoifjjgakblhhaaGreatDoor
open Go.RowKit

end Go.Proofs.YtoifjjgakblhhaaGreatDoor

/- The document's own equality in S, whole. -/
namespace Go.Proofs.YtoifjjgakblhhaaGreatDoor
open Go.RowKit

end Go.Proofs.YtoifjjgakblhhaaGreatDoor

/- The document's own Equal: lists; all kinds put together. -/
namespace Go.Proofs.YtoifjjgakblhhaaGreatDoor
open Go.RowKit

end Go.Proofs.YtoifjjgakblhhaaGreatDoor

/- The document's own text of a value. -/
namespace Go.Proofs.YtoifjjgakblhhaaGreatDoor
open Go.RowKit

end Go.Proofs.YtoifjjgakblhhaaGreatDoor

/- The document's own text: lists; all kinds put together. -/
namespace Go.Proofs.YtoifjjgakblhhaaGreatDoor
open Go.RowKit

end Go.Proofs.YtoifjjgakblhhaaGreatDoor

/- Two lists, one behind the other: joinLists. -/
namespace Go.Proofs.YtoifjjgakblhhaaGreatDoor
open Go.RowKit

theorem results_six_tmp {fn : Func} {p q : Tmp} (h : fn.results = #[.cell p 28, .tmp q]) (tmps : Array Value) {w : World} {g : Nat} {k : Int} {b : Bool} {n : Int} {t x : ByteArray} {pp : Option Addr} {len cap : Nat} (v : Value)
    (hp : tmps.getD p undef = .pointer (some ⟨g, 0, none⟩)) (hq : tmps.getD q undef = v) (hg : Six w g k b n t x pp len cap) : (results fn tmps).run Tryz.prog w = .ok (.tuple #[.agg #[.int .i64 k, .bool b, .int .i64 n, .string t, .string x, .slice pp len cap], v]) w := by
  have hp' : tmps[p]?.getD undef = .pointer (some ⟨g, 0, none⟩) := by simpa using hp
  have hq' : tmps[q]?.getD undef = v := by simpa using hq
  have hl := run_loadVar_row (P := Tryz.prog) w g 28 28 _ (0, 0) _ hg Tryz.underlying28 rfl info28
  simp [results, h, hp', hq', asAddr, hl]
end Go.Proofs.YtoifjjgakblhhaaGreatDoor

/- The copies that the document's own text makes of values. -/
namespace Go.Proofs.YtoifjjgakblhhaaGreatDoor
open Go.RowKit

theorem results_sixA {fn : Func} {p : Tmp} (h : fn.results = #[.cell p 28]) (tmps : Array Value) {w : World} {g : Nat} {k : Int} {b : Bool} {n : Int} {t x : ByteArray} {pp : Option Addr} {len cap : Nat}
    (hp : tmps.getD p undef = .pointer (some ⟨g, 0, none⟩)) (hg : Six w g k b n t x pp len cap) : (results fn tmps).run Tryz.prog w = .ok (.agg #[.int .i64 k, .bool b, .int .i64 n, .string t, .string x, .slice pp len cap]) w := by
  have hp' : tmps[p]?.getD undef = .pointer (some ⟨g, 0, none⟩) := by simpa using hp
  have hl := run_loadVar_row (P := Tryz.prog) w g 28 28 _ (0, 0) _ hg Tryz.underlying28 rfl info28
  simp [results, h, hp', asAddr, hl]
/-- What CopyValue tells: the same cells, and a list of new blocks. -/
def RValPost (w : World) (k : Int) (b : Bool) (n : Int) (t x : ByteArray) (q : List Val) (e : Ending) (w' : World) : Prop :=
  ∃ p c, e = .returned (.agg #[.int .i64 k, .bool b, .int .i64 n, .string t, .string x, .slice p q.length c]) ∧ HeldF w' (fun g => w.heap.size < g ∧ g < w'.heap.size) (.slice p q.length c) q ∧ Below w.heap.size w w'
def RCopyV (v : Val) : Prop := ∀ (W : World) (k : Int) (b : Bool) (n : Int) (t x : ByteArray) (q : List Val) (p : Option Addr) (cap : Nat), v = .mk k b n t x q → q.length ≤ 2097152 → Held W (.slice p q.length cap) q →
  Calls Tryz.prog 37 #[.slice p q.length cap] W (CopyPost W q)

set_option maxRecDepth 20000 in
set_option maxHeartbeats 3200000 in
theorem rcopyValue (k : Int) (b : Bool) (n : Int) (t x : ByteArray) (q : List Val) (p : Option Addr) (cap : Nat) (w : World) (hc : ∀ W, Below w.heap.size w W → Calls Tryz.prog 37 #[.slice p q.length cap] W (CopyPost W q)) :
    Calls Tryz.prog 12 #[.agg #[.int .i64 k, .bool b, .int .i64 n, .string t, .string x, .slice p q.length cap]] w (RValPost w k b n t x q) := by
  obtain ⟨W0, hW0⟩ : ∃ W0, W0 = (w.alloc (.cells #[.int .i64 k, .bool b, .int .i64 n, .string t, .string x, .slice p q.length cap] 28)).alloc (.cells #[.int .i64 0, .bool false, .int .i64 0, .string ⟨#[]⟩, .string ⟨#[]⟩, .slice none 0 0] 28) := ⟨_, rfl⟩
  have S1 : Six W0 w.heap.size k b n t x p q.length cap := by rw [hW0]; exact (six_new _ rfl).alloc _
  have S2 : Six W0 (w.heap.size + 1) 0 false 0 ⟨#[]⟩ ⟨#[]⟩ none 0 0 := by rw [hW0]; exact six_new _ (by simp)
  have b0 : Below w.heap.size w W0 := by rw [hW0]; exact (below1 _ _).alloc (by simp) _
  have z0 : W0.heap.size = w.heap.size + 2 := by rw [hW0]; simp
  have c5 := S1.c5
  have H0 := Lib.hid hW0
  have HZ := Lib.hid z0
  clear hW0 z0
  go_enter Tryz.func12, Tryz.ntmps12
  go_wp2_with (first
    | (go_at_call 37; rw [← H0.out]; (with_reducible refine (hc _ b0).mono ?_); rintro e w2 ⟨V, ys, rfl, hv, hcs, hb2⟩
       have hq2 : HeldF w2 (fun g => w.heap.size + 1 < g ∧ g < w2.heap.size) V q := heldF_of_own hv hcs (fun g hg => ⟨by have := hg.1; have := HZ.out; omega, hg.2.1⟩) (fun g hg => ⟨by have := (hv.lt g hg).1; have := HZ.out; omega, (hv.lt g hg).2⟩)
       obtain ⟨p2, c2, rfl⟩ := held_slice hq2.held
       have T1 := S1.below hb2; have T2 := S2.below hb2; have b2 := below_any b0 hb2 b0.size; have c5 := T1.c5; have f5 := T1.free 5
       have HQ := Lib.hid hq2; clear hq2 hv hcs hb2 S1 S2 b0)
    | ((with_reducible refine wpList_load6 (.tmp 1) w.heap.size (T1.set5 p2 q.length c2) ?_ ?_ ?_ ?_); rfl; rfl; rfl)
    | ((with_reducible refine wpList_store6 (k' := k) (b' := b) (n' := n) (t' := t) (x' := x) (p' := p2) (len' := q.length) (cap' := c2) (.tmp 2) (.tmp 7) (w.heap.size + 1) (Six.only T2 (Only.refl w.heap.size _ |>.setCell 5 none _) (by omega)) ?_ ?_ ?_ ?_ ?_); rfl; rfl; rfl; rfl; intro w9 on9 S9))
  have on5 : Only w.heap.size w2 (w2.setCell ⟨w.heap.size, 5, none⟩ (.slice p2 q.length c2)) := (Only.refl w.heap.size w2).setCell 5 none _
  have s5 := on5.size
  have s9 := on9.size
  have b5 : Below w.heap.size w (w2.setCell ⟨w.heap.size, 5, none⟩ (.slice p2 q.length c2)) := below_only b2 on5 (Nat.le_refl _) b2.size
  refine bodyPost_ret (results_sixA (p := 2) Tryz.results12 _ rfl S9) rfl ⟨p2, c2, rfl, ?_, below_only b5 on9 (by omega) b5.size⟩
  exact HQ.out.stays (P' := fun g => w.heap.size < g ∧ g < w9.heap.size) (fun g hg => ⟨⟨by omega, by omega⟩, (on9.block g (by omega) (by omega)).trans (on5.block g (by omega) (by omega))⟩) q
set_option maxRecDepth 20000 in
set_option maxHeartbeats 6400000 in
theorem rcopySome (l : List Val) (g off cap : Nat) (w : World) (hl : Holds w g off l) (hn : l.length ≤ 2097152) (each : ∀ v ∈ l, RCopyV v) :
    Calls Tryz.prog 37 #[.slice (some ⟨g, off, none⟩) l.length cap] w (CopyPost w l) := by
  obtain ⟨n, hln⟩ : ∃ n, n = l.length := ⟨_, rfl⟩
  rw [← hln] at hn ⊢
  obtain ⟨i0, hi, hz0, hz1, hz2⟩ := info_parts info28b
  have HL := Lib.hid hln
  have HH := Lib.hid hl
  have HE := Lib.hid each
  clear hl hln each
  go_enter Tryz.func37, Tryz.ntmps37
  go_wp2_with fail
  go_loopg [3, 4] n (fun gg s3 s4 wr => ∃ j : Nat, j + gg = n ∧ s4 = .int .i64 j ∧ Hid (Acc w (l.take j) s3 wr))
  case atStart => exact ⟨0, by omega, rfl, Lib.hid ⟨⟨[], by simpa using World.ownsRow_nil w w.heap.size 28 6, by unfold CellsF; rfl⟩, Below.refl _ _⟩⟩
  case round =>
    obtain ⟨j, hjg, rfl, HA⟩ := hrel
    by_cases hlt : (j : Int) < n
    · have hj1 : j < l.length := by have := HL.out; omega
      obtain ⟨k, b, m, t, x, q, p, cp, o1⟩ := ((Holds.at_ l off HH.out j hj1).below _ HA.out.bel).opens
      have hcp : Calls Tryz.prog 12 #[.agg #[.int .i64 k, .bool b, .int .i64 m, .string t, .string x, .slice p q.length cp]] wr (RValPost wr k b m t x q) :=
        rcopyValue k b m t x q p cp wr fun W h => HE.out l[j] (List.getElem_mem hj1) W k b m t x q p cp o1.e o1.hf.hn (Held.below q o1.hl h)
      unfold RValPost at hcp
      have HF := Lib.hid o1.hf
      have HV := Lib.hid o1.e
      have hjl : (l.take j).length = j := by rw [List.length_take]; omega
      have c0 := o1.c0
      have c1 := o1.c1
      have c2 := o1.c2
      have c3 := o1.c3
      have c4 := o1.c4
      have c5 := o1.c5
      clear o1
      go_wp2_with (first
        | ((with_reducible refine wpList_loadMid6 (.tmp 14) g (off + j * 6) k b m t x _ c0 c1 c2 c3 c4 c5 ?_ ?_ ?_ ?_); rfl; rfl; rfl)
        | (go_at_call 12; (with_reducible refine hcp.mono ?_); rintro e wf ⟨p5, k5, rfl, hq0, bf0⟩
           obtain ⟨⟨xs, hown, hcs⟩, hbel⟩ := HA.out
           have hownX := own_below hown bf0
           have hbs := hbel.size
           have hfs := bf0.size
           have HX := Lib.hid (And.intro hown (And.intro hcs (And.intro hbel (And.intro bf0 hq0))))
           clear hown hcs hbel bf0 hq0 HA c0 c1 c2 c3 c4 c5 hcp)
        | (at_builtin; refine wpList_append_own_at _ rfl _ _ 22 rfl w.heap.size 28 i0 (.agg #[.int .i64 0, .bool false, .int .i64 0, .string ⟨#[]⟩, .string ⟨#[]⟩, .slice none 0 0]) 6 80 Tryz.underlying22 hi hz0 hz1 hz2 rfl (by decide) _ _ _ rfl (hownX.alloc _) ⟨wf.heap.size, 0, none⟩ 1 1 [.int .i64 k, .bool b, .int .i64 m, .string t, .string x, .slice p5 q.length k5] rfl rfl (cell_six_new _ _ _ _ _ _ _ _) ?_ ?_ ?_ ?_ ?_))
      all_goals (try (first | (rw [hjl]; unfold maxLen; omega) | (rw [hjl]; omega) | (simp; omega) | (intro u hu; simp only [List.mem_cons, List.mem_nil_iff, or_false] at hu; rcases hu with rfl | rfl | rfl | rfl | rfl | rfl <;> rfl)))
      intro v' w1 hown' hgrow _ hloc
      have acc := Acc.next (k := k) (b := b) (n := m) (t := t) (x := x) (q := q) rfl HX.out.1 HX.out.2.1 HX.out.2.2.1 HX.out.2.2.2.1 HF.out HX.out.2.2.2.2 (by rw [hjl]; exact hown') hgrow hloc
      have e : l.take (j + 1) = l.take j ++ [.mk k b m t x q] := by rw [List.take_succ_eq_append_getElem hj1, HV.out]
      rw [← e] at acc
      have ACC := Lib.hid acc
      clear acc hown' hgrow hloc hownX
      go_wp2_with fail
      go_roundg (gk - 1)
      case measure => omega
      case rel => exact ⟨j + 1, by omega, by go_num, ACC⟩
    · have e : l.take j = l := by rw [List.take_of_length_le]; have := HL.out; omega
      have hA := HA.out
      rw [e] at hA
      obtain ⟨⟨xs, hown, hcs⟩, hbel⟩ := hA
      have HX := Lib.hid (And.intro hown (And.intro hcs hbel))
      clear hown hcs hbel HA
      go_wp2_with fail
      go_ret
      exact ⟨_, xs, rfl, HX.out.1, HX.out.2.1, HX.out.2.2⟩

theorem rcopy_list (q : List Val) (p : Option Addr) (cap : Nat) (w : World) (hl : Held w (.slice p q.length cap) q) (hn : q.length ≤ 2097152) (each : ∀ u ∈ q, RCopyV u) :
    Calls Tryz.prog 37 #[.slice p q.length cap] w (CopyPost w q) := by
  cases q with
  | nil =>
    go_enter Tryz.func37, Tryz.ntmps37
    go_wp2_with fail
    go_loopg [3, 4] 0 (fun gg s3 s4 wr => gg = 0 ∧ s4 = .int .i64 0 ∧ s3 = .slice none 0 0 ∧ wr = w)
    case atStart => exact ⟨rfl, rfl, rfl, rfl⟩
    case round =>
      obtain ⟨_, rfl, rfl, rfl⟩ := hrel
      go_wp2_with fail
      go_ret
      exact ⟨_, [], rfl, World.ownsRow_nil _ _ 28 6, by unfold CellsF; rfl, Below.refl _ _⟩
  | cons v r =>
    obtain ⟨g, off, rfl, hh⟩ := hl.form
    exact rcopySome (v :: r) g off cap w hh hn each
mutual
theorem rcopyVal : (v : Val) → RCopyV v
  | .mk k b n t x q => fun W k1 b1 n1 t1 x1 q1 p cap e hn hl => by
    cases e
    exact rcopy_list q p cap W hl hn (rcopyEach q)
theorem rcopyEach : (q : List Val) → ∀ u ∈ q, RCopyV u
  | [], _, h => absurd h (by simp)
  | v :: r, u, h => by
    rcases List.mem_cons.1 h with h | h
    · rw [h]; exact rcopyVal v
    · exact rcopyEach r u h
end
/-- CopyValue. -/
theorem rcopyAt (k : Int) (b : Bool) (n : Int) (t x : ByteArray) (q : List Val) (p : Option Addr) (cap : Nat) (w : World) (hf : Fine n t x q.length) (hl : Held w (.slice p q.length cap) q) :
    Calls Tryz.prog 12 #[.agg #[.int .i64 k, .bool b, .int .i64 n, .string t, .string x, .slice p q.length cap]] w (RValPost w k b n t x q) :=
  rcopyValue k b n t x q p cap w fun W h => rcopyVal (.mk k b n t x q) W k b n t x q p cap rfl hf.hn (Held.below q hl h)
end Go.Proofs.YtoifjjgakblhhaaGreatDoor

/- How large a list of values is, and whether it isn't too deep: both answer. -/
namespace Go.Proofs.YtoifjjgakblhhaaGreatDoor
open Go.RowKit

def addW (a b : Int) : Int := wrap64 (a + b)
mutual
def sizeOne : Val → Int → Int
  | .mk _ _ _ t x l, n => addW (addW (addW (addW n 1) (wrap64 ((t.size : Int)/ 64))) (wrap64 ((x.size : Int)/ 64))) (sizeAll l 0)
def sizeAll : List Val → Int → Int
  | [], n => n
  | v :: r, n => sizeAll r (sizeOne v n)
end
theorem sizeAll_take : (l : List Val) → (n : Int) → (j : Nat) → (h : j < l.length) → sizeAll (l.take (j + 1)) n = sizeOne (l[j]'h) (sizeAll (l.take j) n)
  | [], _, j, h => absurd h (by simp)
  | v :: r, n, 0, _ => by
    show sizeAll (v :: r.take 0) n = sizeOne v (sizeAll [] n)
    simp [sizeAll]
  | v :: r, n, j + 1, h => by
    show sizeAll (v :: r.take (j + 1)) n = sizeOne (r[j]'(by simpa using h)) (sizeAll (v :: r.take j) n)
    unfold sizeAll
    exact sizeAll_take r _ j (by simpa using h)
/-- What Size answers of the list of a value that lies somewhere. -/
def SizeAt (v : Val) : Prop := ∀ (W : World) (k : Int) (b : Bool) (n : Int) (t x : ByteArray) (q : List Val) (p : Option Addr) (cap : Nat), v = .mk k b n t x q → q.length ≤ 2097152 → Held W (.slice p q.length cap) q →
  Calls Tryz.prog 35 #[.slice p q.length cap] W fun e w' => e = .returned (.int .i64 (sizeAll q 0)) ∧ ∃ m, w' = W.drewN m

set_option maxRecDepth 20000 in
set_option maxHeartbeats 1600000 in
theorem sizeSome (l : List Val) (g off cap : Nat) (w : World) (hl : Holds w g off l) (hn : l.length ≤ 2097152) (each : ∀ u ∈ l, SizeAt u) :
    Calls Tryz.prog 35 #[.slice (some ⟨g, off, none⟩) l.length cap] w fun e w' => e = .returned (.int .i64 (sizeAll l 0)) ∧ ∃ m, w' = w.drewN m := by
  obtain ⟨n, hln⟩ : ∃ n, n = l.length := ⟨_, rfl⟩
  rw [← hln] at hn ⊢
  have HL := Lib.hid hln
  have HH := Lib.hid hl
  have HE := Lib.hid each
  clear hl hln each
  go_enter Tryz.func35, Tryz.ntmps35
  go_wp2_with fail
  go_loopg [3, 4] n (fun gg s3 s4 wr => ∃ (j m : Nat) (z : Int), j + gg = n ∧ s4 = .int .i64 j ∧ s3 = .int .i64 z ∧ Hid (z = sizeAll (l.take j) 0) ∧ Hid (wr = w.drewN m))
  case atStart => exact ⟨0, 0, 0, by omega, rfl, rfl, Lib.hid (by simp [sizeAll]), Lib.hid rfl⟩
  case round =>
    obtain ⟨j, m, z, hjg, rfl, rfl, HZ, HW⟩ := hrel
    by_cases hlt : (j : Int) < n
    · have hj1 : j < l.length := by have := HL.out; omega
      obtain ⟨k, b, i, t, x, q, p, cp, o⟩ := (Holds.at_ l off HH.out j hj1).opens
      have o1 := o.below (w' := wr) (by rw [HW.out]; exact below_drewN (Below.refl _ _) m)
      have c3 := o1.c3
      have c4 := o1.c4
      have c5 := o1.c5
      have HC : ∀ nn, Calls Tryz.prog 35 #[.slice p q.length cp] (wr.drewN nn) fun e w' => e = .returned (.int .i64 (sizeAll q 0)) ∧ ∃ m', w' = (wr.drewN nn).drewN m' := fun nn =>
        HE.out l[j] (List.getElem_mem hj1) _ k b i t x q p cp o.e o.hf.hn (o1.below (below_drewN (Below.refl _ _) nn)).hl
      have HC := Lib.hid HC
      have hz : sizeAll (l.take (j + 1)) 0 = addW (addW (addW (addW z 1) (wrap64 ((t.size : Int)/ 64))) (wrap64 ((x.size : Int)/ 64))) (sizeAll q 0) := by
        rw [sizeAll_take l 0 j hj1, o.e, ← HZ.out]
        unfold sizeOne
        rfl
      have HZ2 := Lib.hid hz
      clear hz o o1
      generalize sizeAll q 0 = zq at *
      go_wp2_with fail
      go_quiet ((go_at_call 35; exact Calls.quiet_of (HC.out _)))
      go_wp2_with fail
      go_roundg (gk - 1)
      case measure => omega
      case rel => exact ⟨j + 1, m + nq, _, by omega, by go_num, rfl, Lib.hid (by rw [HZ2.out]; rfl), Lib.hid (by rw [HW.out, World.drewN_drewN])⟩
    · go_wp2_with fail
      go_ret
      have e : j = l.length := by have := HL.out; omega
      exact ⟨by rw [HZ.out, e, List.take_length]; rfl, m, HW.out⟩
theorem size_list (q : List Val) (p : Option Addr) (cap : Nat) (w : World) (hl : Held w (.slice p q.length cap) q) (hn : q.length ≤ 2097152) (each : ∀ u ∈ q, SizeAt u) :
    Calls Tryz.prog 35 #[.slice p q.length cap] w fun e w' => e = .returned (.int .i64 (sizeAll q 0)) ∧ ∃ m, w' = w.drewN m := by
  cases q with
  | nil =>
    go_enter Tryz.func35, Tryz.ntmps35
    go_wp2_with fail
    go_loopg [3, 4] 0 (fun gg s3 s4 wr => gg = 0 ∧ s3 = .int .i64 0 ∧ s4 = .int .i64 0 ∧ wr = w)
    case atStart => exact ⟨rfl, rfl, rfl, rfl⟩
    case round =>
      obtain ⟨_, rfl, rfl, rfl⟩ := hrel
      go_wp2_with fail
      go_ret
      exact ⟨rfl, 0, rfl⟩
  | cons v r =>
    obtain ⟨g, off, rfl, hh⟩ := hl.form
    exact sizeSome (v :: r) g off cap w hh hn each
mutual
theorem sizeVal : (v : Val) → SizeAt v
  | .mk k b n t x q => fun W k1 b1 n1 t1 x1 q1 p cap e hn hl => by
    cases e
    exact size_list q p cap W hl hn (sizeEach q)
theorem sizeEach : (q : List Val) → ∀ u ∈ q, SizeAt u
  | [], _, h => absurd h (by simp)
  | v :: r, u, h => by
    rcases List.mem_cons.1 h with h | h
    · rw [h]; exact sizeVal v
    · exact sizeEach r u h
end
end Go.Proofs.YtoifjjgakblhhaaGreatDoor
