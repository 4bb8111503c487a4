/- Texts of one kind, one behind the other: each says ahead of itself what it shows. -/
import Derived.Test.YtoifjjgakblhhaaGreatDoorHai
import Derived.Test.YtoifjjgakblhhaaGreatDoorHat
/- Whether two values are equal: equal, the first no number. -/
namespace Go.Proofs.YtoifjjgakblhhaaGreatDoor
open Go.RowKit

set_option maxRecDepth 4000 in
set_option maxHeartbeats 3200000 in
theorem equalNot1 (lang : Int) (k : Int) (b : Bool) (n : Int) (t x : ByteArray) (q : List Val) (p : Option Addr) (cap : Nat) (k2 : Int) (b2 : Bool) (n2 : Int) (t2 x2 : ByteArray) (q2 : List Val) (p2 : Option Addr) (cap2 : Nat) (w : World) (hG : Gd w) (hT : Tab w) (hf : Fine n t x q.length) (hf2 : Fine n2 t2 x2 q2.length) (hl : Held w (.slice p q.length cap) q) (hl2 : Held w (.slice p2 q2.length cap2) q2) (each : ∀ v ∈ q, EqualAt lang v) (n0 : ¬ k = 0) (n1 : ¬ k2 = 0) (h1 : numB k = false) :
    Calls Tryz.prog 44 #[.int .i64 lang, .agg #[.int .i64 k, .bool b, .int .i64 n, .string t, .string x, .slice p q.length cap], .agg #[.int .i64 k2, .bool b2, .int .i64 n2, .string t2, .string x2, .slice p2 q2.length cap2]] w fun e w' => e = .returned (.int .i64 (equalP lang (.mk k b n t x q) (.mk k2 b2 n2 t2 x2 q2))) ∧ Below w.heap.size w w' := by
  obtain ⟨W0, hW0⟩ : ∃ W0, W0 = (w.alloc (.cells #[.int .i64 k, .bool b, .int .i64 n, .string t, .string x, .slice p q.length cap] 28)).alloc (.cells #[.int .i64 k2, .bool b2, .int .i64 n2, .string t2, .string x2, .slice p2 q2.length cap2] 28) := ⟨_, rfl⟩
  have S4 : Six W0 w.heap.size k b n t x p q.length cap := by rw [hW0]; exact (six_new _ rfl).alloc _
  have S5 : Six W0 (w.heap.size + 1) k2 b2 n2 t2 x2 p2 q2.length cap2 := by rw [hW0]; exact six_new _ (by simp)
  have b0 : Below w.heap.size w W0 := by rw [hW0]; exact below2 _ _ _
  have f0 := S4.c0
  have g0 := S5.c0
  have H0 := Lib.hid hW0
  have hn1 := fun W => isNumberAt k b n t x (.slice p q.length cap) W
  have hn2 := fun W => isNumberAt k2 b2 n2 t2 x2 (.slice p2 q2.length cap2) W
  have hcmp := fun W (h : Below w.heap.size w W) => cmpNumsAt k b n t x p q.length cap k2 b2 n2 t2 x2 p2 q2.length cap2 W (hG.below h) (hT.below h) hf hf2
  have hg1 := fun W => isGraphsAt k b n t x (.slice p q.length cap) W
  have hg2 := fun W => isGraphsAt k2 b2 n2 t2 x2 (.slice p2 q2.length cap2) W
  have ho1 := fun W (h : Below w.heap.size w W) => isOpenAt k b n t x q p cap k2 b2 n2 t2 x2 q2 p2 cap2 W hf (Held.below q hl h) (Held.below q2 hl2 h) _ rfl
  have ho2 := fun W (h : Below w.heap.size w W) => isOpenAt k2 b2 n2 t2 x2 q2 p2 cap2 k b n t x q p cap W hf2 (Held.below q2 hl2 h) (Held.below q hl h) _ rfl
  have hbo := fun W => bothAreAt 5 k b n t x (.slice p q.length cap) k2 b2 n2 t2 x2 (.slice p2 q2.length cap2) W
  have hls := fun W (h : Below w.heap.size w W) => eqListsAt lang q q2 p p2 cap cap2 W (hG.below h) (hT.below h) (Held.below q hl h) (Held.below q2 hl2 h) hf.hn each
  have hsm := fun W (h : Below w.heap.size w W) => sameAtV k b n t x q p cap k2 b2 n2 t2 x2 q2 p2 cap2 W hf (Held.below q hl h) (Held.below q2 hl2 h)
  clear hl hl2 hf hf2 hG hT each hW0
  have e0 : (k == 0) = false := by simpa using n0
  have e1 : (k2 == 0) = false := by simpa using n1
  have m1 : numB k = false := h1
  have hnn : ¬ (numB k = true ∧ numB k2 = true) := by rintro ⟨u, v⟩; rw [m1] at u; cases u
  rw [show (k == 2 || k == 3) = numB k from rfl, m1] at hn1
  clear m1 hcmp
  by_cases hlang : lang = 1
  · have el : (lang == 1) = true := by simpa using hlang
    cases eg1 : graphB k with
    | true =>
      have hv : equalP lang (.mk k b n t x q) (.mk k2 b2 n2 t2 x2 q2) = 2 := by unfold equalP; rw [if_neg (by omega), if_neg hnn, if_pos ⟨hlang, by rw [eg1]; rfl⟩]
      rw [hv]
      rw [show (k == 5 || k == 6 || k == 7) = graphB k from rfl, eg1] at hg1
      clear hv hnn n0 n1 hg2 ho1 ho2 hbo hls hsm
      go_enter Tryz.func44, Tryz.ntmps44
      go_wp2_with fail
      rw [← H0.out]
      go_wp2_with (first
        | ((with_reducible refine wpList_load6g (.tmp 4) w.heap.size S4 ?_ ?_ ?_ ?_); rfl; rfl; rfl)
        | ((with_reducible refine wpList_load6g (.tmp 5) (w.heap.size + 1) S5 ?_ ?_ ?_ ?_); rfl; rfl; rfl)
        | (go_at_call 50; (with_reducible refine (hn1 _).mono ?_); rintro e w' ⟨rfl, hb⟩; replace S4 := S4.below hb; replace S5 := S5.below hb; replace b0 := below_any b0 hb b0.size; have f5 := S4.c5; have g5 := S5.c5; have f00 := S4.c0; have g00 := S5.c0; clear hb)
        | (go_at_call 84; (with_reducible refine (hg1 _).mono ?_); rintro e w' ⟨rfl, hb⟩; replace S4 := S4.below hb; replace S5 := S5.below hb; replace b0 := below_any b0 hb b0.size; have f5 := S4.c5; have g5 := S5.c5; have f00 := S4.c0; have g00 := S5.c0; clear hb))
      go_ret
      exact ⟨rfl, b0⟩
    | false =>
      have k5 : (k == 5) = false := by
        unfold graphB at eg1
        cases h5 : (k == 5) with
        | false => rfl
        | true => rw [h5] at eg1; cases eg1
      rw [show (k == 5 || k == 6 || k == 7) = graphB k from rfl, eg1] at hg1
      cases eg2 : graphB k2 with
      | true =>
        have hv : equalP lang (.mk k b n t x q) (.mk k2 b2 n2 t2 x2 q2) = 2 := by unfold equalP; rw [if_neg (by omega), if_neg hnn, if_pos ⟨hlang, by rw [eg1, eg2]; rfl⟩]
        rw [hv]
        rw [show (k2 == 5 || k2 == 6 || k2 == 7) = graphB k2 from rfl, eg2] at hg2
        clear hv hnn n0 n1 ho1 ho2 hbo hls hsm
        go_enter Tryz.func44, Tryz.ntmps44
        go_wp2_with fail
        rw [← H0.out]
        go_wp2_with (first
          | ((with_reducible refine wpList_load6g (.tmp 4) w.heap.size S4 ?_ ?_ ?_ ?_); rfl; rfl; rfl)
          | ((with_reducible refine wpList_load6g (.tmp 5) (w.heap.size + 1) S5 ?_ ?_ ?_ ?_); rfl; rfl; rfl)
          | (go_at_call 50; (with_reducible refine (hn1 _).mono ?_); rintro e w' ⟨rfl, hb⟩; replace S4 := S4.below hb; replace S5 := S5.below hb; replace b0 := below_any b0 hb b0.size; have f5 := S4.c5; have g5 := S5.c5; have f00 := S4.c0; have g00 := S5.c0; clear hb)
          | (go_at_call 84; (with_reducible refine (hg1 _).mono ?_); rintro e w' ⟨rfl, hb⟩; replace S4 := S4.below hb; replace S5 := S5.below hb; replace b0 := below_any b0 hb b0.size; have f5 := S4.c5; have g5 := S5.c5; have f00 := S4.c0; have g00 := S5.c0; clear hb)
          | (go_at_call 84; (with_reducible refine (hg2 _).mono ?_); rintro e w' ⟨rfl, hb⟩; replace S4 := S4.below hb; replace S5 := S5.below hb; replace b0 := below_any b0 hb b0.size; have f5 := S4.c5; have g5 := S5.c5; have f00 := S4.c0; have g00 := S5.c0; clear hb))
        go_ret
        exact ⟨rfl, b0⟩
      | false =>
        rw [show (k2 == 5 || k2 == 6 || k2 == 7) = graphB k2 from rfl, eg2] at hg2
        cases eo1 : openP k k2 (sameP (.mk k b n t x q) (.mk k2 b2 n2 t2 x2 q2)) with
        | true =>
          have hv : equalP lang (.mk k b n t x q) (.mk k2 b2 n2 t2 x2 q2) = 2 := by unfold equalP; rw [if_neg (by omega), if_neg hnn, if_pos ⟨hlang, by rw [eg1, eg2, eo1]; rfl⟩]
          rw [hv]
          rw [eo1] at ho1
          clear hv hnn n0 n1 ho2 hbo hls hsm
          go_enter Tryz.func44, Tryz.ntmps44
          go_wp2_with fail
          rw [← H0.out]
          go_wp2_with (first
            | ((with_reducible refine wpList_load6g (.tmp 4) w.heap.size S4 ?_ ?_ ?_ ?_); rfl; rfl; rfl)
            | ((with_reducible refine wpList_load6g (.tmp 5) (w.heap.size + 1) S5 ?_ ?_ ?_ ?_); rfl; rfl; rfl)
            | (go_at_call 50; (with_reducible refine (hn1 _).mono ?_); rintro e w' ⟨rfl, hb⟩; replace S4 := S4.below hb; replace S5 := S5.below hb; replace b0 := below_any b0 hb b0.size; have f5 := S4.c5; have g5 := S5.c5; have f00 := S4.c0; have g00 := S5.c0; clear hb)
            | (go_at_call 84; (with_reducible refine (hg1 _).mono ?_); rintro e w' ⟨rfl, hb⟩; replace S4 := S4.below hb; replace S5 := S5.below hb; replace b0 := below_any b0 hb b0.size; have f5 := S4.c5; have g5 := S5.c5; have f00 := S4.c0; have g00 := S5.c0; clear hb)
            | (go_at_call 84; (with_reducible refine (hg2 _).mono ?_); rintro e w' ⟨rfl, hb⟩; replace S4 := S4.below hb; replace S5 := S5.below hb; replace b0 := below_any b0 hb b0.size; have f5 := S4.c5; have g5 := S5.c5; have f00 := S4.c0; have g00 := S5.c0; clear hb)
            | (go_at_call 85; (with_reducible refine (ho1 _ b0).mono ?_); rintro e w' ⟨rfl, hb⟩; replace S4 := S4.below hb; replace S5 := S5.below hb; replace b0 := below_any b0 hb b0.size; have f5 := S4.c5; have g5 := S5.c5; have f00 := S4.c0; have g00 := S5.c0; clear hb))
          go_ret
          exact ⟨rfl, b0⟩
        | false =>
          rw [eo1] at ho1
          cases eo2 : openP k2 k (sameP (.mk k2 b2 n2 t2 x2 q2) (.mk k b n t x q)) with
          | true =>
            have hv : equalP lang (.mk k b n t x q) (.mk k2 b2 n2 t2 x2 q2) = 2 := by unfold equalP; rw [if_neg (by omega), if_neg hnn, if_pos ⟨hlang, by rw [eg1, eg2, eo1, eo2]; rfl⟩]
            rw [hv]
            rw [eo2] at ho2
            clear hv hnn n0 n1 hbo hls hsm
            go_enter Tryz.func44, Tryz.ntmps44
            go_wp2_with fail
            rw [← H0.out]
            go_wp2_with (first
              | ((with_reducible refine wpList_load6g (.tmp 4) w.heap.size S4 ?_ ?_ ?_ ?_); rfl; rfl; rfl)
              | ((with_reducible refine wpList_load6g (.tmp 5) (w.heap.size + 1) S5 ?_ ?_ ?_ ?_); rfl; rfl; rfl)
              | (go_at_call 50; (with_reducible refine (hn1 _).mono ?_); rintro e w' ⟨rfl, hb⟩; replace S4 := S4.below hb; replace S5 := S5.below hb; replace b0 := below_any b0 hb b0.size; have f5 := S4.c5; have g5 := S5.c5; have f00 := S4.c0; have g00 := S5.c0; clear hb)
              | (go_at_call 84; (with_reducible refine (hg1 _).mono ?_); rintro e w' ⟨rfl, hb⟩; replace S4 := S4.below hb; replace S5 := S5.below hb; replace b0 := below_any b0 hb b0.size; have f5 := S4.c5; have g5 := S5.c5; have f00 := S4.c0; have g00 := S5.c0; clear hb)
              | (go_at_call 84; (with_reducible refine (hg2 _).mono ?_); rintro e w' ⟨rfl, hb⟩; replace S4 := S4.below hb; replace S5 := S5.below hb; replace b0 := below_any b0 hb b0.size; have f5 := S4.c5; have g5 := S5.c5; have f00 := S4.c0; have g00 := S5.c0; clear hb)
              | (go_at_call 85; (with_reducible refine (ho1 _ b0).mono ?_); rintro e w' ⟨rfl, hb⟩; replace S4 := S4.below hb; replace S5 := S5.below hb; replace b0 := below_any b0 hb b0.size; have f5 := S4.c5; have g5 := S5.c5; have f00 := S4.c0; have g00 := S5.c0; clear hb)
              | (go_at_call 85; (with_reducible refine (ho2 _ b0).mono ?_); rintro e w' ⟨rfl, hb⟩; replace S4 := S4.below hb; replace S5 := S5.below hb; replace b0 := below_any b0 hb b0.size; have f5 := S4.c5; have g5 := S5.c5; have f00 := S4.c0; have g00 := S5.c0; clear hb))
            go_ret
            exact ⟨rfl, b0⟩
          | false =>
            rw [eo2] at ho2
            have hv : equalP lang (.mk k b n t x q) (.mk k2 b2 n2 t2 x2 q2) = tI (sameP (.mk k b n t x q) (.mk k2 b2 n2 t2 x2 q2)) := by unfold equalP; rw [if_neg (by omega), if_neg hnn, if_neg (by rintro ⟨_, h⟩; rw [eg1, eg2, eo1, eo2] at h; cases h), if_neg (by rintro ⟨h, _⟩; rw [h] at k5; cases k5)]
            rw [hv]
            rw [k5, Bool.false_and] at hbo
            generalize sameP (.mk k b n t x q) (.mk k2 b2 n2 t2 x2 q2) = r at hsm ⊢
            clear hv hnn n0 n1 hls
            go_enter Tryz.func44, Tryz.ntmps44
            go_wp2_with fail
            rw [← H0.out]
            go_wp2_with (first
              | ((with_reducible refine wpList_load6g (.tmp 4) w.heap.size S4 ?_ ?_ ?_ ?_); rfl; rfl; rfl)
              | ((with_reducible refine wpList_load6g (.tmp 5) (w.heap.size + 1) S5 ?_ ?_ ?_ ?_); rfl; rfl; rfl)
              | (go_at_call 50; (with_reducible refine (hn1 _).mono ?_); rintro e w' ⟨rfl, hb⟩; replace S4 := S4.below hb; replace S5 := S5.below hb; replace b0 := below_any b0 hb b0.size; have f5 := S4.c5; have g5 := S5.c5; have f00 := S4.c0; have g00 := S5.c0; clear hb)
              | (go_at_call 84; (with_reducible refine (hg1 _).mono ?_); rintro e w' ⟨rfl, hb⟩; replace S4 := S4.below hb; replace S5 := S5.below hb; replace b0 := below_any b0 hb b0.size; have f5 := S4.c5; have g5 := S5.c5; have f00 := S4.c0; have g00 := S5.c0; clear hb)
              | (go_at_call 84; (with_reducible refine (hg2 _).mono ?_); rintro e w' ⟨rfl, hb⟩; replace S4 := S4.below hb; replace S5 := S5.below hb; replace b0 := below_any b0 hb b0.size; have f5 := S4.c5; have g5 := S5.c5; have f00 := S4.c0; have g00 := S5.c0; clear hb)
              | (go_at_call 85; (with_reducible refine (ho1 _ b0).mono ?_); rintro e w' ⟨rfl, hb⟩; replace S4 := S4.below hb; replace S5 := S5.below hb; replace b0 := below_any b0 hb b0.size; have f5 := S4.c5; have g5 := S5.c5; have f00 := S4.c0; have g00 := S5.c0; clear hb)
              | (go_at_call 85; (with_reducible refine (ho2 _ b0).mono ?_); rintro e w' ⟨rfl, hb⟩; replace S4 := S4.below hb; replace S5 := S5.below hb; replace b0 := below_any b0 hb b0.size; have f5 := S4.c5; have g5 := S5.c5; have f00 := S4.c0; have g00 := S5.c0; clear hb)
              | (go_at_call 53; (with_reducible refine (hbo _).mono ?_); rintro e w' ⟨rfl, hb⟩; replace S4 := S4.below hb; replace S5 := S5.below hb; replace b0 := below_any b0 hb b0.size; have f5 := S4.c5; have g5 := S5.c5; have f00 := S4.c0; have g00 := S5.c0; clear hb)
              | (go_at_call 17; (with_reducible refine (hsm _ b0).mono ?_); rintro e w' ⟨rfl, hb⟩; replace S4 := S4.below hb; replace S5 := S5.below hb; replace b0 := below_any b0 hb b0.size; have f5 := S4.c5; have g5 := S5.c5; have f00 := S4.c0; have g00 := S5.c0; clear hb)
              | (go_at_call 51; (with_reducible refine (truthT _ _).mono ?_); rintro e w' ⟨rfl, rfl⟩))
            go_ret
            exact ⟨rfl, b0⟩
  · have el : (lang == 1) = false := by simpa using hlang
    cases e5 : (k == 5 && k2 == 5) with
    | true =>
      have h55 : k = 5 ∧ k2 = 5 := by simpa using e5
      have hv : equalP lang (.mk k b n t x q) (.mk k2 b2 n2 t2 x2 q2) = (if q.length = q2.length then eachEqual lang q q2 else 0) := by unfold equalP; rw [if_neg (by omega), if_neg hnn, if_neg (fun h => hlang h.1), if_pos h55]
      rw [hv]
      rw [e5] at hbo
      generalize (if q.length = q2.length then eachEqual lang q q2 else 0) = r at hls ⊢
      clear hv hnn n0 n1 h55 e5 hg1 hg2 ho1 ho2 hsm hlang
      go_enter Tryz.func44, Tryz.ntmps44
      go_wp2_with fail
      rw [← H0.out]
      go_wp2_with (first
        | ((with_reducible refine wpList_load6g (.tmp 4) w.heap.size S4 ?_ ?_ ?_ ?_); rfl; rfl; rfl)
        | ((with_reducible refine wpList_load6g (.tmp 5) (w.heap.size + 1) S5 ?_ ?_ ?_ ?_); rfl; rfl; rfl)
        | (go_at_call 50; (with_reducible refine (hn1 _).mono ?_); rintro e w' ⟨rfl, hb⟩; replace S4 := S4.below hb; replace S5 := S5.below hb; replace b0 := below_any b0 hb b0.size; have f5 := S4.c5; have g5 := S5.c5; have f00 := S4.c0; have g00 := S5.c0; clear hb)
        | (go_at_call 53; (with_reducible refine (hbo _).mono ?_); rintro e w' ⟨rfl, hb⟩; replace S4 := S4.below hb; replace S5 := S5.below hb; replace b0 := below_any b0 hb b0.size; have f5 := S4.c5; have g5 := S5.c5; have f00 := S4.c0; have g00 := S5.c0; clear hb)
        | (go_at_call 86; (with_reducible refine (hls _ b0).mono ?_); rintro e w' ⟨rfl, hb⟩; replace S4 := S4.below hb; replace S5 := S5.below hb; replace b0 := below_any b0 hb b0.size; have f5 := S4.c5; have g5 := S5.c5; have f00 := S4.c0; have g00 := S5.c0; clear hb))
      go_ret
      exact ⟨rfl, b0⟩
    | false =>
      have hv : equalP lang (.mk k b n t x q) (.mk k2 b2 n2 t2 x2 q2) = tI (sameP (.mk k b n t x q) (.mk k2 b2 n2 t2 x2 q2)) := by unfold equalP; rw [if_neg (by omega), if_neg hnn, if_neg (fun h => hlang h.1), if_neg (by rintro ⟨u, v⟩; rw [u, v] at e5; cases e5)]
      rw [hv]
      rw [e5] at hbo
      generalize sameP (.mk k b n t x q) (.mk k2 b2 n2 t2 x2 q2) = r at hsm ⊢
      clear hv hnn n0 n1 e5 hg1 hg2 ho1 ho2 hls hlang
      go_enter Tryz.func44, Tryz.ntmps44
      go_wp2_with fail
      rw [← H0.out]
      go_wp2_with (first
        | ((with_reducible refine wpList_load6g (.tmp 4) w.heap.size S4 ?_ ?_ ?_ ?_); rfl; rfl; rfl)
        | ((with_reducible refine wpList_load6g (.tmp 5) (w.heap.size + 1) S5 ?_ ?_ ?_ ?_); rfl; rfl; rfl)
        | (go_at_call 50; (with_reducible refine (hn1 _).mono ?_); rintro e w' ⟨rfl, hb⟩; replace S4 := S4.below hb; replace S5 := S5.below hb; replace b0 := below_any b0 hb b0.size; have f5 := S4.c5; have g5 := S5.c5; have f00 := S4.c0; have g00 := S5.c0; clear hb)
        | (go_at_call 53; (with_reducible refine (hbo _).mono ?_); rintro e w' ⟨rfl, hb⟩; replace S4 := S4.below hb; replace S5 := S5.below hb; replace b0 := below_any b0 hb b0.size; have f5 := S4.c5; have g5 := S5.c5; have f00 := S4.c0; have g00 := S5.c0; clear hb)
        | (go_at_call 17; (with_reducible refine (hsm _ b0).mono ?_); rintro e w' ⟨rfl, hb⟩; replace S4 := S4.below hb; replace S5 := S5.below hb; replace b0 := below_any b0 hb b0.size; have f5 := S4.c5; have g5 := S5.c5; have f00 := S4.c0; have g00 := S5.c0; clear hb)
        | (go_at_call 51; (with_reducible refine (truthT _ _).mono ?_); rintro e w' ⟨rfl, rfl⟩))
      go_ret
      exact ⟨rfl, b0⟩
end Go.Proofs.YtoifjjgakblhhaaGreatDoor

/- Whether two values are equal: equal, the second no number. -/
namespace Go.Proofs.YtoifjjgakblhhaaGreatDoor
open Go.RowKit

set_option maxRecDepth 4000 in
set_option maxHeartbeats 3200000 in
theorem equalNot2 (lang : Int) (k : Int) (b : Bool) (n : Int) (t x : ByteArray) (q : List Val) (p : Option Addr) (cap : Nat) (k2 : Int) (b2 : Bool) (n2 : Int) (t2 x2 : ByteArray) (q2 : List Val) (p2 : Option Addr) (cap2 : Nat) (w : World) (hG : Gd w) (hT : Tab w) (hf : Fine n t x q.length) (hf2 : Fine n2 t2 x2 q2.length) (hl : Held w (.slice p q.length cap) q) (hl2 : Held w (.slice p2 q2.length cap2) q2) (each : ∀ v ∈ q, EqualAt lang v) (n0 : ¬ k = 0) (n1 : ¬ k2 = 0) (h1 : numB k = true) (h2 : numB k2 = false) :
    Calls Tryz.prog 44 #[.int .i64 lang, .agg #[.int .i64 k, .bool b, .int .i64 n, .string t, .string x, .slice p q.length cap], .agg #[.int .i64 k2, .bool b2, .int .i64 n2, .string t2, .string x2, .slice p2 q2.length cap2]] w fun e w' => e = .returned (.int .i64 (equalP lang (.mk k b n t x q) (.mk k2 b2 n2 t2 x2 q2))) ∧ Below w.heap.size w w' := by
  obtain ⟨W0, hW0⟩ : ∃ W0, W0 = (w.alloc (.cells #[.int .i64 k, .bool b, .int .i64 n, .string t, .string x, .slice p q.length cap] 28)).alloc (.cells #[.int .i64 k2, .bool b2, .int .i64 n2, .string t2, .string x2, .slice p2 q2.length cap2] 28) := ⟨_, rfl⟩
  have S4 : Six W0 w.heap.size k b n t x p q.length cap := by rw [hW0]; exact (six_new _ rfl).alloc _
  have S5 : Six W0 (w.heap.size + 1) k2 b2 n2 t2 x2 p2 q2.length cap2 := by rw [hW0]; exact six_new _ (by simp)
  have b0 : Below w.heap.size w W0 := by rw [hW0]; exact below2 _ _ _
  have f0 := S4.c0
  have g0 := S5.c0
  have H0 := Lib.hid hW0
  have hn1 := fun W => isNumberAt k b n t x (.slice p q.length cap) W
  have hn2 := fun W => isNumberAt k2 b2 n2 t2 x2 (.slice p2 q2.length cap2) W
  have hcmp := fun W (h : Below w.heap.size w W) => cmpNumsAt k b n t x p q.length cap k2 b2 n2 t2 x2 p2 q2.length cap2 W (hG.below h) (hT.below h) hf hf2
  have hg1 := fun W => isGraphsAt k b n t x (.slice p q.length cap) W
  have hg2 := fun W => isGraphsAt k2 b2 n2 t2 x2 (.slice p2 q2.length cap2) W
  have ho1 := fun W (h : Below w.heap.size w W) => isOpenAt k b n t x q p cap k2 b2 n2 t2 x2 q2 p2 cap2 W hf (Held.below q hl h) (Held.below q2 hl2 h) _ rfl
  have ho2 := fun W (h : Below w.heap.size w W) => isOpenAt k2 b2 n2 t2 x2 q2 p2 cap2 k b n t x q p cap W hf2 (Held.below q2 hl2 h) (Held.below q hl h) _ rfl
  have hbo := fun W => bothAreAt 5 k b n t x (.slice p q.length cap) k2 b2 n2 t2 x2 (.slice p2 q2.length cap2) W
  have hls := fun W (h : Below w.heap.size w W) => eqListsAt lang q q2 p p2 cap cap2 W (hG.below h) (hT.below h) (Held.below q hl h) (Held.below q2 hl2 h) hf.hn each
  have hsm := fun W (h : Below w.heap.size w W) => sameAtV k b n t x q p cap k2 b2 n2 t2 x2 q2 p2 cap2 W hf (Held.below q hl h) (Held.below q2 hl2 h)
  clear hl hl2 hf hf2 hG hT each hW0
  have e0 : (k == 0) = false := by simpa using n0
  have e1 : (k2 == 0) = false := by simpa using n1
  have m1 : numB k = true := h1
  have hnn : ¬ (numB k = true ∧ numB k2 = true) := by rintro ⟨u, v⟩; rw [h2] at v; cases v
  rw [show (k == 2 || k == 3) = numB k from rfl, m1] at hn1
  rw [show (k2 == 2 || k2 == 3) = numB k2 from rfl, h2] at hn2
  clear m1 hcmp
  by_cases hlang : lang = 1
  · have el : (lang == 1) = true := by simpa using hlang
    cases eg1 : graphB k with
    | true =>
      have hv : equalP lang (.mk k b n t x q) (.mk k2 b2 n2 t2 x2 q2) = 2 := by unfold equalP; rw [if_neg (by omega), if_neg hnn, if_pos ⟨hlang, by rw [eg1]; rfl⟩]
      rw [hv]
      rw [show (k == 5 || k == 6 || k == 7) = graphB k from rfl, eg1] at hg1
      clear hv hnn n0 n1 hg2 ho1 ho2 hbo hls hsm
      go_enter Tryz.func44, Tryz.ntmps44
      go_wp2_with fail
      rw [← H0.out]
      go_wp2_with (first
        | ((with_reducible refine wpList_load6g (.tmp 4) w.heap.size S4 ?_ ?_ ?_ ?_); rfl; rfl; rfl)
        | ((with_reducible refine wpList_load6g (.tmp 5) (w.heap.size + 1) S5 ?_ ?_ ?_ ?_); rfl; rfl; rfl)
        | (go_at_call 50; (with_reducible refine (hn1 _).mono ?_); rintro e w' ⟨rfl, hb⟩; replace S4 := S4.below hb; replace S5 := S5.below hb; replace b0 := below_any b0 hb b0.size; have f5 := S4.c5; have g5 := S5.c5; have f00 := S4.c0; have g00 := S5.c0; clear hb)
        | (go_at_call 50; (with_reducible refine (hn2 _).mono ?_); rintro e w' ⟨rfl, hb⟩; replace S4 := S4.below hb; replace S5 := S5.below hb; replace b0 := below_any b0 hb b0.size; have f5 := S4.c5; have g5 := S5.c5; have f00 := S4.c0; have g00 := S5.c0; clear hb)
        | (go_at_call 84; (with_reducible refine (hg1 _).mono ?_); rintro e w' ⟨rfl, hb⟩; replace S4 := S4.below hb; replace S5 := S5.below hb; replace b0 := below_any b0 hb b0.size; have f5 := S4.c5; have g5 := S5.c5; have f00 := S4.c0; have g00 := S5.c0; clear hb))
      go_ret
      exact ⟨rfl, b0⟩
    | false =>
      have k5 : (k == 5) = false := by
        unfold graphB at eg1
        cases h5 : (k == 5) with
        | false => rfl
        | true => rw [h5] at eg1; cases eg1
      rw [show (k == 5 || k == 6 || k == 7) = graphB k from rfl, eg1] at hg1
      cases eg2 : graphB k2 with
      | true =>
        have hv : equalP lang (.mk k b n t x q) (.mk k2 b2 n2 t2 x2 q2) = 2 := by unfold equalP; rw [if_neg (by omega), if_neg hnn, if_pos ⟨hlang, by rw [eg1, eg2]; rfl⟩]
        rw [hv]
        rw [show (k2 == 5 || k2 == 6 || k2 == 7) = graphB k2 from rfl, eg2] at hg2
        clear hv hnn n0 n1 ho1 ho2 hbo hls hsm
        go_enter Tryz.func44, Tryz.ntmps44
        go_wp2_with fail
        rw [← H0.out]
        go_wp2_with (first
          | ((with_reducible refine wpList_load6g (.tmp 4) w.heap.size S4 ?_ ?_ ?_ ?_); rfl; rfl; rfl)
          | ((with_reducible refine wpList_load6g (.tmp 5) (w.heap.size + 1) S5 ?_ ?_ ?_ ?_); rfl; rfl; rfl)
          | (go_at_call 50; (with_reducible refine (hn1 _).mono ?_); rintro e w' ⟨rfl, hb⟩; replace S4 := S4.below hb; replace S5 := S5.below hb; replace b0 := below_any b0 hb b0.size; have f5 := S4.c5; have g5 := S5.c5; have f00 := S4.c0; have g00 := S5.c0; clear hb)
          | (go_at_call 50; (with_reducible refine (hn2 _).mono ?_); rintro e w' ⟨rfl, hb⟩; replace S4 := S4.below hb; replace S5 := S5.below hb; replace b0 := below_any b0 hb b0.size; have f5 := S4.c5; have g5 := S5.c5; have f00 := S4.c0; have g00 := S5.c0; clear hb)
          | (go_at_call 84; (with_reducible refine (hg1 _).mono ?_); rintro e w' ⟨rfl, hb⟩; replace S4 := S4.below hb; replace S5 := S5.below hb; replace b0 := below_any b0 hb b0.size; have f5 := S4.c5; have g5 := S5.c5; have f00 := S4.c0; have g00 := S5.c0; clear hb)
          | (go_at_call 84; (with_reducible refine (hg2 _).mono ?_); rintro e w' ⟨rfl, hb⟩; replace S4 := S4.below hb; replace S5 := S5.below hb; replace b0 := below_any b0 hb b0.size; have f5 := S4.c5; have g5 := S5.c5; have f00 := S4.c0; have g00 := S5.c0; clear hb))
        go_ret
        exact ⟨rfl, b0⟩
      | false =>
        rw [show (k2 == 5 || k2 == 6 || k2 == 7) = graphB k2 from rfl, eg2] at hg2
        cases eo1 : openP k k2 (sameP (.mk k b n t x q) (.mk k2 b2 n2 t2 x2 q2)) with
        | true =>
          have hv : equalP lang (.mk k b n t x q) (.mk k2 b2 n2 t2 x2 q2) = 2 := by unfold equalP; rw [if_neg (by omega), if_neg hnn, if_pos ⟨hlang, by rw [eg1, eg2, eo1]; rfl⟩]
          rw [hv]
          rw [eo1] at ho1
          clear hv hnn n0 n1 ho2 hbo hls hsm
          go_enter Tryz.func44, Tryz.ntmps44
          go_wp2_with fail
          rw [← H0.out]
          go_wp2_with (first
            | ((with_reducible refine wpList_load6g (.tmp 4) w.heap.size S4 ?_ ?_ ?_ ?_); rfl; rfl; rfl)
            | ((with_reducible refine wpList_load6g (.tmp 5) (w.heap.size + 1) S5 ?_ ?_ ?_ ?_); rfl; rfl; rfl)
            | (go_at_call 50; (with_reducible refine (hn1 _).mono ?_); rintro e w' ⟨rfl, hb⟩; replace S4 := S4.below hb; replace S5 := S5.below hb; replace b0 := below_any b0 hb b0.size; have f5 := S4.c5; have g5 := S5.c5; have f00 := S4.c0; have g00 := S5.c0; clear hb)
            | (go_at_call 50; (with_reducible refine (hn2 _).mono ?_); rintro e w' ⟨rfl, hb⟩; replace S4 := S4.below hb; replace S5 := S5.below hb; replace b0 := below_any b0 hb b0.size; have f5 := S4.c5; have g5 := S5.c5; have f00 := S4.c0; have g00 := S5.c0; clear hb)
            | (go_at_call 84; (with_reducible refine (hg1 _).mono ?_); rintro e w' ⟨rfl, hb⟩; replace S4 := S4.below hb; replace S5 := S5.below hb; replace b0 := below_any b0 hb b0.size; have f5 := S4.c5; have g5 := S5.c5; have f00 := S4.c0; have g00 := S5.c0; clear hb)
            | (go_at_call 84; (with_reducible refine (hg2 _).mono ?_); rintro e w' ⟨rfl, hb⟩; replace S4 := S4.below hb; replace S5 := S5.below hb; replace b0 := below_any b0 hb b0.size; have f5 := S4.c5; have g5 := S5.c5; have f00 := S4.c0; have g00 := S5.c0; clear hb)
            | (go_at_call 85; (with_reducible refine (ho1 _ b0).mono ?_); rintro e w' ⟨rfl, hb⟩; replace S4 := S4.below hb; replace S5 := S5.below hb; replace b0 := below_any b0 hb b0.size; have f5 := S4.c5; have g5 := S5.c5; have f00 := S4.c0; have g00 := S5.c0; clear hb))
          go_ret
          exact ⟨rfl, b0⟩
        | false =>
          rw [eo1] at ho1
          cases eo2 : openP k2 k (sameP (.mk k2 b2 n2 t2 x2 q2) (.mk k b n t x q)) with
          | true =>
            have hv : equalP lang (.mk k b n t x q) (.mk k2 b2 n2 t2 x2 q2) = 2 := by unfold equalP; rw [if_neg (by omega), if_neg hnn, if_pos ⟨hlang, by rw [eg1, eg2, eo1, eo2]; rfl⟩]
            rw [hv]
            rw [eo2] at ho2
            clear hv hnn n0 n1 hbo hls hsm
            go_enter Tryz.func44, Tryz.ntmps44
            go_wp2_with fail
            rw [← H0.out]
            go_wp2_with (first
              | ((with_reducible refine wpList_load6g (.tmp 4) w.heap.size S4 ?_ ?_ ?_ ?_); rfl; rfl; rfl)
              | ((with_reducible refine wpList_load6g (.tmp 5) (w.heap.size + 1) S5 ?_ ?_ ?_ ?_); rfl; rfl; rfl)
              | (go_at_call 50; (with_reducible refine (hn1 _).mono ?_); rintro e w' ⟨rfl, hb⟩; replace S4 := S4.below hb; replace S5 := S5.below hb; replace b0 := below_any b0 hb b0.size; have f5 := S4.c5; have g5 := S5.c5; have f00 := S4.c0; have g00 := S5.c0; clear hb)
              | (go_at_call 50; (with_reducible refine (hn2 _).mono ?_); rintro e w' ⟨rfl, hb⟩; replace S4 := S4.below hb; replace S5 := S5.below hb; replace b0 := below_any b0 hb b0.size; have f5 := S4.c5; have g5 := S5.c5; have f00 := S4.c0; have g00 := S5.c0; clear hb)
              | (go_at_call 84; (with_reducible refine (hg1 _).mono ?_); rintro e w' ⟨rfl, hb⟩; replace S4 := S4.below hb; replace S5 := S5.below hb; replace b0 := below_any b0 hb b0.size; have f5 := S4.c5; have g5 := S5.c5; have f00 := S4.c0; have g00 := S5.c0; clear hb)
              | (go_at_call 84; (with_reducible refine (hg2 _).mono ?_); rintro e w' ⟨rfl, hb⟩; replace S4 := S4.below hb; replace S5 := S5.below hb; replace b0 := below_any b0 hb b0.size; have f5 := S4.c5; have g5 := S5.c5; have f00 := S4.c0; have g00 := S5.c0; clear hb)
              | (go_at_call 85; (with_reducible refine (ho1 _ b0).mono ?_); rintro e w' ⟨rfl, hb⟩; replace S4 := S4.below hb; replace S5 := S5.below hb; replace b0 := below_any b0 hb b0.size; have f5 := S4.c5; have g5 := S5.c5; have f00 := S4.c0; have g00 := S5.c0; clear hb)
              | (go_at_call 85; (with_reducible refine (ho2 _ b0).mono ?_); rintro e w' ⟨rfl, hb⟩; replace S4 := S4.below hb; replace S5 := S5.below hb; replace b0 := below_any b0 hb b0.size; have f5 := S4.c5; have g5 := S5.c5; have f00 := S4.c0; have g00 := S5.c0; clear hb))
            go_ret
            exact ⟨rfl, b0⟩
          | false =>
            rw [eo2] at ho2
            have hv : equalP lang (.mk k b n t x q) (.mk k2 b2 n2 t2 x2 q2) = tI (sameP (.mk k b n t x q) (.mk k2 b2 n2 t2 x2 q2)) := by unfold equalP; rw [if_neg (by omega), if_neg hnn, if_neg (by rintro ⟨_, h⟩; rw [eg1, eg2, eo1, eo2] at h; cases h), if_neg (by rintro ⟨h, _⟩; rw [h] at k5; cases k5)]
            rw [hv]
            rw [k5, Bool.false_and] at hbo
            generalize sameP (.mk k b n t x q) (.mk k2 b2 n2 t2 x2 q2) = r at hsm ⊢
            clear hv hnn n0 n1 hls
            go_enter Tryz.func44, Tryz.ntmps44
            go_wp2_with fail
            rw [← H0.out]
            go_wp2_with (first
              | ((with_reducible refine wpList_load6g (.tmp 4) w.heap.size S4 ?_ ?_ ?_ ?_); rfl; rfl; rfl)
              | ((with_reducible refine wpList_load6g (.tmp 5) (w.heap.size + 1) S5 ?_ ?_ ?_ ?_); rfl; rfl; rfl)
              | (go_at_call 50; (with_reducible refine (hn1 _).mono ?_); rintro e w' ⟨rfl, hb⟩; replace S4 := S4.below hb; replace S5 := S5.below hb; replace b0 := below_any b0 hb b0.size; have f5 := S4.c5; have g5 := S5.c5; have f00 := S4.c0; have g00 := S5.c0; clear hb)
              | (go_at_call 50; (with_reducible refine (hn2 _).mono ?_); rintro e w' ⟨rfl, hb⟩; replace S4 := S4.below hb; replace S5 := S5.below hb; replace b0 := below_any b0 hb b0.size; have f5 := S4.c5; have g5 := S5.c5; have f00 := S4.c0; have g00 := S5.c0; clear hb)
              | (go_at_call 84; (with_reducible refine (hg1 _).mono ?_); rintro e w' ⟨rfl, hb⟩; replace S4 := S4.below hb; replace S5 := S5.below hb; replace b0 := below_any b0 hb b0.size; have f5 := S4.c5; have g5 := S5.c5; have f00 := S4.c0; have g00 := S5.c0; clear hb)
              | (go_at_call 84; (with_reducible refine (hg2 _).mono ?_); rintro e w' ⟨rfl, hb⟩; replace S4 := S4.below hb; replace S5 := S5.below hb; replace b0 := below_any b0 hb b0.size; have f5 := S4.c5; have g5 := S5.c5; have f00 := S4.c0; have g00 := S5.c0; clear hb)
              | (go_at_call 85; (with_reducible refine (ho1 _ b0).mono ?_); rintro e w' ⟨rfl, hb⟩; replace S4 := S4.below hb; replace S5 := S5.below hb; replace b0 := below_any b0 hb b0.size; have f5 := S4.c5; have g5 := S5.c5; have f00 := S4.c0; have g00 := S5.c0; clear hb)
              | (go_at_call 85; (with_reducible refine (ho2 _ b0).mono ?_); rintro e w' ⟨rfl, hb⟩; replace S4 := S4.below hb; replace S5 := S5.below hb; replace b0 := below_any b0 hb b0.size; have f5 := S4.c5; have g5 := S5.c5; have f00 := S4.c0; have g00 := S5.c0; clear hb)
              | (go_at_call 53; (with_reducible refine (hbo _).mono ?_); rintro e w' ⟨rfl, hb⟩; replace S4 := S4.below hb; replace S5 := S5.below hb; replace b0 := below_any b0 hb b0.size; have f5 := S4.c5; have g5 := S5.c5; have f00 := S4.c0; have g00 := S5.c0; clear hb)
              | (go_at_call 17; (with_reducible refine (hsm _ b0).mono ?_); rintro e w' ⟨rfl, hb⟩; replace S4 := S4.below hb; replace S5 := S5.below hb; replace b0 := below_any b0 hb b0.size; have f5 := S4.c5; have g5 := S5.c5; have f00 := S4.c0; have g00 := S5.c0; clear hb)
              | (go_at_call 51; (with_reducible refine (truthT _ _).mono ?_); rintro e w' ⟨rfl, rfl⟩))
            go_ret
            exact ⟨rfl, b0⟩
  · have el : (lang == 1) = false := by simpa using hlang
    cases e5 : (k == 5 && k2 == 5) with
    | true =>
      have h55 : k = 5 ∧ k2 = 5 := by simpa using e5
      have hv : equalP lang (.mk k b n t x q) (.mk k2 b2 n2 t2 x2 q2) = (if q.length = q2.length then eachEqual lang q q2 else 0) := by unfold equalP; rw [if_neg (by omega), if_neg hnn, if_neg (fun h => hlang h.1), if_pos h55]
      rw [hv]
      rw [e5] at hbo
      generalize (if q.length = q2.length then eachEqual lang q q2 else 0) = r at hls ⊢
      clear hv hnn n0 n1 h55 e5 hg1 hg2 ho1 ho2 hsm hlang
      go_enter Tryz.func44, Tryz.ntmps44
      go_wp2_with fail
      rw [← H0.out]
      go_wp2_with (first
        | ((with_reducible refine wpList_load6g (.tmp 4) w.heap.size S4 ?_ ?_ ?_ ?_); rfl; rfl; rfl)
        | ((with_reducible refine wpList_load6g (.tmp 5) (w.heap.size + 1) S5 ?_ ?_ ?_ ?_); rfl; rfl; rfl)
        | (go_at_call 50; (with_reducible refine (hn1 _).mono ?_); rintro e w' ⟨rfl, hb⟩; replace S4 := S4.below hb; replace S5 := S5.below hb; replace b0 := below_any b0 hb b0.size; have f5 := S4.c5; have g5 := S5.c5; have f00 := S4.c0; have g00 := S5.c0; clear hb)
        | (go_at_call 50; (with_reducible refine (hn2 _).mono ?_); rintro e w' ⟨rfl, hb⟩; replace S4 := S4.below hb; replace S5 := S5.below hb; replace b0 := below_any b0 hb b0.size; have f5 := S4.c5; have g5 := S5.c5; have f00 := S4.c0; have g00 := S5.c0; clear hb)
        | (go_at_call 53; (with_reducible refine (hbo _).mono ?_); rintro e w' ⟨rfl, hb⟩; replace S4 := S4.below hb; replace S5 := S5.below hb; replace b0 := below_any b0 hb b0.size; have f5 := S4.c5; have g5 := S5.c5; have f00 := S4.c0; have g00 := S5.c0; clear hb)
        | (go_at_call 86; (with_reducible refine (hls _ b0).mono ?_); rintro e w' ⟨rfl, hb⟩; replace S4 := S4.below hb; replace S5 := S5.below hb; replace b0 := below_any b0 hb b0.size; have f5 := S4.c5; have g5 := S5.c5; have f00 := S4.c0; have g00 := S5.c0; clear hb))
      go_ret
      exact ⟨rfl, b0⟩
    | false =>
      have hv : equalP lang (.mk k b n t x q) (.mk k2 b2 n2 t2 x2 q2) = tI (sameP (.mk k b n t x q) (.mk k2 b2 n2 t2 x2 q2)) := by unfold equalP; rw [if_neg (by omega), if_neg hnn, if_neg (fun h => hlang h.1), if_neg (by rintro ⟨u, v⟩; rw [u, v] at e5; cases e5)]
      rw [hv]
      rw [e5] at hbo
      generalize sameP (.mk k b n t x q) (.mk k2 b2 n2 t2 x2 q2) = r at hsm ⊢
      clear hv hnn n0 n1 e5 hg1 hg2 ho1 ho2 hls hlang
      go_enter Tryz.func44, Tryz.ntmps44
      go_wp2_with fail
      rw [← H0.out]
      go_wp2_with (first
        | ((with_reducible refine wpList_load6g (.tmp 4) w.heap.size S4 ?_ ?_ ?_ ?_); rfl; rfl; rfl)
        | ((with_reducible refine wpList_load6g (.tmp 5) (w.heap.size + 1) S5 ?_ ?_ ?_ ?_); rfl; rfl; rfl)
        | (go_at_call 50; (with_reducible refine (hn1 _).mono ?_); rintro e w' ⟨rfl, hb⟩; replace S4 := S4.below hb; replace S5 := S5.below hb; replace b0 := below_any b0 hb b0.size; have f5 := S4.c5; have g5 := S5.c5; have f00 := S4.c0; have g00 := S5.c0; clear hb)
        | (go_at_call 50; (with_reducible refine (hn2 _).mono ?_); rintro e w' ⟨rfl, hb⟩; replace S4 := S4.below hb; replace S5 := S5.below hb; replace b0 := below_any b0 hb b0.size; have f5 := S4.c5; have g5 := S5.c5; have f00 := S4.c0; have g00 := S5.c0; clear hb)
        | (go_at_call 53; (with_reducible refine (hbo _).mono ?_); rintro e w' ⟨rfl, hb⟩; replace S4 := S4.below hb; replace S5 := S5.below hb; replace b0 := below_any b0 hb b0.size; have f5 := S4.c5; have g5 := S5.c5; have f00 := S4.c0; have g00 := S5.c0; clear hb)
        | (go_at_call 17; (with_reducible refine (hsm _ b0).mono ?_); rintro e w' ⟨rfl, hb⟩; replace S4 := S4.below hb; replace S5 := S5.below hb; replace b0 := below_any b0 hb b0.size; have f5 := S4.c5; have g5 := S5.c5; have f00 := S4.c0; have g00 := S5.c0; clear hb)
        | (go_at_call 51; (with_reducible refine (truthT _ _).mono ?_); rintro e w' ⟨rfl, rfl⟩))
      go_ret
      exact ⟨rfl, b0⟩
end Go.Proofs.YtoifjjgakblhhaaGreatDoor

/- Equal, for values in one another. -/
namespace Go.Proofs.YtoifjjgakblhhaaGreatDoor
open Go.RowKit

theorem equal_step (lang : Int) (v : Val) (k : Int) (b : Bool) (n : Int) (t x : ByteArray) (q : List Val) (ev : v = .mk k b n t x q) (each : ∀ u ∈ q, EqualAt lang u) : EqualAt lang v := by
  subst ev
  intro w k1 b1 n1 t1 x1 q1 p cap k2 b2 n2 t2 x2 q2 p2 cap2 v2 e1 e2 hG hT hf hf2 hl hl2
  cases e1
  subst e2
  by_cases n0 : k = 0
  · exact equalPlain lang k b n t x q p cap k2 b2 n2 t2 x2 q2 p2 cap2 w hG hT hf hf2 hl hl2 each (.inl n0)
  · by_cases n1 : k2 = 0
    · exact equalPlain lang k b n t x q p cap k2 b2 n2 t2 x2 q2 p2 cap2 w hG hT hf hf2 hl hl2 each (.inr (.inl n1))
    · cases h1 : numB k with
      | false => exact equalNot1 lang k b n t x q p cap k2 b2 n2 t2 x2 q2 p2 cap2 w hG hT hf hf2 hl hl2 each n0 n1 h1
      | true =>
        cases h2 : numB k2 with
        | false => exact equalNot2 lang k b n t x q p cap k2 b2 n2 t2 x2 q2 p2 cap2 w hG hT hf hf2 hl hl2 each n0 n1 h1 h2
        | true => exact equalPlain lang k b n t x q p cap k2 b2 n2 t2 x2 q2 p2 cap2 w hG hT hf hf2 hl hl2 each (.inr (.inr ⟨h1, h2⟩))
mutual
theorem equalAll (lang : Int) : (v : Val) → EqualAt lang v
  | .mk k b n t x q => equal_step lang _ k b n t x q rfl (equalEach lang q)
theorem equalEach (lang : Int) : (q : List Val) → ∀ u ∈ q, EqualAt lang u
  | [], _, h => absurd h (by simp)
  | v :: r, u, h => by
    rcases List.mem_cons.1 h with h | h
    · rw [h]; exact equalAll lang v
    · exact equalEach lang r u h
end
/-- Equal, of any two values. -/
def equalTop (lang : Int) (v v2 : Val) : Int := if mayP v 0 && mayP v2 0 then equalP lang v v2 else 2
set_option maxHeartbeats 1600000 in
theorem EqualC (lang : Int) (k : Int) (b : Bool) (n : Int) (t x : ByteArray) (q : List Val) (p : Option Addr) (cap : Nat) (k2 : Int) (b2 : Bool) (n2 : Int) (t2 x2 : ByteArray) (q2 : List Val) (p2 : Option Addr) (cap2 : Nat) (w : World) (hG : Gd w) (hT : Tab w) (hf : Fine n t x q.length) (hf2 : Fine n2 t2 x2 q2.length) (hl : Held w (.slice p q.length cap) q) (hl2 : Held w (.slice p2 q2.length cap2) q2) :
    Calls Tryz.prog 19 #[.int .i64 lang, .agg #[.int .i64 k, .bool b, .int .i64 n, .string t, .string x, .slice p q.length cap], .agg #[.int .i64 k2, .bool b2, .int .i64 n2, .string t2, .string x2, .slice p2 q2.length cap2]] w fun e w' => e = .returned (.int .i64 (equalTop lang (.mk k b n t x q) (.mk k2 b2 n2 t2 x2 q2))) ∧ Below w.heap.size w w' := by
  obtain ⟨W0, hW0⟩ : ∃ W0, W0 = (w.alloc (.cells #[.int .i64 k, .bool b, .int .i64 n, .string t, .string x, .slice p q.length cap] 28)).alloc (.cells #[.int .i64 k2, .bool b2, .int .i64 n2, .string t2, .string x2, .slice p2 q2.length cap2] 28) := ⟨_, rfl⟩
  have S4 : Six W0 w.heap.size k b n t x p q.length cap := by rw [hW0]; exact (six_new _ rfl).alloc _
  have S5 : Six W0 (w.heap.size + 1) k2 b2 n2 t2 x2 p2 q2.length cap2 := by rw [hW0]; exact six_new _ (by simp)
  have b0 : Below w.heap.size w W0 := by rw [hW0]; exact below2 _ _ _
  have f0 := S4.c0
  have g0 := S5.c0
  have H0 := Lib.hid hW0
  have hc1 := fun W (h : Below w.heap.size w W) => checkAtV (.mk k b n t x q) k b n t x q (.slice p q.length cap) W rfl (hG.below h) hf.ht hf.hx (Held.below q hl h)
  have hc2 := fun W (h : Below w.heap.size w W) => checkAtV (.mk k2 b2 n2 t2 x2 q2) k2 b2 n2 t2 x2 q2 (.slice p2 q2.length cap2) W rfl (hG.below h) hf2.ht hf2.hx (Held.below q2 hl2 h)
  have he := fun W (h : Below w.heap.size w W) => equalAll lang (.mk k b n t x q) W k b n t x q p cap k2 b2 n2 t2 x2 q2 p2 cap2 (.mk k2 b2 n2 t2 x2 q2) rfl rfl (hG.below h) (hT.below h) hf hf2 (Held.below q hl h) (Held.below q2 hl2 h)
  clear hl hl2 hf hf2 hG hT hW0
  unfold equalTop
  cases m1 : mayP (.mk k b n t x q) 0 with
  | false =>
    rw [m1] at hc1
    rw [Bool.false_and, if_neg (by simp)]
    clear hc2 he
    go_enter Tryz.func19, Tryz.ntmps19
    go_wp2_with fail
    rw [← H0.out]
    go_wp2_with (first
      | ((with_reducible refine wpList_load6g (.tmp 4) w.heap.size S4 ?_ ?_ ?_ ?_); rfl; rfl; rfl)
      | ((with_reducible refine wpList_load6g (.tmp 5) (w.heap.size + 1) S5 ?_ ?_ ?_ ?_); rfl; rfl; rfl)
      | (go_at_call 13; (with_reducible refine (hc1 _ b0).mono ?_); rintro e w' ⟨rfl, hb⟩; replace S4 := S4.below hb; replace S5 := S5.below hb; replace b0 := below_any b0 hb b0.size; have f5 := S4.c5; have g5 := S5.c5; have f00 := S4.c0; have g00 := S5.c0; clear hb))
    go_ret
    exact ⟨rfl, b0⟩
  | true =>
    rw [m1] at hc1
    rw [Bool.true_and]
    cases m2 : mayP (.mk k2 b2 n2 t2 x2 q2) 0 with
    | false =>
      rw [m2] at hc2
      rw [if_neg (by simp)]
      clear he
      go_enter Tryz.func19, Tryz.ntmps19
      go_wp2_with fail
      rw [← H0.out]
      go_wp2_with (first
        | ((with_reducible refine wpList_load6g (.tmp 4) w.heap.size S4 ?_ ?_ ?_ ?_); rfl; rfl; rfl)
        | ((with_reducible refine wpList_load6g (.tmp 5) (w.heap.size + 1) S5 ?_ ?_ ?_ ?_); rfl; rfl; rfl)
        | (go_at_call 13; (with_reducible refine (hc1 _ b0).mono ?_); rintro e w' ⟨rfl, hb⟩; replace S4 := S4.below hb; replace S5 := S5.below hb; replace b0 := below_any b0 hb b0.size; have f5 := S4.c5; have g5 := S5.c5; have f00 := S4.c0; have g00 := S5.c0; clear hb)
        | (go_at_call 13; (with_reducible refine (hc2 _ b0).mono ?_); rintro e w' ⟨rfl, hb⟩; replace S4 := S4.below hb; replace S5 := S5.below hb; replace b0 := below_any b0 hb b0.size; have f5 := S4.c5; have g5 := S5.c5; have f00 := S4.c0; have g00 := S5.c0; clear hb))
      go_ret
      exact ⟨rfl, b0⟩
    | true =>
      rw [m2] at hc2
      rw [if_pos rfl]
      generalize equalP lang (.mk k b n t x q) (.mk k2 b2 n2 t2 x2 q2) = r at he ⊢
      go_enter Tryz.func19, Tryz.ntmps19
      go_wp2_with fail
      rw [← H0.out]
      go_wp2_with (first
        | ((with_reducible refine wpList_load6g (.tmp 4) w.heap.size S4 ?_ ?_ ?_ ?_); rfl; rfl; rfl)
        | ((with_reducible refine wpList_load6g (.tmp 5) (w.heap.size + 1) S5 ?_ ?_ ?_ ?_); rfl; rfl; rfl)
        | (go_at_call 13; (with_reducible refine (hc1 _ b0).mono ?_); rintro e w' ⟨rfl, hb⟩; replace S4 := S4.below hb; replace S5 := S5.below hb; replace b0 := below_any b0 hb b0.size; have f5 := S4.c5; have g5 := S5.c5; have f00 := S4.c0; have g00 := S5.c0; clear hb)
        | (go_at_call 13; (with_reducible refine (hc2 _ b0).mono ?_); rintro e w' ⟨rfl, hb⟩; replace S4 := S4.below hb; replace S5 := S5.below hb; replace b0 := below_any b0 hb b0.size; have f5 := S4.c5; have g5 := S5.c5; have f00 := S4.c0; have g00 := S5.c0; clear hb)
        | (go_at_call 44; (with_reducible refine (he _ b0).mono ?_); rintro e w' ⟨rfl, hb⟩; replace S4 := S4.below hb; replace S5 := S5.below hb; replace b0 := below_any b0 hb b0.size; have f5 := S4.c5; have g5 := S5.c5; have f00 := S4.c0; have g00 := S5.c0; clear hb))
      go_ret
      exact ⟨rfl, b0⟩
end Go.Proofs.YtoifjjgakblhhaaGreatDoor
