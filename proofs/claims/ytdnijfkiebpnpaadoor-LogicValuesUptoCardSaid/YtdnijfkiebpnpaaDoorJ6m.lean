/- Back and Of, of truth values. -/
import Derived.Test.YtdnijfkiebpnpaaDoorGj
import Derived.Test.YtdnijfkiebpnpaaDoorO5m
import Derived.Test.YtdnijfkiebpnpaaDoorRm
namespace Go.Proofs.YtdnijfkiebpnpaaDoor
open Go.RowKit

theorem notNot (a : Int) (h : a = 0 ∨ a = 1 ∨ a = 2) : ∃ m, (∀ W, Calls Tryd.prog 7 #[.int .i64 a] W fun e w' => e = .returned (.int .i64 m) ∧ Below W.heap.size W w') ∧ (∀ W, Calls Tryd.prog 7 #[.int .i64 m] W fun e w' => e = .returned (.int .i64 a) ∧ Below W.heap.size W w') := by
  rcases h with rfl | rfl | rfl
  · exact ⟨1, fun W => notAt 0 W, fun W => notAt 1 W⟩
  · exact ⟨0, fun W => notAt 1 W, fun W => notAt 0 W⟩
  · exact ⟨2, fun W => notAt 2 W, fun W => notAt 2 W⟩
theorem results_six_tmp {fn : Func} {p q : Tmp} (h : fn.results = #[.cell p 26, .tmp q]) (tmps : Array Value) {w : World} {g : Nat} {k : Int} {b : Bool} {n : Int} {t x : ByteArray} {pp : Option Addr} {len cap : Nat} (v : Value)
    (hp : tmps.getD p undef = .pointer (some ⟨g, 0, none⟩)) (hq : tmps.getD q undef = v) (hg : Six w g k b n t x pp len cap) : (results fn tmps).run Tryd.prog w = .ok (.tuple #[.agg #[.int .i64 k, .bool b, .int .i64 n, .string t, .string x, .slice pp len cap], v]) w := by
  have hp' : tmps[p]?.getD undef = .pointer (some ⟨g, 0, none⟩) := by simpa using hp
  have hq' : tmps[q]?.getD undef = v := by simpa using hq
  have hl := run_loadVar_row (P := Tryd.prog) w g 26 26 _ (0, 0) _ hg Tryd.underlying26 rfl info28
  simp [results, h, hp', hq', asAddr, hl]
theorem back0 (w : World) : Calls Tryd.prog 5 #[.int .i64 0] w fun e w' => e = .returned (.tuple #[.agg #[.int .i64 1, .bool false, .int .i64 0, .string ⟨#[]⟩, .string ⟨#[]⟩, .slice none 0 0], .int .i64 0]) ∧ Below w.heap.size w w' := by
  go_enter Tryd.func5, Tryd.ntmps5
  go_wp2_with fail
  exact bodyPost_ret (results_six_tmp (p := 2) (q := 3) Tryd.results5 _ (.int .i64 0) rfl rfl (six_new _ rfl)) rfl ⟨rfl, below1 _ _⟩
theorem back1 (w : World) : Calls Tryd.prog 5 #[.int .i64 1] w fun e w' => e = .returned (.tuple #[.agg #[.int .i64 1, .bool true, .int .i64 0, .string ⟨#[]⟩, .string ⟨#[]⟩, .slice none 0 0], .int .i64 0]) ∧ Below w.heap.size w w' := by
  go_enter Tryd.func5, Tryd.ntmps5
  go_wp2_with fail
  exact bodyPost_ret (results_six_tmp (p := 2) (q := 3) Tryd.results5 _ (.int .i64 0) rfl rfl (six_new _ rfl)) rfl ⟨rfl, below1 _ _⟩
theorem back2 (w : World) : Calls Tryd.prog 5 #[.int .i64 2] w fun e w' => e = .returned (.tuple #[.agg #[.int .i64 0, .bool false, .int .i64 0, .string ⟨#[]⟩, .string ⟨#[]⟩, .slice none 0 0], .int .i64 0]) ∧ Below w.heap.size w w' := by
  go_enter Tryd.func5, Tryd.ntmps5
  go_wp2_with fail
  exact bodyPost_ret (results_six_tmp (p := 2) (q := 3) Tryd.results5 _ (.int .i64 0) rfl rfl (six_new _ rfl)) rfl ⟨rfl, below1 _ _⟩
theorem bare0 : mayP (.mk 1 false 0 ⟨#[]⟩ ⟨#[]⟩ []) 0 = true := by
  unfold mayP fitsP
  simp [bareP]
  rfl
theorem ofPaths0 (w : World) (hG : Gd w) : Calls Tryd.prog 12 #[.agg #[.int .i64 1, .bool false, .int .i64 0, .string ⟨#[]⟩, .string ⟨#[]⟩, .slice none 0 0]] w fun e w' => e = .returned (.tuple #[.int .i64 0, .int .i64 0]) ∧ Below w.heap.size w w' := by
  have S1 : Six (w.alloc (.cells #[.int .i64 1, .bool false, .int .i64 0, .string ⟨#[]⟩, .string ⟨#[]⟩, .slice none 0 0] 26)) w.heap.size 1 false 0 ⟨#[]⟩ ⟨#[]⟩ none 0 0 := six_new _ rfl
  have b0 := below1 w (.cells #[.int .i64 1, .bool false, .int .i64 0, .string ⟨#[]⟩, .string ⟨#[]⟩, .slice none 0 0] 26)
  have hc := checkAtV (.mk 1 false 0 ⟨#[]⟩ ⟨#[]⟩ []) 1 false 0 ⟨#[]⟩ ⟨#[]⟩ [] (.slice none 0 0) (w.alloc (.cells #[.int .i64 1, .bool false, .int .i64 0, .string ⟨#[]⟩, .string ⟨#[]⟩, .slice none 0 0] 26)) rfl (hG.below b0) (by decide) (by decide) (by unfold Held; exact ⟨none, 0, rfl⟩)
  rw [bare0] at hc
  go_enter Tryd.func12, Tryd.ntmps12
  go_wp2_with (first
    | ((with_reducible refine wpList_load6g (.tmp 1) w.heap.size S1 ?_ ?_ ?_ ?_); rfl; rfl; rfl)
    | (go_at_call 9; (with_reducible refine hc.mono ?_); rintro e w1 ⟨rfl, hb⟩; replace S1 := S1.below hb; replace b0 := below_any b0 hb b0.size; have f0 := S1.c0; have f1 := S1.c1)
    | (go_at_call 26; go_in))
  go_ret2
  exact ⟨rfl, b0⟩
theorem of0 (w : World) (hG : Gd w) : Calls Tryd.prog 6 #[.int .i64 0, .agg #[.int .i64 1, .bool false, .int .i64 0, .string ⟨#[]⟩, .string ⟨#[]⟩, .slice none 0 0]] w fun e w' => e = .returned (.tuple #[.int .i64 0, .int .i64 0]) ∧ Below w.heap.size w w' := by
  have S1 : Six (w.alloc (.cells #[.int .i64 1, .bool false, .int .i64 0, .string ⟨#[]⟩, .string ⟨#[]⟩, .slice none 0 0] 26)) w.heap.size 1 false 0 ⟨#[]⟩ ⟨#[]⟩ none 0 0 := six_new _ rfl
  have b0 := below1 w (.cells #[.int .i64 1, .bool false, .int .i64 0, .string ⟨#[]⟩, .string ⟨#[]⟩, .slice none 0 0] 26)
  have hc := ofPaths0 (w.alloc (.cells #[.int .i64 1, .bool false, .int .i64 0, .string ⟨#[]⟩, .string ⟨#[]⟩, .slice none 0 0] 26)) (hG.below b0)
  go_enter Tryd.func6, Tryd.ntmps6
  go_wp2_with (first
    | ((with_reducible refine wpList_load6g (.tmp 3) w.heap.size S1 ?_ ?_ ?_ ?_); rfl; rfl; rfl)
    | (go_at_call 12; (with_reducible refine hc.mono ?_); rintro e w1 ⟨rfl, hb⟩; replace b0 := below_any b0 hb b0.size))
  go_ret2
  exact ⟨rfl, b0⟩
theorem bare1 : mayP (.mk 1 true 0 ⟨#[]⟩ ⟨#[]⟩ []) 0 = true := by
  unfold mayP fitsP
  simp [bareP]
  rfl
theorem ofPaths1 (w : World) (hG : Gd w) : Calls Tryd.prog 12 #[.agg #[.int .i64 1, .bool true, .int .i64 0, .string ⟨#[]⟩, .string ⟨#[]⟩, .slice none 0 0]] w fun e w' => e = .returned (.tuple #[.int .i64 1, .int .i64 0]) ∧ Below w.heap.size w w' := by
  have S1 : Six (w.alloc (.cells #[.int .i64 1, .bool true, .int .i64 0, .string ⟨#[]⟩, .string ⟨#[]⟩, .slice none 0 0] 26)) w.heap.size 1 true 0 ⟨#[]⟩ ⟨#[]⟩ none 0 0 := six_new _ rfl
  have b0 := below1 w (.cells #[.int .i64 1, .bool true, .int .i64 0, .string ⟨#[]⟩, .string ⟨#[]⟩, .slice none 0 0] 26)
  have hc := checkAtV (.mk 1 true 0 ⟨#[]⟩ ⟨#[]⟩ []) 1 true 0 ⟨#[]⟩ ⟨#[]⟩ [] (.slice none 0 0) (w.alloc (.cells #[.int .i64 1, .bool true, .int .i64 0, .string ⟨#[]⟩, .string ⟨#[]⟩, .slice none 0 0] 26)) rfl (hG.below b0) (by decide) (by decide) (by unfold Held; exact ⟨none, 0, rfl⟩)
  rw [bare1] at hc
  go_enter Tryd.func12, Tryd.ntmps12
  go_wp2_with (first
    | ((with_reducible refine wpList_load6g (.tmp 1) w.heap.size S1 ?_ ?_ ?_ ?_); rfl; rfl; rfl)
    | (go_at_call 9; (with_reducible refine hc.mono ?_); rintro e w1 ⟨rfl, hb⟩; replace S1 := S1.below hb; replace b0 := below_any b0 hb b0.size; have f0 := S1.c0; have f1 := S1.c1)
    | (go_at_call 26; go_in))
  go_ret2
  exact ⟨rfl, b0⟩
theorem of1 (w : World) (hG : Gd w) : Calls Tryd.prog 6 #[.int .i64 0, .agg #[.int .i64 1, .bool true, .int .i64 0, .string ⟨#[]⟩, .string ⟨#[]⟩, .slice none 0 0]] w fun e w' => e = .returned (.tuple #[.int .i64 1, .int .i64 0]) ∧ Below w.heap.size w w' := by
  have S1 : Six (w.alloc (.cells #[.int .i64 1, .bool true, .int .i64 0, .string ⟨#[]⟩, .string ⟨#[]⟩, .slice none 0 0] 26)) w.heap.size 1 true 0 ⟨#[]⟩ ⟨#[]⟩ none 0 0 := six_new _ rfl
  have b0 := below1 w (.cells #[.int .i64 1, .bool true, .int .i64 0, .string ⟨#[]⟩, .string ⟨#[]⟩, .slice none 0 0] 26)
  have hc := ofPaths1 (w.alloc (.cells #[.int .i64 1, .bool true, .int .i64 0, .string ⟨#[]⟩, .string ⟨#[]⟩, .slice none 0 0] 26)) (hG.below b0)
  go_enter Tryd.func6, Tryd.ntmps6
  go_wp2_with (first
    | ((with_reducible refine wpList_load6g (.tmp 3) w.heap.size S1 ?_ ?_ ?_ ?_); rfl; rfl; rfl)
    | (go_at_call 12; (with_reducible refine hc.mono ?_); rintro e w1 ⟨rfl, hb⟩; replace b0 := below_any b0 hb b0.size))
  go_ret2
  exact ⟨rfl, b0⟩
theorem bare2 : mayP (.mk 0 false 0 ⟨#[]⟩ ⟨#[]⟩ []) 0 = true := by
  unfold mayP fitsP
  simp [bareP]
  rfl
theorem ofPaths2 (w : World) (hG : Gd w) : Calls Tryd.prog 12 #[.agg #[.int .i64 0, .bool false, .int .i64 0, .string ⟨#[]⟩, .string ⟨#[]⟩, .slice none 0 0]] w fun e w' => e = .returned (.tuple #[.int .i64 2, .int .i64 0]) ∧ Below w.heap.size w w' := by
  have S1 : Six (w.alloc (.cells #[.int .i64 0, .bool false, .int .i64 0, .string ⟨#[]⟩, .string ⟨#[]⟩, .slice none 0 0] 26)) w.heap.size 0 false 0 ⟨#[]⟩ ⟨#[]⟩ none 0 0 := six_new _ rfl
  have b0 := below1 w (.cells #[.int .i64 0, .bool false, .int .i64 0, .string ⟨#[]⟩, .string ⟨#[]⟩, .slice none 0 0] 26)
  have hc := checkAtV (.mk 0 false 0 ⟨#[]⟩ ⟨#[]⟩ []) 0 false 0 ⟨#[]⟩ ⟨#[]⟩ [] (.slice none 0 0) (w.alloc (.cells #[.int .i64 0, .bool false, .int .i64 0, .string ⟨#[]⟩, .string ⟨#[]⟩, .slice none 0 0] 26)) rfl (hG.below b0) (by decide) (by decide) (by unfold Held; exact ⟨none, 0, rfl⟩)
  rw [bare2] at hc
  go_enter Tryd.func12, Tryd.ntmps12
  go_wp2_with (first
    | ((with_reducible refine wpList_load6g (.tmp 1) w.heap.size S1 ?_ ?_ ?_ ?_); rfl; rfl; rfl)
    | (go_at_call 9; (with_reducible refine hc.mono ?_); rintro e w1 ⟨rfl, hb⟩; replace S1 := S1.below hb; replace b0 := below_any b0 hb b0.size; have f0 := S1.c0; have f1 := S1.c1))
  go_ret2
  exact ⟨rfl, b0⟩
theorem of2 (w : World) (hG : Gd w) : Calls Tryd.prog 6 #[.int .i64 0, .agg #[.int .i64 0, .bool false, .int .i64 0, .string ⟨#[]⟩, .string ⟨#[]⟩, .slice none 0 0]] w fun e w' => e = .returned (.tuple #[.int .i64 2, .int .i64 0]) ∧ Below w.heap.size w w' := by
  have S1 : Six (w.alloc (.cells #[.int .i64 0, .bool false, .int .i64 0, .string ⟨#[]⟩, .string ⟨#[]⟩, .slice none 0 0] 26)) w.heap.size 0 false 0 ⟨#[]⟩ ⟨#[]⟩ none 0 0 := six_new _ rfl
  have b0 := below1 w (.cells #[.int .i64 0, .bool false, .int .i64 0, .string ⟨#[]⟩, .string ⟨#[]⟩, .slice none 0 0] 26)
  have hc := ofPaths2 (w.alloc (.cells #[.int .i64 0, .bool false, .int .i64 0, .string ⟨#[]⟩, .string ⟨#[]⟩, .slice none 0 0] 26)) (hG.below b0)
  go_enter Tryd.func6, Tryd.ntmps6
  go_wp2_with (first
    | ((with_reducible refine wpList_load6g (.tmp 3) w.heap.size S1 ?_ ?_ ?_ ?_); rfl; rfl; rfl)
    | (go_at_call 12; (with_reducible refine hc.mono ?_); rintro e w1 ⟨rfl, hb⟩; replace b0 := below_any b0 hb b0.size))
  go_ret2
  exact ⟨rfl, b0⟩
/-- What Back tells is read by Of as it was. -/
theorem backOf (a : Int) (h : a = 0 ∨ a = 1 ∨ a = 2) : ∃ (K : Int) (B : Bool), (∀ W, Calls Tryd.prog 5 #[.int .i64 a] W fun e w' => e = .returned (.tuple #[.agg #[.int .i64 K, .bool B, .int .i64 0, .string ⟨#[]⟩, .string ⟨#[]⟩, .slice none 0 0], .int .i64 0]) ∧ Below W.heap.size W w') ∧
    (∀ W, Gd W → Calls Tryd.prog 6 #[.int .i64 0, .agg #[.int .i64 K, .bool B, .int .i64 0, .string ⟨#[]⟩, .string ⟨#[]⟩, .slice none 0 0]] W fun e w' => e = .returned (.tuple #[.int .i64 a, .int .i64 0]) ∧ Below W.heap.size W w') := by
  rcases h with rfl | rfl | rfl
  · exact ⟨1, false, back0, of0⟩
  · exact ⟨1, true, back1, of1⟩
  · exact ⟨0, false, back2, of2⟩
end Go.Proofs.YtdnijfkiebpnpaaDoor
