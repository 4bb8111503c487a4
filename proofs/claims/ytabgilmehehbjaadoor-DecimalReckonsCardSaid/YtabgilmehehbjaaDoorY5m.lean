/- The law DecimalReckons on none or one text; the whole. -/
import Derived.Test.YtabgilmehehbjaaDoorY4m
import Derived.Test.YtabgilmehehbjaaDoorEm
namespace Go.Proofs.YtabgilmehehbjaaDoor
open Go.RowKit

set_option maxRecDepth 20000 in
set_option maxHeartbeats 800000 in
theorem reckonsFew (p : Option Addr) (n cap : Nat) (v2 : Value) (w : World) (hG : Gd w) (hT : Tab w) (hn : n ≤ 1) :
    Calls Tryd.prog 4 #[.agg #[.slice p n cap, v2]] w fun e w' => e = .returned (.bool true) ∧ Below w.heap.size w w' := by
  have hb0 : Below w.heap.size w (w.alloc (.cells #[.slice p n cap, v2] 25)) := (Below.refl _ _).alloc (Nat.le_refl _) _
  have c0 : (w.alloc (.cells #[.slice p n cap, v2] 25)).cell? ⟨w.heap.size, 0, none⟩ = some (.slice p n cap) := cell_of (heap_new _ _ rfl) _ rfl
  have g0 := hG.below hb0
  have t0 := hT.below hb0
  have hsz : w.heap.size ≤ (w.alloc (.cells #[.slice p n cap, v2] 25)).heap.size := by simp
  go_enter Tryd.func4, Tryd.ntmps4
  go_wp2_with fail
  go_loopg [3] n (fun gg s3 wr => s3 = .int .i64 1 ∧ gg = n ∧ wr = w.alloc (.cells #[.slice p n cap, v2] 25))
  case atStart => exact ⟨rfl, rfl, rfl⟩
  case round =>
    obtain ⟨rfl, _, rfl⟩ := hrel
    have hlt : ¬ ((1 : Int) < n) := by omega
    go_wp2_with (go_at_call 19; (with_reducible refine (wakesAt _ g0 t0).mono ?_); rintro e w1 ⟨rfl, hb1⟩)
    go_ret
    exact ⟨rfl, below_any hb0 hb1 hsz⟩

theorem reckonsAny (L v2 : Value) (w : World) (hG : Gd w) (hT : Tab w) (h : Texts w L) :
    Calls Tryd.prog 4 #[.agg #[L, v2]] w fun e w' => e = .returned (.bool true) ∧ Below w.heap.size w w' := by
  rcases h with ⟨p, n, cap, rfl, hn⟩ | ⟨b, off, n, cap, S, rfl, hS, hn, hz⟩
  · exact reckonsFew p n cap v2 w hG hT hn
  · exact reckonsSome b off n cap v2 S w hG hT hS hn hz

set_option maxRecDepth 100000 in
theorem reckonsLifted (os : Os) (started : os.Started) (H : Type) (enc : TypeId × Value → H) :
    ReturnsInHanded {} Tryd.checked os 4 .any (fun w args => (Rows.decimalReckonsSpec.pre enc Tryd.prog Tryd.f4 Rows.decimalReckonsRow.domain false w args ∧ laidMetH Tryd.prog Rows.decimalReckonsRow.laid w) ∧ sizedMet enc Tryd.prog Tryd.f4 (OpenSpec.ofChange Rows.decimalReckonsSpec) false w args)
      (Rows.decimalReckonsSpec.post enc Tryd.prog Tryd.f4 false true false false) := by
  refine andShaped (C := Tryd.checked) (X := fun w _ => laidMetH Tryd.prog lists w) (fun _ _ _ hh h => h.of_heap hh) own started (by kernel_rfl) Tryd.func4
    (ChangeSpec.witness_shaped (enc := enc) (C := Tryd.checked) (os := os) (X := fun w _ => laidMetH Tryd.prog lists w) false (World.laidAll Tryd.prog os lists) start 8 (World.laidAll_os _ _ _)
      (startShaped os) (by kernel_rfl) (by kernel_rfl) (by kernel_rfl) (startLaid os)) ?_
  intro W base args ds gs before hval0 hW hsh hL
  have hval : ∀ (j : Nat) t v, Tryd.f4.params[j]? = some t → args[j]? = some v → Value.okWide Tryd.prog W .any base t v := hval0
  have hW' := hW
  obtain ⟨p, q, hA0, hV, rfl, hfz, hnd⟩ := hW
  have hA : DataW.TrodAll enc Tryd.prog W 0 (fun _ => true) true Tryd.f4.params.toList args.toList ds p := hA0
  rw [Tryd.params4] at hA hval
  obtain ⟨v0, d0, rfl, rfl, h0⟩ := ChangeShapes.trodAll_one hA
  obtain ⟨rfl, rfl⟩ := ChangeShapes.trodVars_none hV
  obtain ⟨L, v2, y0, y1, n, rfl, rfl, rfl, t0, _⟩ := Joins.open_agg2 Tryd.underlying25 (by kernel_rfl) (by kernel_rfl) (hval 0 25 v0 rfl rfl) h0
  refine (reckonsAny L v2 W (gd_of_shape hsh) (tab_of_laid hL) (texts_of_trod t0)).mono fun e W' ⟨he, hb⟩ => ?_
  subst he
  have hlt : ∀ x ∈ y0.2 ++ y1.2, x.block < W.heap.size := fun x hx => by simpa using hW'.lt x (by simpa using hx)
  refine ⟨_, rfl, _, _, _, [], _, [], hW', ?_, ChangeShapes.trodAll_mk1 (Below.trod laidOut (by kernel_rfl) (of_decide_eq_true (by kernel_rfl)) h0 hb hlt), rfl, hb.frame _, fun h => by cases h⟩
  exact ChangeShapes.trodAll_mk1 (shut_bool Tryd.underlying4 true)

theorem reckonsHolds : Rows.DecimalReckonsSaid :=
  OpenClaim.holds_of_wide 4 Tryd.f4 rfl rfl rfl rfl rfl rfl rfl ⟨rfl, rfl, rfl, rfl, rfl⟩ rfl rfl rfl rfl rfl (by kernel_rfl) Tryd.func4 (by kernel_rfl)
    (of_decide_eq_true (by kernel_rfl)) (by unfold Func.isWrapper; first | (rw [if_pos (by decide +kernel)]; kernel_rfl) | (rw [if_neg (by decide +kernel)]; exact ⟨rfl, rfl⟩))
    (fun os started H enc _ => reckonsLifted os started H enc)
end Go.Proofs.YtabgilmehehbjaaDoor
