/- Called with any list of lists of bytes, the law ValueDecodes returns true (what the document's Decode makes of bytes is what the program's makes of them) and leaves its argument as it was. Conditions: those of the given card alone. -/
import Derived.Test.YtoifjjgakblhhaaGreatDoorHbh
namespace Go.Proofs.YtoifjjgakblhhaaGreatDoor
open Go.ChangeShapes Go.WideShapes Go.ChangeAt Go.RowKit

theorem own : ownKnob Tryz.prog.godebug = none := by kernel_rfl
theorem laidOut : laidOutB Tryz.prog = true := by kernel_rfl
/-- The list of the law. -/
def lists : List (String × DataW Unit) := Rows.valueDecodesRow.laid
theorem gd_of_shape {W : World} (h : W.ShapedOpen Tryz.prog) : Gd W :=
  cell_of_shapedOpen_int (t := 3) (zero := #[.int .i64 0]) h (of_decide_eq_true (by kernel_rfl)) (by kernel_rfl) (by kernel_rfl) (by kernel_rfl) (by kernel_rfl) (by kernel_rfl)
theorem tab_of_laid {W : World} (h : laidMetH Tryz.prog lists W) : Tab W := by
  rw [MakeChecks.laidMetH_plain _ _ _ (by kernel_rfl)] at h
  have h1 := laidMet.tail h
  have h2 := laidMet.tail h1
  exact Lib.tabIs_of_head (g := 1) (t := 195) (e := 111) (n := 20) (by kernel_rfl) (by kernel_rfl) (by kernel_rfl) (by kernel_rfl) (by kernel_rfl) (by kernel_rfl) h2
/-- One start that fits: no lists. -/
def start : Array Value := #[.slice none 0 0]
theorem startShaped (os : Os) : ((World.laidAll Tryz.prog os lists).forCall (fun _ _ => 0) ⟨#[], start, []⟩).Shaped Tryz.prog :=
  World.shaped_of_ZipB (by kernel_rfl) (by kernel_rfl)
theorem startLaid (os : Os) : laidMetH Tryz.prog lists ((World.laidAll Tryz.prog os lists).forCall (fun _ _ => 0) ⟨#[], start, []⟩).memory := by
  rw [MakeChecks.laidMetH_plain _ _ _ (by kernel_rfl)]
  exact laidMet_laidAll _ (by kernel_rfl) (by kernel_rfl)

set_option maxRecDepth 100000 in
theorem decodesLifted (os : Os) (started : os.Started) (H : Type) (enc : TypeId × Value → H) :
    ReturnsInHanded {} Tryz.checked os 6 .any (fun w args => (Rows.valueDecodesSpec.pre enc Tryz.prog Tryz.f6 Rows.valueDecodesRow.domain false w args ∧ laidMetH Tryz.prog Rows.valueDecodesRow.laid w) ∧ sizedMet enc Tryz.prog Tryz.f6 (OpenSpec.ofChange Rows.valueDecodesSpec) false w args)
      (Rows.valueDecodesSpec.post enc Tryz.prog Tryz.f6 false true false false) := by
  refine andShaped (C := Tryz.checked) (X := fun w _ => laidMetH Tryz.prog lists w) (fun _ _ _ hh h => h.of_heap hh) own started (by kernel_rfl) Tryz.func6
    (ChangeSpec.witness_shaped (enc := enc) (C := Tryz.checked) (os := os) (X := fun w _ => laidMetH Tryz.prog lists w) false (World.laidAll Tryz.prog os lists) start 8 (World.laidAll_os _ _ _)
      (startShaped os) (by kernel_rfl) (by kernel_rfl) (by kernel_rfl) (startLaid os)) ?_
  intro W base args ds gs before hval0 hW hsh hL
  have hval : ∀ (j : Nat) t v, Tryz.f6.params[j]? = some t → args[j]? = some v → Value.okWide Tryz.prog W .any base t v := hval0
  have hW' := hW
  obtain ⟨p, q, hA0, hV, rfl, hfz, hnd⟩ := hW
  have hA : DataW.TrodAll enc Tryz.prog W 0 (fun _ => true) true Tryz.f6.params.toList args.toList ds p := hA0
  rw [Tryz.params6] at hA hval
  obtain ⟨v0, d0, rfl, rfl, h0⟩ := ChangeShapes.trodAll_one hA
  obtain ⟨rfl, rfl⟩ := ChangeShapes.trodVars_none hV
  obtain ⟨a0, n0, k0, rfl⟩ := okWide_slice Tryz.underlying44 (hval 0 44 v0 rfl rfl)
  obtain ⟨fuel, h1⟩ := id h0
  refine (decodesAny _ W (gd_of_shape hsh) (tab_of_laid hL) (lists_of_trod (L := .slice a0 n0 k0) h1)).mono fun e W' ⟨he, hb⟩ => ?_
  subst he
  have hlt : ∀ x ∈ p, x.block < W.heap.size := fun x hx => by simpa using hW'.lt x (by simpa using hx)
  refine ⟨_, rfl, _, _, _, [], _, [], hW', ?_, ChangeShapes.trodAll_mk1 (Below.trod laidOut (by kernel_rfl) (of_decide_eq_true (by kernel_rfl)) h0 hb hlt), rfl, hb.frame _, fun h => by cases h⟩
  exact ChangeShapes.trodAll_mk1 (shut_bool Tryz.underlying4 true)

theorem decodesHolds : Rows.ValueDecodesSaid :=
  OpenClaim.holds_of_wide 6 Tryz.f6 rfl rfl rfl rfl rfl rfl rfl ⟨rfl, rfl, rfl, rfl, rfl⟩ rfl rfl rfl rfl rfl (by kernel_rfl) Tryz.func6 (by kernel_rfl)
    (of_decide_eq_true (by kernel_rfl)) (by unfold Func.isWrapper; first | (rw [if_pos (by decide +kernel)]; kernel_rfl) | (rw [if_neg (by decide +kernel)]; exact ⟨rfl, rfl⟩))
    (fun os started H enc _ => decodesLifted os started H enc)
theorem decodesPlain (f : FuncId) (fn : Func) (hf : Tryz.pinned.checked.prog.funcNamed "diptych/diptychlaw2.ValueDecodes" = some f) (hfn : Tryz.pinned.checked.prog.funcs[f]? = some fn) :
    true = Tryz.pinned.checked.prog.looks [] ∧ ∀ (j : Nat) t, fn.params[j]? = some t → Tryz.pinned.checked.prog.wantsStandIn t = false := by
  obtain rfl : f = 6 := Option.some.inj ((show Tryz.prog.funcNamed "diptych/diptychlaw2.ValueDecodes" = some 6 by kernel_rfl).symm.trans hf) |>.symm
  obtain rfl : fn = Tryz.f6 := (Option.some.inj (Tryz.func6.symm.trans hfn)).symm
  refine ⟨by kernel_rfl, fun j t ht => ?_⟩
  rw [Tryz.params6] at ht
  have h3 : t = 44 := by
    rcases j with _ | j
    · simpa using ht.symm
    · simp at ht
  subst h3
  exact (show Tryz.prog.wantsStandIn 44 = false by kernel_rfl)
theorem decodesCard : Rows.ValueDecodesCardSaid :=
  Claim7.holds_tied_plain_at .later [] _ _ _ _ decodesHolds (fun _ h => by cases h) (by kernel_rfl) (fun _ h => by cases h) valueDecodes_row_tie rfl ⟨rfl, rfl⟩ (by kernel_rfl) rfl decodesPlain (by kernel_rfl)
#print axioms decodesCard
end Go.Proofs.YtoifjjgakblhhaaGreatDoor
