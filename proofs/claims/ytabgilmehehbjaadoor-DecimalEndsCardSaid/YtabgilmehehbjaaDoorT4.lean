/- The law DecimalEnds: the row. -/
import Derived.Test.YtabgilmehehbjaaDoorT3
import Derived.Test.YtabgilmehehbjaaDoorE
namespace Go.Proofs.YtabgilmehehbjaaDoor
open Go.ChangeShapes Go.WideShapes Go.ChangeAt Go.RowKit

/-- The list of the laws that name the library's errors. -/
def listsE : List (String × DataW Unit) := Rows.decimalEndsRow.laid
theorem tab_of_laidE {W : World} (h : laidMetH Tryd.prog listsE W) : Tab W := by
  rw [MakeChecks.laidMetH_plain _ _ _ (by kernel_rfl)] at h
  have h1 := laidMet.tail h
  have h2 := laidMet.tail h1
  exact Lib.tabIs_of_head (g := 2) (t := 123) (e := 87) (n := 20) (by kernel_rfl) (by kernel_rfl) (by kernel_rfl) (by kernel_rfl) (by kernel_rfl) (by kernel_rfl) h2
theorem er_of_laid {W : World} (h : laidMetH Tryd.prog listsE W) : Er W := by
  rw [MakeChecks.laidMetH_plain _ _ _ (by kernel_rfl)] at h
  have h4 := laidMet.tail (laidMet.tail (laidMet.tail (laidMet.tail h)))
  obtain ⟨ps, ⟨g, t, cs, fuel, p, q, hg, ht, hv, hd, _, _⟩, _⟩ := h4
  obtain rfl := Option.some.inj ((show Tryd.prog.globalNamed "strconv.ErrRange" = some 1 by kernel_rfl).symm.trans hg)
  obtain rfl := Option.some.inj ((show (Tryd.prog.globals[1]?).map (·.type) = some 51 by kernel_rfl).symm.trans ht)
  obtain ⟨f1, u, v, hc, _, _⟩ := iface_of_trod Tryd.underlying51 hd
  refine ⟨u, v, ?_⟩
  have := World.var?_cell hg hv 0
  rw [this, ← Array.getElem?_toList, hc]
  rfl
theorem startShapedE (os : Os) : ((World.laidAll Tryd.prog os listsE).forCall (fun _ _ => 0) ⟨#[], #[], []⟩).Shaped Tryd.prog :=
  World.shaped_of_ZipB (by kernel_rfl) (by kernel_rfl)
theorem startLaidE (os : Os) : laidMetH Tryd.prog listsE ((World.laidAll Tryd.prog os listsE).forCall (fun _ _ => 0) ⟨#[], #[], []⟩).memory := by
  rw [MakeChecks.laidMetH_plain _ _ _ (by kernel_rfl)]
  exact laidMet_laidAll _ (by kernel_rfl) (by kernel_rfl)

set_option maxRecDepth 100000 in
theorem endsLifted (os : Os) (started : os.Started) (H : Type) (enc : TypeId × Value → H) :
    ReturnsInHanded {} Tryd.checked os 9 .any (fun w args => (Rows.decimalEndsSpec.pre enc Tryd.prog Tryd.f9 Rows.decimalEndsRow.domain false w args ∧ laidMetH Tryd.prog Rows.decimalEndsRow.laid w) ∧ sizedMet enc Tryd.prog Tryd.f9 (OpenSpec.ofChange Rows.decimalEndsSpec) false w args)
      (Rows.decimalEndsSpec.post enc Tryd.prog Tryd.f9 false true false false) := by
  refine andShaped (C := Tryd.checked) (X := fun w _ => laidMetH Tryd.prog listsE w) (fun _ _ _ hh h => h.of_heap hh) own started (by kernel_rfl) Tryd.func9
    (ChangeSpec.witness_shaped (enc := enc) (C := Tryd.checked) (os := os) (X := fun w _ => laidMetH Tryd.prog listsE w) false (World.laidAll Tryd.prog os listsE) #[] 8 (World.laidAll_os _ _ _)
      (startShapedE os) (by kernel_rfl) (by kernel_rfl) (by kernel_rfl) (startLaidE os)) ?_
  intro W base args ds gs before _ hW hsh hL
  have hW' := hW
  obtain ⟨p, q, hA0, hV, rfl, hfz, hnd⟩ := hW
  have hA : DataW.TrodAll enc Tryd.prog W 0 (fun _ => true) true Tryd.f9.params.toList args.toList ds p := hA0
  rw [Tryd.params9] at hA
  obtain ⟨ha, rfl, rfl⟩ := ChangeShapes.trodAll_nil hA
  obtain rfl : args = #[] := Array.toList_inj.1 ha
  obtain ⟨rfl, rfl⟩ := ChangeShapes.trodVars_none hV
  refine (endsAt W (gd_of_shape hsh) (tab_of_laidE hL) (er_of_laid hL)).mono fun e W' ⟨he, hb⟩ => ?_
  subst he
  exact ⟨_, rfl, _, _, _, [], [], [], hW', ChangeShapes.trodAll_mk1 (shut_bool Tryd.underlying4 true), rfl, rfl, hb.frame _, fun h => by cases h⟩

theorem endsHolds : Rows.DecimalEndsSaid :=
  OpenClaim.holds_of_wide 9 Tryd.f9 rfl rfl rfl rfl rfl rfl rfl ⟨rfl, rfl, rfl, rfl, rfl⟩ rfl rfl rfl rfl rfl (by kernel_rfl) Tryd.func9 (by kernel_rfl)
    (of_decide_eq_true (by kernel_rfl)) (by unfold Func.isWrapper; first | (rw [if_pos (by decide +kernel)]; kernel_rfl) | (rw [if_neg (by decide +kernel)]; exact ⟨rfl, rfl⟩))
    (fun os started H enc _ => endsLifted os started H enc)
end Go.Proofs.YtabgilmehehbjaaDoor
