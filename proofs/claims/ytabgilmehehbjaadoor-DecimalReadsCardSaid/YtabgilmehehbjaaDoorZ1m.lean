/- The law DecimalReads: the row. -/
import Derived.Test.YtabgilmehehbjaaDoorY9m
import Derived.Test.YtabgilmehehbjaaDoorW9m
namespace Go.Proofs.YtabgilmehehbjaaDoor
open Go.ChangeShapes Go.WideShapes Go.ChangeAt Go.RowKit

/-- The list of the law. -/
def listsR : List (String × DataW Unit) := Rows.decimalReadsRow.laid
theorem tab_of_laidR {W : World} (h : laidMetH Tryd.prog listsR W) : Tab W := by
  rw [MakeChecks.laidMetH_plain _ _ _ (by kernel_rfl)] at h
  have h1 := laidMet.tail h
  have h2 := laidMet.tail h1
  exact Lib.tabIs_of_head (g := 2) (t := 123) (e := 87) (n := 20) (by kernel_rfl) (by kernel_rfl) (by kernel_rfl) (by kernel_rfl) (by kernel_rfl) (by kernel_rfl) h2
theorem er_of_laidR {W : World} (h : laidMetH Tryd.prog listsR W) : Er W := by
  rw [MakeChecks.laidMetH_plain _ _ _ (by kernel_rfl)] at h
  have h4 := laidMet.tail (laidMet.tail (laidMet.tail (laidMet.tail h)))
  obtain ⟨ps, ⟨g, t, cs, fuel, p, q, hg, ht, hv, hd, _, _⟩, _⟩ := h4
  obtain rfl := Option.some.inj ((show Tryd.prog.globalNamed "strconv.ErrRange" = some 1 by kernel_rfl).symm.trans hg)
  obtain rfl := Option.some.inj ((show (Tryd.prog.globals[1]?).map (·.type) = some 51 by kernel_rfl).symm.trans ht)
  obtain ⟨f1, u, v, hc, _, _⟩ := iface_of_trod Tryd.underlying51 hd
  refine ⟨u, v, ?_⟩
  have := World.var?_cell hg hv 0
  rw [this, ← Array.getElem?_toList, hc]
  rfl
theorem startShapedR (os : Os) : ((World.laidAll Tryd.prog os listsR).forCall (fun _ _ => 0) ⟨#[], start, []⟩).Shaped Tryd.prog :=
  World.shaped_of_ZipB (by kernel_rfl) (by kernel_rfl)
theorem startLaidR (os : Os) : laidMetH Tryd.prog listsR ((World.laidAll Tryd.prog os listsR).forCall (fun _ _ => 0) ⟨#[], start, []⟩).memory := by
  rw [MakeChecks.laidMetH_plain _ _ _ (by kernel_rfl)]
  exact laidMet_laidAll _ (by kernel_rfl) (by kernel_rfl)
theorem readsAny (L v2 : Value) (w : World) (hG : Gd w) (hT : Tab w) (hE : Er w) (h : Texts2 w L) (k : Nums2 w v2) :
    Calls Tryd.prog 3 #[.agg #[L, v2]] w fun e w' => e = .returned (.bool true) ∧ Below w.heap.size w w' := by
  obtain ⟨p, n, cap, S, rfl, hS, hn, hz⟩ := h
  obtain ⟨q, m, cap2, Z, rfl, hZ, hm, hb⟩ := k
  exact readsSome p n cap S q m cap2 Z w hG hT hE hS hZ hn hm hz hb

set_option maxRecDepth 100000 in
theorem readsLifted (os : Os) (started : os.Started) (H : Type) (enc : TypeId × Value → H) :
    ReturnsInHanded {} Tryd.checked os 3 .any (fun w args => (Rows.decimalReadsSpec.pre enc Tryd.prog Tryd.f3 Rows.decimalReadsRow.domain false w args ∧ laidMetH Tryd.prog Rows.decimalReadsRow.laid w) ∧ sizedMet enc Tryd.prog Tryd.f3 (OpenSpec.ofChange Rows.decimalReadsSpec) false w args)
      (Rows.decimalReadsSpec.post enc Tryd.prog Tryd.f3 false true false false) := by
  refine andShaped (C := Tryd.checked) (X := fun w _ => laidMetH Tryd.prog listsR w) (fun _ _ _ hh h => h.of_heap hh) own started (by kernel_rfl) Tryd.func3
    (ChangeSpec.witness_shaped (enc := enc) (C := Tryd.checked) (os := os) (X := fun w _ => laidMetH Tryd.prog listsR w) false (World.laidAll Tryd.prog os listsR) start 8 (World.laidAll_os _ _ _)
      (startShapedR os) (by kernel_rfl) (by kernel_rfl) (by kernel_rfl) (startLaidR os)) ?_
  intro W base args ds gs before hval0 hW hsh hL
  have hval : ∀ (j : Nat) t v, Tryd.f3.params[j]? = some t → args[j]? = some v → Value.okWide Tryd.prog W .any base t v := hval0
  have hW' := hW
  obtain ⟨p, q, hA0, hV, rfl, hfz, hnd⟩ := hW
  have hA : DataW.TrodAll enc Tryd.prog W 0 (fun _ => true) true Tryd.f3.params.toList args.toList ds p := hA0
  rw [Tryd.params3] at hA hval
  obtain ⟨v0, d0, rfl, rfl, h0⟩ := ChangeShapes.trodAll_one hA
  obtain ⟨rfl, rfl⟩ := ChangeShapes.trodVars_none hV
  obtain ⟨L, v2, y0, y1, n, rfl, rfl, rfl, t0, t1⟩ := Joins.open_agg2 Tryd.underlying25 (by kernel_rfl) (by kernel_rfl) (hval 0 25 v0 rfl rfl) h0
  refine (readsAny L v2 W (gd_of_shape hsh) (tab_of_laidR hL) (er_of_laidR hL) (texts2_of_trod t0) (nums2_of_trod t1)).mono fun e W' ⟨he, hb⟩ => ?_
  subst he
  have hlt : ∀ x ∈ y0.2 ++ y1.2, x.block < W.heap.size := fun x hx => by simpa using hW'.lt x (by simpa using hx)
  refine ⟨_, rfl, _, _, _, [], _, [], hW', ?_, ChangeShapes.trodAll_mk1 (Below.trod laidOut (by kernel_rfl) (of_decide_eq_true (by kernel_rfl)) h0 hb hlt), rfl, hb.frame _, fun h => by cases h⟩
  exact ChangeShapes.trodAll_mk1 (shut_bool Tryd.underlying4 true)

theorem readsHolds : Rows.DecimalReadsSaid :=
  OpenClaim.holds_of_wide 3 Tryd.f3 rfl rfl rfl rfl rfl rfl rfl ⟨rfl, rfl, rfl, rfl, rfl⟩ rfl rfl rfl rfl rfl (by kernel_rfl) Tryd.func3 (by kernel_rfl)
    (of_decide_eq_true (by kernel_rfl)) (by unfold Func.isWrapper; first | (rw [if_pos (by decide +kernel)]; kernel_rfl) | (rw [if_neg (by decide +kernel)]; exact ⟨rfl, rfl⟩))
    (fun os started H enc _ => readsLifted os started H enc)
end Go.Proofs.YtabgilmehehbjaaDoor
