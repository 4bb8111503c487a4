/- Called with any list of texts and any list of numbers, the law DictNumbers returns true and leaves its argument as it was. Conditions: those of the given card alone (the listed library tables hold what the program's text lays; the argument can be read as data). -/
import Derived.Test.YtffbcccbhofbpaaDoorI8
import Derived.Test.YtffbcccbhofbpaaDoorG0
import Derived.Test.YtffbcccbhofbpaaDoorTie
import Derived.Test.YtffbcccbhofbpaaDoorCards
import Derived.SevenTiedAt
namespace Go.Proofs.YtffbcccbhofbpaaDoor
open Go.ChangeShapes Go.WideShapes Go.ChangeAt Go.RowKit

theorem numbersAny (L N : Value) (w : World) (hN : IntsW w N) : Calls Tryd.prog 4 #[.agg #[L, N]] w fun e w' => e = .returned (.bool true) ∧ Below w.heap.size w w' := by
  rcases hN with ⟨q, cap2, rfl⟩ | ⟨c, off2, m, cap2, Z, rfl, hZ, hw, hm⟩
  · exact numbersWalk w L q cap2
  · exact numbersWalkN w L c off2 m cap2 Z hZ hw hm
/-- One start that fits: no texts, no numbers. -/
def start : Array Value := #[.agg #[.slice none 0 0, .slice none 0 0]]
theorem startShaped (os : Os) : ((World.laidAll Tryd.prog os lists).forCall (fun _ _ => 0) ⟨#[], start, []⟩).Shaped Tryd.prog :=
  World.shaped_of_ZipB (by kernel_rfl) (by kernel_rfl)
theorem startLaid (os : Os) : laidMetH Tryd.prog lists ((World.laidAll Tryd.prog os lists).forCall (fun _ _ => 0) ⟨#[], start, []⟩).memory := by
  rw [MakeChecks.laidMetH_plain _ _ _ (by kernel_rfl)]
  exact laidMet_laidAll _ (by kernel_rfl) (by kernel_rfl)

set_option maxRecDepth 100000 in
theorem numbersLifted (os : Os) (started : os.Started) (H : Type) (enc : TypeId × Value → H) :
    ReturnsInHanded {} Tryd.checked os 4 .any (fun w args => (Rows.dictNumbersSpec.pre enc Tryd.prog Tryd.f4 Rows.dictNumbersRow.domain false w args ∧ laidMetH Tryd.prog Rows.dictNumbersRow.laid w) ∧ sizedMet enc Tryd.prog Tryd.f4 (OpenSpec.ofChange Rows.dictNumbersSpec) false w args)
      (Rows.dictNumbersSpec.post enc Tryd.prog Tryd.f4 false true false false) := by
  refine andShapedSized (C := Tryd.checked) (X := fun w _ => laidMetH Tryd.prog lists w) (fun _ _ _ hh h => h.of_heap hh) own started (by kernel_rfl) Tryd.func4
    (ChangeSpec.witness_shaped (enc := enc) (C := Tryd.checked) (os := os) (X := fun w _ => laidMetH Tryd.prog lists w) false (World.laidAll Tryd.prog os lists) start 8 (World.laidAll_os _ _ _)
      (startShaped os) (by kernel_rfl) (by kernel_rfl) (by kernel_rfl) (startLaid os)) ?_
  intro W base args ds gs before hval0 hW hz0 hsh hL
  have hval : ∀ (j : Nat) t v, Tryd.f4.params[j]? = some t → args[j]? = some v → Value.okWide Tryd.prog W .any base t v := hval0
  have hW' := hW
  obtain ⟨p, q, hA0, hV, rfl, hfz, hnd⟩ := hW
  have hA : DataW.TrodAll enc Tryd.prog W 0 (fun _ => true) true Tryd.f4.params.toList args.toList ds p := hA0
  have hz : (DataW.weightsEach Tryd.prog (Tryd.f4.params.toList ++ Rows.dictNumbersSpec.plain.varTypes Tryd.prog) (ds ++ gs)).all (· ≤ reachBytes) = true := hz0
  rw [Tryd.params4] at hA hval hz
  obtain ⟨v0, d0, rfl, rfl, h0⟩ := ChangeShapes.trodAll_one hA
  obtain ⟨rfl, rfl⟩ := ChangeShapes.trodVars_none hV
  obtain ⟨L, v2, y0, y1, n, rfl, rfl, rfl, t0, t1⟩ := Joins.open_agg2 Tryd.underlying25 (by kernel_rfl) (by kernel_rfl) (hval 0 25 v0 rfl rfl) h0
  refine (numbersAny L v2 W (intsW_of_trod t1)).mono fun e W' ⟨he, hb⟩ => ?_
  subst he
  have hlt : ∀ x ∈ y0.2 ++ y1.2, x.block < W.heap.size := fun x hx => by simpa using hW'.lt x (by simpa using hx)
  refine ⟨_, rfl, _, _, _, [], _, [], hW', ?_, ChangeShapes.trodAll_mk1 (Below.trod laidOut (by kernel_rfl) (of_decide_eq_true (by kernel_rfl)) h0 hb hlt), rfl, hb.frame _, fun h => by cases h⟩
  exact ChangeShapes.trodAll_mk1 (shut_bool Tryd.underlying4 true)

theorem numbersHolds : Rows.DictNumbersSaid :=
  OpenClaim.holds_of_wide 4 Tryd.f4 rfl rfl rfl rfl rfl rfl rfl ⟨rfl, rfl, rfl, rfl, rfl⟩ rfl rfl rfl rfl rfl (by kernel_rfl) Tryd.func4 (by kernel_rfl)
    (of_decide_eq_true (by kernel_rfl)) (by unfold Func.isWrapper; first | (rw [if_pos (by decide +kernel)]; kernel_rfl) | (rw [if_neg (by decide +kernel)]; exact ⟨rfl, rfl⟩))
    (fun os started H enc _ => numbersLifted os started H enc)
theorem numbersCard : Rows.DictNumbersCardSaid :=
  Claim7.holds_tied_plain_at .later [] _ _ _ _ numbersHolds (fun _ h => by cases h) (by kernel_rfl) (fun _ h => by cases h) dictNumbers_row_tie rfl ⟨rfl, rfl⟩ (by kernel_rfl) rfl
    (fun f fn hf hfn => by
      obtain rfl : f = 4 := Option.some.inj ((show Tryd.prog.funcNamed "diptych/diptychlaw4.DictNumbers" = some 4 by kernel_rfl).symm.trans hf) |>.symm
      obtain rfl : fn = Tryd.f4 := (Option.some.inj (Tryd.func4.symm.trans hfn)).symm
      exact ⟨by kernel_rfl, fun j t ht => by
        rw [Tryd.params4] at ht
        have h3 : t = 25 := by
          rcases j with _ | j
          · simpa using ht.symm
          · simp at ht
        subst h3
        exact (show Tryd.prog.wantsStandIn 25 = false by kernel_rfl)⟩)
    (by kernel_rfl)
#print axioms numbersCard
end Go.Proofs.YtffbcccbhofbpaaDoor
