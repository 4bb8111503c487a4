/- Called with any list of cells and any two lists of numbers, the law DictTakes returns true and leaves its argument as it was. Conditions: those of the given card alone (the listed library tables hold what the program's text lays; the argument can be read as data). -/
import Derived.Test.YtffbcccbhofbpaaDoorH3
import Derived.Test.YtffbcccbhofbpaaDoorG1
import Derived.Test.YtffbcccbhofbpaaDoorTie
import Derived.Test.YtffbcccbhofbpaaDoorCards
import Derived.SevenTiedAt
namespace Go.Proofs.YtffbcccbhofbpaaDoor
open Go.ChangeShapes Go.WideShapes Go.ChangeAt Go.RowKit

/-- One start that fits: no cells, no numbers. -/
def start6 : Array Value := #[.agg #[.slice none 0 0, .slice none 0 0, .slice none 0 0]]
theorem startShaped6 (os : Os) : ((World.laidAll Tryd.prog os lists).forCall (fun _ _ => 0) ⟨#[], start6, []⟩).Shaped Tryd.prog :=
  World.shaped_of_ZipB (by kernel_rfl) (by kernel_rfl)
theorem startLaid6 (os : Os) : laidMetH Tryd.prog lists ((World.laidAll Tryd.prog os lists).forCall (fun _ _ => 0) ⟨#[], start6, []⟩).memory := by
  rw [MakeChecks.laidMetH_plain _ _ _ (by kernel_rfl)]
  exact laidMet_laidAll _ (by kernel_rfl) (by kernel_rfl)

set_option maxRecDepth 100000 in
theorem takesLifted (os : Os) (started : os.Started) (H : Type) (enc : TypeId × Value → H) :
    ReturnsInHanded {} Tryd.checked os 6 .any (fun w args => (Rows.dictTakesSpec.pre enc Tryd.prog Tryd.f6 Rows.dictTakesRow.domain false w args ∧ laidMetH Tryd.prog Rows.dictTakesRow.laid w) ∧ sizedMet enc Tryd.prog Tryd.f6 (OpenSpec.ofChange Rows.dictTakesSpec) false w args)
      (Rows.dictTakesSpec.post enc Tryd.prog Tryd.f6 false true false false) := by
  refine andShapedSized (C := Tryd.checked) (X := fun w _ => laidMetH Tryd.prog lists w) (fun _ _ _ hh h => h.of_heap hh) own started (by kernel_rfl) Tryd.func6
    (ChangeSpec.witness_shaped (enc := enc) (C := Tryd.checked) (os := os) (X := fun w _ => laidMetH Tryd.prog lists w) false (World.laidAll Tryd.prog os lists) start6 8 (World.laidAll_os _ _ _)
      (startShaped6 os) (by kernel_rfl) (by kernel_rfl) (by kernel_rfl) (startLaid6 os)) ?_
  intro W base args ds gs before hval0 hW hz0 hsh hL
  have hval : ∀ (j : Nat) t v, Tryd.f6.params[j]? = some t → args[j]? = some v → Value.okWide Tryd.prog W .any base t v := hval0
  have hW' := hW
  obtain ⟨p, q, hA0, hV, rfl, hfz, hnd⟩ := hW
  have hA : DataW.TrodAll enc Tryd.prog W 0 (fun _ => true) true Tryd.f6.params.toList args.toList ds p := hA0
  have hz : (DataW.weightsEach Tryd.prog (Tryd.f6.params.toList ++ Rows.dictTakesSpec.plain.varTypes Tryd.prog) (ds ++ gs)).all (· ≤ reachBytes) = true := hz0
  rw [Tryd.params6] at hA hval hz
  obtain ⟨v0, d0, rfl, rfl, h0⟩ := ChangeShapes.trodAll_one hA
  obtain ⟨rfl, rfl⟩ := ChangeShapes.trodVars_none hV
  obtain ⟨L, v2, v3, y0, y1, y2, n, rfl, rfl, rfl, t0, t1, t2⟩ := Joins.open_agg3 Tryd.underlying50 (by kernel_rfl) (by kernel_rfl) (hval 0 50 v0 rfl rfl) h0
  have hall : ∀ j (y : DataW H), [y0.1, y1.1, y2.1][j]? = some y → ([48, 23, 23][j]?) = some 23 → ∀ m ∈ y.weights Tryd.prog 23, m ≤ reachBytes := fun j y hj ht m hm => by
    have hall := List.all_eq_true.1 hz m (DataW.weights_mem_each (j := 0) (t := 50) rfl rfl m (by
      simp only [DataW.weights, Tryd.underlying50]
      exact DataW.weights_mem_each (j := j) (t := 23) ht hj m hm))
    simpa using hall
  obtain ⟨p1, n1, c1, C, rfl, hC, hn1⟩ := cells_of_trod t0
  obtain ⟨p2, n2, c2, A, rfl, hA2, hn2⟩ := intl_of_trod t1 (hall 1 _ rfl rfl)
  obtain ⟨p3, n3, c3, Z, rfl, hZ3, hn3⟩ := intl_of_trod t2 (hall 2 _ rfl rfl)
  refine (takesWalk W p1 n1 c1 C hC hn1 (.slice p2 n2 c2) (.slice p3 n3 c3)).mono fun e W' ⟨he, hb⟩ => ?_
  subst he
  have hlt : ∀ x ∈ y0.2 ++ (y1.2 ++ y2.2), x.block < W.heap.size := fun x hx => by simpa using hW'.lt x (by simpa using hx)
  refine ⟨_, rfl, _, _, _, [], _, [], hW', ?_, ChangeShapes.trodAll_mk1 (Below.trod laidOut (by kernel_rfl) (of_decide_eq_true (by kernel_rfl)) h0 hb hlt), rfl, hb.frame _, fun h => by cases h⟩
  exact ChangeShapes.trodAll_mk1 (shut_bool Tryd.underlying4 true)

theorem takesHolds : Rows.DictTakesSaid :=
  OpenClaim.holds_of_wide 6 Tryd.f6 rfl rfl rfl rfl rfl rfl rfl ⟨rfl, rfl, rfl, rfl, rfl⟩ rfl rfl rfl rfl rfl (by kernel_rfl) Tryd.func6 (by kernel_rfl)
    (of_decide_eq_true (by kernel_rfl)) (by unfold Func.isWrapper; first | (rw [if_pos (by decide +kernel)]; kernel_rfl) | (rw [if_neg (by decide +kernel)]; exact ⟨rfl, rfl⟩))
    (fun os started H enc _ => takesLifted os started H enc)
theorem takesCard : Rows.DictTakesCardSaid :=
  Claim7.holds_tied_plain_at .later [] _ _ _ _ takesHolds (fun _ h => by cases h) (by kernel_rfl) (fun _ h => by cases h) dictTakes_row_tie rfl ⟨rfl, rfl⟩ (by kernel_rfl) rfl
    (fun f fn hf hfn => by
      obtain rfl : f = 6 := Option.some.inj ((show Tryd.prog.funcNamed "diptych/diptychlaw4.DictTakes" = some 6 by kernel_rfl).symm.trans hf) |>.symm
      obtain rfl : fn = Tryd.f6 := (Option.some.inj (Tryd.func6.symm.trans hfn)).symm
      exact ⟨by kernel_rfl, fun j t ht => by
        rw [Tryd.params6] at ht
        have h3 : t = 50 := by
          rcases j with _ | j
          · simpa using ht.symm
          · simp at ht
        subst h3
        exact (show Tryd.prog.wantsStandIn 50 = false by kernel_rfl)⟩)
    (by kernel_rfl)
#print axioms takesCard
end Go.Proofs.YtffbcccbhofbpaaDoor
