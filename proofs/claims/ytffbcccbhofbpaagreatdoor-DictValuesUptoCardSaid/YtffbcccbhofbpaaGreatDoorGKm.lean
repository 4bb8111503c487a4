/- Called with any list of values and any list of numbers, of bulk at most 1048576, the law DictValues returns true (values that are the same have one number, others others; the value of a number is the one that has it; whatever is written over what was handed in, or told) and leaves its argument as it was. Conditions: those of the given card alone, and the bulk. -/
import Derived.Test.YtffbcccbhofbpaaGreatDoorHag
import Derived.Test.YtffbcccbhofbpaaGreatDoorHax
import Derived.Test.YtffbcccbhofbpaaGreatDoorTie
import Derived.Test.YtffbcccbhofbpaaGreatDoorCards
import Derived.SevenTiedAt
import Derived.ProofKit
import Derived.LaidMore
import Derived.OpenShut
import Derived.Lay
import Derived.Carry
import Derived.HandedShaped
import Derived.Shelf.Vars
import Derived.Stop.Joined
import Derived.Stop.LaidErr
import Derived.Lib.SmallJoins
import Derived.Deep.DeepHandedRow
namespace Go.Proofs.YtffbcccbhofbpaaGreatDoor
open Go.ChangeShapes Go.WideShapes Go.ChangeAt Go.RowKit

theorem own : ownKnob Tryz.prog.godebug = none := by kernel_rfl
theorem laidOut : laidOutB Tryz.prog = true := by kernel_rfl
/-- The list of the law. -/
def lists : List (String × DataW Unit) := Rows.dictValuesUptoRow.laid
theorem gd_of_shape {W : World} (h : W.ShapedOpen Tryz.prog) : Gd W :=
  cell_of_shapedOpen_int (t := 3) (zero := #[.int .i64 0]) h (of_decide_eq_true (by kernel_rfl)) (by kernel_rfl) (by kernel_rfl) (by kernel_rfl) (by kernel_rfl) (by kernel_rfl)
/-- A list of numbers that came in. -/
def CameInts (W : World) (L : Value) : Prop :=
  (∃ p cap, L = .slice p 0 cap) ∨ ∃ b off n cap Z, L = .slice (some ⟨b, off, none⟩) n cap ∧ Nums W b off n Z ∧ n ≤ maxLen
theorem plain_addr {w : World} {a : Addr} (h : ∃ v, w.cell? (a.add 0) = some v ∧ ((∃ s, v = .string s) ∨ ∃ k z, v = .int k z)) : a.spot = none := by
  obtain ⟨v, h0, hv⟩ := h
  cases k : a.spot with
  | none => rfl
  | some m =>
    rw [show a.add 0 = a from rfl] at h0
    unfold World.cell? at h0
    rw [k] at h0
    split at h0 <;> simp at h0
theorem add_plain (b off i : Nat) : (Addr.mk b off none).add i = ⟨b, off + i, none⟩ := by unfold Addr.add; split <;> simp_all
theorem ints_of_trod {H : Type} {enc : TypeId × Value → H} {W : World} {n : Nat} {L : Value} {y : DataW H × List MemPlace} (h : DataW.trod enc Tryz.prog W 0 (fun _ => true) true n 23 [L] = some y) : CameInts W L := by
  rcases open_ints Tryz.underlying23 Tryz.underlying3 (by kernel_rfl) h with ⟨e, _⟩ | ⟨a, len, cap, ss, e, _, hl, hm, hn, _, hc, _⟩
  · obtain rfl : L = .slice none 0 0 := by simpa using e
    exact .inl ⟨_, _, rfl⟩
  · obtain rfl : L = .slice (some a) len cap := by simpa using e
    have hn' : ss.length = cap := by simpa using hn
    by_cases h1 : len = 0
    · subst h1; exact .inl ⟨_, _, rfl⟩
    · have hsp : a.spot = none := plain_addr ⟨_, hc 0 (by omega), .inr ⟨_, _, rfl⟩⟩
      obtain ⟨b, off, spot⟩ := a
      simp only at hsp
      subst hsp
      refine .inr ⟨b, off, len, cap, fun i => ss.getD i 0, rfl, ?_, by omega⟩
      intro i hi
      have := hc i (by omega)
      rw [add_plain] at this
      exact this
theorem numsAt_of {W : World} {L : Value} (h : CameInts W L) : ∃ pN nN capN Z, L = .slice pN nN capN ∧ NumsAt W pN nN Z ∧ nN ≤ maxLen := by
  rcases h with ⟨p, cap, rfl⟩ | ⟨b, off, n, cap, Z, rfl, h1, h2⟩
  · exact ⟨p, 0, cap, fun _ => 0, rfl, fun h => absurd h (by decide), Nat.zero_le _⟩
  · exact ⟨_, n, cap, Z, rfl, fun _ => ⟨b, off, rfl, h1⟩, h2⟩
/-- One start that fits: no values. -/
def start : Array Value := #[.agg #[.slice none 0 0, .slice none 0 0]]
theorem startShaped (os : Os) : ((World.laidAll Tryz.prog os lists).forCall (fun _ _ => 0) ⟨#[], start, []⟩).Shaped Tryz.prog :=
  World.shaped_of_ZipB (by kernel_rfl) (by kernel_rfl)
theorem startLaid (os : Os) : laidMetH Tryz.prog lists ((World.laidAll Tryz.prog os lists).forCall (fun _ _ => 0) ⟨#[], start, []⟩).memory := by
  rw [MakeChecks.laidMetH_plain _ _ _ (by kernel_rfl)]
  exact laidMet_laidAll _ (by kernel_rfl) (by kernel_rfl)
theorem startReads (os : Os) {H : Type} (enc : TypeId × Value → H) : ∃ places, DataW.whole enc Tryz.prog ((World.laidAll Tryz.prog os lists).forCall (fun _ _ => 0) ⟨#[], start, []⟩).memory Tryz.f3.params.toList Rows.dictValuesSpec.vars false start.toList 3 = some ([.agg [.nil, .nil]], [], places) :=
  ⟨[], by kernel_rfl⟩

set_option maxRecDepth 100000 in
theorem valuesLifted (os : Os) (started : os.Started) (H : Type) (enc : TypeId × Value → H) (F : Stop.Interp) :
    ReturnsInHanded {} Tryz.checked os 3 .any ((Rows.OpenSpec.upto Rows.dictValuesSpec).preRow enc Tryz.prog Tryz.f3 Rows.dictValuesUptoRow.domain false Rows.dictValuesUptoRow.laid) (((Rows.OpenSpec.upto Rows.dictValuesSpec).at F).post enc Tryz.prog Tryz.f3 false true false false) := by
  obtain ⟨places, hx⟩ := startReads os enc
  refine returnsInHanded_of_row (C := Tryz.checked) (s := Rows.OpenSpec.upto Rows.dictValuesSpec) own started (by kernel_rfl) Tryz.func3
    ⟨World.laidAll Tryz.prog os lists, fun _ _ => 0, ⟨#[], start, []⟩, World.laidAll_os _ _ _, startShaped os, rfl, (Input.okWide_of_okWideB (base := 0) (by kernel_rfl)).2,
      OpenSpec.preRow_of_cond 3 hx (by kernel_rfl) (fun k hk => by cases hk; kernel_rfl) (by kernel_rfl) (startLaid os), by
        simp only [Assume.holds]
        exact ⟨by simp, by simp, fun h => (by cases h), by simp, by simp⟩⟩ ?_
  intro W base args ds gs before hval0 hW _ hcond _ hL hsh _
  have hval : ∀ (j : Nat) t v, Tryz.f3.params[j]? = some t → args[j]? = some v → Value.okWide Tryz.prog W .any base t v := hval0
  have hW' := hW
  obtain ⟨p, q, hA0, hV, rfl, hfz, hnd⟩ := hW
  have hA : DataW.TrodAll enc Tryz.prog W 0 (fun _ => true) true Tryz.f3.params.toList args.toList ds p := hA0
  rw [Tryz.params3] at hA hval
  obtain ⟨v0, d0, rfl, rfl, h0⟩ := ChangeShapes.trodAll_one hA
  obtain ⟨rfl, rfl⟩ := ChangeShapes.trodVars_none hV
  obtain ⟨L, v2, y0, y1, n, rfl, rfl, rfl, t0, t1⟩ := Joins.open_agg2 Tryz.underlying25 (by kernel_rfl) (by kernel_rfl) (hval 0 25 v0 rfl rfl) h0
  obtain ⟨pN, nN, capN, Z, rfl, hNN, hnN⟩ := numsAt_of (ints_of_trod t1)
  have hk := hcond _ rfl
  have hbulk : Rows.uptoBulk y0.1 ≤ 1048576 := by
    have h1 : Rows.uptoBulkAll [DataW.agg [y0.1, y1.1]] ≤ 1048576 := of_decide_eq_true hk
    have e : Rows.uptoBulkAll [DataW.agg [y0.1, y1.1]] = (Rows.uptoBulk y0.1 + (Rows.uptoBulk y1.1 + 0) + 1) + 0 := rfl
    rw [e] at h1
    omega
  obtain ⟨l, hl, hn⟩ := vals_of_trodW 1048576 (by decide) n n (Nat.le_refl _) L y0 t0 hbulk
  have hlw := wAll_len l
  obtain ⟨pL, capL, rfl⟩ := held_slice hl
  refine (valuesLaw l pL capL pN nN capN Z W (gd_of_shape hsh) hl (by omega) (by omega) hNN hnN).mono fun e W' ⟨he, hb⟩ => ?_
  subst he
  have hlt : ∀ x ∈ y0.2 ++ y1.2, x.block < W.heap.size := fun x hx => by simpa using hW'.lt x (by simpa using hx)
  refine ⟨_, rfl, _, _, _, [], _, [], hW', ?_, ChangeShapes.trodAll_mk1 (Below.trod laidOut (by kernel_rfl) (of_decide_eq_true (by kernel_rfl)) h0 hb hlt), rfl, hb.frame _, fun h => by cases h⟩
  exact ChangeShapes.trodAll_mk1 (shut_bool Tryz.underlying4 true)

theorem valuesHolds : Rows.DictValuesUptoSaid :=
  OpenClaim.holds_of_cond 3 Tryz.f3 rfl rfl rfl rfl rfl rfl rfl ⟨rfl, rfl, rfl, rfl, rfl⟩ rfl rfl rfl rfl rfl (by kernel_rfl) Tryz.func3 (by kernel_rfl)
    (of_decide_eq_true (by kernel_rfl)) (by unfold Func.isWrapper; first | (rw [if_pos (by decide +kernel)]; kernel_rfl) | (rw [if_neg (by decide +kernel)]; exact ⟨rfl, rfl⟩))
    (fun os started H enc _ F => by rw [OpenClaim.pre_eq_preRow]; exact valuesLifted os started H enc F)
theorem valuesPlain (f : FuncId) (fn : Func) (hf : Tryz.pinned.checked.prog.funcNamed "diptych/diptychlaw4.DictValues" = some f) (hfn : Tryz.pinned.checked.prog.funcs[f]? = some fn) :
    true = Tryz.pinned.checked.prog.looks [] ∧ ∀ (j : Nat) t, fn.params[j]? = some t → Tryz.pinned.checked.prog.wantsStandIn t = false := by
  obtain rfl : f = 3 := Option.some.inj ((show Tryz.prog.funcNamed "diptych/diptychlaw4.DictValues" = some 3 by kernel_rfl).symm.trans hf) |>.symm
  obtain rfl : fn = Tryz.f3 := (Option.some.inj (Tryz.func3.symm.trans hfn)).symm
  refine ⟨by kernel_rfl, fun j t ht => ?_⟩
  rw [Tryz.params3] at ht
  have h3 : t = 25 := by
    rcases j with _ | j
    · simpa using ht.symm
    · simp at ht
  subst h3
  exact (show Tryz.prog.wantsStandIn 25 = false by kernel_rfl)
theorem valuesCard : Rows.DictValuesUptoCardSaid :=
  Claim7.holds_tied_plain_at .later [] _ _ _ _ valuesHolds (fun _ h => by cases h) (by kernel_rfl) (fun _ h => by cases h) dictValuesUpto_row_tie rfl ⟨rfl, rfl⟩ (by kernel_rfl) rfl valuesPlain (by kernel_rfl)
#print axioms valuesCard
end Go.Proofs.YtffbcccbhofbpaaGreatDoor
