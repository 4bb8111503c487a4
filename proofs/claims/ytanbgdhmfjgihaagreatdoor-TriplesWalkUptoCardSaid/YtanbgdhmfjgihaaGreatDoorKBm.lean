/- Called with any triples, of bulk at most 1048576, the law TriplesWalk returns true (walked by Open and Next, in each of the six orders, a cursor tells all triples, each once, values rising) and leaves its argument as it was. Conditions: those of the given card alone, and the bulk. -/
import Derived.Test.YtanbgdhmfjgihaaGreatDoorJbd
import Derived.Test.YtanbgdhmfjgihaaGreatDoorJbh
import Derived.Test.YtanbgdhmfjgihaaGreatDoorTie
import Derived.Test.YtanbgdhmfjgihaaGreatDoorCards
import Derived.SevenTiedAt
import Derived.ProofKit
import Derived.LaidMore
import Derived.OpenShut
import Derived.Lay
import Derived.Carry
import Derived.HandedShaped
import Derived.Shelf.Vars
import Derived.Stop.Joined
import Derived.Stop.LaidErr
import Derived.Lib.SmallJoins
import Derived.Deep.DeepHandedRow
namespace Go.Proofs.YtanbgdhmfjgihaaGreatDoor
open Go.ChangeShapes Go.WideShapes Go.ChangeAt Go.RowKit

theorem own : ownKnob Tryz.prog.godebug = none := by kernel_rfl
theorem laidOut : laidOutB Tryz.prog = true := by kernel_rfl
/-- The list of the law. -/
def lists : List (String × DataW Unit) := Rows.triplesWalkUptoRow.laid
theorem gd_of_shape {W : World} (h : W.ShapedOpen Tryz.prog) : Gd W :=
  cell_of_shapedOpen_int (t := 3) (zero := #[.int .i64 0]) h (of_decide_eq_true (by kernel_rfl)) (by kernel_rfl) (by kernel_rfl) (by kernel_rfl) (by kernel_rfl) (by kernel_rfl)
theorem tab_of_laid {W : World} (h : laidMetH Tryz.prog lists W) : Tab W := by
  rw [MakeChecks.laidMetH_plain _ _ _ (by kernel_rfl)] at h
  have h1 := laidMet.tail h
  have h2 := laidMet.tail h1
  exact Lib.tabIs_of_head (g := 3) (t := 258) (e := 176) (n := 20) (by kernel_rfl) (by kernel_rfl) (by kernel_rfl) (by kernel_rfl) (by kernel_rfl) (by kernel_rfl) h2
set_option maxHeartbeats 3200000 in
set_option maxRecDepth 20000 in
theorem walkBig (p0 : Option Addr) (n cap : Nat) (w : World) (hG : Gd w) (hT : Tab w) (hn : 60 < n) :
    Calls Tryz.prog 5 #[.slice p0 n cap] w fun e w' => e = .returned (.bool true) ∧ Below w.heap.size w w' := by
  have hni : (60 : Int) < n := by omega
  have HK := Lib.hid (wakesC w hG hT)
  clear hG hT
  go_enter Tryz.func5, Tryz.ntmps5
  go_wp2_with (go_at_call 8; (with_reducible refine HK.out.mono ?_); rintro e w9 ⟨rfl, hb9⟩)
  go_ret
  exact ⟨rfl, hb9⟩
set_option maxHeartbeats 3200000 in
set_option maxRecDepth 20000 in
theorem walkBad (l : List Tri3) (p0 : Option Addr) (cap : Nat) (w : World) (hG : Gd w) (hT : Tab w) (hl : Tris w (.slice p0 l.length cap) l) (hn : l.length ≤ 60) (hbad : ¬ ∀ t ∈ l, t3Chk t = true) :
    Calls Tryz.prog 5 #[.slice p0 l.length cap] w fun e w' => e = .returned (.bool true) ∧ Below w.heap.size w w' := by
  have hni : ¬ (60 : Int) < l.length := by omega
  have HLD := Lib.hid ((loadAt _ l w hG hT hl (by omega)).mono fun e w' h => h.2 hbad)
  have HK := Lib.hid (fun W (b : Below w.heap.size w W) => wakesC W (hG.below b) (hT.below b))
  clear hl hbad hG hT
  go_enter Tryz.func5, Tryz.ntmps5
  go_wp2_with (first
    | (go_at_call 10; (with_reducible refine HLD.out.mono ?_); rintro e w2 ⟨rfl, hb2⟩)
    | (go_at_call 8; (with_reducible refine (HK.out _ hb2).mono ?_); rintro e w9 ⟨rfl, hb9⟩))
  go_ret
  exact ⟨rfl, hb2.trans (hb9.mono hb2.size)⟩
theorem walkAny (l : List Tri3) (L : Value) (w : World) (hG : Gd w) (hT : Tab w) (hl : Tris w L l) :
    Calls Tryz.prog 5 #[L] w fun e w' => e = .returned (.bool true) ∧ Below w.heap.size w w' := by
  obtain ⟨p0, cap, rfl⟩ := tris_len hl
  by_cases hn : 60 < l.length
  · exact walkBig p0 l.length cap w hG hT hn
  · by_cases hg : ∀ t ∈ l, t3Chk t = true
    · exact walkGood l p0 cap w hG hT hl (by omega) hg
    · exact walkBad l p0 cap w hG hT hl (by omega) hg
/-- One start that fits: nothing. -/
def start : Array Value := #[.slice none 0 0]
theorem startShaped (os : Os) : ((World.laidAll Tryz.prog os lists).forCall (fun _ _ => 0) ⟨#[], start, []⟩).Shaped Tryz.prog :=
  World.shaped_of_ZipB (by kernel_rfl) (by kernel_rfl)
theorem startLaid (os : Os) : laidMetH Tryz.prog lists ((World.laidAll Tryz.prog os lists).forCall (fun _ _ => 0) ⟨#[], start, []⟩).memory := by
  rw [MakeChecks.laidMetH_plain _ _ _ (by kernel_rfl)]
  exact laidMet_laidAll _ (by kernel_rfl) (by kernel_rfl)
theorem startReads (os : Os) {H : Type} (enc : TypeId × Value → H) : ∃ places, DataW.whole enc Tryz.prog ((World.laidAll Tryz.prog os lists).forCall (fun _ _ => 0) ⟨#[], start, []⟩).memory Tryz.f5.params.toList Rows.triplesWalkSpec.vars false start.toList 8 = some ([.nil], [], places) :=
  ⟨[], by kernel_rfl⟩

set_option maxRecDepth 100000 in
theorem walkLifted (os : Os) (started : os.Started) (H : Type) (enc : TypeId × Value → H) (F : Stop.Interp) :
    ReturnsInHanded {} Tryz.checked os 5 .any ((Rows.OpenSpec.upto Rows.triplesWalkSpec).preRow enc Tryz.prog Tryz.f5 Rows.triplesWalkUptoRow.domain false Rows.triplesWalkUptoRow.laid) (((Rows.OpenSpec.upto Rows.triplesWalkSpec).at F).post enc Tryz.prog Tryz.f5 false true false false) := by
  obtain ⟨places, hx⟩ := startReads os enc
  refine returnsInHanded_of_row (C := Tryz.checked) (s := Rows.OpenSpec.upto Rows.triplesWalkSpec) own started (by kernel_rfl) Tryz.func5
    ⟨World.laidAll Tryz.prog os lists, fun _ _ => 0, ⟨#[], start, []⟩, World.laidAll_os _ _ _, startShaped os, rfl, (Input.okWide_of_okWideB (base := 0) (by kernel_rfl)).2,
      OpenSpec.preRow_of_cond 8 hx (by kernel_rfl) (fun k hk => by cases hk; kernel_rfl) (by kernel_rfl) (startLaid os), by
        simp only [Assume.holds]
        exact ⟨by simp, by simp, fun h => (by cases h), by simp, by simp⟩⟩ ?_
  intro W base args ds gs before hval0 hW _ hcond _ hL hsh _
  have hval : ∀ (j : Nat) t v, Tryz.f5.params[j]? = some t → args[j]? = some v → Value.okWide Tryz.prog W .any base t v := hval0
  have hW' := hW
  obtain ⟨p, q, hA0, hV, rfl, hfz, hnd⟩ := hW
  have hA : DataW.TrodAll enc Tryz.prog W 0 (fun _ => true) true Tryz.f5.params.toList args.toList ds p := hA0
  rw [Tryz.params5] at hA hval
  obtain ⟨v0, d0, rfl, rfl, h0⟩ := ChangeShapes.trodAll_one hA
  obtain ⟨rfl, rfl⟩ := ChangeShapes.trodVars_none hV
  obtain ⟨a0, len, cap, rfl⟩ := Go.WideShapes.okWide_slice Tryz.underlying22 (hval 0 22 v0 rfl rfl)
  obtain ⟨fuel, hf⟩ := id h0
  have hk := hcond _ rfl
  have hbulk : Rows.uptoBulk d0 ≤ 1048576 := by
    have h1 : Rows.uptoBulkAll [d0] ≤ 1048576 := of_decide_eq_true hk
    have e : Rows.uptoBulkAll [d0] = Rows.uptoBulk d0 + 0 := rfl
    rw [e] at h1
    omega
  obtain ⟨l, hl, _⟩ := tris_of_trod 1048576 (by decide) hf hbulk
  refine (walkAny l _ W (gd_of_shape hsh) (tab_of_laid hL) hl).mono fun e W' ⟨he, hb⟩ => ?_
  subst he
  have hlt : ∀ x ∈ p, x.block < W.heap.size := fun x hx => by simpa using hW'.lt x (by simpa using hx)
  refine ⟨_, rfl, _, _, _, [], _, [], hW', ?_, ChangeShapes.trodAll_mk1 (Below.trod laidOut (by kernel_rfl) (of_decide_eq_true (by kernel_rfl)) h0 hb hlt), rfl, hb.frame _, fun h => by cases h⟩
  exact ChangeShapes.trodAll_mk1 (shut_bool Tryz.underlying4 true)

theorem walkHolds : Rows.TriplesWalkUptoSaid :=
  OpenClaim.holds_of_cond 5 Tryz.f5 rfl rfl rfl rfl rfl rfl rfl ⟨rfl, rfl, rfl, rfl, rfl⟩ rfl rfl rfl rfl rfl (by kernel_rfl) Tryz.func5 (by kernel_rfl)
    (of_decide_eq_true (by kernel_rfl)) (by unfold Func.isWrapper; first | (rw [if_pos (by decide +kernel)]; kernel_rfl) | (rw [if_neg (by decide +kernel)]; exact ⟨rfl, rfl⟩))
    (fun os started H enc _ F => by rw [OpenClaim.pre_eq_preRow]; exact walkLifted os started H enc F)
theorem walkPlain (f : FuncId) (fn : Func) (hf : Tryz.pinned.checked.prog.funcNamed "diptych/diptychlaw5.TriplesWalk" = some f) (hfn : Tryz.pinned.checked.prog.funcs[f]? = some fn) :
    true = Tryz.pinned.checked.prog.looks [] ∧ ∀ (j : Nat) t, fn.params[j]? = some t → Tryz.pinned.checked.prog.wantsStandIn t = false := by
  obtain rfl : f = 5 := Option.some.inj ((show Tryz.prog.funcNamed "diptych/diptychlaw5.TriplesWalk" = some 5 by kernel_rfl).symm.trans hf) |>.symm
  obtain rfl : fn = Tryz.f5 := (Option.some.inj (Tryz.func5.symm.trans hfn)).symm
  refine ⟨by kernel_rfl, fun j t ht => ?_⟩
  rw [Tryz.params5] at ht
  have h3 : t = 22 := by
    rcases j with _ | j
    · simpa using ht.symm
    · simp at ht
  subst h3
  exact (show Tryz.prog.wantsStandIn 22 = false by kernel_rfl)
theorem walkCard : Rows.TriplesWalkUptoCardSaid :=
  Claim7.holds_tied_plain_at .later [] _ _ _ _ walkHolds (fun _ h => by cases h) (by kernel_rfl) (fun _ h => by cases h) triplesWalkUpto_row_tie rfl ⟨rfl, rfl⟩ (by kernel_rfl) rfl walkPlain (by kernel_rfl)
#print axioms walkCard
end Go.Proofs.YtanbgdhmfjgihaaGreatDoor
