/- Called with any script (triples, patterns, an order, what is asked of a cursor), of bulk at most 1048576, the law TriplesFit returns true (of a pattern just those of all triples that have its values, and the same value where it has the same name; a pattern of names alone fits all) and leaves its argument as it was. Conditions: those of the given card alone, and the bulk. -/
import Derived.Test.YtanbgdhmfjgihaaGreatDoorLay
import Derived.Test.YtanbgdhmfjgihaaGreatDoorLbf
import Derived.Test.YtanbgdhmfjgihaaGreatDoorTie
import Derived.Test.YtanbgdhmfjgihaaGreatDoorCards
import Derived.SevenTiedAt
import Derived.ProofKit
import Derived.LaidMore
import Derived.OpenShut
import Derived.Lay
import Derived.Carry
import Derived.HandedShaped
import Derived.Shelf.Vars
import Derived.Stop.Joined
import Derived.Stop.LaidErr
import Derived.Lib.SmallJoins
import Derived.Deep.DeepHandedRow
namespace Go.Proofs.YtanbgdhmfjgihaaGreatDoor
open Go.ChangeShapes Go.WideShapes Go.ChangeAt Go.RowKit

theorem own : ownKnob Tryz.prog.godebug = none := by kernel_rfl
theorem laidOut : laidOutB Tryz.prog = true := by kernel_rfl
/-- The list of the law. -/
def lists : List (String × DataW Unit) := Rows.triplesFitUptoRow.laid
theorem gd_of_shape {W : World} (h : W.ShapedOpen Tryz.prog) : Gd W :=
  cell_of_shapedOpen_int (t := 3) (zero := #[.int .i64 0]) h (of_decide_eq_true (by kernel_rfl)) (by kernel_rfl) (by kernel_rfl) (by kernel_rfl) (by kernel_rfl) (by kernel_rfl)
theorem tab_of_laid {W : World} (h : laidMetH Tryz.prog lists W) : Tab W := by
  rw [MakeChecks.laidMetH_plain _ _ _ (by kernel_rfl)] at h
  have h1 := laidMet.tail h
  have h2 := laidMet.tail h1
  exact Lib.tabIs_of_head (g := 3) (t := 258) (e := 176) (n := 20) (by kernel_rfl) (by kernel_rfl) (by kernel_rfl) (by kernel_rfl) (by kernel_rfl) (by kernel_rfl) h2
set_option maxHeartbeats 3200000 in
set_option maxRecDepth 20000 in
theorem fitBig (p0 : Option Addr) (n cap : Nat) (P0 O0 D0 : Value) (w : World) (hG : Gd w) (hT : Tab w) (hn : 60 < n) :
    Calls Tryz.prog 7 #[.agg #[.slice p0 n cap, P0, O0, D0]] w fun e w' => e = .returned (.bool true) ∧ Below w.heap.size w w' := by
  obtain ⟨W1, hW1⟩ : ∃ W1, W1 = w.alloc (.cells #[.slice p0 n cap, P0, O0, D0] 26) := ⟨_, rfl⟩
  have b1 : Below w.heap.size w W1 := by rw [hW1]; exact below1 _ _
  have c0 : W1.cell? ⟨w.heap.size, 0, none⟩ = some (.slice p0 n cap) := by rw [hW1]; exact cell_of (heap_new _ _ rfl) 0 rfl
  have hni : (60 : Int) < n := by omega
  have HK := Lib.hid (wakesC W1 (hG.below b1) (hT.below b1))
  have HW := Lib.hid hW1
  clear hW1
  go_enter Tryz.func7, Tryz.ntmps7
  go_upto_region 1 with fail
  rw [← HW.out]
  go_wp2_with (go_at_call 8; (with_reducible refine HK.out.mono ?_); rintro e w9 ⟨rfl, hb9⟩)
  go_ret
  exact ⟨rfl, b1.trans (hb9.mono b1.size)⟩
set_option maxHeartbeats 3200000 in
set_option maxRecDepth 20000 in
theorem fitBad (l : List Tri3) (p0 : Option Addr) (cap : Nat) (P0 O0 D0 : Value) (w : World) (hG : Gd w) (hT : Tab w) (hl : Tris w (.slice p0 l.length cap) l) (hn : l.length ≤ 60) (hbad : ¬ ∀ t ∈ l, t3Chk t = true) :
    Calls Tryz.prog 7 #[.agg #[.slice p0 l.length cap, P0, O0, D0]] w fun e w' => e = .returned (.bool true) ∧ Below w.heap.size w w' := by
  obtain ⟨W1, hW1⟩ : ∃ W1, W1 = w.alloc (.cells #[.slice p0 l.length cap, P0, O0, D0] 26) := ⟨_, rfl⟩
  have b1 : Below w.heap.size w W1 := by rw [hW1]; exact below1 _ _
  have c0 : W1.cell? ⟨w.heap.size, 0, none⟩ = some (.slice p0 l.length cap) := by rw [hW1]; exact cell_of (heap_new _ _ rfl) 0 rfl
  have hni : ¬ (60 : Int) < l.length := by omega
  have HLD := Lib.hid ((loadAt _ l W1 (hG.below b1) (hT.below b1) (hl.below b1) (by omega)).mono fun e w' h => h.2 hbad)
  have HK := Lib.hid (fun W (b : Below W1.heap.size W1 W) => wakesC W ((hG.below b1).below b) ((hT.below b1).below b))
  have HW := Lib.hid hW1
  clear hW1 hl hbad
  go_enter Tryz.func7, Tryz.ntmps7
  go_upto_region 1 with fail
  rw [← HW.out]
  go_wp2_with (first
    | (go_at_call 10; (with_reducible refine HLD.out.mono ?_); rintro e w2 ⟨rfl, hb2⟩)
    | (go_at_call 8; (with_reducible refine (HK.out _ hb2).mono ?_); rintro e w9 ⟨rfl, hb9⟩))
  go_ret
  exact ⟨rfl, b1.trans ((hb2.trans (hb9.mono hb2.size)).mono b1.size)⟩
theorem fitAny (l : List Tri3) (L P0 O0 D : Value) (w : World) (hG : Gd w) (hT : Tab w) (hl : Tris w L l) :
    Calls Tryz.prog 7 #[.agg #[L, P0, O0, D]] w fun e w' => e = .returned (.bool true) ∧ Below w.heap.size w w' := by
  obtain ⟨p0, cap, rfl⟩ := tris_len hl
  by_cases hn : 60 < l.length
  · exact fitBig p0 l.length cap P0 O0 D w hG hT hn
  · by_cases hg : ∀ t ∈ l, t3Chk t = true
    · exact fitGood l p0 cap P0 O0 D w hG hT hl (by omega) hg
    · exact fitBad l p0 cap P0 O0 D w hG hT hl (by omega) hg
/-- One start that fits: nothing. -/
def start : Array Value := #[.agg #[.slice none 0 0, .slice none 0 0, .string ⟨#[]⟩, .slice none 0 0]]
theorem startShaped (os : Os) : ((World.laidAll Tryz.prog os lists).forCall (fun _ _ => 0) ⟨#[], start, []⟩).Shaped Tryz.prog :=
  World.shaped_of_ZipB (by kernel_rfl) (by kernel_rfl)
theorem startLaid (os : Os) : laidMetH Tryz.prog lists ((World.laidAll Tryz.prog os lists).forCall (fun _ _ => 0) ⟨#[], start, []⟩).memory := by
  rw [MakeChecks.laidMetH_plain _ _ _ (by kernel_rfl)]
  exact laidMet_laidAll _ (by kernel_rfl) (by kernel_rfl)
theorem startReads (os : Os) {H : Type} (enc : TypeId × Value → H) : ∃ places, DataW.whole enc Tryz.prog ((World.laidAll Tryz.prog os lists).forCall (fun _ _ => 0) ⟨#[], start, []⟩).memory Tryz.f7.params.toList Rows.triplesFitSpec.vars false start.toList 8 = some ([.agg [.nil, .nil, .lit (.string []), .nil]], [], places) :=
  ⟨[], by kernel_rfl⟩

set_option maxRecDepth 100000 in
theorem fitLifted (os : Os) (started : os.Started) (H : Type) (enc : TypeId × Value → H) (F : Stop.Interp) :
    ReturnsInHanded {} Tryz.checked os 7 .any ((Rows.OpenSpec.upto Rows.triplesFitSpec).preRow enc Tryz.prog Tryz.f7 Rows.triplesFitUptoRow.domain false Rows.triplesFitUptoRow.laid) (((Rows.OpenSpec.upto Rows.triplesFitSpec).at F).post enc Tryz.prog Tryz.f7 false true false false) := by
  obtain ⟨places, hx⟩ := startReads os enc
  refine returnsInHanded_of_row (C := Tryz.checked) (s := Rows.OpenSpec.upto Rows.triplesFitSpec) own started (by kernel_rfl) Tryz.func7
    ⟨World.laidAll Tryz.prog os lists, fun _ _ => 0, ⟨#[], start, []⟩, World.laidAll_os _ _ _, startShaped os, rfl, (Input.okWide_of_okWideB (base := 0) (by kernel_rfl)).2,
      OpenSpec.preRow_of_cond 8 hx (by kernel_rfl) (fun k hk => by cases hk; kernel_rfl) (by kernel_rfl) (startLaid os), by
        simp only [Assume.holds]
        exact ⟨by simp, by simp, fun h => (by cases h), by simp, by simp⟩⟩ ?_
  intro W base args ds gs before hval0 hW _ hcond _ hL hsh _
  have hval : ∀ (j : Nat) t v, Tryz.f7.params[j]? = some t → args[j]? = some v → Value.okWide Tryz.prog W .any base t v := hval0
  have hW' := hW
  obtain ⟨p, q, hA0, hV, rfl, hfz, hnd⟩ := hW
  have hA : DataW.TrodAll enc Tryz.prog W 0 (fun _ => true) true Tryz.f7.params.toList args.toList ds p := hA0
  rw [Tryz.params7] at hA hval
  obtain ⟨v0, d0, rfl, rfl, h0⟩ := ChangeShapes.trodAll_one hA
  obtain ⟨rfl, rfl⟩ := ChangeShapes.trodVars_none hV
  obtain ⟨L, P0, O0, D, y0, y1, y2, y3, n, rfl, rfl, rfl, t0, t1, t2, t3⟩ := Joins.open_agg4 Tryz.underlying26 (by kernel_rfl) (by kernel_rfl) (hval 0 26 v0 rfl rfl) h0
  have hk := hcond _ rfl
  have hbulk : Rows.uptoBulk y0.1 ≤ 1048576 := by
    have h1 : Rows.uptoBulkAll [DataW.agg [y0.1, y1.1, y2.1, y3.1]] ≤ 1048576 := of_decide_eq_true hk
    have e : Rows.uptoBulkAll [DataW.agg [y0.1, y1.1, y2.1, y3.1]] = (Rows.uptoBulk y0.1 + (Rows.uptoBulk y1.1 + (Rows.uptoBulk y2.1 + (Rows.uptoBulk y3.1 + 0))) + 1) + 0 := rfl
    rw [e] at h1
    omega
  obtain ⟨l, hl, _⟩ := tris_of_trod 1048576 (by decide) t0 hbulk
  refine (fitAny l L P0 O0 D W (gd_of_shape hsh) (tab_of_laid hL) hl).mono fun e W' ⟨he, hb⟩ => ?_
  subst he
  have hlt : ∀ x ∈ y0.2 ++ (y1.2 ++ (y2.2 ++ y3.2)), x.block < W.heap.size := fun x hx => by simpa using hW'.lt x (by simpa using hx)
  refine ⟨_, rfl, _, _, _, [], _, [], hW', ?_, ChangeShapes.trodAll_mk1 (Below.trod laidOut (by kernel_rfl) (of_decide_eq_true (by kernel_rfl)) h0 hb hlt), rfl, hb.frame _, fun h => by cases h⟩
  exact ChangeShapes.trodAll_mk1 (shut_bool Tryz.underlying4 true)

theorem fitHolds : Rows.TriplesFitUptoSaid :=
  OpenClaim.holds_of_cond 7 Tryz.f7 rfl rfl rfl rfl rfl rfl rfl ⟨rfl, rfl, rfl, rfl, rfl⟩ rfl rfl rfl rfl rfl (by kernel_rfl) Tryz.func7 (by kernel_rfl)
    (of_decide_eq_true (by kernel_rfl)) (by unfold Func.isWrapper; first | (rw [if_pos (by decide +kernel)]; kernel_rfl) | (rw [if_neg (by decide +kernel)]; exact ⟨rfl, rfl⟩))
    (fun os started H enc _ F => by rw [OpenClaim.pre_eq_preRow]; exact fitLifted os started H enc F)
theorem fitPlain (f : FuncId) (fn : Func) (hf : Tryz.pinned.checked.prog.funcNamed "diptych/diptychlaw5.TriplesFit" = some f) (hfn : Tryz.pinned.checked.prog.funcs[f]? = some fn) :
    true = Tryz.pinned.checked.prog.looks [] ∧ ∀ (j : Nat) t, fn.params[j]? = some t → Tryz.pinned.checked.prog.wantsStandIn t = false := by
  obtain rfl : f = 7 := Option.some.inj ((show Tryz.prog.funcNamed "diptych/diptychlaw5.TriplesFit" = some 7 by kernel_rfl).symm.trans hf) |>.symm
  obtain rfl : fn = Tryz.f7 := (Option.some.inj (Tryz.func7.symm.trans hfn)).symm
  refine ⟨by kernel_rfl, fun j t ht => ?_⟩
  rw [Tryz.params7] at ht
  have h3 : t = 26 := by
    rcases j with _ | j
    · simpa using ht.symm
    · simp at ht
  subst h3
  exact (show Tryz.prog.wantsStandIn 26 = false by kernel_rfl)
theorem fitCard : Rows.TriplesFitUptoCardSaid :=
  Claim7.holds_tied_plain_at .later [] _ _ _ _ fitHolds (fun _ h => by cases h) (by kernel_rfl) (fun _ h => by cases h) triplesFitUpto_row_tie rfl ⟨rfl, rfl⟩ (by kernel_rfl) rfl fitPlain (by kernel_rfl)
#print axioms fitCard
end Go.Proofs.YtanbgdhmfjgihaaGreatDoor
