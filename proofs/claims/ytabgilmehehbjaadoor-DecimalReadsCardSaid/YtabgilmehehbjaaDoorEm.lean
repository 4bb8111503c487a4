/- What the row of a law of texts gives its walk, and the row shut behind it. -/
import Derived.Test.YtabgilmehehbjaaDoorC0m
import Derived.Test.YtabgilmehehbjaaDoorRows
import Derived.ProofKit
import Derived.LaidMore
import Derived.OpenShut
import Derived.Lay
import Derived.Carry
import Derived.HandedShaped
import Derived.Shelf.Vars
import Derived.Stop.Joined
import Derived.Stop.LaidErr
import Derived.Lib.SmallJoins
import Derived.SliceStrings
namespace Go
theorem andShaped {H : Type} {enc : TypeId × Value → H} {a : Assume} {C : Checked} {os : Os} {f : FuncId} {fn : Func} {s : ChangeSpec} {conds : List PathCond} {apart fresh handsOn again : Bool} {X : World → Array Value → Prop}
    (hX : ∀ (w w' : World) (args : Array Value), w.heap = w'.heap → X w args → X w' args)
    (own : ownKnob C.prog.godebug = none) (started : os.Started) (noInit : C.prog.inits.idxOf? f = none) (hfn : C.prog.funcs[f]? = some fn)
    (witness : ∃ (w : World) (tape : Tape) (i : Input), w.os = os ∧ (w.forCall tape i).Shaped C.prog ∧ i.vars = [] ∧ Input.okWide C.prog (w.forCall tape i) .any w.heap.size f i ∧
      ((s.pre enc C.prog fn conds apart (w.forCall tape i).memory i.args ∧ X (w.forCall tape i).memory i.args) ∧ sizedMet enc C.prog fn (OpenSpec.ofChange s) apart (w.forCall tape i).memory i.args) ∧ a.holds C.prog (lone (Frame.enter C.prog f i.args .normal) [] (w.forCall tape i)))
    (contract : ∀ (W : World) (base : Nat) (args : Array Value) (ds gs : List (DataW H)) (before : List MemPlace),
      (∀ (j : Nat) t v, fn.params[j]? = some t → args[j]? = some v → Value.okWide C.prog W .any base t v) →
      DataW.Whole enc C.prog fn.params.toList s.vars apart W args.toList ds gs before →
      W.ShapedOpen C.prog → X W args →
      Calls C.prog f args W fun e W' => ∃ v, e = .returned v ∧ s.post enc C.prog fn apart fresh handsOn again W args v W') :
    ReturnsInHanded a C os f .any (fun w args => (s.pre enc C.prog fn conds apart w args ∧ X w args) ∧ sizedMet enc C.prog fn (OpenSpec.ofChange s) apart w args) (s.post enc C.prog fn apart fresh handsOn again) := by
  refine returnsInHanded_of_calls own started noInit witness ?_
  intro w tape i _ hsh _ hok hpre _
  obtain ⟨_, _, _, fn', hfn', _, _, _, _, hval⟩ := hok
  have e : fn' = fn := Option.some.inj (hfn'.symm.trans hfn)
  subst e
  obtain ⟨⟨⟨ds, gs, before, hw, hc⟩, hx⟩, hz⟩ := hpre
  have hw' := DataW.Whole.of_heap (w' := w.forCall tape i) (by rfl) hw
  refine (contract (w.forCall tape i) w.heap.size i.args ds gs before hval hw' hsh (hX _ _ _ (by rfl) hx)).mono fun e W' ⟨v, he, hp⟩ => ?_
  subst he
  exact ChangeSpec.post_blind hp
end Go
namespace Go.Proofs.YtabgilmehehbjaaDoor
open Go.ChangeShapes Go.WideShapes Go.ChangeAt Go.RowKit

theorem own : ownKnob Tryd.prog.godebug = none := by kernel_rfl
theorem laidOut : laidOutB Tryd.prog = true := by kernel_rfl
/-- The list of a law of texts. -/
def lists : List (String × DataW Unit) := Rows.decimalLawsRow.laid

theorem gd_of_shape {W : World} (h : W.ShapedOpen Tryd.prog) : Gd W :=
  cell_of_shapedOpen_int (t := 3) (zero := #[.int .i64 0]) h (of_decide_eq_true (by kernel_rfl)) (by kernel_rfl) (by kernel_rfl) (by kernel_rfl) (by kernel_rfl) (by kernel_rfl)
theorem tab_of_laid {W : World} (h : laidMetH Tryd.prog lists W) : Tab W := by
  rw [MakeChecks.laidMetH_plain _ _ _ (by kernel_rfl)] at h
  have h1 := laidMet.tail h
  have h2 := laidMet.tail h1
  exact Lib.tabIs_of_head (g := 2) (t := 123) (e := 87) (n := 20) (by kernel_rfl) (by kernel_rfl) (by kernel_rfl) (by kernel_rfl) (by kernel_rfl) (by kernel_rfl) h2

/-- One start that fits: no texts, no numbers. -/
def start : Array Value := #[.agg #[.slice none 0 0, .slice none 0 0]]
theorem startShaped (os : Os) : ((World.laidAll Tryd.prog os lists).forCall (fun _ _ => 0) ⟨#[], start, []⟩).Shaped Tryd.prog :=
  World.shaped_of_ZipB (by kernel_rfl) (by kernel_rfl)
theorem startLaid (os : Os) : laidMetH Tryd.prog lists ((World.laidAll Tryd.prog os lists).forCall (fun _ _ => 0) ⟨#[], start, []⟩).memory := by
  rw [MakeChecks.laidMetH_plain _ _ _ (by kernel_rfl)]
  exact laidMet_laidAll _ (by kernel_rfl) (by kernel_rfl)

/-- The list of texts that came in: none or one, or each in its cell. -/
def Texts (W : World) (L : Value) : Prop :=
  (∃ p n cap, L = .slice p n cap ∧ n ≤ 1) ∨
  ∃ b off n cap S, L = .slice (some ⟨b, off, none⟩) n cap ∧ Strs W b off n S ∧ n ≤ maxLen ∧ ∀ i, i < n → (S i).size ≤ maxLen

theorem texts_of_trod {H : Type} {enc : TypeId × Value → H} {W : World} {n : Nat} {L : Value} {y : DataW H × List MemPlace} (h : DataW.trod enc Tryd.prog W 0 (fun _ => true) true n 22 [L] = some y) : Texts W L := by
  rcases open_strings Tryd.underlying22 Tryd.underlying9 (by kernel_rfl) h with ⟨e, _⟩ | ⟨a, len, cap, ss, e, _, hl, hm, hn, _, hc, hs⟩
  · obtain rfl : L = .slice none 0 0 := by simpa using e
    exact .inl ⟨_, _, _, rfl, by omega⟩
  · obtain rfl : L = .slice (some a) len cap := by simpa using e
    have hn' : ss.length = cap := by simpa using hn
    by_cases h1 : len ≤ 1
    · exact .inl ⟨_, _, _, rfl, h1⟩
    · have h0 := hc 0 (by omega)
      have hsp : a.spot = none := by
        cases k : a.spot with
        | none => rfl
        | some m =>
          rw [show a.add 0 = a from rfl] at h0
          unfold World.cell? at h0
          rw [k] at h0
          split at h0 <;> simp at h0
      obtain ⟨b, off, spot⟩ := a
      simp only at hsp
      subst hsp
      refine .inr ⟨b, off, len, cap, fun i => ss.getD i ByteArray.empty, rfl, ?_, by omega, ?_⟩
      · intro i hi
        have := hc i (by omega)
        rw [show (Addr.mk b off none).add i = ⟨b, off + i, none⟩ by unfold Addr.add; split <;> simp_all] at this
        exact this
      · intro i hi
        have hi' : i < ss.length := by omega
        have := hs ss[i] (List.getElem_mem hi')
        simpa [List.getD, hi'] using this
end Go.Proofs.YtabgilmehehbjaaDoor
