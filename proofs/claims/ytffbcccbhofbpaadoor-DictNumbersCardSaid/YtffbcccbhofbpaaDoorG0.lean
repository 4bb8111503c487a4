/- What the row of a law gives its walk, sizes among it; lists of texts and of numbers, as read. -/
import Derived.Test.YtffbcccbhofbpaaDoorF2
import Derived.Test.YtffbcccbhofbpaaDoorRows
import Derived.ProofKit
import Derived.LaidMore
import Derived.OpenShut
import Derived.Lay
import Derived.Carry
import Derived.HandedShaped
import Derived.Shelf.Vars
import Derived.Stop.Joined
import Derived.Stop.LaidErr
import Derived.Lib.SmallJoins
import Derived.SliceStrings
import Derived.ChangeSlices
import Derived.SizedLaws
import Derived.Deep.DeepHandedRow
namespace Go
theorem andShapedSized {H : Type} {enc : TypeId × Value → H} {a : Assume} {C : Checked} {os : Os} {f : FuncId} {fn : Func} {s : ChangeSpec} {conds : List PathCond} {apart fresh handsOn again : Bool} {X : World → Array Value → Prop}
    (hX : ∀ (w w' : World) (args : Array Value), w.heap = w'.heap → X w args → X w' args)
    (own : ownKnob C.prog.godebug = none) (started : os.Started) (noInit : C.prog.inits.idxOf? f = none) (hfn : C.prog.funcs[f]? = some fn)
    (witness : ∃ (w : World) (tape : Tape) (i : Input), w.os = os ∧ (w.forCall tape i).Shaped C.prog ∧ i.vars = [] ∧ Input.okWide C.prog (w.forCall tape i) .any w.heap.size f i ∧
      ((s.pre enc C.prog fn conds apart (w.forCall tape i).memory i.args ∧ X (w.forCall tape i).memory i.args) ∧ sizedMet enc C.prog fn (OpenSpec.ofChange s) apart (w.forCall tape i).memory i.args) ∧ a.holds C.prog (lone (Frame.enter C.prog f i.args .normal) [] (w.forCall tape i)))
    (contract : ∀ (W : World) (base : Nat) (args : Array Value) (ds gs : List (DataW H)) (before : List MemPlace),
      (∀ (j : Nat) t v, fn.params[j]? = some t → args[j]? = some v → Value.okWide C.prog W .any base t v) →
      DataW.Whole enc C.prog fn.params.toList s.vars apart W args.toList ds gs before →
      (DataW.weightsEach C.prog (fn.params.toList ++ (OpenSpec.ofChange s).bare.plain.varTypes C.prog) (ds ++ gs)).all (· ≤ reachBytes) = true →
      W.ShapedOpen C.prog → X W args →
      Calls C.prog f args W fun e W' => ∃ v, e = .returned v ∧ s.post enc C.prog fn apart fresh handsOn again W args v W') :
    ReturnsInHanded a C os f .any (fun w args => (s.pre enc C.prog fn conds apart w args ∧ X w args) ∧ sizedMet enc C.prog fn (OpenSpec.ofChange s) apart w args) (s.post enc C.prog fn apart fresh handsOn again) := by
  refine returnsInHanded_of_calls own started noInit witness ?_
  intro w tape i _ hsh _ hok hpre _
  obtain ⟨_, _, _, fn', hfn', _, _, _, _, hval⟩ := hok
  have e : fn' = fn := Option.some.inj (hfn'.symm.trans hfn)
  subst e
  obtain ⟨⟨⟨ds, gs, before, hw, hc⟩, hx⟩, hz⟩ := hpre
  have hw' := DataW.Whole.of_heap (w' := w.forCall tape i) (by rfl) hw
  refine (contract (w.forCall tape i) w.heap.size i.args ds gs before hval hw' (hz.weights hw) hsh (hX _ _ _ (by rfl) hx)).mono fun e W' ⟨v, he, hp⟩ => ?_
  subst he
  exact ChangeSpec.post_blind hp
end Go
namespace Go.Proofs.YtffbcccbhofbpaaDoor
open Go.ChangeShapes Go.WideShapes Go.ChangeAt Go.RowKit

theorem own : ownKnob Tryd.prog.godebug = none := by kernel_rfl
theorem laidOut : laidOutB Tryd.prog = true := by kernel_rfl
/-- The list of each law. -/
def lists : List (String × DataW Unit) := Rows.dictKeysRow.laid

theorem weights_all {H : Type} {P : Program} {e : TypeId} : ∀ {ds : List (DataW H)} {d : DataW H}, d ∈ ds → ∀ n ∈ d.weights P e, n ∈ DataW.weightsAll P e ds
  | x :: r, d, hd, n, hn => by
    unfold DataW.weightsAll
    rcases List.mem_cons.1 hd with rfl | hd
    · exact List.mem_append.2 (.inl hn)
    · exact List.mem_append.2 (.inr (weights_all hd n hn))
/-- An address whose cell is known. -/
theorem spot_none {w : World} {a : Addr} {v : Value} (h : w.cell? a = some v) (h1 : v.oneCell' = true) : a.spot = none ∨ True := .inr trivial
/-- A list of texts that came in: none, or each in its cell; their sizes. -/
def Texts (W : World) (L : Value) : Prop :=
  (∃ p cap, L = .slice p 0 cap) ∨ ∃ b off n cap S, L = .slice (some ⟨b, off, none⟩) n cap ∧ Strs W b off n S ∧ n ≤ maxLen ∧ ∀ i, i < n → (S i).size ≤ maxLen ∧ (S i).size ≤ 281474976710656
/-- A list of numbers that came in. -/
def Ints (W : World) (L : Value) : Prop :=
  (∃ p cap, L = .slice p 0 cap) ∨ ∃ b off n cap Z, L = .slice (some ⟨b, off, none⟩) n cap ∧ Nums W b off n Z ∧ n ≤ maxLen
theorem plain_addr {w : World} {a : Addr} (h : ∃ v, w.cell? (a.add 0) = some v ∧ ((∃ s, v = .string s) ∨ ∃ k z, v = .int k z)) : a.spot = none := by
  obtain ⟨v, h0, hv⟩ := h
  cases k : a.spot with
  | none => rfl
  | some m =>
    rw [show a.add 0 = a from rfl] at h0
    unfold World.cell? at h0
    rw [k] at h0
    split at h0 <;> simp at h0
theorem add_plain (b off i : Nat) : (Addr.mk b off none).add i = ⟨b, off + i, none⟩ := by unfold Addr.add; split <;> simp_all
theorem texts_of_trod {H : Type} {enc : TypeId × Value → H} {W : World} {n : Nat} {L : Value} {y : DataW H × List MemPlace} (h : DataW.trod enc Tryd.prog W 0 (fun _ => true) true n 22 [L] = some y)
    (hz : ∀ m ∈ y.1.weights Tryd.prog 22, m ≤ reachBytes) : Texts W L := by
  rcases open_strings Tryd.underlying22 Tryd.underlying9 (by kernel_rfl) h with ⟨e, _⟩ | ⟨a, len, cap, ss, e, _, hl, hm, hn, hx, hc, hs⟩
  · obtain rfl : L = .slice none 0 0 := by simpa using e
    exact .inl ⟨_, _, rfl⟩
  · obtain rfl : L = .slice (some a) len cap := by simpa using e
    have hn' : ss.length = cap := by simpa using hn
    by_cases h1 : len = 0
    · subst h1; exact .inl ⟨_, _, rfl⟩
    · have hsp : a.spot = none := plain_addr ⟨_, hc 0 (by omega), .inl ⟨_, rfl⟩⟩
      obtain ⟨b, off, spot⟩ := a
      simp only at hsp
      subst hsp
      refine .inr ⟨b, off, len, cap, fun i => ss.getD i ByteArray.empty, rfl, ?_, by omega, ?_⟩
      · intro i hi
        have := hc i (by omega)
        rw [add_plain] at this
        exact this
      · intro i hi
        have hi' : i < ss.length := by omega
        have hsi : ss.getD i ByteArray.empty = ss[i] := by simp [List.getD, hi']
        show (ss.getD i ByteArray.empty).size ≤ maxLen ∧ (ss.getD i ByteArray.empty).size ≤ 281474976710656
        rw [hsi]
        refine ⟨hs _ (List.getElem_mem hi'), ?_⟩
        have hm2 : ss[i].data.toList.length ≤ reachBytes := by
          apply hz
          rw [hx]
          simp only [DataW.weights, Tryd.underlying22]
          refine List.mem_cons_of_mem _ (List.mem_append.2 (.inl ?_))
          refine weights_all (d := .lit (.string ss[i].data.toList)) ?_ _ (by simp [DataW.weights])
          have hi2 : i < (ss.take len).length := by simp; omega
          have e2 : (ss.take len)[i] = ss[i] := by simp
          exact List.mem_map.2 ⟨ss[i], by rw [← e2]; exact List.getElem_mem hi2, rfl⟩
        have e3 : ss[i].data.toList.length = ss[i].size := Array.length_toList
        rw [e3] at hm2
        exact Nat.le_trans hm2 (by decide)
theorem ints_of_trod {H : Type} {enc : TypeId × Value → H} {W : World} {n : Nat} {L : Value} {y : DataW H × List MemPlace} (h : DataW.trod enc Tryd.prog W 0 (fun _ => true) true n 23 [L] = some y) : Ints W L := by
  rcases open_ints Tryd.underlying23 Tryd.underlying3 (by kernel_rfl) h with ⟨e, _⟩ | ⟨a, len, cap, ss, e, _, hl, hm, hn, _, hc, _⟩
  · obtain rfl : L = .slice none 0 0 := by simpa using e
    exact .inl ⟨_, _, rfl⟩
  · obtain rfl : L = .slice (some a) len cap := by simpa using e
    have hn' : ss.length = cap := by simpa using hn
    by_cases h1 : len = 0
    · subst h1; exact .inl ⟨_, _, rfl⟩
    · have hsp : a.spot = none := plain_addr ⟨_, hc 0 (by omega), .inr ⟨_, _, rfl⟩⟩
      obtain ⟨b, off, spot⟩ := a
      simp only at hsp
      subst hsp
      refine .inr ⟨b, off, len, cap, fun i => ss.getD i 0, rfl, ?_, by omega⟩
      intro i hi
      have := hc i (by omega)
      rw [add_plain] at this
      exact this
end Go.Proofs.YtffbcccbhofbpaaDoor
