/- What the row of a law of numbers gives its walk. -/
import Derived.Test.YtdnijfkiebpnpaaL6
import Derived.Test.YtdnijfkiebpnpaaRows
import Derived.ProofKit
import Derived.OpenShut
import Derived.Carry
import Derived.Lib.SmallJoins
namespace Go.Proofs.Ytdnijfkiebpnpaa
open Go.ChangeShapes Go.WideShapes Go.ChangeAt Go.RowKit

theorem own : ownKnob Try.prog.godebug = none := by kernel_rfl
theorem laidOut : laidOutB Try.prog = true := by kernel_rfl

/-- The list of numbers that came in: none, or each in its cell. -/
def Nums (W : World) (L : Value) : Prop :=
  (∃ p n cap, L = .slice p n cap ∧ n = 0 ∧ cap ≤ maxLen) ∨
  ∃ b off n cap, ∃ Z : Nat → Int, L = .slice (some ⟨b, off, none⟩) n cap ∧ (∀ i, i < n → W.cell? ⟨b, off + i, none⟩ = some (.int .i64 (Z i))) ∧ n ≤ maxLen ∧ n ≤ cap ∧ cap ≤ maxLen

theorem nums_of_trod {H : Type} {enc : TypeId × Value → H} {W : World} {n : Nat} {L : Value} {y : DataW H × List MemPlace} (h : DataW.trod enc Try.prog W 0 (fun _ => true) true n 22 [L] = some y) : Nums W L := by
  rcases open_ints Try.underlying22 Try.underlying3 (by kernel_rfl) h with ⟨e, _⟩ | ⟨a, len, cap, zs, e, _, hl, hm, hn, _, hc, hs⟩
  · obtain rfl : L = .slice none 0 0 := by simpa using e
    exact .inl ⟨_, _, _, rfl, rfl, by decide⟩
  · obtain rfl : L = .slice (some a) len cap := by simpa using e
    have hn' : zs.length = cap := by simpa using hn
    by_cases h1 : len = 0
    · exact .inl ⟨_, _, _, rfl, h1, hm⟩
    · have h0 := hc 0 (by omega)
      have hsp : a.spot = none := by
        cases k : a.spot with
        | none => rfl
        | some m =>
          rw [show a.add 0 = a from rfl] at h0
          unfold World.cell? at h0
          rw [k] at h0
          split at h0 <;> simp at h0
      obtain ⟨b, off, spot⟩ := a
      simp only at hsp
      subst hsp
      refine .inr ⟨b, off, len, cap, fun i => zs.getD i 0, rfl, ?_, by omega, hl, hm⟩
      intro i hi
      have := hc i (by omega)
      rw [show (Addr.mk b off none).add i = ⟨b, off + i, none⟩ by unfold Addr.add; split <;> simp_all] at this
      exact this
end Go.Proofs.Ytdnijfkiebpnpaa
