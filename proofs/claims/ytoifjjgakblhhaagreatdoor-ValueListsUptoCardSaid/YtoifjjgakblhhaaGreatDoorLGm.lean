/- Parts of a list of values: where they lie; what may be; what is the same as itself. -/
import Derived.Test.YtoifjjgakblhhaaGreatDoorLEm
import Derived.Test.YtoifjjgakblhhaaGreatDoorOEm
namespace Go.Proofs.YtoifjjgakblhhaaGreatDoor
open Go.RowKit

theorem Holds.take {w : World} {g : Nat} : (l : List Val) → (off i : Nat) → Holds w g off l → Holds w g off (l.take i)
  | [], _, _, _ => by rw [List.take_nil]; unfold Holds; trivial
  | v :: r, off, 0, _ => by unfold Holds; trivial
  | v :: r, off, i + 1, h => by
    show Holds w g off (v :: r.take i)
    unfold Holds at h ⊢
    exact ⟨h.1, Holds.take r _ i h.2⟩
theorem Holds.drop {w : World} {g : Nat} : (l : List Val) → (off i : Nat) → Holds w g off l → Holds w g (off + i * 6) (l.drop i)
  | [], _, _, _ => by rw [List.drop_nil]; unfold Holds; trivial
  | v :: r, off, 0, h => by rw [Nat.zero_mul, Nat.add_zero]; exact h
  | v :: r, off, i + 1, h => by
    show Holds w g _ (r.drop i)
    unfold Holds at h
    have := Holds.drop r (off + 6) i h.2
    rwa [show off + (i + 1) * 6 = off + 6 + i * 6 by omega]
theorem heldOf {w : World} {g off cap : Nat} {l : List Val} (h : Holds w g off l) : Held w (.slice (some ⟨g, off, none⟩) l.length cap) l := by
  cases l with
  | nil => unfold Held; exact ⟨_, cap, rfl⟩
  | cons v r =>
    unfold Holds at h
    unfold Held
    exact ⟨g, off, cap, rfl, h.1, h.2⟩
mutual
theorem sameP_self : (v : Val) → sameP v v = true
  | .mk k b n t x l => by
    unfold sameP
    rw [eachSame_self l]
    simp
theorem eachSame_self : (l : List Val) → eachSame l l = true
  | [] => by unfold eachSame; rfl
  | v :: r => by
    unfold eachSame
    rw [sameP_self v, eachSame_self r]
    rfl
end
theorem eachP_append (d : Nat) : (l m : List Val) → eachP (l ++ m) d = (eachP l d && eachP m d)
  | [], m => by
    show eachP m d = _
    rw [show eachP [] d = true by unfold eachP; rfl, Bool.true_and]
  | v :: r, m => by
    show eachP (v :: (r ++ m)) d = _
    rw [show eachP (v :: (r ++ m)) d = (mayP v d && eachP (r ++ m) d) by conv => lhs; unfold eachP, show eachP (v :: r) d = (mayP v d && eachP r d) by conv => lhs; unfold eachP, eachP_append d r m, Bool.and_assoc]
theorem mayP5 (l : List Val) : mayP (.mk 5 false 0 ⟨#[]⟩ ⟨#[]⟩ l) 0 = (decide (l.length ≤ 4096) && eachP l 1) := by
  unfold mayP fitsP
  simp [bareP]
  exact fun _ _ => rfl
theorem mayP_none : mayP (.mk 5 false 0 ⟨#[]⟩ ⟨#[]⟩ []) 0 = true := by
  rw [mayP5]
  unfold eachP
  rfl
theorem mayP_join (l : List Val) (i : Nat) (hn : l.length ≤ 4096) (h1 : mayP (.mk 5 false 0 ⟨#[]⟩ ⟨#[]⟩ (l.take i)) 0 = true) (h2 : mayP (.mk 5 false 0 ⟨#[]⟩ ⟨#[]⟩ (l.drop i)) 0 = true) : mayP (.mk 5 false 0 ⟨#[]⟩ ⟨#[]⟩ l) 0 = true := by
  rw [mayP5, Bool.and_eq_true] at *
  refine ⟨decide_eq_true hn, ?_⟩
  have := eachP_append 1 (l.take i) (l.drop i)
  rw [List.take_append_drop, h1.2, h2.2] at this
  exact this
theorem same5 (l : List Val) : sameP (.mk 5 false 0 ⟨#[]⟩ ⟨#[]⟩ l) (.mk 5 false 0 ⟨#[]⟩ ⟨#[]⟩ l) = true := sameP_self _
end Go.Proofs.YtoifjjgakblhhaaGreatDoor
