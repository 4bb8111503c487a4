/- What a loop that stops where it is settled has asked and joined. No Go stands here. -/
import Derived.Test.YtdnijfkiebpnpaaG3
import Derived.Test.YtdnijfkiebpnpaaH0
namespace Go.Proofs.Ytdnijfkiebpnpaa

/-- How many are asked, of the first k. -/
def cnt (acc : List Int → Int) (s : Int) (Z : Nat → Int) : Nat → Nat
  | 0 => 0
  | k + 1 => cnt acc s Z k + (if acc (truths Z k) = s then 0 else 1)
theorem prefix_truths {Z : Nat → Int} {m : Nat} {pre : List Int} (h : pre <+: truths Z m) : pre = truths Z pre.length ∧ pre.length ≤ m := by
  have hl := h.length_le
  rw [truths_length] at hl
  refine ⟨?_, hl⟩
  have h2 := truths_prefix Z hl
  have e1 := List.prefix_iff_eq_take.1 h
  have e2 := List.prefix_iff_eq_take.1 h2
  rw [truths_length] at e2
  rw [e2, ← e1]
variable {acc : List Int → Int} {s : Int} {Z : Nat → Int}
theorem settled_on (habs : ∀ pre x, acc pre = s → acc (pre ++ [x]) = s) {i j : Nat} (h : i ≤ j) (hi : acc (truths Z i) = s) : acc (truths Z j) = s := by
  induction j with
  | zero => obtain rfl : i = 0 := by omega
            exact hi
  | succ j ih =>
    by_cases e : i = j + 1
    · subst e; exact hi
    · rw [truths_succ]; exact habs _ _ (ih (by omega))
theorem cnt_succ (k : Nat) : cnt acc s Z (k + 1) = cnt acc s Z k + (if acc (truths Z k) = s then 0 else 1) := rfl
theorem cnt_all {k : Nat} (h : ∀ i, i < k → acc (truths Z i) ≠ s) : cnt acc s Z k = k := by
  induction k with
  | zero => rfl
  | succ k ih => rw [cnt_succ, ih (fun i hi => h i (by omega)), if_neg (h k (by omega))]
theorem cnt_stop (habs : ∀ pre x, acc pre = s → acc (pre ++ [x]) = s) {k m : Nat} (h : k ≤ m) (hk : acc (truths Z k) = s) : cnt acc s Z m = cnt acc s Z k := by
  induction m with
  | zero => obtain rfl : k = 0 := by omega
            rfl
  | succ m ih =>
    by_cases e : k = m + 1
    · subst e; rfl
    · rw [cnt_succ, ih (by omega), if_pos (settled_on habs (show k ≤ m by omega) hk)]; rfl
theorem ends_says (habs : ∀ pre x, acc pre = s → acc (pre ++ [x]) = s) {m : Nat} {pre : List Int} (h : Ends acc s (truths Z m) pre) : acc pre = acc (truths Z m) ∧ pre.length = cnt acc s Z m := by
  obtain ⟨hp, ⟨rfl, hne⟩ | ⟨p, x, e, hne, hs⟩⟩ := h
  · refine ⟨rfl, ?_⟩
    rw [truths_length, cnt_all]
    exact fun i hi hc => hne (settled_on habs (Nat.le_of_lt hi) hc)
  · obtain ⟨e1, hl⟩ := prefix_truths hp
    have hp2 : p <+: truths Z m := (List.prefix_append p [x]).trans (e ▸ hp)
    obtain ⟨e2, _⟩ := prefix_truths hp2
    have hlen : pre.length = p.length + 1 := by rw [e]; simp
    rw [e1] at hs
    refine ⟨by rw [e1, hs, settled_on habs hl hs], ?_⟩
    rw [cnt_stop habs hl hs, cnt_all]
    exact fun i hi hc => hne (by rw [e2]; exact settled_on habs (show i ≤ p.length by omega) hc)
theorem absA (pre : List Int) (x : Int) (h : accA 1 pre = 0) : accA 1 (pre ++ [x]) = 0 := by
  rw [accA_snoc, h]; rcases tr_cases x with g | g | g <;> rw [g] <;> rfl
theorem absO (pre : List Int) (x : Int) (h : accO 0 pre = 1) : accO 0 (pre ++ [x]) = 1 := by
  rw [accO_snoc, h]; rcases tr_cases x with g | g | g <;> rw [g] <;> rfl
end Go.Proofs.Ytdnijfkiebpnpaa
