/- The document's own search of a text in a list of texts. -/
import Derived.Test.YtffbcccbhofbpaaDoorF0
namespace Go.Proofs.YtffbcccbhofbpaaDoor
open Go.RowKit

theorem loop_eq (t : ByteArray) : (n i : Nat) → (r : List UInt8) → n = t.size - i → ByteArray.toList.loop t i r = r.reverse ++ t.data.toList.drop i
  | 0, i, r, h => by
    unfold ByteArray.toList.loop
    rw [if_neg (by omega)]
    have : t.data.toList.length ≤ i := by rw [Array.length_toList]; show t.size ≤ i; omega
    rw [List.drop_eq_nil_of_le this, List.append_nil]
  | n + 1, i, r, h => by
    have hi : i < t.size := by omega
    unfold ByteArray.toList.loop
    rw [if_pos hi, loop_eq t n (i + 1) _ (by omega)]
    have hl : i < t.data.toList.length := by rw [Array.length_toList]; exact hi
    rw [List.drop_eq_getElem_cons hl, List.reverse_cons, List.append_assoc]
    have e : t.get! i = t.data.toList[i] := by
      obtain ⟨d⟩ := t
      have h2 : i < d.size := hi
      show d[i]! = d.toList[i]
      rw [getElem!_pos d i h2]
      simp
    rw [e]
    rfl
theorem toList_eq (t : ByteArray) : t.toList = t.data.toList := by
  unfold ByteArray.toList
  rw [loop_eq t _ 0 [] rfl]
  simp
theorem text_ne {s k : ByteArray} (h : k ≠ s) : (k.toList == s.toList) = false := by
  rw [toList_eq, toList_eq, beq_eq_false_iff_ne]
  exact fun e => h (ByteArray.ext (Array.toList_inj.1 e))
theorem text_cell {w : World} {v : Value} {A : List ByteArray} (h : w.ownsRow 0 9 1 v A.length (A.map Value.string)) (j : Nat) (s : ByteArray) (hs : A[j]? = some s) : ∃ r cap, v = .slice (some ⟨r, 0, none⟩) A.length cap ∧ w.cell? ⟨r, j, none⟩ = some (.string s) := by
  obtain ⟨r, cap, e, _, hc⟩ := row_cell h j (List.getElem?_eq_some_iff.1 hs).1
  exact ⟨r, cap, e, by rw [hc, List.getElem?_map, hs]; rfl⟩
set_option maxRecDepth 20000 in
set_option maxHeartbeats 3200000 in
theorem indexYes (w : World) (v : Value) (A : List ByteArray) (s : ByteArray) (j : Nat) (h : w.ownsRow 0 9 1 v A.length (A.map Value.string)) (hnd : A.Nodup) (hj : A[j]? = some s) (hn : A.length ≤ 1048576) :
    Calls Tryd.prog 8 #[v, .string s] w fun e w' => e = .returned (.int .i64 j) ∧ w = w' := by
  obtain ⟨r, cap, rfl, hcj⟩ := text_cell h j s hj
  have hjl := (List.getElem?_eq_some_iff.1 hj).1
  have hget : ∀ k, k < j → ∃ sk, sk ≠ s ∧ w.cell? ⟨r, k, none⟩ = some (.string sk) := fun k hk => by
    obtain ⟨r', cap', e, hc⟩ := text_cell h k A[k] (List.getElem?_eq_getElem (by omega))
    cases e
    refine ⟨A[k], fun e => ?_, hc⟩
    obtain ⟨hl, he⟩ := List.getElem?_eq_some_iff.1 hj
    have h1 := (List.pairwise_iff_getElem.1 hnd) k j (by omega) hl hk
    exact h1 (e.trans he.symm)
  clear h hnd hj
  generalize A.length = N at *
  go_enter Tryd.func8, Tryd.ntmps8
  go_wp2_with fail
  go_loop [5] (fun i => ∃ k : Nat, k ≤ j ∧ i = .int .i64 k) (fun i => N - (intOf i).toNat)
  case atStart => exact ⟨0, Nat.zero_le _, rfl⟩
  case round =>
    obtain ⟨k, hk, rfl⟩ := hrel
    have hkN : k < N := by omega
    by_cases hlt : k < j
    · obtain ⟨sk, hne, hc⟩ := hget k hlt
      have hne2 := text_ne hne
      clear hget
      go_wp2_with fail
      go_round
      case rel => exact ⟨k + 1, by omega, by go_num⟩
      case measure => simp [intOf]; omega
    · obtain rfl : k = j := by omega
      clear hget
      go_wp2_with fail
      go_ret
      exact ⟨rfl, rfl⟩
set_option maxRecDepth 20000 in
set_option maxHeartbeats 3200000 in
theorem indexNo (w : World) (v : Value) (A : List ByteArray) (s : ByteArray) (h : w.ownsRow 0 9 1 v A.length (A.map Value.string)) (hj : s ∉ A) (hn : A.length ≤ 1048576) :
    Calls Tryd.prog 8 #[v, .string s] w fun e w' => e = .returned (.int .i64 (-1)) ∧ w = w' := by
  obtain ⟨p, cap, rfl⟩ := row_slice h
  have hget : ∀ k, k < A.length → ∃ sk r, sk ≠ s ∧ p = some ⟨r, 0, none⟩ ∧ w.cell? ⟨r, k, none⟩ = some (.string sk) := fun k hk => by
    obtain ⟨r', cap', e, hc⟩ := text_cell h k A[k] (List.getElem?_eq_getElem (by omega))
    cases e
    exact ⟨A[k], r', fun e => hj (e ▸ List.getElem_mem hk), rfl, hc⟩
  clear h hj
  generalize A.length = N at *
  rcases p with _ | a
  all_goals
    go_enter Tryd.func8, Tryd.ntmps8
    go_wp2_with fail
    go_loop [5] (fun i => ∃ k : Nat, k ≤ N ∧ i = .int .i64 k) (fun i => N - (intOf i).toNat)
    case atStart => exact ⟨0, Nat.zero_le _, rfl⟩
    case round =>
      obtain ⟨k, hk, rfl⟩ := hrel
      by_cases hlt : k < N
      · obtain ⟨sk, r, hne, e, hc⟩ := hget k hlt
        first
          | (exfalso; cases e; done)
          | (obtain rfl : a = ⟨r, 0, none⟩ := Option.some.inj e
             have hne2 := text_ne hne
             clear hget e
             go_wp2_with fail
             go_round
             case rel => exact ⟨k + 1, by omega, by go_num⟩
             case measure => simp [intOf]; omega)
      · clear hget
        go_wp2_with fail
        go_ret
        exact ⟨rfl, rfl⟩
end Go.Proofs.YtffbcccbhofbpaaDoor
