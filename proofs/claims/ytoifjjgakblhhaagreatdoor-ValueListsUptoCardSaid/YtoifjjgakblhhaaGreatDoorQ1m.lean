/- A whole number's text is a decimal, and says that number. No Go stands here. -/
import Derived.Test.YtoifjjgakblhhaaGreatDoorB7m
import Derived.Test.YtoifjjgakblhhaaGreatDoorB9m
import Derived.Lib.ItoaMem
namespace Go.Proofs.YtoifjjgakblhhaaGreatDoor
open Go.RowKit

theorem trimL_none {l : List UInt8} (h : ∀ c r, l = c :: r → c ≠ 48) : Lib.trimLeftB l 48 = l := by
  cases l with
  | nil => rfl
  | cons c r =>
    unfold Lib.trimLeftB
    rw [List.dropWhile_cons, if_neg (by simpa using h c r rfl)]
theorem dec_all (u : Nat) : (Lib.decDigits u).all isDig = true ∧ valD (Lib.decDigits u) = u ∧ Lib.decDigits u ≠ [] ∧ (1 ≤ u → (Lib.decDigits u).headD 0 ≠ 48) := by
  induction u using Nat.strongRecOn with
  | _ u ih =>
    have hb : ∀ k, k < 10 → (UInt8.ofNat (48 + k)).toNat = 48 + k := fun k hk => by rw [UInt8.toNat_ofNat']; omega
    have hd : ∀ k, k < 10 → isDig (UInt8.ofNat (48 + k)) = true := fun k hk => by rw [isDig_iff, hb k hk]; omega
    rw [Lib.decDigits]
    by_cases h : u < 10
    · rw [dif_pos h]
      refine ⟨by rw [List.all_cons, hd u h]; rfl, by (show ((UInt8.ofNat (48 + u)).toNat - 48) * 10 ^ 0 + 0 = u; rw [hb u h]; omega), by simp, fun h1 e => ?_⟩
      have := hb u h
      have e2 : UInt8.ofNat (48 + u) = 48 := e
      rw [e2] at this
      have h48 : (48 : UInt8).toNat = 48 := rfl
      omega
    · rw [dif_neg h]
      obtain ⟨a1, a2, a3, a4⟩ := ih (u / 10) (by omega)
      have hm : u % 10 < 10 := Nat.mod_lt _ (by decide)
      refine ⟨by rw [List.all_append, a1, List.all_cons, hd _ hm]; rfl, ?_, by simp, fun _ => ?_⟩
      · rw [valD_append, a2]
        simp [valD, hb _ hm]; omega
      · have := a4 (by omega)
        cases hl : Lib.decDigits (u / 10) with
        | nil => exact absurd hl a3
        | cons c r => rw [hl] at this; exact this
theorem dec_len (u : Nat) (h : u ≤ 9223372036854775808) : (Lib.decDigits u).length ≤ 19 := by
  obtain ⟨a1, a2, a3, a4⟩ := dec_all u
  by_cases h0 : u = 0
  · rw [h0, Lib.decDigits]; simp
  · have a5 := a4 (by omega)
    cases hl : Lib.decDigits u with
    | nil => exact absurd hl a3
    | cons c r =>
      rw [hl] at a1 a2 a5
      rw [List.all_cons, Bool.and_eq_true] at a1
      have hc := dig_le a1.1
      have hc0 : c.toNat ≠ 48 := fun e => a5 (UInt8.toNat_inj.1 e)
      rcases Nat.lt_or_ge r.length 19 with k | k
      · simp; omega
      · exfalso
        have h3 : 10 ^ 19 ≤ 10 ^ r.length := Nat.pow_le_pow_right (by decide) k
        have h4 : 1 * 10 ^ r.length ≤ (c.toNat - 48) * 10 ^ r.length := Nat.mul_le_mul_right _ (by omega)
        have h5 : (c.toNat - 48) * 10 ^ r.length + valD r = u := a2
        omega
theorem whole_text (neg : Bool) (u : Nat) (hu : neg = true → 1 ≤ u) (hl : (Lib.decDigits u).length ≤ 40) : chk ((if neg then [45] else []) ++ Lib.decDigits u ++ [46, 48]) = true := by
  obtain ⟨a1, a2, a3, a4⟩ := dec_all u
  have hw : wr neg (Lib.decDigits u) [48] = some ((if neg then [45] else []) ++ Lib.decDigits u ++ [46, 48]) := by
    unfold wr
    have t2 : Lib.trimRightB [48] 48 = [] := by decide
    by_cases h0 : u = 0
    · have e : Lib.decDigits u = [48] := by rw [h0, Lib.decDigits]; rfl
      have hn : neg = false := by
        cases neg with
        | false => rfl
        | true => exact absurd (hu rfl) (by omega)
      rw [e, hn]
      decide
    · have t1 : Lib.trimLeftB (Lib.decDigits u) 48 = Lib.decDigits u := trimL_none fun c r e => by
        have := a4 (by omega)
        rw [e] at this; exact this
      simp only [t1, t2, List.append_nil]
      rw [if_neg (by simp; omega)]
      have e2 : (Lib.decDigits u).isEmpty = false := by
        cases hx : Lib.decDigits u with
        | nil => exact absurd hx a3
        | cons c r => rfl
      have e3 : orN (Lib.decDigits u) = Lib.decDigits u := by unfold orN; rw [e2]; rfl
      rw [e2, e3]
      cases neg <;> simp [orN]
  unfold chk readP
  have hs := splitP_canon neg (Lib.decDigits u) [48] a1 a3 (by decide) (by decide)
  have e4 : (if neg then [45] else []) ++ Lib.decDigits u ++ [46, 48] = (if neg then [45] else []) ++ (Lib.decDigits u ++ 46 :: [48]) := by simp
  rw [e4] at hw ⊢
  rw [hs]
  simp only [Option.map_some]
  rw [hw]
  simp


theorem bs_size (l : List UInt8) : (bs l).size = l.length := by simp [ByteArray.size]
theorem bs_app (x y : List UInt8) : (bs x ++ bs y : ByteArray).data.toList = x ++ y := by
  rw [ByteArray.data_append, Array.toList_append]
theorem whole_val (neg : Bool) (u : Nat) : dval ((if neg then [45] else []) ++ Lib.decDigits u ++ [46, 48]) = (if neg then -(u : Int) else u) * 10 ^ 54 := by
  obtain ⟨a1, a2, a3, a4⟩ := dec_all u
  have hs := splitP_canon neg (Lib.decDigits u) [48] a1 a3 (by decide) (by decide)
  have hl : (if neg then [45] else []) ++ Lib.decDigits u ++ [46, 48] = (if neg then [45] else []) ++ (Lib.decDigits u ++ 46 :: [48]) := by simp
  rw [hl]
  unfold dval dsign damt
  rw [hs]
  show sv neg (num54 (Lib.decDigits u) [48]) = _
  have hn : num54 (Lib.decDigits u) [48] = u * 10 ^ 54 := by
    unfold num54
    rw [a2, show valD [48] = 0 from rfl, Nat.zero_mul, Nat.add_zero]
  rw [hn]
  unfold sv
  cases neg
  · simp
  · simp [Int.neg_mul]
/-- The text of a whole number. -/
def intT (n : Int) : ByteArray := bs (Lib.itoa n) ++ ⟨#[46, 48]⟩
theorem intT_facts (n : Int) (h0 : -9223372036854775808 ≤ n) (h1 : n ≤ 9223372036854775807) : chk (intT n).data.toList = true ∧ dval (intT n).data.toList = n * 10 ^ 54 ∧ (intT n).size ≤ 100 ∧ (bs (Lib.itoa n)).size ≤ 20 := by
  have key : ∀ (neg : Bool) (u : Nat), (if neg then -(u : Int) else u) = n → (neg = true → 1 ≤ u) → Lib.itoa n = (if neg then [45] else []) ++ Lib.decDigits u → u ≤ 9223372036854775808 →
      chk (intT n).data.toList = true ∧ dval (intT n).data.toList = n * 10 ^ 54 ∧ (intT n).size ≤ 100 ∧ (bs (Lib.itoa n)).size ≤ 20 := by
    intro neg u hn hu hit hub
    have hlen := dec_len u hub
    have hT : (intT n).data.toList = (if neg then [45] else []) ++ Lib.decDigits u ++ [46, 48] := by
      unfold intT
      rw [ByteArray.data_append, Array.toList_append, hit]
    have hsz : (bs (Lib.itoa n)).size ≤ 20 := by
      rw [bs_size, hit, List.length_append]
      cases neg <;> simp <;> omega
    refine ⟨by rw [hT]; exact whole_text neg u hu (by omega), by rw [hT, whole_val, hn], ?_, hsz⟩
    have h5 : (intT n).data.toList.length = (intT n).size := Array.length_toList
    rw [← h5, hT]
    simp only [List.length_append, List.length_cons, List.length_nil]
    split <;> simp <;> omega
  by_cases hneg : n < 0
  · obtain ⟨u, hu⟩ : ∃ u : Nat, n = -(u : Int) := ⟨n.natAbs, by omega⟩
    have hit : Lib.itoa n = 45 :: Lib.decDigits u := by rw [hu]; exact Lib.itoa_neg u (by omega)
    exact key true u hu.symm (fun _ => by omega) hit (by omega)
  · obtain ⟨u, rfl⟩ := Int.eq_ofNat_of_zero_le (Int.not_lt.1 hneg)
    exact key false u rfl (fun h => by cases h) (Lib.itoa_nonneg u) (by omega)
end Go.Proofs.YtoifjjgakblhhaaGreatDoor
