/- Texts of one kind, one behind the other: each says ahead of itself what it shows. -/
import Derived.Test.YtoifjjgakblhhaaGreatDoorGr
/- Equality goes both ways; what is the same is equal. No Go stands here. -/
namespace Go.Proofs.YtoifjjgakblhhaaGreatDoor

mutual
theorem sameP_comm : (v v2 : Val) → sameP v v2 = sameP v2 v
  | .mk k b n t x l, .mk k2 b2 n2 t2 x2 l2 => by
    unfold sameP
    rw [eachSame_comm l l2, show (k == k2) = (k2 == k) from BEq.comm, show (b == b2) = (b2 == b) from BEq.comm, show (n == n2) = (n2 == n) from BEq.comm,
      show (t.toList == t2.toList) = (t2.toList == t.toList) from BEq.comm, show (x.toList == x2.toList) = (x2.toList == x.toList) from BEq.comm, show (l.length == l2.length) = (l2.length == l.length) from BEq.comm]
theorem eachSame_comm : (l l2 : List Val) → eachSame l l2 = eachSame l2 l
  | [], [] => rfl
  | [], _ :: _ => by unfold eachSame; rfl
  | _ :: _, [] => by unfold eachSame; rfl
  | v :: r, v2 :: r2 => by
    unfold eachSame
    rw [sameP_comm v v2, eachSame_comm r r2]
end
mutual
theorem sameP_refl : (v : Val) → sameP v v = true
  | .mk k b n t x l => by
    unfold sameP
    rw [eachSame_refl l]
    simp
theorem eachSame_refl : (l : List Val) → eachSame l l = true
  | [] => by unfold eachSame; rfl
  | v :: r => by
    unfold eachSame
    rw [sameP_refl v, eachSame_refl r]
    rfl
end
theorem cmpZ_comm0 (a b : Int) : (cmpZ a b == 0) = (cmpZ b a == 0) := by
  rw [cmpZ_swap b a, Bool.eq_iff_iff, beq_iff_eq, beq_iff_eq]
  omega
theorem andE_comm (a b : Int) : andE a b = andE b a := by
  unfold andE
  have e1 : (a = 0 ∨ b = 0) = (b = 0 ∨ a = 0) := propext Or.comm
  have e2 : (a = 2 ∨ b = 2) = (b = 2 ∨ a = 2) := propext Or.comm
  simp only [e1, e2]
mutual
theorem equalP_comm (lang : Int) : (v v2 : Val) → equalP lang v v2 = equalP lang v2 v
  | .mk k b n t x l, .mk k2 b2 n2 t2 x2 l2 => by
    unfold equalP
    have e1 : (k = 0 ∨ k2 = 0) = (k2 = 0 ∨ k = 0) := propext Or.comm
    have e2 : (numB k = true ∧ numB k2 = true) = (numB k2 = true ∧ numB k = true) := propext And.comm
    have e3 : (graphB k || (graphB k2 || (openP k k2 (sameP (.mk k b n t x l) (.mk k2 b2 n2 t2 x2 l2)) || openP k2 k (sameP (.mk k2 b2 n2 t2 x2 l2) (.mk k b n t x l))))) =
        (graphB k2 || (graphB k || (openP k2 k (sameP (.mk k2 b2 n2 t2 x2 l2) (.mk k b n t x l)) || openP k k2 (sameP (.mk k b n t x l) (.mk k2 b2 n2 t2 x2 l2))))) := by
      cases graphB k <;> cases graphB k2 <;> simp [Bool.or_comm]
    have e4 : (k = 5 ∧ k2 = 5) = (k2 = 5 ∧ k = 5) := propext And.comm
    have e5 : (if l.length = l2.length then eachEqual lang l l2 else 0) = (if l2.length = l.length then eachEqual lang l2 l else 0) := by
      by_cases h : l.length = l2.length
      · rw [if_pos h, if_pos h.symm, eachEqual_comm lang l l2]
      · rw [if_neg h, if_neg (fun e => h e.symm)]
    rw [e3, e5, cmpZ_comm0, sameP_comm (.mk k b n t x l) (.mk k2 b2 n2 t2 x2 l2)]
    simp only [e1, e2, e4]
theorem eachEqual_comm (lang : Int) : (l l2 : List Val) → eachEqual lang l l2 = eachEqual lang l2 l
  | [], [] => rfl
  | [], _ :: _ => by unfold eachEqual; rfl
  | _ :: _, [] => by unfold eachEqual; rfl
  | v :: r, v2 :: r2 => by
    unfold eachEqual
    rw [equalP_comm lang v v2, eachEqual_comm lang r r2]
end
theorem andE_ne {a b : Int} (h : a ≠ 0) (g : b ≠ 0) : andE a b ≠ 0 := by
  unfold andE
  rw [if_neg (by omega)]
  split <;> omega
theorem cmpZ_self (a : Int) : cmpZ a a = 0 := by unfold cmpZ; simp
mutual
theorem equalP_self (lang : Int) : (v : Val) → equalP lang v v ≠ 0
  | .mk k b n t x l => by
    unfold equalP
    split
    · omega
    · split
      · rw [cmpZ_self]; decide
      · split
        · omega
        · split
          · rw [if_pos rfl]; exact eachEqual_self lang l
          · rw [sameP_refl]; decide
theorem eachEqual_self (lang : Int) : (l : List Val) → eachEqual lang l l ≠ 0
  | [] => by unfold eachEqual; omega
  | v :: r => by
    unfold eachEqual
    exact andE_ne (equalP_self lang v) (eachEqual_self lang r)
end
theorem equalP_plain (lang : Int) (k : Int) (b : Bool) (n : Int) (t x : ByteArray) (l : List Val) (h1 : 1 ≤ k) (h4 : k ≤ 4) : equalP lang (.mk k b n t x l) (.mk k b n t x l) = 1 := by
  unfold equalP
  rw [if_neg (by omega)]
  split
  · rw [cmpZ_self]; rfl
  · have g : graphB k = false := by unfold graphB; simp; omega
    have o : openP k k (sameP (.mk k b n t x l) (.mk k b n t x l)) = false := by unfold openP; rw [show (k == 10) = false by simp; omega]; rfl
    rw [if_neg (by rw [g, o]; simp), if_neg (by omega), sameP_refl]
    rfl
end Go.Proofs.YtoifjjgakblhhaaGreatDoor

/- Less of two values, and how it goes with equality. No Go stands here. -/
namespace Go.Proofs.YtoifjjgakblhhaaGreatDoor

/-- The truth value of one value being below another. -/
def lessP : Val → Val → Int
  | .mk k b n t _ _, .mk k2 b2 n2 t2 _ _ =>
    if numB k = true ∧ numB k2 = true then tI (decide (cmpZ (numV k n t) (numV k2 n2 t2) < 0))
    else if k = 4 ∧ k2 = 4 then tI (Op.bytesLess t.toList t2.toList)
    else if k = 1 ∧ k2 = 1 then tI (!b && b2)
    else 2
theorem lessP_mk (k : Int) (b : Bool) (n : Int) (t x : ByteArray) (l : List Val) (k2 : Int) (b2 : Bool) (n2 : Int) (t2 x2 : ByteArray) (l2 : List Val) : lessP (.mk k b n t x l) (.mk k2 b2 n2 t2 x2 l2) =
    if numB k = true ∧ numB k2 = true then tI (decide (cmpZ (numV k n t) (numV k2 n2 t2) < 0)) else if k = 4 ∧ k2 = 4 then tI (Op.bytesLess t.toList t2.toList) else if k = 1 ∧ k2 = 1 then tI (!b && b2) else 2 := rfl
def lessTop (v v2 : Val) : Int := if mayP v 0 && mayP v2 0 then lessP v v2 else 2
/-- Equal, of any two values. -/
def eqTop (lang : Int) (v v2 : Val) : Int := if mayP v 0 && mayP v2 0 then equalP lang v v2 else 2
theorem eqTop_comm (lang : Int) (v v2 : Val) : eqTop lang v v2 = eqTop lang v2 v := by
  unfold eqTop
  rw [Bool.and_comm, equalP_comm]
theorem e3_eqTop (lang : Int) (v v2 : Val) : E3 (eqTop lang v v2) := by
  unfold eqTop
  split
  · exact e3_equal _ _ _
  · exact .inr (.inr rfl)
theorem eqTop_self (lang : Int) (v : Val) : eqTop lang v v ≠ 0 := by
  unfold eqTop
  split
  · exact equalP_self lang v
  · omega
theorem less_irrefl : (l : List UInt8) → Op.bytesLess l l = false
  | [] => rfl
  | a :: x => by
    unfold Op.bytesLess
    rw [less_irrefl x, Bool.and_false, Bool.or_false]
    simp
theorem less_asymm : (l m : List UInt8) → Op.bytesLess l m = true → Op.bytesLess m l = false
  | [], [], h => by cases h
  | [], _ :: _, _ => rfl
  | _ :: _, [], h => by cases h
  | a :: x, b :: y, h => by
    unfold Op.bytesLess at h ⊢
    rw [Bool.or_eq_true, Bool.and_eq_true, decide_eq_true_eq, beq_iff_eq] at h
    rw [Bool.or_eq_false_iff, decide_eq_false_iff_not, Bool.and_eq_false_iff, beq_eq_false_iff_ne]
    rcases h with h | ⟨rfl, h⟩
    · exact ⟨fun g => absurd (UInt8.lt_iff_toNat_lt.1 g) (by have := UInt8.lt_iff_toNat_lt.1 h; omega), .inl (fun e => by rw [e] at h; exact absurd (UInt8.lt_iff_toNat_lt.1 h) (by omega))⟩
    · exact ⟨fun g => absurd (UInt8.lt_iff_toNat_lt.1 g) (by omega), .inr (less_asymm x y h)⟩
theorem tI_one {b : Bool} : tI b = 1 ↔ b = true := by cases b <;> simp [tI]
theorem numB_iff (k : Int) : numB k = true ↔ (k = 2 ∨ k = 3) := by unfold numB; simp
theorem sameP_parts {k : Int} {b : Bool} {n : Int} {t x : ByteArray} {l : List Val} {k2 : Int} {b2 : Bool} {n2 : Int} {t2 x2 : ByteArray} {l2 : List Val} (h : sameP (.mk k b n t x l) (.mk k2 b2 n2 t2 x2 l2) = true) :
    k = k2 ∧ b = b2 ∧ n = n2 ∧ t.toList = t2.toList ∧ x.toList = x2.toList := by
  unfold sameP at h
  simp only [Bool.and_eq_true, beq_iff_eq] at h
  exact ⟨h.1, h.2.1, h.2.2.1, h.2.2.2.1, h.2.2.2.2.1⟩
theorem equal_less (lang : Int) : (v v2 : Val) → equalP lang v v2 = 1 → lessP v v2 ≠ 1
  | .mk k b n t x l, .mk k2 b2 n2 t2 x2 l2, h => by
    unfold equalP at h
    rw [lessP_mk]
    by_cases hn : numB k = true ∧ numB k2 = true
    · have h0 : ¬ (k = 0 ∨ k2 = 0) := by
        have h1 := (numB_iff k).1 hn.1
        have h2 := (numB_iff k2).1 hn.2
        omega
      rw [if_neg h0, if_pos hn, tI_one, beq_iff_eq] at h
      rw [if_pos hn, h]
      decide
    · rw [if_neg hn]
      rw [if_neg hn] at h
      by_cases h4 : k = 4 ∧ k2 = 4
      · rw [if_pos h4]
        obtain ⟨rfl, rfl⟩ := h4
        rw [if_neg (by omega)] at h
        split at h
        · omega
        · rw [if_neg (by omega), tI_one] at h
          obtain ⟨_, _, _, ht, _⟩ := sameP_parts h
          rw [ht, less_irrefl]
          decide
      · rw [if_neg h4]
        by_cases h1 : k = 1 ∧ k2 = 1
        · rw [if_pos h1]
          obtain ⟨rfl, rfl⟩ := h1
          rw [if_neg (by omega)] at h
          split at h
          · omega
          · rw [if_neg (by omega), tI_one] at h
            obtain ⟨_, hb, _⟩ := sameP_parts h
            rw [hb]
            cases b2 <;> decide
        · rw [if_neg h1]; omega
theorem less_back : (v v2 : Val) → lessP v v2 = 1 → lessP v2 v = 0
  | .mk k b n t x l, .mk k2 b2 n2 t2 x2 l2, h => by
    rw [lessP_mk] at h ⊢
    by_cases hn : numB k = true ∧ numB k2 = true
    · rw [if_pos hn, tI_one, decide_eq_true_eq] at h
      rw [if_pos hn.symm, cmpZ_swap, decide_eq_false (by omega)]
      rfl
    · rw [if_neg hn] at h
      rw [if_neg (fun e => hn e.symm)]
      by_cases h4 : k = 4 ∧ k2 = 4
      · rw [if_pos h4, tI_one] at h
        rw [if_pos h4.symm, less_asymm _ _ h]
        rfl
      · rw [if_neg h4] at h
        rw [if_neg (fun e => h4 e.symm)]
        by_cases h1 : k = 1 ∧ k2 = 1
        · rw [if_pos h1, tI_one] at h
          rw [if_pos h1.symm]
          cases b <;> cases b2 <;> first | rfl | (cases h)
        · rw [if_neg h1] at h; omega
theorem eq_lessTop (lang : Int) (v v2 : Val) (h : eqTop lang v v2 = 1) : lessTop v v2 ≠ 1 ∧ lessTop v2 v ≠ 1 := by
  have h' := h
  rw [eqTop_comm] at h'
  unfold eqTop at h h'
  unfold lessTop
  constructor
  · split at h
    · rename_i c
      rw [if_pos c]; exact equal_less lang v v2 h
    · omega
  · split at h'
    · rename_i c
      rw [if_pos c]; exact equal_less lang v2 v h'
    · omega
theorem less_backTop (v v2 : Val) (h : lessTop v v2 = 1) : lessTop v2 v = 0 := by
  unfold lessTop at h ⊢
  split at h
  · rename_i c
    rw [Bool.and_comm] at c
    rw [if_pos c]; exact less_back v v2 h
  · omega
theorem eqTop_plain (lang : Int) (k : Int) (b : Bool) (n : Int) (t x : ByteArray) (l : List Val) (hm : mayP (.mk k b n t x l) 0 = true) (h1 : 1 ≤ k) (h4 : k ≤ 4) : eqTop lang (.mk k b n t x l) (.mk k b n t x l) = 1 := by
  unfold eqTop
  rw [hm, Bool.and_self, if_pos rfl]
  exact equalP_plain lang k b n t x l h1 h4
theorem e3_lessTop (v v2 : Val) : E3 (lessTop v v2) := by
  unfold lessTop
  split
  · cases v; cases v2
    rw [lessP_mk]
    split
    · exact e3_tI _
    · split
      · exact e3_tI _
      · split
        · exact e3_tI _
        · exact .inr (.inr rfl)
  · exact .inr (.inr rfl)
end Go.Proofs.YtoifjjgakblhhaaGreatDoor
