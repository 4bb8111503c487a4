/- Texts that are decimals: the way back. No Go stands here. -/
import Derived.Test.YtabgilmehehbjaaDoorD
namespace Go.Proofs.YtabgilmehehbjaaDoor

theorem cut_nil : Lib.cut [] [46] = ([], [], false) := by simp [Lib.cut, Lib.index]
theorem cut_hit (r : List UInt8) : Lib.cut (46 :: r) [46] = ([], r, true) := by simp [Lib.cut, Lib.index]
theorem cut_step (c : UInt8) (r : List UInt8) (h : c ≠ 46) : Lib.cut (c :: r) [46] = (c :: (Lib.cut r [46]).1, (Lib.cut r [46]).2.1, (Lib.cut r [46]).2.2) := by
  have hp : [46].isPrefixOf (c :: r) = false := by simp [List.isPrefixOf, beq_eq_false_iff_ne.2 (fun e : (46 : UInt8) = c => h e.symm)]
  have hge := Lib.index_ge r [46]
  unfold Lib.cut
  rw [Lib.index, hp]
  by_cases h0 : 0 ≤ Lib.index r [46]
  · have e1 : (Lib.index r [46] == -1) = false := by simp; omega
    simp only [Bool.false_eq_true, if_false, e1]
    rw [if_pos h0, if_pos (by omega)]
    have e2 : (Lib.index r [46] + 1).toNat = (Lib.index r [46]).toNat + 1 := by omega
    rw [e2]
    simp [Nat.add_right_comm _ 1 1]
  · have e1 : Lib.index r [46] = -1 := by omega
    rw [e1]
    simp
theorem cut_dig (d e : List UInt8) (h : d.all isDig = true) : Lib.cut (d ++ 46 :: e) [46] = (d, e, true) := by
  induction d with
  | nil => exact cut_hit e
  | cons c d ih =>
    simp only [List.all_cons, Bool.and_eq_true] at h
    rw [List.cons_append, cut_step _ _ (by rintro rfl; exact absurd h.1 (by decide)), ih h.2]

theorem digs_of {l : List UInt8} (h : l.all isDig = true) (hne : l ≠ []) : digs l = true := by
  unfold digs; rw [h]; cases l with
  | nil => exact absurd rfl hne
  | cons _ _ => rfl

theorem sgn_dig {x r : List UInt8} (h : x.all isDig = true) (hne : x ≠ []) : sgn (x ++ r) = (false, x ++ r) := by
  cases x with
  | nil => exact absurd rfl hne
  | cons c x =>
    simp only [List.all_cons, Bool.and_eq_true] at h
    have h45 : c ≠ 45 := by rintro rfl; exact absurd h.1 (by decide)
    have h43 : c ≠ 43 := by rintro rfl; exact absurd h.1 (by decide)
    simp [sgn, h45, h43]

/-- A text of a sign, digits, a point and digits is split so. -/
theorem splitP_canon (n : Bool) (x y : List UInt8) (hx : x.all isDig = true) (hx0 : x ≠ []) (hy : y.all isDig = true) (hy0 : y ≠ []) :
    splitP ((if n then [45] else []) ++ (x ++ 46 :: y)) = some (n, x, y) := by
  have e : sgn ((if n then [45] else []) ++ (x ++ 46 :: y)) = (n, x ++ 46 :: y) := by
    cases n
    · show sgn ([] ++ (x ++ 46 :: y)) = _
      rw [List.nil_append]
      exact sgn_dig hx hx0
    · simp [sgn]
  unfold splitP
  rw [e]
  simp only [cut_dig x y hx, digs_of hx hx0, digs_of hy hy0]
  rfl

theorem orN_dig {x : List UInt8} (h : x.all isDig = true) : (orN x).all isDig = true := by
  unfold orN; split
  · rfl
  · exact h
theorem orN_ne (x : List UInt8) : orN x ≠ [] := by
  unfold orN; cases x <;> simp
theorem orN_len {x : List UInt8} {n : Nat} (h : x.length ≤ n) (hn : 1 ≤ n) : (orN x).length ≤ n := by
  unfold orN; split
  · simpa using hn
  · exact h
theorem orN_val (x : List UInt8) : valD (orN x) = valD x := by
  cases x <;> simp [orN, valD]

theorem trimL_split (l : List UInt8) : ∃ k, l = List.replicate k 48 ++ Lib.trimLeftB l 48 := by
  unfold Lib.trimLeftB
  induction l with
  | nil => exact ⟨0, rfl⟩
  | cons c l ih =>
    by_cases h : c = 48
    · obtain ⟨k, hk⟩ := ih
      refine ⟨k + 1, ?_⟩
      rw [List.dropWhile_cons, if_pos (by simp [h]), List.replicate_succ, List.cons_append, ← hk, h]
    · exact ⟨0, by rw [List.dropWhile_cons, if_neg (by simp [h])]; rfl⟩
theorem trimR_split (l : List UInt8) : ∃ k, l = Lib.trimRightB l 48 ++ List.replicate k 48 := by
  obtain ⟨k, hk⟩ := trimL_split l.reverse
  refine ⟨k, ?_⟩
  unfold Lib.trimLeftB at hk
  unfold Lib.trimRightB
  have := congrArg List.reverse hk
  rw [List.reverse_reverse, List.reverse_append, List.reverse_replicate] at this
  exact this

theorem trimL_dig {l : List UInt8} (h : l.all isDig = true) : (Lib.trimLeftB l 48).all isDig = true := by
  obtain ⟨k, hk⟩ := trimL_split l
  rw [hk, List.all_append, Bool.and_eq_true] at h
  exact h.2
theorem trimR_dig {l : List UInt8} (h : l.all isDig = true) : (Lib.trimRightB l 48).all isDig = true := by
  obtain ⟨k, hk⟩ := trimR_split l
  rw [hk, List.all_append, Bool.and_eq_true] at h
  exact h.1
theorem trimL_same (l : List UInt8) : valD (Lib.trimLeftB l 48) = valD l := by
  obtain ⟨k, hk⟩ := trimL_split l
  have := congrArg valD hk
  rw [valD_append, rep_val] at this
  omega
theorem trimR_same (l : List UInt8) {n : Nat} (h : l.length ≤ n) : valD (Lib.trimRightB l 48) * 10 ^ (n - (Lib.trimRightB l 48).length) = valD l * 10 ^ (n - l.length) := by
  obtain ⟨k, hk⟩ := trimR_split l
  generalize Lib.trimRightB l 48 = t at *
  subst hk
  rw [valD_append, rep_val, List.length_append, List.length_replicate, Nat.add_zero, Nat.mul_assoc, ← Nat.pow_add]
  simp only [List.length_append, List.length_replicate] at h
  congr 2
  omega
theorem trimL_idem (l : List UInt8) : Lib.trimLeftB (orN (Lib.trimLeftB l 48)) 48 = Lib.trimLeftB l 48 := by
  obtain ⟨k, hk⟩ := trimL_split l
  have e : Lib.trimLeftB l 48 = Lib.trimLeftB (Lib.trimLeftB l 48) 48 := by
    have := congrArg (Lib.trimLeftB · 48) hk
    simp only [trimL_rep] at this
    exact this
  unfold orN
  split
  · rename_i h
    have : Lib.trimLeftB l 48 = [] := by simpa using h
    rw [this]; rfl
  · exact e.symm
theorem trimR_idem (l : List UInt8) : Lib.trimRightB (orN (Lib.trimRightB l 48)) 48 = Lib.trimRightB l 48 := by
  obtain ⟨k, hk⟩ := trimR_split l
  have e : Lib.trimRightB l 48 = Lib.trimRightB (Lib.trimRightB l 48) 48 := by
    have := congrArg (Lib.trimRightB · 48) hk
    simp only [trimR_rep] at this
    exact this
  unfold orN
  split
  · rename_i h
    have : Lib.trimRightB l 48 = [] := by simpa using h
    rw [this]; rfl
  · exact e.symm

theorem head_trim (l : List UInt8) : ∀ c r, Lib.trimLeftB l 48 = c :: r → c ≠ 48 := by
  intro c r h e
  have := List.head?_dropWhile_not (fun x : UInt8 => x == 48) l
  unfold Lib.trimLeftB at h
  rw [h, e] at this
  simp at this
theorem trimL_nil {l : List UInt8} (hd : l.all isDig = true) : Lib.trimLeftB l 48 = [] ↔ valD l = 0 := by
  constructor
  · intro h; rw [← trimL_same, h]; rfl
  · intro h
    cases e : Lib.trimLeftB l 48 with
    | nil => rfl
    | cons c r =>
      have hc := head_trim l c r e
      have hdd := trimL_dig hd
      rw [e, List.all_cons, Bool.and_eq_true] at hdd
      have := dig_le hdd.1
      have h2 := trimL_same l
      rw [e, h] at h2
      simp only [valD] at h2
      have hne : c.toNat ≠ 48 := fun h => hc (UInt8.toNat_inj.1 h)
      have : 0 < (c.toNat - 48) * 10 ^ r.length := Nat.mul_pos (by omega) (Nat.pow_pos (by omega))
      omega
theorem trimR_nil {l : List UInt8} (hd : l.all isDig = true) : Lib.trimRightB l 48 = [] ↔ valD l = 0 := by
  constructor
  · intro h
    have := trimR_same l (Nat.le_refl _)
    rw [h] at this
    simpa [valD] using this.symm
  · intro h
    obtain ⟨k, hk⟩ := trimR_split l
    have : l = List.replicate l.length 48 := eq_of_val _ _ hd (rep_dig _) (by simp) (by rw [h, rep_val])
    rw [this]
    have e := trimR_rep l.length []
    rw [List.nil_append] at e
    rw [e]; rfl

/-- What was written is split, and read, as what it was. -/
theorem wr_back (neg : Bool) (a b t : List UInt8) (ha : a.all isDig = true) (hb : b.all isDig = true) (h : wr neg a b = some t) :
    ∃ x y, splitP t = some (neg && !(decide (valD a = 0) && decide (valD b = 0)), x, y) ∧ x.all isDig = true ∧ y.all isDig = true ∧ x.length ≤ 40 ∧ y.length ≤ 20 ∧ valD x = valD a ∧
      (∀ n, b.length ≤ n → 20 ≤ n → valD y * 10 ^ (n - y.length) = valD b * 10 ^ (n - b.length)) ∧ chk t = true := by
  have hiff : (Lib.trimLeftB a 48 ++ Lib.trimRightB b 48).isEmpty = (decide (valD a = 0) && decide (valD b = 0)) := by
    rw [Bool.eq_iff_iff]
    simp only [List.isEmpty_iff, List.append_eq_nil_iff, trimL_nil ha, trimR_nil hb, Bool.and_eq_true, decide_eq_true_iff]
  have h0 := h
  unfold wr at h
  simp only at h
  split at h
  · cases h
  · rename_i hl
    have hl1 : (Lib.trimLeftB a 48).length ≤ 40 := by omega
    have hl2 : (Lib.trimRightB b 48).length ≤ 20 := by omega
    rw [hiff, Option.some.injEq] at h
    have hsp := splitP_canon (neg && !(decide (valD a = 0) && decide (valD b = 0))) (orN (Lib.trimLeftB a 48)) (orN (Lib.trimRightB b 48)) (orN_dig (trimL_dig ha)) (orN_ne _) (orN_dig (trimR_dig hb)) (orN_ne _)
    rw [h] at hsp
    refine ⟨_, _, hsp, orN_dig (trimL_dig ha), orN_dig (trimR_dig hb), orN_len hl1 (by omega), orN_len hl2 (by omega), by rw [orN_val, trimL_same], ?_, ?_⟩
    · intro n hn hn2
      rw [← trimR_same b hn]
      unfold orN
      split
      · rename_i he
        have : Lib.trimRightB b 48 = [] := by simpa using he
        rw [this]
        simp [valD]
      · rfl
    · unfold chk readP
      rw [hsp]
      simp only [Option.map_some]
      have : wr (neg && !(decide (valD a = 0) && decide (valD b = 0))) (orN (Lib.trimLeftB a 48)) (orN (Lib.trimRightB b 48)) = some t := by
        unfold wr
        simp only [trimL_idem, trimR_idem]
        rw [if_neg hl, hiff, ← h, Bool.and_assoc, Bool.and_self]
      rw [this]
      simp

/-- A decimal is what its parts are written as. -/
theorem chk_parts (l : List UInt8) (h : chk l = true) : ∃ n a b, splitP l = some (n, a, b) ∧ a.all isDig = true ∧ b.all isDig = true ∧ a.length ≤ 40 ∧ b.length ≤ 20 ∧ wr n a b = some l ∧
    (n = true → ¬ (valD a = 0 ∧ valD b = 0)) := by
  have h' : readP l = some (some l) := by simpa [chk] using h
  unfold readP at h'
  cases hs : splitP l with
  | none => rw [hs] at h'; cases h'
  | some x =>
    obtain ⟨n, a, b⟩ := x
    rw [hs] at h'
    simp only [Option.map_some, Option.some.injEq] at h'
    have hd : a.all isDig = true ∧ b.all isDig = true := by
      have hs' := hs
      unfold splitP at hs'
      simp only at hs'
      split at hs'
      · rename_i hc
        simp only [Option.some.injEq, Prod.mk.injEq] at hs'
        obtain ⟨_, rfl, rfl⟩ := hs'
        rw [Bool.and_eq_true, Bool.or_eq_true] at hc
        refine ⟨?_, ?_⟩
        · have := hc.1; unfold digs at this; rw [Bool.and_eq_true] at this; exact this.2
        · rcases hc.2 with h | h
          · have hf : (Lib.cut (sgn l).2 [46]).2.2 = false := by simpa using h
            have : (Lib.cut (sgn l).2 [46]).2.1 = [] := by
              unfold Lib.cut at hf ⊢
              split at hf
              · cases hf
              · rw [if_neg (by assumption)]
            rw [this]; rfl
          · unfold digs at h; rw [Bool.and_eq_true] at h; exact h.2
      · cases hs'
    obtain ⟨x, y, e1, e2, e3, e4, e5, e6, e7, e8⟩ := wr_back n a b l hd.1 hd.2 h'
    rw [hs, Option.some.injEq, Prod.mk.injEq, Prod.mk.injEq] at e1
    obtain ⟨f1, rfl, rfl⟩ := e1
    refine ⟨n, a, b, rfl, hd.1, hd.2, e4, e5, h', ?_⟩
    rintro rfl ⟨g1, g2⟩
    rw [g1, g2] at f1
    simp at f1

/-- The number of parts, scaled by 10 ^ 54. -/
def num54 (a b : List UInt8) : Nat := valD a * 10 ^ 54 + valD b * 10 ^ (54 - b.length)

end Go.Proofs.YtabgilmehehbjaaDoor
