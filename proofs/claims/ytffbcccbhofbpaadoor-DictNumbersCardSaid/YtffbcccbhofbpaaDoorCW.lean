/- Marks in words of sixty-four bits: plain arithmetic. No Go stands here. -/
import Derived.Test.YtffbcccbhofbpaaDoorPC
namespace Go.Proofs.YtffbcccbhofbpaaDoor.Pop

/-- The number whose bits are the marks, the first lowest. -/
def num : List Bool → Nat
  | [] => 0
  | b :: r => b.toNat + 2 * num r
/-- The word j. -/
def dig (bs : List Bool) (j : Nat) : Nat := num bs / 2 ^ (64 * j) % 2 ^ 64
/-- How many words there are. -/
def nw (bs : List Bool) : Nat := (bs.length + 63) / 64
def words (bs : List Bool) : List Nat := (List.range (nw bs)).map (dig bs)
theorem words_length (bs : List Bool) : (words bs).length = nw bs := by simp [words]
theorem words_get (bs : List Bool) (j : Nat) (h : j < nw bs) : (words bs)[j]? = some (dig bs j) := by simp [words, h]
theorem num_lt (bs : List Bool) : num bs < 2 ^ bs.length := by
  induction bs with
  | nil => simp [num]
  | cons b r ih => have : b.toNat ≤ 1 := Bool.toNat_le b; simp only [num, List.length_cons, Nat.pow_succ]; omega
theorem num_snoc (bs : List Bool) (b : Bool) : num (bs ++ [b]) = num bs + 2 ^ bs.length * b.toNat := by
  induction bs with
  | nil => simp [num]
  | cons c r ih => simp only [List.cons_append, num, ih, List.length_cons, Nat.pow_succ]; rw [Nat.mul_add, ← Nat.mul_assoc, Nat.mul_comm 2 (2 ^ r.length)]; omega
theorem num_bit (bs : List Bool) (i : Nat) (h : i < bs.length) : num bs / 2 ^ i % 2 = (bs[i]).toNat := by
  induction bs generalizing i with
  | nil => simp at h
  | cons c r ih =>
    have hc : c.toNat ≤ 1 := Bool.toNat_le c
    cases i with
    | zero => simp only [num, Nat.pow_zero, Nat.div_one, List.getElem_cons_zero]; omega
    | succ i =>
      rw [List.getElem_cons_succ, ← ih i (by simpa using h), Nat.pow_succ', ← Nat.div_div_eq_div_mul]
      simp only [num]
      congr 2
      omega
theorem num_pop (bs : List Bool) (k : Nat) : pop k (num bs) = ((bs.take k).filter id).length := by
  induction bs generalizing k with
  | nil => simp only [num, List.take_nil, List.filter_nil, List.length_nil]; induction k with
    | zero => rfl
    | succ k ih => simp [pop, ih]
  | cons c r ih =>
    cases k with
    | zero => simp [pop]
    | succ k =>
      have hc : c.toNat ≤ 1 := Bool.toNat_le c
      have e : num (c :: r) / 2 = num r := by simp only [num]; omega
      have e2 : num (c :: r) % 2 = c.toNat := by simp only [num]; omega
      simp only [pop, e, e2, ih, List.take_succ_cons, List.filter_cons, id]
      cases c <;> simp <;> omega
theorem dig_lt (bs : List Bool) (j : Nat) : dig bs j < 2 ^ 64 := Nat.mod_lt _ (by decide)
/-- The marks of a word are told one by one. -/
theorem dig_bit (bs : List Bool) (i : Nat) (h : i < bs.length) : dig bs (i / 64) / 2 ^ (i % 64) % 2 = (bs[i]).toNat := by
  rw [← num_bit bs i h, dig]
  have hr : i % 64 < 64 := Nat.mod_lt _ (by decide)
  have hp : (2 : Nat) ^ 64 = 2 ^ (i % 64) * 2 ^ (64 - i % 64) := by rw [← Nat.pow_add]; congr 1; omega
  have hq : 2 ^ (64 - i % 64) = 2 * 2 ^ (63 - i % 64) := by rw [← Nat.pow_succ']; congr 1; omega
  rw [hp, Nat.mod_mul_right_div_self, Nat.div_div_eq_div_mul, ← Nat.pow_add, hq, Nat.mod_mul_right_mod]
  congr 3
  omega
theorem nw_of (bs : List Bool) {q r : Nat} (h : bs.length = 64 * q + r) (hr : r < 64) : nw bs = if r = 0 then q else q + 1 := by
  unfold nw; split <;> omega
/-- A mark more: the words ahead stay. -/
theorem dig_ahead (bs : List Bool) (b : Bool) (j : Nat) (h : 64 * (j + 1) ≤ bs.length) : dig (bs ++ [b]) j = dig bs j := by
  unfold dig
  rw [num_snoc]
  obtain ⟨t, ht⟩ : ∃ t, bs.length = 64 * j + (64 + t) := ⟨bs.length - 64 * (j + 1), by omega⟩
  rw [ht, Nat.pow_add, Nat.mul_assoc, Nat.add_mul_div_left _ _ (Nat.pow_pos (by decide)), Nat.pow_add, Nat.mul_assoc, Nat.add_mul_mod_self_left]
/-- A mark more: its own word. -/
theorem dig_own (bs : List Bool) (b : Bool) : dig (bs ++ [b]) (bs.length / 64) = dig bs (bs.length / 64) + 2 ^ (bs.length % 64) * b.toNat ∧ dig bs (bs.length / 64) < 2 ^ (bs.length % 64) := by
  obtain ⟨q, r, h, hr⟩ : ∃ q r, bs.length = 64 * q + r ∧ r < 64 := ⟨bs.length / 64, bs.length % 64, by omega, Nat.mod_lt _ (by decide)⟩
  have e1 : bs.length / 64 = q := by omega
  have e2 : bs.length % 64 = r := by omega
  rw [e1, e2]
  have hl := num_lt bs
  rw [h, Nat.pow_add] at hl
  have hd : num bs / 2 ^ (64 * q) < 2 ^ r := Nat.div_lt_of_lt_mul hl
  have hr64 : 2 ^ r ≤ 2 ^ 63 := Nat.pow_le_pow_right (by decide) (by omega)
  have hb : b.toNat ≤ 1 := Bool.toNat_le b
  have hm : 2 ^ r * b.toNat ≤ 2 ^ r := by
    have := Nat.mul_le_mul_left (2 ^ r) hb
    simpa using this
  unfold dig
  rw [num_snoc, h, Nat.pow_add, Nat.mul_assoc, Nat.add_mul_div_left _ _ (Nat.pow_pos (by decide)), Nat.mod_eq_of_lt (Nat.lt_of_lt_of_le hd (Nat.le_trans hr64 (by decide))), Nat.mod_eq_of_lt]
  · exact ⟨rfl, hd⟩
  · have : (2 : Nat) ^ 64 = 2 ^ 63 + 2 ^ 63 := by decide
    rw [this]; omega
theorem dig_beyond (bs : List Bool) (j : Nat) (h : bs.length ≤ 64 * j) : dig bs j = 0 := by
  unfold dig
  rw [Nat.div_eq_of_lt (Nat.lt_of_lt_of_le (num_lt bs) (Nat.pow_le_pow_right (by decide) h))]
/-- Where a word is full, a mark more is a word more. -/
theorem words_new (bs : List Bool) (b : Bool) (h : bs.length % 64 = 0) : words (bs ++ [b]) = words bs ++ [b.toNat] := by
  have n1 : nw bs = bs.length / 64 := by unfold nw; omega
  have n2 : nw (bs ++ [b]) = bs.length / 64 + 1 := by unfold nw; simp; omega
  unfold words
  rw [n1, n2, List.range_succ, List.map_append]
  congr 1
  · apply List.map_congr_left
    intro j hj
    have := List.mem_range.1 hj
    exact dig_ahead bs b j (by omega)
  · obtain ⟨o1, o2⟩ := dig_own bs b
    rw [h] at o1 o2
    simp only [List.map_cons, List.map_nil]
    rw [o1]
    simp at o2 ⊢
    omega
theorem words_more (bs : List Bool) (b : Bool) (h : bs.length % 64 ≠ 0) : words (bs ++ [b]) = (words bs).set (bs.length / 64) (dig bs (bs.length / 64) + 2 ^ (bs.length % 64) * b.toNat) := by
  have n1 : nw bs = bs.length / 64 + 1 := by unfold nw; omega
  have n2 : nw (bs ++ [b]) = bs.length / 64 + 1 := by unfold nw; simp; omega
  apply List.ext_getElem?
  intro j
  by_cases hj : j < nw bs
  · rw [words_get _ _ (by omega), List.getElem?_set]
    split
    · rename_i e
      subst e
      rw [if_pos (by rw [words_length]; exact hj), (dig_own bs b).1]
    · rw [words_get _ _ hj, dig_ahead bs b j (by omega)]
  · rw [List.getElem?_eq_none (by rw [words_length]; omega), List.getElem?_eq_none (by rw [List.length_set, words_length]; omega)]
/-- The sum over the words, as far as k. -/
theorem pop_words (bs : List Bool) (k : Nat) : pop (64 * (k + 1)) (num bs) = pop (64 * k) (num bs) + pop 64 (dig bs k) := by
  rw [show 64 * (k + 1) = 64 * k + 64 by omega, pop_add, dig, pop_mod]
theorem pop_all (bs : List Bool) : pop (64 * nw bs) (num bs) = (bs.filter id).length := by
  rw [num_pop, List.take_of_length_le (by unfold nw; omega)]
end Go.Proofs.YtffbcccbhofbpaaDoor.Pop
