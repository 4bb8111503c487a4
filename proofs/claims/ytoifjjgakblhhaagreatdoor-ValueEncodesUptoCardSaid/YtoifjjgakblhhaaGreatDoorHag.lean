/- Texts of one kind, one behind the other: each says ahead of itself what it shows. -/
import Derived.Test.YtoifjjgakblhhaaGreatDoorHaf
import Derived.Test.YtoifjjgakblhhaaGreatDoorHaa
import Derived.Test.YtoifjjgakblhhaaGreatDoorHad
import Derived.Deep.WholeRow
import Derived.Laws.IdiomStrings
/- Texts that are decimals: the way back. No Go stands here. -/
namespace Go.Proofs.YtoifjjgakblhhaaGreatDoor

theorem cut_nil : Lib.cut [] [46] = ([], [], false) := by simp [Lib.cut, Lib.index]
theorem cut_hit (r : List UInt8) : Lib.cut (46 :: r) [46] = ([], r, true) := by simp [Lib.cut, Lib.index]
theorem cut_step (c : UInt8) (r : List UInt8) (h : c ≠ 46) : Lib.cut (c :: r) [46] = (c :: (Lib.cut r [46]).1, (Lib.cut r [46]).2.1, (Lib.cut r [46]).2.2) := by
  have hp : [46].isPrefixOf (c :: r) = false := by simp [List.isPrefixOf, beq_eq_false_iff_ne.2 (fun e : (46 : UInt8) = c => h e.symm)]
  have hge := Lib.index_ge r [46]
  unfold Lib.cut
  rw [Lib.index, hp]
  by_cases h0 : 0 ≤ Lib.index r [46]
  · have e1 : (Lib.index r [46] == -1) = false := by simp; omega
    simp only [Bool.false_eq_true, if_false, e1]
    rw [if_pos h0, if_pos (by omega)]
    have e2 : (Lib.index r [46] + 1).toNat = (Lib.index r [46]).toNat + 1 := by omega
    rw [e2]
    simp
  · have e1 : Lib.index r [46] = -1 := by omega
    rw [e1]
    simp
theorem cut_dig (d e : List UInt8) (h : d.all isDig = true) : Lib.cut (d ++ 46 :: e) [46] = (d, e, true) := by
  induction d with
  | nil => exact cut_hit e
  | cons c d ih =>
    simp only [List.all_cons, Bool.and_eq_true] at h
    rw [List.cons_append, cut_step _ _ (by rintro rfl; exact absurd h.1 (by decide)), ih h.2]

theorem digs_of {l : List UInt8} (h : l.all isDig = true) (hne : l ≠ []) : digs l = true := by
  unfold digs; rw [h]; cases l with
  | nil => exact absurd rfl hne
  | cons _ _ => rfl

theorem sgn_dig {x r : List UInt8} (h : x.all isDig = true) (hne : x ≠ []) : sgn (x ++ r) = (false, x ++ r) := by
  cases x with
  | nil => exact absurd rfl hne
  | cons c x =>
    simp only [List.all_cons, Bool.and_eq_true] at h
    have h45 : c ≠ 45 := by rintro rfl; exact absurd h.1 (by decide)
    have h43 : c ≠ 43 := by rintro rfl; exact absurd h.1 (by decide)
    simp [sgn, h45, h43]

/-- A text of a sign, digits, a point and digits is split so. -/
theorem splitP_canon (n : Bool) (x y : List UInt8) (hx : x.all isDig = true) (hx0 : x ≠ []) (hy : y.all isDig = true) (hy0 : y ≠ []) :
    splitP ((if n then [45] else []) ++ (x ++ 46 :: y)) = some (n, x, y) := by
  have e : sgn ((if n then [45] else []) ++ (x ++ 46 :: y)) = (n, x ++ 46 :: y) := by
    cases n
    · show sgn ([] ++ (x ++ 46 :: y)) = _
      rw [List.nil_append]
      exact sgn_dig hx hx0
    · simp [sgn]
  unfold splitP
  rw [e]
  simp only [cut_dig x y hx, digs_of hx hx0, digs_of hy hy0]
  rfl

theorem orN_dig {x : List UInt8} (h : x.all isDig = true) : (orN x).all isDig = true := by
  unfold orN; split
  · rfl
  · exact h
theorem orN_ne (x : List UInt8) : orN x ≠ [] := by
  unfold orN; cases x <;> simp
theorem orN_len {x : List UInt8} {n : Nat} (h : x.length ≤ n) (hn : 1 ≤ n) : (orN x).length ≤ n := by
  unfold orN; split
  · simpa using hn
  · exact h
theorem orN_val (x : List UInt8) : valD (orN x) = valD x := by
  cases x <;> simp [orN, valD]

theorem trimL_split (l : List UInt8) : ∃ k, l = List.replicate k 48 ++ Lib.trimLeftB l 48 := by
  unfold Lib.trimLeftB
  induction l with
  | nil => exact ⟨0, rfl⟩
  | cons c l ih =>
    by_cases h : c = 48
    · obtain ⟨k, hk⟩ := ih
      refine ⟨k + 1, ?_⟩
      rw [List.dropWhile_cons, if_pos (by simp [h]), List.replicate_succ, List.cons_append, ← hk, h]
    · exact ⟨0, by rw [List.dropWhile_cons, if_neg (by simp [h])]; rfl⟩
theorem trimR_split (l : List UInt8) : ∃ k, l = Lib.trimRightB l 48 ++ List.replicate k 48 := by
  obtain ⟨k, hk⟩ := trimL_split l.reverse
  refine ⟨k, ?_⟩
  unfold Lib.trimLeftB at hk
  unfold Lib.trimRightB
  have := congrArg List.reverse hk
  rw [List.reverse_reverse, List.reverse_append, List.reverse_replicate] at this
  exact this

theorem trimL_dig {l : List UInt8} (h : l.all isDig = true) : (Lib.trimLeftB l 48).all isDig = true := by
  obtain ⟨k, hk⟩ := trimL_split l
  rw [hk, List.all_append, Bool.and_eq_true] at h
  exact h.2
theorem trimR_dig {l : List UInt8} (h : l.all isDig = true) : (Lib.trimRightB l 48).all isDig = true := by
  obtain ⟨k, hk⟩ := trimR_split l
  rw [hk, List.all_append, Bool.and_eq_true] at h
  exact h.1
theorem trimL_same (l : List UInt8) : valD (Lib.trimLeftB l 48) = valD l := by
  obtain ⟨k, hk⟩ := trimL_split l
  have := congrArg valD hk
  rw [valD_append, rep_val] at this
  omega
theorem trimR_same (l : List UInt8) {n : Nat} (h : l.length ≤ n) : valD (Lib.trimRightB l 48) * 10 ^ (n - (Lib.trimRightB l 48).length) = valD l * 10 ^ (n - l.length) := by
  obtain ⟨k, hk⟩ := trimR_split l
  generalize Lib.trimRightB l 48 = t at *
  subst hk
  rw [valD_append, rep_val, List.length_append, List.length_replicate, Nat.add_zero, Nat.mul_assoc, ← Nat.pow_add]
  simp only [List.length_append, List.length_replicate] at h
  congr 2
  omega
theorem trimL_idem (l : List UInt8) : Lib.trimLeftB (orN (Lib.trimLeftB l 48)) 48 = Lib.trimLeftB l 48 := by
  obtain ⟨k, hk⟩ := trimL_split l
  have e : Lib.trimLeftB l 48 = Lib.trimLeftB (Lib.trimLeftB l 48) 48 := by
    have := congrArg (Lib.trimLeftB · 48) hk
    simp only [trimL_rep] at this
    exact this
  unfold orN
  split
  · rename_i h
    have : Lib.trimLeftB l 48 = [] := by simpa using h
    rw [this]; rfl
  · exact e.symm
theorem trimR_idem (l : List UInt8) : Lib.trimRightB (orN (Lib.trimRightB l 48)) 48 = Lib.trimRightB l 48 := by
  obtain ⟨k, hk⟩ := trimR_split l
  have e : Lib.trimRightB l 48 = Lib.trimRightB (Lib.trimRightB l 48) 48 := by
    have := congrArg (Lib.trimRightB · 48) hk
    simp only [trimR_rep] at this
    exact this
  unfold orN
  split
  · rename_i h
    have : Lib.trimRightB l 48 = [] := by simpa using h
    rw [this]; rfl
  · exact e.symm

theorem head_trim (l : List UInt8) : ∀ c r, Lib.trimLeftB l 48 = c :: r → c ≠ 48 := by
  intro c r h e
  have := List.head?_dropWhile_not (fun x : UInt8 => x == 48) l
  unfold Lib.trimLeftB at h
  rw [h, e] at this
  simp at this
theorem trimL_nil {l : List UInt8} (hd : l.all isDig = true) : Lib.trimLeftB l 48 = [] ↔ valD l = 0 := by
  constructor
  · intro h; rw [← trimL_same, h]; rfl
  · intro h
    cases e : Lib.trimLeftB l 48 with
    | nil => rfl
    | cons c r =>
      have hc := head_trim l c r e
      have hdd := trimL_dig hd
      rw [e, List.all_cons, Bool.and_eq_true] at hdd
      have := dig_le hdd.1
      have h2 := trimL_same l
      rw [e, h] at h2
      simp only [valD] at h2
      have hne : c.toNat ≠ 48 := fun h => hc (UInt8.toNat_inj.1 h)
      have : 0 < (c.toNat - 48) * 10 ^ r.length := Nat.mul_pos (by omega) (Nat.pow_pos (by omega))
      omega
theorem trimR_nil {l : List UInt8} (hd : l.all isDig = true) : Lib.trimRightB l 48 = [] ↔ valD l = 0 := by
  constructor
  · intro h
    have := trimR_same l (Nat.le_refl _)
    rw [h] at this
    simpa [valD] using this.symm
  · intro h
    obtain ⟨k, hk⟩ := trimR_split l
    have : l = List.replicate l.length 48 := eq_of_val _ _ hd (rep_dig _) (by simp) (by rw [h, rep_val])
    rw [this]
    have e := trimR_rep l.length []
    rw [List.nil_append] at e
    rw [e]; rfl

/-- What was written is split, and read, as what it was. -/
theorem wr_back (neg : Bool) (a b t : List UInt8) (ha : a.all isDig = true) (hb : b.all isDig = true) (h : wr neg a b = some t) :
    ∃ x y, splitP t = some (neg && !(decide (valD a = 0) && decide (valD b = 0)), x, y) ∧ x.all isDig = true ∧ y.all isDig = true ∧ x.length ≤ 40 ∧ y.length ≤ 20 ∧ valD x = valD a ∧
      (∀ n, b.length ≤ n → 20 ≤ n → valD y * 10 ^ (n - y.length) = valD b * 10 ^ (n - b.length)) ∧ chk t = true := by
  have hiff : (Lib.trimLeftB a 48 ++ Lib.trimRightB b 48).isEmpty = (decide (valD a = 0) && decide (valD b = 0)) := by
    rw [Bool.eq_iff_iff]
    simp only [List.isEmpty_iff, List.append_eq_nil_iff, trimL_nil ha, trimR_nil hb, Bool.and_eq_true, decide_eq_true_iff]
  have h0 := h
  unfold wr at h
  simp only at h
  split at h
  · cases h
  · rename_i hl
    have hl1 : (Lib.trimLeftB a 48).length ≤ 40 := by omega
    have hl2 : (Lib.trimRightB b 48).length ≤ 20 := by omega
    rw [hiff, Option.some.injEq] at h
    have hsp := splitP_canon (neg && !(decide (valD a = 0) && decide (valD b = 0))) (orN (Lib.trimLeftB a 48)) (orN (Lib.trimRightB b 48)) (orN_dig (trimL_dig ha)) (orN_ne _) (orN_dig (trimR_dig hb)) (orN_ne _)
    rw [h] at hsp
    refine ⟨_, _, hsp, orN_dig (trimL_dig ha), orN_dig (trimR_dig hb), orN_len hl1 (by omega), orN_len hl2 (by omega), by rw [orN_val, trimL_same], ?_, ?_⟩
    · intro n hn hn2
      rw [← trimR_same b hn]
      unfold orN
      split
      · rename_i he
        have : Lib.trimRightB b 48 = [] := by simpa using he
        rw [this]
        simp [valD]
      · rfl
    · unfold chk readP
      rw [hsp]
      simp only [Option.map_some]
      have : wr (neg && !(decide (valD a = 0) && decide (valD b = 0))) (orN (Lib.trimLeftB a 48)) (orN (Lib.trimRightB b 48)) = some t := by
        unfold wr
        simp only [trimL_idem, trimR_idem]
        rw [if_neg hl, hiff, ← h, Bool.and_assoc, Bool.and_self]
      rw [this]
      simp

/-- A decimal is what its parts are written as. -/
theorem chk_parts (l : List UInt8) (h : chk l = true) : ∃ n a b, splitP l = some (n, a, b) ∧ a.all isDig = true ∧ b.all isDig = true ∧ a.length ≤ 40 ∧ b.length ≤ 20 ∧ wr n a b = some l ∧
    (n = true → ¬ (valD a = 0 ∧ valD b = 0)) := by
  have h' : readP l = some (some l) := by simpa [chk] using h
  unfold readP at h'
  cases hs : splitP l with
  | none => rw [hs] at h'; cases h'
  | some x =>
    obtain ⟨n, a, b⟩ := x
    rw [hs] at h'
    simp only [Option.map_some, Option.some.injEq] at h'
    have hd : a.all isDig = true ∧ b.all isDig = true := by
      have hs' := hs
      unfold splitP at hs'
      simp only at hs'
      split at hs'
      · rename_i hc
        simp only [Option.some.injEq, Prod.mk.injEq] at hs'
        obtain ⟨_, rfl, rfl⟩ := hs'
        rw [Bool.and_eq_true, Bool.or_eq_true] at hc
        refine ⟨?_, ?_⟩
        · have := hc.1; unfold digs at this; rw [Bool.and_eq_true] at this; exact this.2
        · rcases hc.2 with h | h
          · have hf : (Lib.cut (sgn l).2 [46]).2.2 = false := by simpa using h
            have : (Lib.cut (sgn l).2 [46]).2.1 = [] := by
              unfold Lib.cut at hf ⊢
              split at hf
              · cases hf
              · rw [if_neg (by assumption)]
            rw [this]; rfl
          · unfold digs at h; rw [Bool.and_eq_true] at h; exact h.2
      · cases hs'
    obtain ⟨x, y, e1, e2, e3, e4, e5, e6, e7, e8⟩ := wr_back n a b l hd.1 hd.2 h'
    rw [hs, Option.some.injEq, Prod.mk.injEq, Prod.mk.injEq] at e1
    obtain ⟨f1, rfl, rfl⟩ := e1
    refine ⟨n, a, b, rfl, hd.1, hd.2, e4, e5, h', ?_⟩
    rintro rfl ⟨g1, g2⟩
    rw [g1, g2] at f1
    simp at f1

/-- The number of parts, scaled by 10 ^ 54. -/
def num54 (a b : List UInt8) : Nat := valD a * 10 ^ 54 + valD b * 10 ^ (54 - b.length)

end Go.Proofs.YtoifjjgakblhhaaGreatDoor

/- Results that are numbers. -/
namespace Go.Proofs.YtoifjjgakblhhaaGreatDoor
open Go.RowKit
theorem results_num_tmp {fn : Func} {p q : Tmp} (h : fn.results = #[.cell p 136, .tmp q]) (tmps : Array Value) {w : World} {g : Nat} {c : Array Value} {n : Bool} {f : Nat → Nat} (v : Value)
    (hp : tmps.getD p undef = .pointer (some ⟨g, 0, none⟩)) (hq : tmps.getD q undef = v) (hg : Lies w g c n f) : (results fn tmps).run Tryz.prog w = .ok (.tuple #[.agg c, v]) w := by
  have hp' : tmps[p]?.getD undef = .pointer (some ⟨g, 0, none⟩) := by simpa using hp
  have hq' : tmps[q]?.getD undef = v := by simpa using hq
  have hl := run_loadVar_row (P := Tryz.prog) w g 136 136 c (0, 0) _ hg.1 Tryz.underlying136 rfl (by rw [hg.2.size]; exact info59)
  simp [results, h, hp', hq', asAddr, hl]
theorem results_num2_tmp {fn : Func} {p p2 q : Tmp} (h : fn.results = #[.cell p 136, .cell p2 136, .tmp q]) (tmps : Array Value) {w : World} {g g2 : Nat} {c c2 : Array Value} {n n2 : Bool} {f f2 : Nat → Nat} (v : Value)
    (hp : tmps.getD p undef = .pointer (some ⟨g, 0, none⟩)) (hp2 : tmps.getD p2 undef = .pointer (some ⟨g2, 0, none⟩)) (hq : tmps.getD q undef = v) (hg : Lies w g c n f) (hg2 : Lies w g2 c2 n2 f2) : (results fn tmps).run Tryz.prog w = .ok (.tuple #[.agg c, .agg c2, v]) w := by
  have hp' : tmps[p]?.getD undef = .pointer (some ⟨g, 0, none⟩) := by simpa using hp
  have hp2' : tmps[p2]?.getD undef = .pointer (some ⟨g2, 0, none⟩) := by simpa using hp2
  have hq' : tmps[q]?.getD undef = v := by simpa using hq
  have hl := run_loadVar_row (P := Tryz.prog) w g 136 136 c (0, 0) _ hg.1 Tryz.underlying136 rfl (by rw [hg.2.size]; exact info59)
  have hl2 := run_loadVar_row (P := Tryz.prog) w g2 136 136 c2 (0, 0) _ hg2.1 Tryz.underlying136 rfl (by rw [hg2.2.size]; exact info59)
  simp [results, h, hp', hp2', hq', asAddr, hl, hl2]
/-- A sign and noughts. -/
def sign59 (n : Bool) : Array Value := #[.bool n, .int .u32 0, .int .u32 0, .int .u32 0, .int .u32 0, .int .u32 0, .int .u32 0, .int .u32 0, .int .u32 0, .int .u32 0, .int .u32 0, .int .u32 0, .int .u32 0, .int .u32 0, .int .u32 0, .int .u32 0, .int .u32 0]
theorem isNum_sign (n : Bool) : IsNum (sign59 n) n (fun _ => 0) :=
  ⟨rfl, fun j hj => by have := isNum_zero.word j hj; rw [Nat.add_comm] at this ⊢; exact this, rfl, fun j _ => by decide⟩
theorem lies_sign (w : World) (n : Bool) {g : Nat} (e : w.heap.size = g) : Lies (w.alloc (.cells #[.bool n, .int .u32 0, .int .u32 0, .int .u32 0, .int .u32 0, .int .u32 0, .int .u32 0, .int .u32 0, .int .u32 0, .int .u32 0, .int .u32 0, .int .u32 0, .int .u32 0, .int .u32 0, .int .u32 0, .int .u32 0, .int .u32 0] 136)) g (sign59 n) n (fun _ => 0) :=
  ⟨heap_new _ _ e, isNum_sign n⟩

end Go.Proofs.YtoifjjgakblhhaaGreatDoor

/- Words and digits. No Go stands here. -/
namespace Go.Proofs.YtoifjjgakblhhaaGreatDoor

theorem base_pow (j : Nat) : BASE ^ j = 10 ^ (9 * j) := by
  rw [Nat.pow_mul]; rfl
theorem base_pos (j : Nat) : 0 < BASE ^ j := Nat.pow_pos (by decide)

theorem limb_N (f : Nat → Nat) (hf : Words f) (j : Nat) : ∀ n, j < n → n ≤ 16 → vN n f / BASE ^ j % BASE = f j := by
  intro n
  induction n with
  | zero => intro h; omega
  | succ n ih =>
    intro h hn
    by_cases e : j = n
    · subst e
      have := vN_lt f hf j (by omega)
      simp only [vN]
      rw [Nat.add_mul_div_right _ _ (base_pos j), Nat.div_eq_of_lt this, Nat.zero_add, Nat.mod_eq_of_lt (hf j (by omega))]
    · have hlt : j < n := by omega
      rw [← ih hlt (by omega)]
      simp only [vN]
      obtain ⟨d, rfl⟩ : ∃ d, n = j + 1 + d := ⟨n - (j + 1), by omega⟩
      have e : f (j + 1 + d) * BASE ^ (j + 1 + d) = (f (j + 1 + d) * BASE ^ d * BASE) * BASE ^ j := by
        rw [Nat.pow_add, Nat.pow_succ]
        generalize BASE ^ d = x
        generalize BASE ^ j = y
        ac_rfl
      rw [e, Nat.add_mul_div_right _ _ (base_pos j), Nat.add_mul_mod_self_right]

theorem limb_val (f : Nat → Nat) (hf : Words f) (j : Nat) (hj : j < 16) : f j = wval f / BASE ^ j % BASE := (limb_N f hf j 16 hj (Nat.le_refl _)).symm

theorem vN_updv (f : Nat → Nat) (j v : Nat) : ∀ n, j < n → vN n (upd f j v) + f j * BASE ^ j = vN n f + v * BASE ^ j := by
  intro n
  induction n with
  | zero => intro h; omega
  | succ n ih =>
    intro h
    by_cases e : j = n
    · subst e
      simp only [vN, upd_same, vN_upd _ _ _ _ (Nat.le_refl _)]; omega
    · have := ih (by omega)
      simp only [vN, upd_other f v (show n ≠ j by omega)]; omega
theorem wval_upd (f : Nat → Nat) (j v : Nat) (hj : j < 16) : wval (upd f j v) + f j * BASE ^ j = wval f + v * BASE ^ j := vN_updv f j v 16 hj

/-- A place with nothing but noughts at it and below has room for a digit. -/
theorem room (f : Nat → Nat) (hf : Words f) (M p : Nat) (hp : p < 144) (h : wval f = M * 10 ^ (p + 1)) : f (p / 9) + 9 * 10 ^ (p % 9) < BASE := by
  rw [limb_val f hf (p / 9) (by omega), base_pow, h]
  have e : 10 ^ (p + 1) = 10 ^ (p % 9 + 1) * 10 ^ (9 * (p / 9)) := by rw [← Nat.pow_add]; congr 1; omega
  rw [e, ← Nat.mul_assoc, Nat.mul_div_cancel _ (Nat.pow_pos (by omega))]
  obtain ⟨r, hr⟩ : ∃ r, r = p % 9 := ⟨_, rfl⟩
  rw [← hr]
  have hr9 : r ≤ 8 := by omega
  have eb : BASE = 10 ^ (r + 1) * 10 ^ (8 - r) := by rw [← Nat.pow_add, show r + 1 + (8 - r) = 9 by omega]; rfl
  rw [Nat.mul_comm M, eb, Nat.mul_mod_mul_left]
  have h1 : M % 10 ^ (8 - r) < 10 ^ (8 - r) := Nat.mod_lt _ (Nat.pow_pos (by omega))
  have h2 : 10 ^ (r + 1) * (M % 10 ^ (8 - r) + 1) ≤ 10 ^ (r + 1) * 10 ^ (8 - r) := Nat.mul_le_mul_left _ h1
  rw [Nat.mul_add, Nat.mul_one, Nat.pow_succ] at h2
  have h3 : 0 < 10 ^ r := Nat.pow_pos (by omega)
  rw [Nat.pow_succ]
  omega

/-- A digit laid at a place adds its worth. -/
theorem put_val (f : Nat → Nat) (p d : Nat) (hp : p < 144) : wval (upd f (p / 9) (f (p / 9) + d * 10 ^ (p % 9))) = wval f + d * 10 ^ p := by
  have := wval_upd f (p / 9) (f (p / 9) + d * 10 ^ (p % 9)) (by omega)
  have e : d * 10 ^ (p % 9) * BASE ^ (p / 9) = d * 10 ^ p := by
    rw [base_pow, Nat.mul_assoc, ← Nat.pow_add]; congr 2; omega
  rw [Nat.add_mul, e] at this
  omega

/-- The digit at a place. -/
theorem digit_val (f : Nat → Nat) (hf : Words f) (p : Nat) (hp : p < 144) : f (p / 9) / 10 ^ (p % 9) % 10 = wval f / 10 ^ p % 10 := by
  rw [limb_val f hf (p / 9) (by omega), base_pow]
  have e : 10 ^ p = 10 ^ (9 * (p / 9)) * 10 ^ (p % 9) := by rw [← Nat.pow_add]; congr 1; omega
  rw [e, ← Nat.div_div_eq_div_mul]
  generalize wval f / 10 ^ (9 * (p / 9)) = N
  obtain ⟨r, hr⟩ : ∃ r, r = p % 9 := ⟨_, rfl⟩
  rw [← hr]
  have eb : BASE = 10 ^ r * 10 ^ (9 - r) := by rw [← Nat.pow_add, show r + (9 - r) = 9 by omega]; rfl
  rw [eb, Nat.mod_mul_right_div_self]
  have e2 : 10 ^ (9 - r) = 10 * 10 ^ (8 - r) := by rw [Nat.mul_comm, ← Nat.pow_succ]; congr 1; omega
  rw [e2, Nat.mod_mul_right_mod]

end Go.Proofs.YtoifjjgakblhhaaGreatDoor

/- parse: a decimal as a number. -/
namespace Go.Proofs.YtoifjjgakblhhaaGreatDoor
open Go.RowKit

set_option maxHeartbeats 800000 in
theorem parseNo (s : ByteArray) (w : World) (hG : Gd w) (hs : s.size < 4294967281) (h : chk s.data.toList = false) :
    Calls Tryz.prog 151 #[.string s] w fun e w' => e = .returned (.tuple #[.agg zero59, .bool false]) ∧ Below w.heap.size w w' := by
  have hc : ∀ W, Gd W → Calls Tryz.prog 73 #[.string s] W fun e w' => e = .returned (.bool false) ∧ Below W.heap.size W w' := fun W hW => by
    have := checkAt s W hW hs
    rwa [h] at this
  have HC := Lib.hid hc
  clear hc h
  have l0 := lies_zero w rfl
  have g0 := hG.alloc (.cells #[.bool false, .int .u32 0, .int .u32 0, .int .u32 0, .int .u32 0, .int .u32 0, .int .u32 0, .int .u32 0, .int .u32 0, .int .u32 0, .int .u32 0, .int .u32 0, .int .u32 0, .int .u32 0, .int .u32 0, .int .u32 0, .int .u32 0] 136)
  have b0 := (Below.refl w.heap.size w).alloc (Nat.le_refl _) (.cells #[.bool false, .int .u32 0, .int .u32 0, .int .u32 0, .int .u32 0, .int .u32 0, .int .u32 0, .int .u32 0, .int .u32 0, .int .u32 0, .int .u32 0, .int .u32 0, .int .u32 0, .int .u32 0, .int .u32 0, .int .u32 0, .int .u32 0] 136)
  go_enter Tryz.func151, Tryz.ntmps151
  go_wp2_with (first
    | (go_at_call 73; (with_reducible refine (HC.out _ g0).mono ?_); rintro e w1 ⟨rfl, hb⟩; have l1 := l0.below hb; have b1 := below_any b0 hb (Nat.le_of_lt l0.lt))
    | ((with_reducible refine wpList_storeN (.tmp 2) (.tmp 14) w.heap.size (by assumption) isNum_zero ?_ ?_ ?_ ?_ ?_); rfl; rfl; rfl; rfl; intro w2 ho2 m2; have b2 := below_only b1 ho2 (Nat.le_refl _) (Nat.le_of_lt l1.lt)))
  exact bodyPost_ret (v := .tuple #[.agg zero59, .bool false]) (results_num_tmp (p := 2) (q := 3) Tryz.results151 _ (.bool false) rfl rfl m2) rfl ⟨rfl, b2⟩

theorem putStep (g : Nat) (c : Array Value) (n : Bool) (f : Nat → Nat) (M q x : Nat) (p d : Int) (w : World) (hl : Lies w g c n f) (hpq : p = q) (hp : q ≤ 143) (hd0 : d = 48 + x) (hd : x ≤ 9) (hv : wval f = M * 10 ^ (q + 1)) :
    Calls Tryz.prog 175 #[.pointer (some ⟨g, 0, none⟩), .int .i64 p, .int .u8 d] w fun e w' => e = .returned (.tuple #[]) ∧ Only g w w' ∧
      ∃ c' f', Lies w' g c' n f' ∧ wval f' = (M * 10 + x) * 10 ^ q := by
  subst hpq hd0
  have hx : ((48 : Int) + x - 48).toNat = x := by omega
  have e1 : ((q : Int) / 9).toNat = q / 9 := by omega
  have e2 : ((q : Int) % 9).toNat = q % 9 := by omega
  have hr := room f hl.num.lt M q (by omega) hv
  have hroom : (f ((q : Int) / 9).toNat : Int) + ((48 : Int) + x - 48) * ten ((q : Int) % 9).toNat < 1000000000 := by
    rw [e1, e2]
    unfold ten
    have h1 : x * 10 ^ (q % 9) ≤ 9 * 10 ^ (q % 9) := Nat.mul_le_mul_right _ (by omega)
    have h2 : ((48 : Int) + x - 48) * ((10 ^ (q % 9) : Nat) : Int) = ((x * 10 ^ (q % 9) : Nat) : Int) := by
      rw [Int.natCast_mul]; congr 1; omega
    rw [h2]
    unfold BASE at hr
    omega
  refine (putAt g c n f q _ w hl.heap hl.num (by omega) (by omega) (by omega) (by omega) hroom).mono ?_
  rintro e w' ⟨rfl, ho, c', hh, hn⟩
  refine ⟨rfl, ho, c', _, lies_mk hh hn, ?_⟩
  rw [e1, e2, hx]
  unfold ten
  rw [put_val f q _ (by omega), hv, Nat.add_mul, Nat.pow_succ]
  congr 1
  ac_rfl

theorem take_val (l : List UInt8) (k : Nat) (h : k < l.length) : valD (l.take (k + 1)) = valD (l.take k) * 10 + (l[k].toNat - 48) := by
  rw [List.take_succ_eq_append_getElem h, valD_append]
  simp [valD]
theorem byte_at (A : ByteArray) (k : Nat) (h : k < A.size) : A[k] = A.data.toList[k]'(by simpa using h) := by
  simp [ByteArray.getElem_eq_getElem_data]
theorem byte_dig (A : ByteArray) (hA : A.data.toList.all isDig = true) (k : Nat) (h : k < A.size) : 48 ≤ A[k].toNat ∧ A[k].toNat ≤ 57 := by
  rw [byte_at A k h]
  exact dig_le (List.all_eq_true.1 hA _ (List.getElem_mem _))

set_option maxHeartbeats 1600000 in
theorem parseYes (s A B : ByteArray) (n : Bool) (w : World) (hG : Gd w) (hs : s.size < 4294967281) (h : chk s.data.toList = true) (hsp : splitP s.data.toList = some (n, A.data.toList, B.data.toList))
    (hA : A.data.toList.all isDig = true) (hB : B.data.toList.all isDig = true) (lA : A.size ≤ 40) (lB : B.size ≤ 20) :
    Calls Tryz.prog 151 #[.string s] w fun e w' => ∃ c f, e = .returned (.tuple #[.agg c, .bool true]) ∧ IsNum c n f ∧ wval f = num54 A.data.toList B.data.toList ∧ Below w.heap.size w w' := by
  have hc : ∀ W, Gd W → Calls Tryz.prog 73 #[.string s] W fun e w' => e = .returned (.bool true) ∧ Below W.heap.size W w' := fun W hW => by
    have := checkAt s W hW hs
    rwa [h] at this
  have hc2 : ∀ W, Gd W → Calls Tryz.prog 147 #[.string s] W fun e w' => e = .returned (.tuple #[.bool n, .string A, .string B, .bool true]) ∧ Below W.heap.size W w' := fun W hW => by
    have := splitAt s W hW hs
    rw [hsp] at this
    exact this
  have HC := Lib.hid hc
  have HS := Lib.hid hc2
  clear hc h hc2 hsp
  have l0 := lies_zero w rfl
  have g0 := hG.alloc (.cells #[.bool false, .int .u32 0, .int .u32 0, .int .u32 0, .int .u32 0, .int .u32 0, .int .u32 0, .int .u32 0, .int .u32 0, .int .u32 0, .int .u32 0, .int .u32 0, .int .u32 0, .int .u32 0, .int .u32 0, .int .u32 0, .int .u32 0] 136)
  have b0 := (Below.refl w.heap.size w).alloc (Nat.le_refl _) (.cells #[.bool false, .int .u32 0, .int .u32 0, .int .u32 0, .int .u32 0, .int .u32 0, .int .u32 0, .int .u32 0, .int .u32 0, .int .u32 0, .int .u32 0, .int .u32 0, .int .u32 0, .int .u32 0, .int .u32 0, .int .u32 0, .int .u32 0] 136)
  go_enter Tryz.func151, Tryz.ntmps151
  go_wp2_with (first
    | (go_at_call 73; (with_reducible refine (HC.out _ g0).mono ?_); rintro e w1 ⟨rfl, hb⟩; have l1 := l0.below hb; have b1 := below_any b0 hb (Nat.le_of_lt l0.lt); have g1 := g0.below hb)
    | (go_at_call 147; (with_reducible refine (HS.out _ g1).mono ?_); rintro e w2 ⟨rfl, hb2⟩; have l2 := l1.below hb2; have b2 := below_any b1 hb2 (Nat.le_of_lt l1.lt)))
  have l3 := lies_sign w2 n rfl
  have k3 := l2.alloc (.cells #[.bool n, .int .u32 0, .int .u32 0, .int .u32 0, .int .u32 0, .int .u32 0, .int .u32 0, .int .u32 0, .int .u32 0, .int .u32 0, .int .u32 0, .int .u32 0, .int .u32 0, .int .u32 0, .int .u32 0, .int .u32 0, .int .u32 0] 136)
  have b3 := b2.alloc (Nat.le_of_lt l2.lt) (.cells #[.bool n, .int .u32 0, .int .u32 0, .int .u32 0, .int .u32 0, .int .u32 0, .int .u32 0, .int .u32 0, .int .u32 0, .int .u32 0, .int .u32 0, .int .u32 0, .int .u32 0, .int .u32 0, .int .u32 0, .int .u32 0, .int .u32 0] 136)
  have hne : w.heap.size ≠ w2.heap.size := Nat.ne_of_lt l2.lt
  have hle : w.heap.size ≤ w2.heap.size := Nat.le_of_lt l2.lt
  go_loopw [26] (fun i wr => ∃ (k : Nat) (c : Array Value) (f : Nat → Nat), k ≤ A.size ∧ i = .int .i64 k ∧ Lies wr w2.heap.size c n f ∧ Lies wr w.heap.size zero59 false (fun _ => 0) ∧ Below w.heap.size w wr ∧ wval f = valD (A.data.toList.take k) * 10 ^ (54 + A.size - k)) (fun i _ => A.size - (intOf i).toNat)
  case atStart =>
    exact ⟨0, _, _, Nat.zero_le _, rfl, l3, k3, b3, by simp [valD, wval, vN]⟩
  case round =>
    obtain ⟨k, c, f, hk, rfl, hl, hz, hbel, hv⟩ := hrel
    have HV := Lib.hid hv
    clear hv
    by_cases hlt : k < A.size
    · have hd := byte_dig A hA k hlt
      obtain ⟨x, hx⟩ : ∃ x, A[k].toNat = 48 + x := ⟨A[k].toNat - 48, by omega⟩
      have hx1 : (A[k].toNat : Int) = 48 + x := by omega
      have hx9 : x ≤ 9 := by omega
      have hd2 : (A[k].toNat : Int) ≤ 57 := by omega
      obtain ⟨q, hq⟩ : ∃ q, q = 54 + A.size - (k + 1) := ⟨_, rfl⟩
      have hq1 : q ≤ 143 := by omega
      have hnew : valD (A.data.toList.take (k + 1)) * 10 ^ (54 + A.size - (k + 1)) = (valD (A.data.toList.take k) * 10 + x) * 10 ^ q := by
        rw [take_val _ k (by simpa using hlt), ← hq, ← byte_at A k hlt]
        congr 2
        omega
      have hold : wval f = valD (A.data.toList.take k) * 10 ^ (q + 1) := by rw [HV.out]; congr 2; omega
      have HQ := Lib.hid hq
      have HN := Lib.hid hnew
      have HO := Lib.hid hold
      have HX := Lib.hid hx1
      clear hd hx hq hnew hold hx1
      go_wp2_with (go_at_call 175; (with_reducible refine (putStep _ _ _ _ (valD (A.data.toList.take k)) q x _ _ _ hl ?_ hq1 HX.out hx9 HO.out).mono ?_); (have := HQ.out; omega); rintro e w3 ⟨rfl, ho, c', f', hl', hv'⟩; have HV' := Lib.hid hv'; clear hv')
      go_roundw
      case rel => exact ⟨k + 1, c', f', by omega, by go_num, hl', hz.only ho hne, below_only hbel ho hle (Nat.le_of_lt hz.lt), by rw [HN.out]; exact HV'.out⟩
      case measure => simp [intOf]; omega
    · obtain rfl : k = A.size := by omega
      have hv0 : wval f = valD A.data.toList * 10 ^ 54 := by
        have := HV.out
        rw [List.take_of_length_le (by simp), show 54 + A.size - A.size = 54 by omega] at this
        exact this
      have HV0 := Lib.hid hv0
      clear hv0
      go_wp2_with fail
      obtain ⟨wo, rfl⟩ : ∃ wo : World, wo = wr := ⟨_, rfl⟩
      go_loopw [42] (fun i wr => ∃ (k : Nat) (c : Array Value) (f : Nat → Nat), k ≤ B.size ∧ i = .int .i64 k ∧ Lies wr w2.heap.size c n f ∧ Lies wr w.heap.size zero59 false (fun _ => 0) ∧ Below w.heap.size w wr ∧ wval f = (valD A.data.toList * 10 ^ k + valD (B.data.toList.take k)) * 10 ^ (54 - k)) (fun i _ => B.size - (intOf i).toNat)
      case atStart => exact ⟨0, c, f, Nat.zero_le _, rfl, hl, hz, hbel, by rw [HV0.out]; simp [valD]⟩
      case round =>
        clear hl hz hbel HV HV0
        obtain ⟨k, c, f, hk, rfl, hl, hz, hbel, hv⟩ := hrel
        have HV := Lib.hid hv
        clear hv
        by_cases hlt : k < B.size
        · have hd := byte_dig B hB k hlt
          obtain ⟨x, hx⟩ : ∃ x, B[k].toNat = 48 + x := ⟨B[k].toNat - 48, by omega⟩
          have hx1 : (B[k].toNat : Int) = 48 + x := by omega
          have hx9 : x ≤ 9 := by omega
          have hd2 : (B[k].toNat : Int) ≤ 57 := by omega
          obtain ⟨q, hq⟩ : ∃ q, q = 54 - (k + 1) := ⟨_, rfl⟩
          have hq1 : q ≤ 143 := by omega
          have hnew : (valD A.data.toList * 10 ^ (k + 1) + valD (B.data.toList.take (k + 1))) * 10 ^ (54 - (k + 1)) = ((valD A.data.toList * 10 ^ k + valD (B.data.toList.take k)) * 10 + x) * 10 ^ q := by
            rw [take_val _ k (by simpa using hlt), ← hq, ← byte_at B k hlt, Nat.pow_succ]
            congr 1
            have : B[k].toNat - 48 = x := by omega
            rw [this, Nat.add_mul, Nat.mul_assoc]
            omega
          have hold : wval f = (valD A.data.toList * 10 ^ k + valD (B.data.toList.take k)) * 10 ^ (q + 1) := by rw [HV.out]; congr 2; omega
          have HQ := Lib.hid hq
          have HN := Lib.hid hnew
          have HO := Lib.hid hold
          have HX := Lib.hid hx1
          clear hd hx hq hnew hold hx1
          go_wp2_with (go_at_call 175; (with_reducible refine (putStep _ _ _ _ (valD A.data.toList * 10 ^ k + valD (B.data.toList.take k)) q x _ _ _ hl ?_ hq1 HX.out hx9 HO.out).mono ?_); (have := HQ.out; omega); rintro e w3 ⟨rfl, ho, c', f', hl', hv'⟩; have HV' := Lib.hid hv'; clear hv')
          go_roundw
          case rel => exact ⟨k + 1, c', f', by omega, by go_num, hl', hz.only ho hne, below_only hbel ho hle (Nat.le_of_lt hz.lt), by rw [HN.out]; exact HV'.out⟩
          case measure => simp [intOf]; omega
        · obtain rfl : k = B.size := by omega
          have hv0 : wval f = num54 A.data.toList B.data.toList := by
            have := HV.out
            rw [List.take_of_length_le (by simp)] at this
            rw [this]
            unfold num54
            rw [Nat.add_mul, Nat.mul_assoc, ← Nat.pow_add]
            have e : B.data.toList.length = B.size := by simp
            rw [e]
            congr 3
            omega
          have HV0 := Lib.hid hv0
          clear hv0
          go_wp2_with (first
            | ((with_reducible refine wpList_loadN (.tmp 8) w2.heap.size (by assumption) ?_ ?_ ?_ ?_); rfl; rfl; rfl)
            | ((with_reducible refine wpList_storeN (.tmp 2) (.tmp 52) w.heap.size (by assumption) hl.num ?_ ?_ ?_ ?_ ?_); rfl; rfl; rfl; rfl; intro w5 ho5 m5; have b5 := below_only hbel ho5 (Nat.le_refl _) (Nat.le_of_lt hz.lt)))
          exact bodyPost_ret (v := .tuple #[.agg c, .bool true]) (results_num_tmp (p := 2) (q := 3) Tryz.results151 _ (.bool true) rfl rfl m5) rfl ⟨c, f, rfl, hl.num, HV0.out, b5⟩

end Go.Proofs.YtoifjjgakblhhaaGreatDoor

/- text: a number as a text. -/
namespace Go.Proofs.YtoifjjgakblhhaaGreatDoor
open Go.RowKit

theorem zero91 : (Tryz.prog.info? 202).map (fun i => (i.zero, i.size)) = some (some (.agg (Array.replicate 144 (.int .u8 0))), 144) := by kernel_rfl

theorem digsOf_get (N lo n j : Nat) (h : j < n) : (digsOf N lo n)[j]? = some (digAt N (lo + (n - 1 - j))) := by
  induction n generalizing j with
  | zero => omega
  | succ n ih =>
    cases j with
    | zero => simp [digsOf]
    | succ j => simp only [digsOf, List.getElem?_cons_succ]; rw [ih j (by omega)]; congr 3; omega

/-- The digits' cells, the highest digit first. -/
structure IsDigs (d : Array Value) (k N : Nat) : Prop where
  size : d.size = 144
  at_ : ∀ j, 144 - k ≤ j → j < 144 → d[j]? = some (.int .u8 ((digAt N (143 - j)).toNat : Int))

theorem IsDigs.step {d : Array Value} {k N : Nat} (h : IsDigs d k N) (hk : k < 144) : IsDigs (d.setIfInBounds (143 - k) (.int .u8 ((digAt N k).toNat : Int))) (k + 1) N := by
  refine ⟨by simp [h.size], fun j h1 h2 => ?_⟩
  by_cases e : j = 143 - k
  · subst e
    rw [Array.getElem?_setIfInBounds_self_of_lt (by rw [h.size]; omega)]
    rw [show 143 - (143 - k) = k by omega]
  · rw [Array.getElem?_setIfInBounds_ne (by omega)]
    exact h.at_ j (by omega) h2

theorem digitVal (c : Array Value) (n : Bool) (f : Nat → Nat) (k : Nat) (w : World) (hc : IsNum c n f) (hp : k < 144) (v : Int) (hv : Hid (v = (digAt (wval f) k).toNat)) :
    Calls Tryz.prog 185 #[.agg c, .int .i64 k] w fun e w' => e = .returned (.int .u8 v) ∧ Below w.heap.size w w' := by
  have := digitAt c n f k w hc (by omega) (by omega)
  refine this.mono ?_
  rintro e w' ⟨rfl, hb⟩
  refine ⟨?_, hb⟩
  rw [hv.out, digAt_toNat]
  unfold ten
  rw [Int.toNat_natCast, digit_val f hc.lt k hp]
  rfl

set_option maxHeartbeats 1600000 in
set_option maxRecDepth 20000 in
theorem textAt (c : Array Value) (n : Bool) (f : Nat → Nat) (w : World) (hc : IsNum c n f) :
    Calls Tryz.prog 180 #[.agg c] w fun e w' => e = .returned (said (wrN n (wval f))) ∧ Below w.heap.size w w' := by
  have hz := (zero_of_info zero91).1
  obtain ⟨t, e, hv0⟩ := said_form (wrN n (wval f))
  rw [hv0]
  have HV0 := Lib.hid hv0
  clear hv0
  have l1 : Lies ((w.alloc (.cells c 136)).alloc (.cells (Array.replicate 144 (.int .u8 0)) 202)) w.heap.size c n f := (lies_new w hc rfl).alloc _
  have h1 : ((w.alloc (.cells c 136)).alloc (.cells (Array.replicate 144 (.int .u8 0)) 202)).heap[w.heap.size + 1]? = some (.cells (Array.replicate 144 (.int .u8 0)) 202) := heap_new _ _ (by simp)
  have hb0 : Below w.heap.size w ((w.alloc (.cells c 136)).alloc (.cells (Array.replicate 144 (.int .u8 0)) 202)) := ((Below.refl _ _).alloc (Nat.le_refl _) _).alloc (by simp) _
  have H1 := Lib.hid h1
  clear h1
  go_enter Tryz.func180, Tryz.ntmps180
  go_wp2_with fail
  clear hz
  go_loopw [7] (fun i wr => ∃ (k : Nat) (d : Array Value), k ≤ 144 ∧ i = .int .i64 k ∧ Lies wr w.heap.size c n f ∧ wr.heap[w.heap.size + 1]? = some (.cells d 202) ∧ IsDigs d k (wval f) ∧ Below w.heap.size w wr) (fun i _ => 144 - (intOf i).toNat)
  case atStart => exact ⟨0, _, Nat.zero_le _, rfl, l1, H1.out, ⟨by simp, fun j a b => by omega⟩, hb0⟩
  case round =>
    clear l1 H1 hb0
    obtain ⟨k, d, hk, rfl, hl, hd, hds, hbel⟩ := hrel
    have HD := Lib.hid hd
    clear hd
    by_cases hlt : k < 144
    · obtain ⟨v, hv⟩ : ∃ v : Int, v = (digAt (wval f) k).toNat := ⟨_, rfl⟩
      have HV := Lib.hid hv
      clear hv
      have hsz := lt_of_heap HD.out
      obtain ⟨j, hj⟩ : ∃ j : Nat, (143 : Int) - k = j := ⟨143 - k, by omega⟩
      have hjk : j = 143 - k := by omega
      have hj1 : (j : Int) < 144 := by omega
      have HJ := Lib.hid hjk
      have hcc : ∃ u, wr.cell? ⟨w.heap.size + 1, j, none⟩ = some u := ⟨_, cell_of HD.out _ (Array.getElem?_eq_getElem (by rw [hds.size, hjk]; omega))⟩
      obtain ⟨u, hu⟩ := hcc
      clear hjk
      go_wp2_with (first
        | ((with_reducible refine wpList_loadN (.tmp 1) w.heap.size (by assumption) ?_ ?_ ?_ ?_); rfl; rfl; rfl)
        | (go_at_call 185; (with_reducible refine (digitVal c n f k _ hc hlt v HV).mono ?_); rintro e w1 ⟨rfl, hb1⟩; have hl1 := hl.below hb1; have hbel1 := below_any hbel hb1 (Nat.le_of_lt hl.lt); have hd1 := Lib.hid ((hb1.block (w.heap.size + 1) hsz).trans HD.out); have hu1 := (hb1.cell (p := ⟨w.heap.size + 1, j, none⟩) hsz).trans hu; have hf1 : w1.frozen? ⟨w.heap.size + 1, j, none⟩ = false := free_of hd1.out _))
      go_roundw
      case rel =>
        exact ⟨k + 1, _, by omega, by go_num, hl1.only ((Only.refl _ _).setCell _ _ _) (by omega), heap_set hd1.out _ _, by rw [HV.out, HJ.out]; exact hds.step hlt, below_only hbel1 ((Only.refl _ _).setCell _ _ _) (by omega) (Nat.le_of_lt hl1.lt)⟩
      case measure => simp [intOf]; omega
    · obtain rfl : k = 144 := by omega
      obtain ⟨N, hN⟩ : ∃ N, N = wval f := ⟨_, rfl⟩
      have hv := HV0.out
      rw [← hN] at hds hv
      obtain ⟨X, hX⟩ : ∃ X, X = bs (digsOf N 54 90) := ⟨_, rfl⟩
      obtain ⟨Y, hY⟩ : ∃ Y, Y = bs (digsOf N 0 54) := ⟨_, rfl⟩
      have hXs : X.size ≤ maxLen := by rw [hX]; unfold maxLen; simp [ByteArray.size, digsOf_len]
      have hYs : Y.size ≤ maxLen := by rw [hY]; unfold maxLen; simp [ByteArray.size, digsOf_len]
      have c1 : ∀ nq, (convert 40 9 (.slice (some ⟨w.heap.size + 1, 0, none⟩) 90 144)).run Tryz.prog (wr.drewN nq) = .ok (.string X) (wr.drewN nq) := by
        intro nq
        have := run_convert_bytes_back (P := Tryz.prog) (wr.drewN nq) 40 9 5 ⟨w.heap.size + 1, 0, none⟩ 144 (digsOf N 54 90) Tryz.underlying40 Tryz.underlying5 Tryz.underlying9 (fun j hj => by
          rw [digsOf_len] at hj
          rw [Addr.add_mid, Nat.zero_add]
          have h1 := hds.at_ j (by omega) (by omega)
          have h2 := digsOf_get N 54 90 j hj
          rw [List.getElem?_eq_getElem (by rw [digsOf_len]; exact hj)] at h2
          rw [Option.some.inj h2, show 54 + (90 - 1 - j) = 143 - j by omega]
          exact cell_of (show (wr.drewN nq).heap[w.heap.size + 1]? = some (.cells d 202) from HD.out) _ h1)
        rw [digsOf_len] at this
        rw [hX]
        exact this
      have c2 : ∀ nq, (convert 40 9 (.slice (some ⟨w.heap.size + 1, 90, none⟩) 54 54)).run Tryz.prog (wr.drewN nq) = .ok (.string Y) (wr.drewN nq) := by
        intro nq
        have := run_convert_bytes_back (P := Tryz.prog) (wr.drewN nq) 40 9 5 ⟨w.heap.size + 1, 90, none⟩ 54 (digsOf N 0 54) Tryz.underlying40 Tryz.underlying5 Tryz.underlying9 (fun j hj => by
          rw [digsOf_len] at hj
          rw [Addr.add_mid]
          have h1 := hds.at_ (90 + j) (by omega) (by omega)
          have h2 := digsOf_get N 0 54 j hj
          rw [List.getElem?_eq_getElem (by rw [digsOf_len]; exact hj)] at h2
          rw [Option.some.inj h2, show 0 + (54 - 1 - j) = 143 - (90 + j) by omega]
          exact cell_of (show (wr.drewN nq).heap[w.heap.size + 1]? = some (.cells d 202) from HD.out) _ h1)
        rw [digsOf_len] at this
        rw [hY]
        exact this
      have hw : ∀ W, Calls Tryz.prog 148 #[.bool n, .string X, .string Y] W fun r w' => r = .returned (.tuple #[.string t, .int .i64 e]) ∧ w' = W := fun W => by
        have h1 := writeAt n X Y W hXs hYs
        have h2 : Go.Proofs.YtoifjjgakblhhaaGreatDoor.wr n X.data.toList Y.data.toList = wrN n N := by rw [hX, hY]; rfl
        rw [h2, hv] at h1
        exact h1.mono fun _ _ ⟨a, b⟩ => ⟨a, b.symm⟩
      have HW := Lib.hid hw
      have hneg := hl.cell0
      clear hw hv hN hX hY
      go_wp2_with fail
      go_quiet ((go_at_call 148; exact Calls.quiet_of_same (HW.out _)))
      go_wp2
      go_ret2
      exact ⟨rfl, below_drewN hbel _⟩
end Go.Proofs.YtoifjjgakblhhaaGreatDoor

/- compareAmount: which of two amounts is the greater. -/
namespace Go.Proofs.YtoifjjgakblhhaaGreatDoor
open Go.RowKit

set_option maxHeartbeats 400000 in
theorem cmpAmt (c d : Array Value) (n m : Bool) (xs ys : Nat → Nat) (hc : IsNum c n xs) (hd : IsNum d m ys) (w : World) :
    Calls Tryz.prog 152 #[.agg c, .agg d] w fun e w' => e = .returned (.int .i64 (cmpI (wval xs) (wval ys))) ∧ Below w.heap.size w w' := by
  go_enter Tryz.func152, Tryz.ntmps152
  go_wp2
  go_loopw [5] (fun i wr => ∃ k : Int, -1 ≤ k ∧ k ≤ 15 ∧ i = .int .i64 k ∧ (∀ j : Nat, k < j → j < 16 → xs j = ys j) ∧ wr.heap[w.heap.size]? = some (.cells c 136) ∧ wr.heap[w.heap.size+1]? = some (.cells d 136) ∧ Below w.heap.size w wr) (fun i _ => (intOf i + 1).toNat)
  case atStart =>
    refine ⟨15, by omega, by omega, rfl, fun j a b => by omega, ?_, ?_, ?_⟩
    · rw [Below.heap_alloc _ _ _ (by simp)]; exact heap_new _ _ rfl
    · exact heap_new _ _ (by simp)
    · exact ((Below.refl _ _).alloc (Nat.le_refl _) _).alloc (by simp) _
  case round =>
    obtain ⟨k, hk1, hk2, rfl, heq, hb1, hb2, hbel⟩ := hrel
    have HE := Lib.hid heq
    clear heq
    have B1 := Lib.hid hb1
    have B2 := Lib.hid hb2
    clear hb1 hb2
    by_cases hk : 0 ≤ k
    · obtain ⟨k, rfl⟩ := Int.eq_ofNat_of_zero_le hk
      have hx : wr.cell? ⟨w.heap.size, 1 + k, none⟩ = some (.int .u32 (xs k)) := cell_of B1.out _ (hc.word k (by omega))
      have hy : wr.cell? ⟨w.heap.size + 1, 1 + k, none⟩ = some (.int .u32 (ys k)) := cell_of B2.out _ (hd.word k (by omega))
      have hkk : (k : Int) < 16 := by omega
      rcases Nat.lt_trichotomy (xs k) (ys k) with h | h | h
      · go_wp2
        go_quiet (fail)
        go_wp2
        go_ret
        refine ⟨?_, below_drewN hbel _⟩
        rw [cmpI_lt (wval_lt_of xs ys hc.lt k (by omega) (fun j a b => HE.out j (by omega) b) h)]; rfl
      · have HH := Lib.hid h
        clear h
        have h1 : decide (xs k < ys k) = false := by have := HH.out; simp; omega
        have h2 : decide (ys k < xs k) = false := by have := HH.out; simp; omega
        go_wp2
        go_quiet (fail)
        go_wp2
        go_quiet (fail)
        go_wp2
        go_roundw
        case rel => exact ⟨_, by omega, by omega, rfl, fun j a b => (if e : j = k then by rw [e]; exact HH.out else HE.out j (by omega) b), B1.out, B2.out, below_drewN hbel _⟩
        case measure => simp [intOf]
      · go_wp2
        go_quiet (fail)
        go_wp2
        go_quiet (fail)
        go_wp2
        go_ret
        refine ⟨?_, below_drewN (below_drewN hbel _) _⟩
        rw [cmpI_gt (wval_lt_of ys xs hd.lt k (by omega) (fun j a b => (HE.out j (by omega) b).symm) h)]; rfl
    · go_wp2
      go_ret
      refine ⟨?_, hbel⟩
      rw [cmpI_eq (wval_eq_of xs ys fun j hj => HE.out j (by omega) hj)]; rfl
end Go.Proofs.YtoifjjgakblhhaaGreatDoor
