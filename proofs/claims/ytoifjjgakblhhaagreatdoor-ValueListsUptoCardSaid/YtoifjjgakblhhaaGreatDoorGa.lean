/- Texts of one kind, one behind the other: each says ahead of itself what it shows. -/
import Derived.KernelRfl
import Derived.Lib.IndexMore
import Derived.Lib.TrimByte
/- Plain facts on numbers kept as rows of sixteen nine-digit words. No Go stands here. -/
namespace Go.Proofs.YtoifjjgakblhhaaGreatDoor

/-- One more than the greatest word. -/
def BASE : Nat := 1000000000
/-- What the lowest n words say. -/
def vN : Nat → (Nat → Nat) → Nat
  | 0, _ => 0
  | n + 1, f => vN n f + f n * BASE ^ n
/-- What sixteen words say. -/
def wval (f : Nat → Nat) : Nat := vN 16 f
/-- All words are words. -/
def Words (f : Nat → Nat) : Prop := ∀ j, j < 16 → f j < BASE
/-- f with v at k. -/
def upd (f : Nat → Nat) (k v : Nat) : Nat → Nat := fun j => if j = k then v else f j

theorem upd_same (f : Nat → Nat) (k v : Nat) : upd f k v k = v := by simp [upd]
theorem upd_other (f : Nat → Nat) {k j : Nat} (v : Nat) (h : j ≠ k) : upd f k v j = f j := by simp [upd, h]
theorem Words.upd {f : Nat → Nat} (h : Words f) {k v : Nat} (hv : v < BASE) : Words (upd f k v) := by
  intro j hj
  by_cases e : j = k
  · subst e; rw [upd_same]; exact hv
  · rw [upd_other _ _ e]; exact h j hj

theorem vN_congr (f g : Nat → Nat) (n : Nat) (h : ∀ j, j < n → f j = g j) : vN n f = vN n g := by
  induction n with
  | zero => rfl
  | succ n ih => simp only [vN]; rw [ih (fun j hj => h j (by omega)), h n (by omega)]

theorem vN_upd (f : Nat → Nat) (k v n : Nat) (h : n ≤ k) : vN n (upd f k v) = vN n f :=
  vN_congr _ _ _ fun j hj => upd_other _ _ (by omega)

theorem vN_lt (f : Nat → Nat) (h : Words f) (n : Nat) (hn : n ≤ 16) : vN n f < BASE ^ n := by
  induction n with
  | zero => simp [vN]
  | succ n ih =>
    have hj := h n (by omega)
    have ih := ih (by omega)
    have : f n * BASE ^ n + BASE ^ n ≤ BASE ^ (n + 1) := by
      have : (f n + 1) * BASE ^ n ≤ BASE * BASE ^ n := Nat.mul_le_mul_right _ hj
      rw [Nat.pow_succ, Nat.mul_comm (BASE ^ n)]
      rw [Nat.add_mul, Nat.one_mul] at this
      exact this
    simp only [vN]; omega

theorem wval_lt (f : Nat → Nat) (h : Words f) : wval f < BASE ^ 16 := vN_lt f h 16 (by omega)

theorem vN_le_of_lt (f g : Nat → Nat) (hx : Words f) (k : Nat) (hk : k ≤ 16) (h : f k < g k) : vN (k + 1) f < vN (k + 1) g := by
  have h1 := vN_lt f hx k hk
  have : f k * BASE ^ k + BASE ^ k ≤ g k * BASE ^ k := by
    have : (f k + 1) * BASE ^ k ≤ g k * BASE ^ k := Nat.mul_le_mul_right _ h
    rw [Nat.add_mul, Nat.one_mul] at this
    exact this
  simp only [vN]; omega

theorem vN_above (f g : Nat → Nat) (k n : Nat) (h : k ≤ n) (he : ∀ j, k ≤ j → j < n → f j = g j) :
    (vN n f : Int) - vN n g = (vN k f : Int) - vN k g := by
  induction n with
  | zero => obtain rfl : k = 0 := by omega
            rfl
  | succ n ih =>
    by_cases hk : k = n + 1
    · subst hk; rfl
    · have := ih (by omega) (fun j a b => he j a (by omega))
      have e := he n (by omega) (by omega)
      simp only [vN, e]; omega

theorem wval_lt_of (f g : Nat → Nat) (hx : Words f) (k : Nat) (hk : k < 16) (he : ∀ j, k < j → j < 16 → f j = g j)
    (h : f k < g k) : wval f < wval g := by
  have a := vN_above f g (k + 1) 16 (by omega) (fun j p q => he j (by omega) q)
  have b := vN_le_of_lt f g hx k (by omega) h
  unfold wval; omega

theorem wval_eq_of (f g : Nat → Nat) (he : ∀ j, j < 16 → f j = g j) : wval f = wval g := vN_congr _ _ _ he

/-- -1, 0 or 1. -/
def cmpI (a b : Nat) : Int := if a < b then -1 else if b < a then 1 else 0
theorem cmpI_lt {a b : Nat} (h : a < b) : cmpI a b = -1 := by simp [cmpI, h]
theorem cmpI_gt {a b : Nat} (h : b < a) : cmpI a b = 1 := by simp [cmpI, h]; omega
theorem cmpI_eq {a b : Nat} (h : a = b) : cmpI a b = 0 := by simp [cmpI, h]

/-- After k rounds of adding g to f: h so far, c over. -/
structure AddTo (f g h : Nat → Nat) (c k : Nat) : Prop where
  sum : vN k h + c * BASE ^ k = vN k f + vN k g
  rest : ∀ j, k ≤ j → h j = f j
  words : Words h
  one : c ≤ 1

theorem AddTo.zero {f g : Nat → Nat} (hf : Words f) : AddTo f g f 0 0 := ⟨by simp [vN], fun _ _ => rfl, hf, by omega⟩
theorem AddTo.step {f g h : Nat → Nat} {c k : Nat} (H : AddTo f g h c k) (hf : Words f) (hg : Words g) (hk : k < 16) :
    AddTo f g (upd h k ((h k + g k + c) % BASE)) ((h k + g k + c) / BASE) (k + 1) := by
  have e := H.rest k (Nat.le_refl _)
  have h1 := hf k hk
  have h2 := hg k hk
  have h3 := H.one
  refine ⟨?_, ?_, H.words.upd (Nat.mod_lt _ (by decide)), ?_⟩
  · simp only [vN, upd_same, vN_upd _ _ _ _ (Nat.le_refl _)]
    have d := Nat.div_add_mod (h k + g k + c) BASE
    have s := H.sum
    generalize (h k + g k + c) / BASE = q at *
    generalize (h k + g k + c) % BASE = r at *
    rw [← e, Nat.pow_succ]
    have : q * (BASE ^ k * BASE) = BASE * q * BASE ^ k := by rw [Nat.mul_comm (BASE ^ k), ← Nat.mul_assoc, Nat.mul_comm q]
    rw [this]
    have d2 : (BASE * q + r) * BASE ^ k = (h k + g k + c) * BASE ^ k := by rw [d]
    simp only [Nat.add_mul] at d2 ⊢
    omega
  · intro j hj
    rw [upd_other _ _ (by omega)]
    exact H.rest j (by omega)
  · unfold BASE at *; omega

/-- After k rounds of taking g away from f: h so far, c borrowed. -/
structure TakeFrom (f g h : Nat → Nat) (c k : Nat) : Prop where
  sum : vN k h + vN k g = vN k f + c * BASE ^ k
  rest : ∀ j, k ≤ j → h j = f j
  words : Words h
  one : c ≤ 1

theorem TakeFrom.zero {f g : Nat → Nat} (hf : Words f) : TakeFrom f g f 0 0 := ⟨by simp [vN], fun _ _ => rfl, hf, by omega⟩
theorem TakeFrom.step {f g h : Nat → Nat} {c k : Nat} (H : TakeFrom f g h c k) (hf : Words f) (hg : Words g) (hk : k < 16) :
    TakeFrom f g (upd h k ((BASE + h k - g k - c) % BASE)) (1 - (BASE + h k - g k - c) / BASE) (k + 1) := by
  have e := H.rest k (Nat.le_refl _)
  have h1 := hf k hk
  have h2 := hg k hk
  have h3 := H.one
  refine ⟨?_, ?_, H.words.upd (Nat.mod_lt _ (by decide)), Nat.sub_le _ _⟩
  · simp only [vN, upd_same, vN_upd _ _ _ _ (Nat.le_refl _)]
    have s := H.sum
    have d : (BASE + h k - g k - c) % BASE + g k + c = h k + (1 - (BASE + h k - g k - c) / BASE) * BASE := by
      rw [e]
      unfold BASE at *
      by_cases hh : f k < g k + c
      · have : (1000000000 + f k - g k - c) / 1000000000 = 0 := by omega
        rw [this]; omega
      · have : (1000000000 + f k - g k - c) / 1000000000 = 1 := by omega
        rw [this]; omega
    generalize 1 - (BASE + h k - g k - c) / BASE = q at *
    generalize (BASE + h k - g k - c) % BASE = r at *
    rw [← e, Nat.pow_succ]
    have : q * (BASE ^ k * BASE) = q * BASE * BASE ^ k := by rw [Nat.mul_comm (BASE ^ k), ← Nat.mul_assoc]
    rw [this]
    have d2 : (r + g k + c) * BASE ^ k = (h k + q * BASE) * BASE ^ k := by rw [d]
    simp only [Nat.add_mul] at d2 ⊢
    omega
  · intro j hj
    rw [upd_other _ _ (by omega)]
    exact H.rest j (by omega)

/-- After k rounds of pushing digit d below f: h so far, c over. -/
structure PushTo (f : Nat → Nat) (d : Nat) (h : Nat → Nat) (c k : Nat) : Prop where
  sum : vN k h + c * BASE ^ k = vN k f * 10 + d
  rest : ∀ j, k ≤ j → h j = f j
  words : Words h
  one : c ≤ 9
theorem PushTo.zero {f : Nat → Nat} (hf : Words f) {d : Nat} (hd : d ≤ 9) : PushTo f d f d 0 := ⟨by simp [vN], fun _ _ => rfl, hf, by omega⟩
theorem PushTo.step {f h : Nat → Nat} {d c k : Nat} (H : PushTo f d h c k) (hf : Words f) (hk : k < 16) :
    PushTo f d (upd h k ((h k * 10 + c) % BASE)) ((h k * 10 + c) / BASE) (k + 1) := by
  have e := H.rest k (Nat.le_refl _)
  have h1 := hf k hk
  have h3 := H.one
  refine ⟨?_, ?_, H.words.upd (Nat.mod_lt _ (by decide)), ?_⟩
  · simp only [vN, upd_same, vN_upd _ _ _ _ (Nat.le_refl _)]
    have dd := Nat.div_add_mod (h k * 10 + c) BASE
    have s := H.sum
    generalize (h k * 10 + c) / BASE = q at *
    generalize (h k * 10 + c) % BASE = r at *
    rw [← e, Nat.pow_succ]
    have : q * (BASE ^ k * BASE) = BASE * q * BASE ^ k := by rw [Nat.mul_comm (BASE ^ k), ← Nat.mul_assoc, Nat.mul_comm q]
    rw [this]
    have d2 : (BASE * q + r) * BASE ^ k = (h k * 10 + c) * BASE ^ k := by rw [dd]
    have d3 : h k * BASE ^ k * 10 = h k * 10 * BASE ^ k := by rw [Nat.mul_right_comm]
    simp only [Nat.add_mul] at d2 ⊢
    omega
  · intro j hj
    rw [upd_other _ _ (by omega)]
    exact H.rest j (by omega)
  · rw [e]; unfold BASE at *; omega

end Go.Proofs.YtoifjjgakblhhaaGreatDoor

/- The specification of texts of decimals: plain functions on bytes. No Go stands here. -/
namespace Go.Proofs.YtoifjjgakblhhaaGreatDoor

/-- A digit's sign. -/
def isDig (c : UInt8) : Bool := 48 ≤ c && c ≤ 57
/-- Digits, one at least. -/
def digs (l : List UInt8) : Bool := !l.isEmpty && l.all isDig
/-- Nothing is said as 0. -/
def orN (l : List UInt8) : List UInt8 := if l.isEmpty then [48] else l
/-- The text of a sign and digits, if it may be. -/
def wr (neg : Bool) (a b : List UInt8) : Option (List UInt8) :=
  let x := Lib.trimLeftB a 48
  let y := Lib.trimRightB b 48
  if 40 < x.length ∨ 20 < y.length then none
  else some ((if neg && !(x ++ y).isEmpty then [45] else []) ++ (orN x ++ 46 :: orN y))
/-- The sign ahead, and what is behind it. -/
def sgn : List UInt8 → Bool × List UInt8
  | [] => (false, [])
  | c :: r => if c = 45 then (true, r) else if c = 43 then (false, r) else (false, c :: r)
/-- Sign, digits ahead of the point, digits behind it. -/
def splitP (l : List UInt8) : Option (Bool × List UInt8 × List UInt8) :=
  let c := Lib.cut (sgn l).2 [46]
  if digs c.1 && (!c.2.2 || digs c.2.1) then some ((sgn l).1, c.1, c.2.1) else none
/-- Read: the text, or none for what has no form; some none for what is too long. -/
def readP (l : List UInt8) : Option (Option (List UInt8)) := (splitP l).map fun x => wr x.1 x.2.1 x.2.2
/-- A decimal. -/
def chk (l : List UInt8) : Bool := readP l == some (some l)

theorem isDig_iff (c : UInt8) : isDig c = true ↔ 48 ≤ (c.toNat : Int) ∧ (c.toNat : Int) ≤ 57 := by
  unfold isDig
  rw [Bool.and_eq_true, decide_eq_true_iff, decide_eq_true_iff, UInt8.le_iff_toNat_le, UInt8.le_iff_toNat_le]
  show 48 ≤ c.toNat ∧ c.toNat ≤ 57 ↔ _
  omega

end Go.Proofs.YtoifjjgakblhhaaGreatDoor

/- Digits and what they say; the two ways round between numbers and their texts. No Go stands here. -/
namespace Go.Proofs.YtoifjjgakblhhaaGreatDoor

/-- What digits say. -/
def valD : List UInt8 → Nat
  | [] => 0
  | c :: r => (c.toNat - 48) * 10 ^ r.length + valD r

theorem valD_append (l r : List UInt8) : valD (l ++ r) = valD l * 10 ^ r.length + valD r := by
  induction l with
  | nil => simp [valD]
  | cons c l ih =>
    simp only [List.cons_append, valD, ih, List.length_append, Nat.pow_add, Nat.add_mul]
    rw [← Nat.mul_assoc]; omega

theorem dig_le {c : UInt8} (h : isDig c = true) : 48 ≤ c.toNat ∧ c.toNat ≤ 57 := by
  have := (isDig_iff c).1 h; omega

theorem valD_lt (l : List UInt8) (h : l.all isDig = true) : valD l < 10 ^ l.length := by
  induction l with
  | nil => simp [valD]
  | cons c l ih =>
    simp only [List.all_cons, Bool.and_eq_true] at h
    have := dig_le h.1
    have ih := ih h.2
    have : (c.toNat - 48) * 10 ^ l.length ≤ 9 * 10 ^ l.length := Nat.mul_le_mul_right _ (by omega)
    simp only [valD, List.length_cons, Nat.pow_succ]
    omega

theorem eq_of_val : ∀ (a b : List UInt8), a.all isDig = true → b.all isDig = true → a.length = b.length → valD a = valD b → a = b
  | [], [], _, _, _, _ => rfl
  | [], _ :: _, _, _, h, _ => by simp at h
  | _ :: _, [], _, _, h, _ => by simp at h
  | c :: a, d :: b, ha, hb, hl, hv => by
    simp only [List.all_cons, Bool.and_eq_true] at ha hb
    have hl' : a.length = b.length := by simpa using hl
    have l1 := valD_lt a ha.2
    have l2 := valD_lt b hb.2
    have c1 := dig_le ha.1
    have c2 := dig_le hb.1
    simp only [valD] at hv
    rw [← hl'] at hv l2
    have key : c.toNat - 48 = d.toNat - 48 ∧ valD a = valD b := by
      generalize c.toNat - 48 = p at *
      generalize d.toNat - 48 = q at *
      generalize 10 ^ a.length = B at *
      rcases Nat.lt_trichotomy p q with h | h | h
      · have : (p + 1) * B ≤ q * B := Nat.mul_le_mul_right _ h
        rw [Nat.add_mul, Nat.one_mul] at this
        omega
      · subst h; exact ⟨rfl, by omega⟩
      · have : (q + 1) * B ≤ p * B := Nat.mul_le_mul_right _ h
        rw [Nat.add_mul, Nat.one_mul] at this
        omega
    have : c = d := UInt8.toNat_inj.1 (by omega)
    rw [this, eq_of_val a b ha.2 hb.2 hl' key.2]

/-- The digit of N at place p. -/
def digAt (N p : Nat) : UInt8 := UInt8.ofNat (48 + N / 10 ^ p % 10)
/-- The n digits of N from place lo on, the highest first. -/
def digsOf (N lo : Nat) : Nat → List UInt8
  | 0 => []
  | n + 1 => digAt N (lo + n) :: digsOf N lo n

theorem digAt_toNat (N p : Nat) : (digAt N p).toNat = 48 + N / 10 ^ p % 10 := by
  unfold digAt
  have : N / 10 ^ p % 10 < 10 := Nat.mod_lt _ (by omega)
  rw [UInt8.toNat_ofNat']
  omega
theorem digAt_dig (N p : Nat) : isDig (digAt N p) = true := by
  rw [isDig_iff, digAt_toNat]
  have : N / 10 ^ p % 10 < 10 := Nat.mod_lt _ (by omega)
  omega
theorem digsOf_len (N lo n : Nat) : (digsOf N lo n).length = n := by
  induction n with
  | zero => rfl
  | succ n ih => simp [digsOf, ih]
theorem digsOf_dig (N lo n : Nat) : (digsOf N lo n).all isDig = true := by
  induction n with
  | zero => rfl
  | succ n ih => simp [digsOf, ih, digAt_dig]
theorem digsOf_val (N lo n : Nat) : valD (digsOf N lo n) = N / 10 ^ lo % 10 ^ n := by
  induction n with
  | zero => simp [digsOf, valD, Nat.mod_one]
  | succ n ih =>
    simp only [digsOf, valD, ih, digsOf_len, digAt_toNat]
    rw [Nat.pow_add, ← Nat.div_div_eq_div_mul, Nat.add_sub_cancel_left, Nat.pow_succ]
    generalize N / 10 ^ lo = M
    rw [Nat.mod_mul, Nat.mul_comm (M / 10 ^ n % 10)]
    omega

theorem rep_dig (k : Nat) : (List.replicate k (48 : UInt8)).all isDig = true := by
  induction k with
  | zero => rfl
  | succ k ih => rw [List.replicate_succ, List.all_cons, ih]; rfl
theorem rep_val (k : Nat) : valD (List.replicate k (48 : UInt8)) = 0 := by
  induction k with
  | zero => rfl
  | succ k ih => rw [List.replicate_succ]; simp [valD, ih]

theorem trimL_rep (k : Nat) (l : List UInt8) : Lib.trimLeftB (List.replicate k 48 ++ l) 48 = Lib.trimLeftB l 48 := by
  unfold Lib.trimLeftB
  induction k with
  | zero => simp
  | succ k ih => rw [List.replicate_succ, List.cons_append, List.dropWhile_cons, if_pos (by simp)]; exact ih
theorem trimR_rep (k : Nat) (l : List UInt8) : Lib.trimRightB (l ++ List.replicate k 48) 48 = Lib.trimRightB l 48 := by
  have := trimL_rep k l.reverse
  unfold Lib.trimLeftB at this
  unfold Lib.trimRightB
  rw [List.reverse_append, List.reverse_replicate, this]

/-- The text of N scaled by 10 ^ 54. -/
def wrN (neg : Bool) (N : Nat) : Option (List UInt8) := wr neg (digsOf N 54 90) (digsOf N 0 54)

theorem trimL_val (a b : List UInt8) (ha : a.all isDig = true) (hb : b.all isDig = true) (hv : valD a = valD b) : Lib.trimLeftB a 48 = Lib.trimLeftB b 48 := by
  rcases Nat.le_total a.length b.length with h | h
  · rw [← trimL_rep (b.length - a.length) a]
    congr 1
    exact eq_of_val _ _ (by rw [List.all_append, rep_dig, ha]; rfl) hb (by simp; omega) (by rw [valD_append, rep_val]; omega)
  · rw [← trimL_rep (a.length - b.length) b]
    congr 1
    exact eq_of_val _ _ ha (by rw [List.all_append, rep_dig, hb]; rfl) (by simp; omega) (by rw [valD_append, rep_val]; omega)
theorem trimR_val (a b : List UInt8) (ha : a.all isDig = true) (hb : b.all isDig = true) (n : Nat) (la : a.length ≤ n) (lb : b.length ≤ n) (hv : valD a * 10 ^ (n - a.length) = valD b * 10 ^ (n - b.length)) : Lib.trimRightB a 48 = Lib.trimRightB b 48 := by
  rw [← trimR_rep (n - a.length) a, ← trimR_rep (n - b.length) b]
  congr 1
  exact eq_of_val _ _ (by rw [List.all_append, rep_dig, ha]; rfl) (by rw [List.all_append, rep_dig, hb]; rfl) (by simp; omega) (by rw [valD_append, valD_append, rep_val, rep_val, List.length_replicate, List.length_replicate]; omega)

theorem wr_congr (neg : Bool) {a a' b b' : List UInt8} (h : Lib.trimLeftB a 48 = Lib.trimLeftB a' 48) (k : Lib.trimRightB b 48 = Lib.trimRightB b' 48) : wr neg a b = wr neg a' b' := by
  unfold wr; rw [h, k]

/-- Digits, however many noughts are needless, are written as their number is. -/
theorem wr_wrN (neg : Bool) (a b : List UInt8) (ha : a.all isDig = true) (hb : b.all isDig = true) (hv : valD a < 10 ^ 90) (lb : b.length ≤ 54) :
    wr neg a b = wrN neg (valD a * 10 ^ 54 + valD b * 10 ^ (54 - b.length)) := by
  have hlt : valD b * 10 ^ (54 - b.length) < 10 ^ 54 := by
    have h1 := valD_lt b hb
    have h2 : 10 ^ b.length * 10 ^ (54 - b.length) = 10 ^ 54 := by rw [← Nat.pow_add]; congr 1; omega
    have h3 : valD b * 10 ^ (54 - b.length) < 10 ^ b.length * 10 ^ (54 - b.length) := Nat.mul_lt_mul_of_pos_right h1 (Nat.pow_pos (by omega))
    omega
  unfold wrN
  refine wr_congr neg (trimL_val _ _ ha (digsOf_dig _ _ _) ?_) (trimR_val _ _ hb (digsOf_dig _ _ _) 54 lb (by rw [digsOf_len]; omega) ?_)
  · rw [digsOf_val, Nat.mul_comm, Nat.mul_add_div (Nat.pow_pos (by omega)), Nat.div_eq_of_lt hlt, Nat.add_zero, Nat.mod_eq_of_lt hv]
  · rw [digsOf_val, digsOf_len, Nat.sub_self, Nat.pow_zero, Nat.mul_one, Nat.div_one, Nat.add_comm, Nat.add_mul_mod_self_right, Nat.mod_eq_of_lt hlt]

end Go.Proofs.YtoifjjgakblhhaaGreatDoor

/- Texts that are decimals: the way back. No Go stands here. -/
namespace Go.Proofs.YtoifjjgakblhhaaGreatDoor

theorem cut_nil : Lib.cut [] [46] = ([], [], false) := by simp [Lib.cut, Lib.index]
theorem cut_hit (r : List UInt8) : Lib.cut (46 :: r) [46] = ([], r, true) := by simp [Lib.cut, Lib.index]
theorem cut_step (c : UInt8) (r : List UInt8) (h : c ≠ 46) : Lib.cut (c :: r) [46] = (c :: (Lib.cut r [46]).1, (Lib.cut r [46]).2.1, (Lib.cut r [46]).2.2) := by
  have hp : [46].isPrefixOf (c :: r) = false := by simp [List.isPrefixOf, beq_eq_false_iff_ne.2 (fun e : (46 : UInt8) = c => h e.symm)]
  have hge := Lib.index_ge r [46]
  unfold Lib.cut
  rw [Lib.index, hp]
  by_cases h0 : 0 ≤ Lib.index r [46]
  · have e1 : (Lib.index r [46] == -1) = false := by simp; omega
    simp only [Bool.false_eq_true, if_false, e1]
    rw [if_pos h0, if_pos (by omega)]
    have e2 : (Lib.index r [46] + 1).toNat = (Lib.index r [46]).toNat + 1 := by omega
    rw [e2]
    simp
  · have e1 : Lib.index r [46] = -1 := by omega
    rw [e1]
    simp
theorem cut_dig (d e : List UInt8) (h : d.all isDig = true) : Lib.cut (d ++ 46 :: e) [46] = (d, e, true) := by
  induction d with
  | nil => exact cut_hit e
  | cons c d ih =>
    simp only [List.all_cons, Bool.and_eq_true] at h
    rw [List.cons_append, cut_step _ _ (by rintro rfl; exact absurd h.1 (by decide)), ih h.2]

theorem digs_of {l : List UInt8} (h : l.all isDig = true) (hne : l ≠ []) : digs l = true := by
  unfold digs; rw [h]; cases l with
  | nil => exact absurd rfl hne
  | cons _ _ => rfl

theorem sgn_dig {x r : List UInt8} (h : x.all isDig = true) (hne : x ≠ []) : sgn (x ++ r) = (false, x ++ r) := by
  cases x with
  | nil => exact absurd rfl hne
  | cons c x =>
    simp only [List.all_cons, Bool.and_eq_true] at h
    have h45 : c ≠ 45 := by rintro rfl; exact absurd h.1 (by decide)
    have h43 : c ≠ 43 := by rintro rfl; exact absurd h.1 (by decide)
    simp [sgn, h45, h43]

/-- A text of a sign, digits, a point and digits is split so. -/
theorem splitP_canon (n : Bool) (x y : List UInt8) (hx : x.all isDig = true) (hx0 : x ≠ []) (hy : y.all isDig = true) (hy0 : y ≠ []) :
    splitP ((if n then [45] else []) ++ (x ++ 46 :: y)) = some (n, x, y) := by
  have e : sgn ((if n then [45] else []) ++ (x ++ 46 :: y)) = (n, x ++ 46 :: y) := by
    cases n
    · show sgn ([] ++ (x ++ 46 :: y)) = _
      rw [List.nil_append]
      exact sgn_dig hx hx0
    · simp [sgn]
  unfold splitP
  rw [e]
  simp only [cut_dig x y hx, digs_of hx hx0, digs_of hy hy0]
  rfl

theorem orN_dig {x : List UInt8} (h : x.all isDig = true) : (orN x).all isDig = true := by
  unfold orN; split
  · rfl
  · exact h
theorem orN_ne (x : List UInt8) : orN x ≠ [] := by
  unfold orN; cases x <;> simp
theorem orN_len {x : List UInt8} {n : Nat} (h : x.length ≤ n) (hn : 1 ≤ n) : (orN x).length ≤ n := by
  unfold orN; split
  · simpa using hn
  · exact h
theorem orN_val (x : List UInt8) : valD (orN x) = valD x := by
  cases x <;> simp [orN, valD]

theorem trimL_split (l : List UInt8) : ∃ k, l = List.replicate k 48 ++ Lib.trimLeftB l 48 := by
  unfold Lib.trimLeftB
  induction l with
  | nil => exact ⟨0, rfl⟩
  | cons c l ih =>
    by_cases h : c = 48
    · obtain ⟨k, hk⟩ := ih
      refine ⟨k + 1, ?_⟩
      rw [List.dropWhile_cons, if_pos (by simp [h]), List.replicate_succ, List.cons_append, ← hk, h]
    · exact ⟨0, by rw [List.dropWhile_cons, if_neg (by simp [h])]; rfl⟩
theorem trimR_split (l : List UInt8) : ∃ k, l = Lib.trimRightB l 48 ++ List.replicate k 48 := by
  obtain ⟨k, hk⟩ := trimL_split l.reverse
  refine ⟨k, ?_⟩
  unfold Lib.trimLeftB at hk
  unfold Lib.trimRightB
  have := congrArg List.reverse hk
  rw [List.reverse_reverse, List.reverse_append, List.reverse_replicate] at this
  exact this

theorem trimL_dig {l : List UInt8} (h : l.all isDig = true) : (Lib.trimLeftB l 48).all isDig = true := by
  obtain ⟨k, hk⟩ := trimL_split l
  rw [hk, List.all_append, Bool.and_eq_true] at h
  exact h.2
theorem trimR_dig {l : List UInt8} (h : l.all isDig = true) : (Lib.trimRightB l 48).all isDig = true := by
  obtain ⟨k, hk⟩ := trimR_split l
  rw [hk, List.all_append, Bool.and_eq_true] at h
  exact h.1
theorem trimL_same (l : List UInt8) : valD (Lib.trimLeftB l 48) = valD l := by
  obtain ⟨k, hk⟩ := trimL_split l
  have := congrArg valD hk
  rw [valD_append, rep_val] at this
  omega
theorem trimR_same (l : List UInt8) {n : Nat} (h : l.length ≤ n) : valD (Lib.trimRightB l 48) * 10 ^ (n - (Lib.trimRightB l 48).length) = valD l * 10 ^ (n - l.length) := by
  obtain ⟨k, hk⟩ := trimR_split l
  generalize Lib.trimRightB l 48 = t at *
  subst hk
  rw [valD_append, rep_val, List.length_append, List.length_replicate, Nat.add_zero, Nat.mul_assoc, ← Nat.pow_add]
  simp only [List.length_append, List.length_replicate] at h
  congr 2
  omega
theorem trimL_idem (l : List UInt8) : Lib.trimLeftB (orN (Lib.trimLeftB l 48)) 48 = Lib.trimLeftB l 48 := by
  obtain ⟨k, hk⟩ := trimL_split l
  have e : Lib.trimLeftB l 48 = Lib.trimLeftB (Lib.trimLeftB l 48) 48 := by
    have := congrArg (Lib.trimLeftB · 48) hk
    simp only [trimL_rep] at this
    exact this
  unfold orN
  split
  · rename_i h
    have : Lib.trimLeftB l 48 = [] := by simpa using h
    rw [this]; rfl
  · exact e.symm
theorem trimR_idem (l : List UInt8) : Lib.trimRightB (orN (Lib.trimRightB l 48)) 48 = Lib.trimRightB l 48 := by
  obtain ⟨k, hk⟩ := trimR_split l
  have e : Lib.trimRightB l 48 = Lib.trimRightB (Lib.trimRightB l 48) 48 := by
    have := congrArg (Lib.trimRightB · 48) hk
    simp only [trimR_rep] at this
    exact this
  unfold orN
  split
  · rename_i h
    have : Lib.trimRightB l 48 = [] := by simpa using h
    rw [this]; rfl
  · exact e.symm

theorem head_trim (l : List UInt8) : ∀ c r, Lib.trimLeftB l 48 = c :: r → c ≠ 48 := by
  intro c r h e
  have := List.head?_dropWhile_not (fun x : UInt8 => x == 48) l
  unfold Lib.trimLeftB at h
  rw [h, e] at this
  simp at this
theorem trimL_nil {l : List UInt8} (hd : l.all isDig = true) : Lib.trimLeftB l 48 = [] ↔ valD l = 0 := by
  constructor
  · intro h; rw [← trimL_same, h]; rfl
  · intro h
    cases e : Lib.trimLeftB l 48 with
    | nil => rfl
    | cons c r =>
      have hc := head_trim l c r e
      have hdd := trimL_dig hd
      rw [e, List.all_cons, Bool.and_eq_true] at hdd
      have := dig_le hdd.1
      have h2 := trimL_same l
      rw [e, h] at h2
      simp only [valD] at h2
      have hne : c.toNat ≠ 48 := fun h => hc (UInt8.toNat_inj.1 h)
      have : 0 < (c.toNat - 48) * 10 ^ r.length := Nat.mul_pos (by omega) (Nat.pow_pos (by omega))
      omega
theorem trimR_nil {l : List UInt8} (hd : l.all isDig = true) : Lib.trimRightB l 48 = [] ↔ valD l = 0 := by
  constructor
  · intro h
    have := trimR_same l (Nat.le_refl _)
    rw [h] at this
    simpa [valD] using this.symm
  · intro h
    obtain ⟨k, hk⟩ := trimR_split l
    have : l = List.replicate l.length 48 := eq_of_val _ _ hd (rep_dig _) (by simp) (by rw [h, rep_val])
    rw [this]
    have e := trimR_rep l.length []
    rw [List.nil_append] at e
    rw [e]; rfl

/-- What was written is split, and read, as what it was. -/
theorem wr_back (neg : Bool) (a b t : List UInt8) (ha : a.all isDig = true) (hb : b.all isDig = true) (h : wr neg a b = some t) :
    ∃ x y, splitP t = some (neg && !(decide (valD a = 0) && decide (valD b = 0)), x, y) ∧ x.all isDig = true ∧ y.all isDig = true ∧ x.length ≤ 40 ∧ y.length ≤ 20 ∧ valD x = valD a ∧
      (∀ n, b.length ≤ n → 20 ≤ n → valD y * 10 ^ (n - y.length) = valD b * 10 ^ (n - b.length)) ∧ chk t = true := by
  have hiff : (Lib.trimLeftB a 48 ++ Lib.trimRightB b 48).isEmpty = (decide (valD a = 0) && decide (valD b = 0)) := by
    rw [Bool.eq_iff_iff]
    simp only [List.isEmpty_iff, List.append_eq_nil_iff, trimL_nil ha, trimR_nil hb, Bool.and_eq_true, decide_eq_true_iff]
  have h0 := h
  unfold wr at h
  simp only at h
  split at h
  · cases h
  · rename_i hl
    have hl1 : (Lib.trimLeftB a 48).length ≤ 40 := by omega
    have hl2 : (Lib.trimRightB b 48).length ≤ 20 := by omega
    rw [hiff, Option.some.injEq] at h
    have hsp := splitP_canon (neg && !(decide (valD a = 0) && decide (valD b = 0))) (orN (Lib.trimLeftB a 48)) (orN (Lib.trimRightB b 48)) (orN_dig (trimL_dig ha)) (orN_ne _) (orN_dig (trimR_dig hb)) (orN_ne _)
    rw [h] at hsp
    refine ⟨_, _, hsp, orN_dig (trimL_dig ha), orN_dig (trimR_dig hb), orN_len hl1 (by omega), orN_len hl2 (by omega), by rw [orN_val, trimL_same], ?_, ?_⟩
    · intro n hn hn2
      rw [← trimR_same b hn]
      unfold orN
      split
      · rename_i he
        have : Lib.trimRightB b 48 = [] := by simpa using he
        rw [this]
        simp [valD]
      · rfl
    · unfold chk readP
      rw [hsp]
      simp only [Option.map_some]
      have : wr (neg && !(decide (valD a = 0) && decide (valD b = 0))) (orN (Lib.trimLeftB a 48)) (orN (Lib.trimRightB b 48)) = some t := by
        unfold wr
        simp only [trimL_idem, trimR_idem]
        rw [if_neg hl, hiff, ← h, Bool.and_assoc, Bool.and_self]
      rw [this]
      simp

/-- A decimal is what its parts are written as. -/
theorem chk_parts (l : List UInt8) (h : chk l = true) : ∃ n a b, splitP l = some (n, a, b) ∧ a.all isDig = true ∧ b.all isDig = true ∧ a.length ≤ 40 ∧ b.length ≤ 20 ∧ wr n a b = some l ∧
    (n = true → ¬ (valD a = 0 ∧ valD b = 0)) := by
  have h' : readP l = some (some l) := by simpa [chk] using h
  unfold readP at h'
  cases hs : splitP l with
  | none => rw [hs] at h'; cases h'
  | some x =>
    obtain ⟨n, a, b⟩ := x
    rw [hs] at h'
    simp only [Option.map_some, Option.some.injEq] at h'
    have hd : a.all isDig = true ∧ b.all isDig = true := by
      have hs' := hs
      unfold splitP at hs'
      simp only at hs'
      split at hs'
      · rename_i hc
        simp only [Option.some.injEq, Prod.mk.injEq] at hs'
        obtain ⟨_, rfl, rfl⟩ := hs'
        rw [Bool.and_eq_true, Bool.or_eq_true] at hc
        refine ⟨?_, ?_⟩
        · have := hc.1; unfold digs at this; rw [Bool.and_eq_true] at this; exact this.2
        · rcases hc.2 with h | h
          · have hf : (Lib.cut (sgn l).2 [46]).2.2 = false := by simpa using h
            have : (Lib.cut (sgn l).2 [46]).2.1 = [] := by
              unfold Lib.cut at hf ⊢
              split at hf
              · cases hf
              · rw [if_neg (by assumption)]
            rw [this]; rfl
          · unfold digs at h; rw [Bool.and_eq_true] at h; exact h.2
      · cases hs'
    obtain ⟨x, y, e1, e2, e3, e4, e5, e6, e7, e8⟩ := wr_back n a b l hd.1 hd.2 h'
    rw [hs, Option.some.injEq, Prod.mk.injEq, Prod.mk.injEq] at e1
    obtain ⟨f1, rfl, rfl⟩ := e1
    refine ⟨n, a, b, rfl, hd.1, hd.2, e4, e5, h', ?_⟩
    rintro rfl ⟨g1, g2⟩
    rw [g1, g2] at f1
    simp at f1

/-- The number of parts, scaled by 10 ^ 54. -/
def num54 (a b : List UInt8) : Nat := valD a * 10 ^ 54 + valD b * 10 ^ (54 - b.length)

end Go.Proofs.YtoifjjgakblhhaaGreatDoor

/- Decimals as whole numbers scaled by 10 ^ 54, and back. No Go stands here. -/
namespace Go.Proofs.YtoifjjgakblhhaaGreatDoor

/-- A signed amount. -/
def sv (n : Bool) (x : Nat) : Int := if n then -(x : Int) else x
/-- What a decimal is as a number: its sign, its amount scaled by 10 ^ 54. -/
def dsign (l : List UInt8) : Bool := ((splitP l).getD (false, [], [])).1
def damt (l : List UInt8) : Nat := num54 ((splitP l).getD (false, [], [])).2.1 ((splitP l).getD (false, [], [])).2.2
def dval (l : List UInt8) : Int := sv (dsign l) (damt l)
/-- The text of a number scaled by 10 ^ 54, if it may be. -/
def txt (z : Int) : Option (List UInt8) := wrN (decide (z < 0)) z.natAbs

theorem wr_zero (n m : Bool) (a b : List UInt8) (ha : a.all isDig = true) (hb : b.all isDig = true) (h1 : valD a = 0) (h2 : valD b = 0) : wr n a b = wr m a b := by
  unfold wr
  simp only [(trimL_nil ha).2 h1, (trimR_nil hb).2 h2, List.append_nil, List.isEmpty_nil, Bool.not_true, Bool.and_false]

theorem wrN_sv (r : Bool) (x : Nat) : wrN r x = txt (sv r x) := by
  unfold txt sv
  cases r
  · simp only [Bool.false_eq_true, if_false]
    rw [Int.natAbs_natCast, decide_eq_false (by omega)]
  · simp only [if_true]
    rw [Int.natAbs_neg, Int.natAbs_natCast]
    by_cases h : x = 0
    · subst h
      exact wr_zero _ _ _ _ (digsOf_dig _ _ _) (digsOf_dig _ _ _) (by simp [digsOf_val]) (by simp [digsOf_val])
    · rw [decide_eq_true (by omega)]

theorem num54_facts (a b : List UInt8) (ha : a.all isDig = true) (hb : b.all isDig = true) (la : a.length ≤ 40) (lb : b.length ≤ 20) : num54 a b < 10 ^ 94 ∧ num54 a b % 10 ^ 34 = 0 := by
  have h1 := valD_lt a ha
  have h2 := valD_lt b hb
  have h3 : 10 ^ a.length ≤ 10 ^ 40 := Nat.pow_le_pow_right (by omega) la
  have h4 : valD b * 10 ^ (54 - b.length) < 10 ^ b.length * 10 ^ (54 - b.length) := Nat.mul_lt_mul_of_pos_right h2 (Nat.pow_pos (by omega))
  rw [← Nat.pow_add, show b.length + (54 - b.length) = 54 by omega] at h4
  unfold num54
  constructor
  · have h5 : (valD a + 1) * 10 ^ 54 ≤ 10 ^ 40 * 10 ^ 54 := Nat.mul_le_mul_right _ (by omega)
    rw [← Nat.pow_add, Nat.add_mul] at h5
    omega
  · have e1 : 10 ^ 54 = 10 ^ 20 * 10 ^ 34 := by rw [← Nat.pow_add]
    have e2 : 10 ^ (54 - b.length) = 10 ^ (20 - b.length) * 10 ^ 34 := by rw [← Nat.pow_add]; congr 1; omega
    rw [e1, e2, ← Nat.mul_assoc, ← Nat.mul_assoc, ← Nat.add_mul, Nat.mul_mod_left]

/-- What a decimal is. -/
theorem chk_dec (l : List UInt8) (h : chk l = true) : txt (dval l) = some l ∧ damt l < 10 ^ 94 ∧ damt l % 10 ^ 34 = 0 ∧ (dsign l = true → damt l ≠ 0) ∧
    ∃ a b, splitP l = some (dsign l, a, b) ∧ a.all isDig = true ∧ b.all isDig = true ∧ a.length ≤ 40 ∧ b.length ≤ 20 ∧ damt l = num54 a b := by
  obtain ⟨n, a, b, hsp, ha, hb, la, lb, hw, hz⟩ := chk_parts l h
  have e1 : dsign l = n := by unfold dsign; rw [hsp]; rfl
  have e2 : damt l = num54 a b := by unfold damt; rw [hsp]; rfl
  obtain ⟨f1, f2⟩ := num54_facts a b ha hb la lb
  have hlt := valD_lt a ha
  have h90 : 10 ^ a.length ≤ 10 ^ 90 := Nat.pow_le_pow_right (by omega) (by omega)
  refine ⟨?_, by rw [e2]; exact f1, by rw [e2]; exact f2, ?_, a, b, by rw [e1]; exact hsp, ha, hb, la, lb, e2⟩
  · unfold dval
    rw [← wrN_sv, e1, e2, ← hw, wr_wrN n a b ha hb (by omega) (by omega)]
    rfl
  · rw [e1, e2]
    intro hn h0
    apply hz hn
    unfold num54 at h0
    have p1 : 0 < 10 ^ (54 - b.length) := Nat.pow_pos (by omega)
    rcases Nat.add_eq_zero_iff.1 h0 with ⟨q1, q2⟩
    rw [Nat.mul_eq_zero] at q1 q2
    exact ⟨by omega, by omega⟩

/-- What a number's text is. -/
theorem txt_dec (z : Int) (hz : z.natAbs < 10 ^ 144) (t : List UInt8) (h : txt z = some t) : chk t = true ∧ dval t = z := by
  unfold txt wrN at h
  obtain ⟨x, y, hsp, hx, hy, lx, ly, v1, v2, hc⟩ := wr_back _ _ _ t (digsOf_dig _ _ _) (digsOf_dig _ _ _) h
  refine ⟨hc, ?_⟩
  have e2 : damt t = z.natAbs := by
    unfold damt
    rw [hsp]
    show num54 x y = _
    unfold num54
    have := v2 54 (by rw [digsOf_len]; omega) (by omega)
    rw [digsOf_len, Nat.sub_self, Nat.pow_zero, Nat.mul_one, digsOf_val, Nat.pow_zero, Nat.div_one] at this
    rw [this, v1, digsOf_val]
    have h1 : z.natAbs / 10 ^ 54 < 10 ^ 90 := by
      rw [Nat.div_lt_iff_lt_mul (Nat.pow_pos (by omega)), ← Nat.pow_add]; exact hz
    rw [Nat.mod_eq_of_lt h1, Nat.mul_comm]
    exact Nat.div_add_mod _ _
  have e1 : dsign t = (decide (z < 0) && !(decide (z.natAbs = 0))) := by
    unfold dsign
    rw [hsp]
    have h1 : z.natAbs / 10 ^ 54 < 10 ^ 90 := by
      rw [Nat.div_lt_iff_lt_mul (Nat.pow_pos (by omega)), ← Nat.pow_add]; exact hz
    have hd := Nat.div_add_mod z.natAbs (10 ^ 54)
    have e : (decide (valD (digsOf z.natAbs 54 90) = 0) && decide (valD (digsOf z.natAbs 0 54) = 0)) = decide (z.natAbs = 0) := by
      rw [digsOf_val, digsOf_val, Nat.pow_zero, Nat.div_one, Nat.mod_eq_of_lt h1, ← Bool.decide_and, decide_eq_decide]
      constructor
      · rintro ⟨a, b⟩
        rw [a, b] at hd
        omega
      · intro a
        rw [a]
        exact ⟨Nat.zero_div _, Nat.zero_mod _⟩
    rw [← e]
    rfl
  unfold dval sv
  rw [e1, e2]
  by_cases hn : z < 0
  · have : ¬ z.natAbs = 0 := by omega
    simp [hn, this]
    omega
  · simp [hn]
    omega

end Go.Proofs.YtoifjjgakblhhaaGreatDoor

/- Words and digits. No Go stands here. -/
namespace Go.Proofs.YtoifjjgakblhhaaGreatDoor

theorem base_pow (j : Nat) : BASE ^ j = 10 ^ (9 * j) := by
  rw [Nat.pow_mul]; rfl
theorem base_pos (j : Nat) : 0 < BASE ^ j := Nat.pow_pos (by decide)

theorem limb_N (f : Nat → Nat) (hf : Words f) (j : Nat) : ∀ n, j < n → n ≤ 16 → vN n f / BASE ^ j % BASE = f j := by
  intro n
  induction n with
  | zero => intro h; omega
  | succ n ih =>
    intro h hn
    by_cases e : j = n
    · subst e
      have := vN_lt f hf j (by omega)
      simp only [vN]
      rw [Nat.add_mul_div_right _ _ (base_pos j), Nat.div_eq_of_lt this, Nat.zero_add, Nat.mod_eq_of_lt (hf j (by omega))]
    · have hlt : j < n := by omega
      rw [← ih hlt (by omega)]
      simp only [vN]
      obtain ⟨d, rfl⟩ : ∃ d, n = j + 1 + d := ⟨n - (j + 1), by omega⟩
      have e : f (j + 1 + d) * BASE ^ (j + 1 + d) = (f (j + 1 + d) * BASE ^ d * BASE) * BASE ^ j := by
        rw [Nat.pow_add, Nat.pow_succ]
        generalize BASE ^ d = x
        generalize BASE ^ j = y
        ac_rfl
      rw [e, Nat.add_mul_div_right _ _ (base_pos j), Nat.add_mul_mod_self_right]

theorem limb_val (f : Nat → Nat) (hf : Words f) (j : Nat) (hj : j < 16) : f j = wval f / BASE ^ j % BASE := (limb_N f hf j 16 hj (Nat.le_refl _)).symm

theorem vN_updv (f : Nat → Nat) (j v : Nat) : ∀ n, j < n → vN n (upd f j v) + f j * BASE ^ j = vN n f + v * BASE ^ j := by
  intro n
  induction n with
  | zero => intro h; omega
  | succ n ih =>
    intro h
    by_cases e : j = n
    · subst e
      simp only [vN, upd_same, vN_upd _ _ _ _ (Nat.le_refl _)]; omega
    · have := ih (by omega)
      simp only [vN, upd_other f v (show n ≠ j by omega)]; omega
theorem wval_upd (f : Nat → Nat) (j v : Nat) (hj : j < 16) : wval (upd f j v) + f j * BASE ^ j = wval f + v * BASE ^ j := vN_updv f j v 16 hj

/-- A place with nothing but noughts at it and below has room for a digit. -/
theorem room (f : Nat → Nat) (hf : Words f) (M p : Nat) (hp : p < 144) (h : wval f = M * 10 ^ (p + 1)) : f (p / 9) + 9 * 10 ^ (p % 9) < BASE := by
  rw [limb_val f hf (p / 9) (by omega), base_pow, h]
  have e : 10 ^ (p + 1) = 10 ^ (p % 9 + 1) * 10 ^ (9 * (p / 9)) := by rw [← Nat.pow_add]; congr 1; omega
  rw [e, ← Nat.mul_assoc, Nat.mul_div_cancel _ (Nat.pow_pos (by omega))]
  obtain ⟨r, hr⟩ : ∃ r, r = p % 9 := ⟨_, rfl⟩
  rw [← hr]
  have hr9 : r ≤ 8 := by omega
  have eb : BASE = 10 ^ (r + 1) * 10 ^ (8 - r) := by rw [← Nat.pow_add, show r + 1 + (8 - r) = 9 by omega]; rfl
  rw [Nat.mul_comm M, eb, Nat.mul_mod_mul_left]
  have h1 : M % 10 ^ (8 - r) < 10 ^ (8 - r) := Nat.mod_lt _ (Nat.pow_pos (by omega))
  have h2 : 10 ^ (r + 1) * (M % 10 ^ (8 - r) + 1) ≤ 10 ^ (r + 1) * 10 ^ (8 - r) := Nat.mul_le_mul_left _ h1
  rw [Nat.mul_add, Nat.mul_one, Nat.pow_succ] at h2
  have h3 : 0 < 10 ^ r := Nat.pow_pos (by omega)
  rw [Nat.pow_succ]
  omega

/-- A digit laid at a place adds its worth. -/
theorem put_val (f : Nat → Nat) (p d : Nat) (hp : p < 144) : wval (upd f (p / 9) (f (p / 9) + d * 10 ^ (p % 9))) = wval f + d * 10 ^ p := by
  have := wval_upd f (p / 9) (f (p / 9) + d * 10 ^ (p % 9)) (by omega)
  have e : d * 10 ^ (p % 9) * BASE ^ (p / 9) = d * 10 ^ p := by
    rw [base_pow, Nat.mul_assoc, ← Nat.pow_add]; congr 2; omega
  rw [Nat.add_mul, e] at this
  omega

/-- The digit at a place. -/
theorem digit_val (f : Nat → Nat) (hf : Words f) (p : Nat) (hp : p < 144) : f (p / 9) / 10 ^ (p % 9) % 10 = wval f / 10 ^ p % 10 := by
  rw [limb_val f hf (p / 9) (by omega), base_pow]
  have e : 10 ^ p = 10 ^ (9 * (p / 9)) * 10 ^ (p % 9) := by rw [← Nat.pow_add]; congr 1; omega
  rw [e, ← Nat.div_div_eq_div_mul]
  generalize wval f / 10 ^ (9 * (p / 9)) = N
  obtain ⟨r, hr⟩ : ∃ r, r = p % 9 := ⟨_, rfl⟩
  rw [← hr]
  have eb : BASE = 10 ^ r * 10 ^ (9 - r) := by rw [← Nat.pow_add, show r + (9 - r) = 9 by omega]; rfl
  rw [eb, Nat.mod_mul_right_div_self]
  have e2 : 10 ^ (9 - r) = 10 * 10 ^ (8 - r) := by rw [Nat.mul_comm, ← Nat.pow_succ]; congr 1; omega
  rw [e2, Nat.mod_mul_right_mod]

end Go.Proofs.YtoifjjgakblhhaaGreatDoor

/- Long division, digit by digit. No Go stands here. -/
namespace Go.Proofs.YtoifjjgakblhhaaGreatDoor

/-- The digits qs have been found of the first t of 164 digits of N by m; R is left. -/
structure OverTo (N m t R : Nat) (qs : List UInt8) : Prop where
  len : qs.length = t
  dig : qs.all isDig = true
  eq : valD qs * m + R = N / 10 ^ (164 - t)
  lt : R < m

theorem OverTo.zero {N m : Nat} (hN : N < 10 ^ 164) (hm : 0 < m) : OverTo N m 0 0 [] :=
  ⟨rfl, rfl, by rw [Nat.sub_zero, Nat.div_eq_of_lt hN]; simp [valD], hm⟩

/-- A digit as a sign. -/
def digB (j : Nat) : UInt8 := UInt8.ofNat (48 + j)
theorem digB_toNat {j : Nat} (h : j ≤ 9) : (digB j).toNat = 48 + j := by
  unfold digB; rw [UInt8.toNat_ofNat']; omega
theorem digB_dig {j : Nat} (h : j ≤ 9) : isDig (digB j) = true := by
  rw [isDig_iff, digB_toNat h]; omega

theorem OverTo.step {N m t R R' j : Nat} {qs : List UInt8} (H : OverTo N m t R qs) (ht : t < 164) (hj : j ≤ 9) (he : R' + j * m = R * 10 + N / 10 ^ (163 - t) % 10) (hl : R' < m) :
    OverTo N m (t + 1) R' (qs ++ [digB j]) := by
  refine ⟨by simp [H.len], by rw [List.all_append, H.dig, Bool.true_and, List.all_cons, digB_dig hj]; rfl, ?_, hl⟩
  have e1 : 164 - t = 163 - t + 1 := by omega
  have e := H.eq
  rw [e1, Nat.pow_succ, ← Nat.div_div_eq_div_mul] at e
  have e2 : 164 - (t + 1) = 163 - t := by omega
  rw [e2, valD_append]
  have e3 : valD [digB j] = j := by simp [valD, digB_toNat hj]
  rw [e3]
  simp only [List.length_singleton, Nat.pow_one]
  have d := Nat.div_add_mod (N / 10 ^ (163 - t)) 10
  generalize N / 10 ^ (163 - t) = P at *
  rw [← e] at d
  have : (valD qs * 10 + j) * m = 10 * (valD qs * m) + j * m := by rw [Nat.add_mul, Nat.mul_right_comm, Nat.mul_comm]
  rw [this]
  omega

theorem OverTo.digit_le {N m t R j R' : Nat} {qs : List UInt8} (H : OverTo N m t R qs) {dg : Nat} (hd : dg ≤ 9) (he : R' + j * m = R * 10 + dg) (hge : m ≤ R') : j + 1 ≤ 9 := by
  have h := H.lt
  have h1 : (R + 1) * 10 ≤ m * 10 := Nat.mul_le_mul_right _ h
  by_cases hj : j + 1 ≤ 9
  · exact hj
  · have : 9 * m ≤ j * m := Nat.mul_le_mul_right _ (by omega)
    omega

theorem OverTo.done {N m R : Nat} {qs : List UInt8} (H : OverTo N m 164 R qs) : qs = digsOf (N / m) 0 164 := by
  have e := H.eq
  rw [Nat.sub_self, Nat.pow_zero, Nat.div_one] at e
  have hq : N / m = valD qs := by
    rw [← e]
    have := H.lt
    rw [Nat.mul_comm, Nat.mul_add_div (by omega), Nat.div_eq_of_lt this, Nat.add_zero]
  have hl := valD_lt qs H.dig
  rw [H.len] at hl
  refine eq_of_val _ _ H.dig (digsOf_dig _ _ _) (by rw [H.len, digsOf_len]) ?_
  rw [digsOf_val, Nat.pow_zero, Nat.div_one, hq, Nat.mod_eq_of_lt hl]

theorem digsOf_split (N : Nat) (a b : Nat) : ∀ lo, digsOf N lo (a + b) = digsOf N (lo + b) a ++ digsOf N lo b := by
  intro lo
  induction a with
  | zero => simp [digsOf]
  | succ a ih =>
    rw [show a + 1 + b = (a + b) + 1 by omega]
    simp only [digsOf, ih, List.cons_append]
    congr 2
    omega

theorem PushTo.done {f h : Nat → Nat} {d c : Nat} (H : PushTo f d h c 16) (hs : wval f * 10 + d < BASE ^ 16) : wval h = wval f * 10 + d := by
  have s := H.sum
  have hc : c = 0 := by
    by_cases e : c = 0
    · exact e
    · have : 1 * BASE ^ 16 ≤ c * BASE ^ 16 := Nat.mul_le_mul_right _ (by omega)
      unfold wval at hs; omega
  subst hc
  unfold wval at *; omega

theorem digAt_shift (N q : Nat) : digAt (N * 10 ^ 20) (q + 20) = digAt N q := by
  unfold digAt
  rw [Nat.pow_add, Nat.mul_comm (10 ^ q), ← Nat.div_div_eq_div_mul, Nat.mul_div_cancel _ (Nat.pow_pos (by omega))]
theorem digAt_low (N q : Nat) (h : q < 20) : digAt (N * 10 ^ 20) q = 48 := by
  unfold digAt
  have e : N * 10 ^ 20 = (N * 10 ^ (19 - q) * 10) * 10 ^ q := by
    rw [Nat.mul_assoc, Nat.mul_assoc]
    congr 1
    rw [← Nat.mul_assoc, ← Nat.pow_succ, ← Nat.pow_add]
    congr 1; omega
  rw [e, Nat.mul_div_cancel _ (Nat.pow_pos (by omega)), Nat.mul_mod_left]
  rfl

end Go.Proofs.YtoifjjgakblhhaaGreatDoor

/- The laws of decimals, as laws of whole numbers. No Go stands here. -/
namespace Go.Proofs.YtoifjjgakblhhaaGreatDoor

/-- The product. -/
def dmul (l r : List UInt8) : Int := sv (dsign l != dsign r) (damt l * damt r / 10 ^ 54)
/-- The quotient, cut behind twenty digits. -/
def dquo (l r : List UInt8) : Int := sv (dsign l != dsign r) (damt l * 10 ^ 20 / damt r * 10 ^ 34)
/-- -1, 0 or 1. -/
def cmpZ (x y : Int) : Int := if x < y then -1 else if y < x then 1 else 0

theorem cmpZ_bound (x y : Int) : -1 ≤ cmpZ x y ∧ cmpZ x y ≤ 1 := by unfold cmpZ; split <;> (try split) <;> omega
theorem cmpZ_swap (x y : Int) : cmpZ y x = -cmpZ x y := by unfold cmpZ; split <;> split <;> (try split) <;> omega
theorem cmpZ_neg (x y : Int) : cmpZ (-x) (-y) = -cmpZ x y := by unfold cmpZ; split <;> split <;> (try split) <;> (try split) <;> omega
theorem cmpZ_zero (x y : Int) : cmpZ x y = 0 ↔ x = y := by unfold cmpZ; split <;> (try split) <;> omega

theorem natAbs_sv (n : Bool) (x : Nat) : (sv n x).natAbs = x := by unfold sv; cases n <;> simp
theorem dval_lt {l : List UInt8} (h : chk l = true) : (dval l).natAbs < 10 ^ 94 := by
  unfold dval; rw [natAbs_sv]; exact (chk_dec l h).2.1
theorem dval_inj {l r : List UInt8} (h : chk l = true) (h2 : chk r = true) : dval l = dval r ↔ l = r := by
  constructor
  · intro e
    have a := (chk_dec l h).1
    have b := (chk_dec r h2).1
    rw [e, b] at a
    exact (Option.some.inj a).symm
  · rintro rfl; rfl

theorem txt_neg {z : Int} {l : List UInt8} (h : txt z = some l) : ∃ r, txt (-z) = some r := by
  unfold txt wrN wr at *
  simp only [Int.natAbs_neg] at *
  split at h
  · cases h
  · rename_i hl
    rw [if_neg hl]
    exact ⟨_, rfl⟩

theorem dmul_comm (l r : List UInt8) : dmul l r = dmul r l := by
  unfold dmul
  rw [Nat.mul_comm, show (dsign l != dsign r) = (dsign r != dsign l) by cases dsign l <;> cases dsign r <;> rfl]

theorem exact34 {x : Nat} (h : x % 10 ^ 34 = 0) : x = x / 10 ^ 34 * 10 ^ 34 := by
  have := Nat.div_add_mod x (10 ^ 34)
  rw [h, Nat.add_zero, Nat.mul_comm] at this
  exact this.symm

theorem p68 : (10 : Nat) ^ 34 * 10 ^ 34 = 10 ^ 14 * 10 ^ 54 := by decide
theorem p34 : (10 : Nat) ^ 14 * 10 ^ 20 = 10 ^ 34 := by decide
theorem prod_exact {x y : Nat} (hx : x % 10 ^ 34 = 0) (hy : y % 10 ^ 34 = 0) : x * y / 10 ^ 54 = x / 10 ^ 34 * (y / 10 ^ 34) * 10 ^ 14 := by
  generalize hA : x / 10 ^ 34 = A
  generalize hB : y / 10 ^ 34 = B
  have e1 := exact34 hx
  have e2 := exact34 hy
  rw [hA] at e1
  rw [hB] at e2
  have e : x * y = A * B * 10 ^ 14 * 10 ^ 54 := by
    rw [e1, e2, Nat.mul_assoc (A * B), ← p68]
    generalize (10 : Nat) ^ 34 = T
    ac_rfl
  rw [e, Nat.mul_div_cancel _ (by decide)]

theorem dmul_lt {l r : List UInt8} (h : chk l = true) (h2 : chk r = true) : (dmul l r).natAbs < 10 ^ 144 := by
  unfold dmul
  rw [natAbs_sv, Nat.div_lt_iff_lt_mul (by decide)]
  have a := (chk_dec l h).2.1
  have b := (chk_dec r h2).2.1
  have h3 : damt l * damt r ≤ 10 ^ 94 * 10 ^ 94 := Nat.mul_le_mul (by omega) (by omega)
  have h4 : (10 : Nat) ^ 94 * 10 ^ 94 < 10 ^ 144 * 10 ^ 54 := by decide
  omega

/-- A product divided by what it was multiplied with. -/
theorem quo_mul {l r m : List UInt8} (h : chk l = true) (h2 : chk r = true) (h0 : damt r ≠ 0) (hm : txt (dmul l r) = some m) : dquo m r = dval l := by
  obtain ⟨_, dm⟩ := txt_dec _ (dmul_lt h h2) m hm
  obtain ⟨_, _, a2, a3, _⟩ := chk_dec l h
  obtain ⟨_, _, b2, b3, _⟩ := chk_dec r h2
  have e1 : damt m = damt l / 10 ^ 34 * (damt r / 10 ^ 34) * 10 ^ 14 := by
    have := congrArg Int.natAbs dm
    unfold dval dmul at this
    rwa [natAbs_sv, natAbs_sv, prod_exact a2 b2] at this
  have x1 := exact34 a2
  have x2 := exact34 b2
  generalize hA : damt l / 10 ^ 34 = A at *
  generalize hB : damt r / 10 ^ 34 = B at *
  have hB0 : 0 < B := by
    by_cases e : B = 0
    · rw [e, Nat.zero_mul] at x2; exact absurd x2 h0
    · omega
  have e2 : damt m * 10 ^ 20 / damt r = A := by
    rw [e1, x2, Nat.mul_assoc _ (10 ^ 14), p34, Nat.mul_assoc A B]
    exact Nat.mul_div_cancel _ (Nat.mul_pos hB0 (by decide))
  have hs : sv (dsign m) (damt m) = sv (dsign l != dsign r) (damt m) := by
    have := dm
    unfold dval dmul at this
    rw [prod_exact a2 b2, hA, hB, ← e1] at this
    exact this
  unfold dquo dval
  rw [e2, ← x1]
  by_cases hz : damt l = 0
  · rw [hz]; unfold sv; simp
  · have hm0 : damt m ≠ 0 := by
      rw [e1]
      have : 0 < A := by
        by_cases e : A = 0
        · rw [e, Nat.zero_mul] at x1; exact absurd x1 hz
        · omega
      have : 0 < A * B * 10 ^ 14 := Nat.mul_pos (Nat.mul_pos this hB0) (by decide)
      omega
    have hsm : dsign m = (dsign l != dsign r) := by
      unfold sv at hs
      cases h3 : dsign m <;> cases h4 : (dsign l != dsign r) <;> simp only [h3, h4, Bool.false_eq_true, if_false, if_true] at hs <;> first | rfl | omega
    rw [hsm]
    congr 1
    cases dsign l <;> cases dsign r <;> rfl

theorem dec_zero {l : List UInt8} (h : chk l = true) (h0 : damt l = 0) : l = [48, 46, 48] := by
  have a := (chk_dec l h).1
  have e : dval l = 0 := by unfold dval sv; rw [h0]; simp
  rw [e] at a
  have z : txt 0 = some [48, 46, 48] := by decide +kernel
  rw [z] at a
  exact (Option.some.inj a).symm

end Go.Proofs.YtoifjjgakblhhaaGreatDoor

/- The product of two rows of words, whose words outside 3 .. 10 are noughts. No Go stands here. -/
namespace Go.Proofs.YtoifjjgakblhhaaGreatDoor

/-- Only the words from 3 to 10 may be other than 0. -/
def Mid (f : Nat → Nat) : Prop := ∀ j, j < 3 ∨ 11 ≤ j → j < 16 → f j = 0

theorem vN_low (f : Nat → Nat) (h : Mid f) : vN 3 f = 0 := by
  simp only [vN, h 0 (by omega) (by omega), h 1 (by omega) (by omega), h 2 (by omega) (by omega)]
  simp
theorem vN_mid (f : Nat → Nat) (h : Mid f) : vN 11 f = wval f := by
  have := vN_above f (fun _ => 0) 11 16 (by omega) (fun j a b => h j (by omega) b)
  have e : ∀ n, vN n (fun _ => 0) = 0 := by intro n; induction n with
    | zero => rfl
    | succ n ih => simp [vN, ih]
  rw [e, e] at this
  unfold wval; omega

/-- The outer loop: the words below i of f have been multiplied. -/
structure TimesI (f g p : Nat → Nat) (i : Nat) : Prop where
  val : wval p * BASE ^ 6 = vN i f * wval g
  words : Words p
  high : ∀ j, i + 5 ≤ j → j < 16 → p j = 0
/-- The inner loop: word i of f has been multiplied with the words below j of g. -/
structure TimesJ (f g p : Nat → Nat) (i j cr : Nat) : Prop where
  val : wval p * BASE ^ 6 + cr * BASE ^ (i + j) = vN i f * wval g + f i * BASE ^ i * vN j g
  words : Words p
  high : ∀ k, i + 5 ≤ k → k < 16 → p k = 0
  carry : cr < BASE

theorem wval_zero : wval (fun _ => 0) = 0 := by
  have e : ∀ n, vN n (fun _ => 0) = 0 := by intro n; induction n with
    | zero => rfl
    | succ n ih => simp [vN, ih]
  exact e 16
theorem TimesI.zero {f g : Nat → Nat} (hf : Mid f) : TimesI f g (fun _ => 0) 3 :=
  ⟨by rw [vN_low f hf, wval_zero, Nat.zero_mul, Nat.zero_mul], fun _ _ => by decide, fun _ _ _ => rfl⟩
theorem TimesI.inner {f g p : Nat → Nat} {i : Nat} (H : TimesI f g p i) (hg : Mid g) : TimesJ f g p i 3 0 :=
  ⟨by rw [vN_low g hg, H.val, Nat.zero_mul, Nat.mul_zero], H.words, H.high, by decide⟩
theorem base_is : BASE = 1000000000 := rfl
theorem sum_lt {x y p c : Nat} (hx : x < BASE) (hy : y < BASE) (hp : p < BASE) (hc : c < BASE) : x * y + p + c < BASE * BASE := by
  rw [base_is] at *
  have h1 : x * y ≤ 999999999 * 999999999 := Nat.mul_le_mul (by omega) (by omega)
  omega
theorem TimesJ.step {f g p : Nat → Nat} {i j cr : Nat} (H : TimesJ f g p i j cr) (hf : Words f) (hg : Words g) (hi : i < 11) (hj : j < 11) (hi3 : 3 ≤ i) (hj3 : 3 ≤ j) :
    TimesJ f g (upd p (i + j - 6) ((f i * g j + p (i + j - 6) + cr) % BASE)) i (j + 1) ((f i * g j + p (i + j - 6) + cr) / BASE) := by
  have hs := sum_lt (hf i (by omega)) (hg j (by omega)) (H.words (i + j - 6) (by omega)) H.carry
  refine ⟨?_, H.words.upd (Nat.mod_lt _ (by decide)), ?_, by rw [Nat.div_lt_iff_lt_mul (by decide)]; exact hs⟩
  · have hu := wval_upd p (i + j - 6) ((f i * g j + p (i + j - 6) + cr) % BASE) (by omega)
    have hv := H.val
    have hd := Nat.div_add_mod (f i * g j + p (i + j - 6) + cr) BASE
    have e6 : BASE ^ (i + j) = BASE ^ (i + j - 6) * BASE ^ 6 := by rw [← Nat.pow_add]; congr 1; omega
    have e1 : BASE ^ (i + (j + 1)) = BASE * BASE ^ (i + j) := by rw [← Nat.add_assoc, Nat.pow_succ, Nat.mul_comm]
    have ej : BASE ^ i * BASE ^ j = BASE ^ (i + j) := by rw [← Nat.pow_add]
    generalize p (i + j - 6) = pa at *
    generalize (f i * g j + pa + cr) / BASE = q at *
    generalize (f i * g j + pa + cr) % BASE = r at *
    generalize wval (upd p (i + j - 6) r) = W' at *
    generalize wval p = W at *
    have hu6 : W' * BASE ^ 6 + pa * BASE ^ (i + j) = W * BASE ^ 6 + r * BASE ^ (i + j) := by
      rw [e6, ← Nat.mul_assoc, ← Nat.mul_assoc, ← Nat.add_mul, ← Nat.add_mul, hu]
    have hd6 : (BASE * q + r) * BASE ^ (i + j) = (f i * g j + pa + cr) * BASE ^ (i + j) := by rw [hd]
    have hq : q * BASE ^ (i + (j + 1)) = BASE * q * BASE ^ (i + j) := by rw [e1]; ac_rfl
    have hfg : f i * BASE ^ i * (g j * BASE ^ j) = f i * g j * BASE ^ (i + j) := by rw [← ej]; ac_rfl
    rw [hq]
    simp only [vN, Nat.mul_add, hfg]
    simp only [Nat.add_mul] at hd6
    omega
  · intro k hk hk2
    rw [upd_other _ _ (by omega)]
    exact H.high k hk hk2
theorem TimesJ.outer {f g p : Nat → Nat} {i cr : Nat} (H : TimesJ f g p i 11 cr) (hg : Mid g) (hi : i < 11) : TimesI f g (upd p (i + 5) cr) (i + 1) := by
  refine ⟨?_, H.words.upd H.carry, ?_⟩
  · have hu := wval_upd p (i + 5) cr (by omega)
    rw [H.high (i + 5) (by omega) (by omega), Nat.zero_mul, Nat.add_zero] at hu
    have hv := H.val
    rw [vN_mid g hg] at hv
    have e6 : BASE ^ (i + 11) = BASE ^ (i + 5) * BASE ^ 6 := by rw [← Nat.pow_add]
    rw [hu, Nat.add_mul, Nat.mul_assoc, ← e6, hv]
    simp only [vN, Nat.add_mul]
  · intro k hk hk2
    rw [upd_other _ _ (by omega)]
    exact H.high k (by omega) hk2
theorem TimesI.done {f g p : Nat → Nat} (H : TimesI f g p 11) (hf : Mid f) : wval p * 10 ^ 54 = wval f * wval g := by
  have := H.val
  rw [vN_mid f hf, base_pow] at this
  exact this

/-- An amount that has twenty digits behind the point and forty ahead lies in the middle. -/
theorem mid_of (f : Nat → Nat) (hf : Words f) (h1 : wval f < 10 ^ 94) (h2 : wval f % 10 ^ 34 = 0) : Mid f := by
  intro j hj hj2
  rw [limb_val f hf j hj2, base_pow]
  rcases hj with hj | hj
  · have e : wval f = wval f / 10 ^ 34 * 10 ^ 34 := by
      have := Nat.div_add_mod (wval f) (10 ^ 34)
      rw [h2, Nat.add_zero, Nat.mul_comm] at this
      exact this.symm
    have e2 : (10 : Nat) ^ 34 = 10 ^ (34 - 9 * j - 9) * BASE * 10 ^ (9 * j) := by
      have : BASE = 10 ^ 9 := rfl
      rw [this, ← Nat.pow_add, ← Nat.pow_add]; congr 1; omega
    rw [e, e2, ← Nat.mul_assoc, ← Nat.mul_assoc, Nat.mul_div_cancel _ (Nat.pow_pos (by omega)), Nat.mul_mod_left]
  · have : 10 ^ 94 ≤ 10 ^ (9 * j) := Nat.pow_le_pow_right (by omega) (by omega)
    rw [Nat.div_eq_of_lt (by omega), Nat.zero_mod]

end Go.Proofs.YtoifjjgakblhhaaGreatDoor
