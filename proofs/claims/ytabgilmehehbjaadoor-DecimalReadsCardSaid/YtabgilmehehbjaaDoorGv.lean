/- Texts of one kind, one behind the other: each says ahead of itself what it shows. -/
import Derived.Test.YtabgilmehehbjaaDoorGu
import Derived.Lib.ItoaMem
import Derived.Lib.ParseIntB
import Derived.Lib.Strings
/- Digits written as a decimal's text: noughts that are needless on both sides. No Go stands here. -/
namespace Go.Proofs.YtabgilmehehbjaaDoor

/-- Digit j as a byte. -/
def bAt (ds : List Nat) (j : Nat) : UInt8 := UInt8.ofNat (48 + dig ds j)
/-- The n digits from place lo on, the highest first. -/
def dn (ds : List Nat) (lo : Nat) : Nat → List UInt8
  | 0 => []
  | n + 1 => bAt ds (lo + n) :: dn ds lo n
theorem bAt_toNat {ds : List Nat} (h : Small ds) (j : Nat) : (bAt ds j).toNat = 48 + dig ds j := by
  have := h j
  unfold bAt; rw [UInt8.toNat_ofNat']; omega
theorem bAt_dig {ds : List Nat} (h : Small ds) (j : Nat) : isDig (bAt ds j) = true := by
  rw [isDig_iff, bAt_toNat h]; have := h j; omega
theorem bAt_48 {ds : List Nat} (h : Small ds) (j : Nat) : bAt ds j = 48 ↔ dig ds j = 0 := by
  constructor
  · intro e
    have := bAt_toNat h j
    rw [e] at this
    have h2 : (48 : UInt8).toNat = 48 := rfl
    omega
  · intro e; unfold bAt; rw [e]; rfl
theorem dn_len (ds : List Nat) (lo n : Nat) : (dn ds lo n).length = n := by
  induction n with
  | zero => rfl
  | succ n ih => simp [dn, ih]
theorem dn_dig {ds : List Nat} (h : Small ds) (lo n : Nat) : (dn ds lo n).all isDig = true := by
  induction n with
  | zero => rfl
  | succ n ih => simp [dn, ih, bAt_dig h]
theorem dn_val {ds : List Nat} (h : Small ds) (lo n : Nat) : valD (dn ds lo n) * 10 ^ lo + vT lo (dig ds) = vT (lo + n) (dig ds) := by
  induction n with
  | zero => simp [dn, valD]
  | succ n ih =>
    simp only [dn, valD, dn_len, bAt_toNat h]
    show _ = vT (lo + n) (dig ds) + dig ds (lo + n) * 10 ^ (lo + n)
    rw [← ih, Nat.add_sub_cancel_left, Nat.add_mul, Nat.pow_add, Nat.mul_assoc, Nat.mul_comm (10 ^ n)]
    omega
theorem dn_zero {ds : List Nat} (h : Small ds) (n : Nat) : valD (dn ds 0 n) = vT n (dig ds) := by
  have := dn_val h 0 n
  simp [vT] at this
  exact this
theorem dn_app (ds : List Nat) (lo m : Nat) : ∀ n, dn ds lo (m + n) = dn ds (lo + m) n ++ dn ds lo m
  | 0 => by simp [dn]
  | n + 1 => by
    show bAt ds (lo + (m + n)) :: dn ds lo (m + n) = _
    rw [dn_app ds lo m n]
    show _ = bAt ds (lo + m + n) :: dn ds (lo + m) n ++ dn ds lo m
    rw [Nat.add_assoc lo m n]; rfl
theorem dn_noughts {ds : List Nat} (lo : Nat) : ∀ n, (∀ j, lo ≤ j → j < lo + n → dig ds j = 0) → dn ds lo n = List.replicate n 48
  | 0, _ => rfl
  | n + 1, h => by
    show bAt ds (lo + n) :: dn ds lo n = _
    rw [dn_noughts lo n (fun j a b => h j a (by omega)), List.replicate_succ]
    unfold bAt; rw [h (lo + n) (by omega) (by omega)]; rfl
theorem trimL_none {l : List UInt8} (h : ∀ c r, l = c :: r → c ≠ 48) : Lib.trimLeftB l 48 = l := by
  cases l with
  | nil => rfl
  | cons c r =>
    unfold Lib.trimLeftB
    rw [List.dropWhile_cons, if_neg (by simpa using h c r rfl)]
theorem trimL_dn {ds : List Nat} (hs : Small ds) (lo m k : Nat) (h0 : ∀ j, lo + m ≤ j → j < lo + (m + k) → dig ds j = 0) (h1 : m = 0 ∨ dig ds (lo + m - 1) ≠ 0) : Lib.trimLeftB (dn ds lo (m + k)) 48 = dn ds lo m := by
  rw [dn_app, dn_noughts (lo + m) k (fun j a b => h0 j a (by omega)), trimL_rep]
  apply trimL_none
  intro c r e hc
  cases m with
  | zero => cases e
  | succ m =>
    have e1 : c = bAt ds (lo + m) := (List.cons.inj e).1.symm
    rw [hc] at e1
    rcases h1 with h | h
    · cases h
    · exact h (by rw [show lo + (m + 1) - 1 = lo + m by omega]; exact (bAt_48 hs _).1 e1.symm)
theorem trimR_none {l : List UInt8} (h : ∀ r c, l = r ++ [c] → c ≠ 48) : Lib.trimRightB l 48 = l := by
  unfold Lib.trimRightB
  have : Lib.trimLeftB l.reverse 48 = l.reverse := trimL_none fun c r e => h r.reverse c (by rw [← List.reverse_reverse l, e]; simp)
  unfold Lib.trimLeftB at this
  rw [this, List.reverse_reverse]
theorem trimR_dn {ds : List Nat} (hs : Small ds) (lo k m : Nat) (h0 : ∀ j, lo ≤ j → j < lo + k → dig ds j = 0) (h1 : m = 0 ∨ dig ds (lo + k) ≠ 0) : Lib.trimRightB (dn ds lo (k + m)) 48 = dn ds (lo + k) m := by
  rw [dn_app, dn_noughts lo k h0, trimR_rep]
  apply trimR_none
  intro r c e hc
  cases m with
  | zero => simp [dn] at e
  | succ m =>
    rw [Nat.add_comm m 1, dn_app] at e
    have e2 := List.append_inj_right' e (by simp [dn])
    have e1 : bAt ds (lo + k) = c := by
      have := (List.cons.inj e2).1
      rw [show lo + k + 0 = lo + k from rfl] at this
      exact this
    rw [hc] at e1
    rcases h1 with h | h
    · omega
    · exact h ((bAt_48 hs _).1 e1)

/-- A number's text, if it may be. -/
def formP (neg : Bool) (ds : List Nat) (sc : Nat) : Option (List UInt8) := wr neg (dn ds sc (ds.length - sc)) (dn ds 0 sc)
theorem val10_split {ds : List Nat} (hs : Small ds) (sc : Nat) : val10 ds = valD (dn ds sc (ds.length - sc)) * 10 ^ sc + valD (dn ds 0 sc) := by
  rw [dn_zero hs, dn_val hs, val10_pad _ (by omega)]

/-- What Form's two counts are when its loops have ended. -/
structure Ends (ds : List Nat) (sc low high : Nat) : Prop where
  l : low ≤ sc
  lz : ∀ j, j < low → dig ds j = 0
  ln : low = sc ∨ dig ds low ≠ 0
  h : sc + 1 ≤ high
  hz : ∀ j, high ≤ j → dig ds j = 0
  hn : high = sc + 1 ∨ dig ds (high - 1) ≠ 0
theorem Ends.trimR {ds : List Nat} {sc low high : Nat} (h : Ends ds sc low high) (hs : Small ds) : Lib.trimRightB (dn ds 0 sc) 48 = dn ds low (sc - low) := by
  have e := trimR_dn hs 0 low (sc - low) (fun j _ b => h.lz j (by omega)) (by
    rcases h.ln with k | k
    · left; omega
    · right; rwa [Nat.zero_add])
  have hl := h.l
  rw [show low + (sc - low) = sc by omega, Nat.zero_add] at e
  exact e
theorem Ends.trimL {ds : List Nat} {sc low high : Nat} (h : Ends ds sc low high) (hs : Small ds) : Lib.trimLeftB (dn ds sc (ds.length - sc)) 48 = if dig ds (high - 1) = 0 then [] else dn ds sc (high - sc) := by
  have hh := h.h
  by_cases h0 : dig ds (high - 1) = 0
  · rw [if_pos h0]
    have e : high = sc + 1 := by rcases h.hn with k | k
                                 · exact k
                                 · exact absurd h0 k
    have := trimL_dn hs sc 0 (ds.length - sc) (fun j a _ => by
      by_cases k : j = sc
      · rw [k, ← h0, e]; rfl
      · exact h.hz j (by omega)) (.inl rfl)
    rwa [Nat.zero_add] at this
  · rw [if_neg h0]
    have hl : high ≤ ds.length := by
      rcases Nat.lt_or_ge (high - 1) ds.length with k | k
      · omega
      · exact absurd (dig_out k) h0
    have := trimL_dn hs sc (high - sc) (ds.length - high) (fun j a _ => h.hz j (by omega)) (.inr (by rw [show sc + (high - sc) - 1 = high - 1 by omega]; exact h0))
    rwa [show high - sc + (ds.length - high) = ds.length - sc by omega] at this
theorem Ends.orL {ds : List Nat} {sc low high : Nat} (h : Ends ds sc low high) (hs : Small ds) : orN (Lib.trimLeftB (dn ds sc (ds.length - sc)) 48) = dn ds sc (high - sc) ∧
    ((Lib.trimLeftB (dn ds sc (ds.length - sc)) 48).length > 40 ↔ high - sc > 40) := by
  have hh := h.h
  rw [h.trimL hs]
  by_cases h0 : dig ds (high - 1) = 0
  · rw [if_pos h0]
    have e : high = sc + 1 := by rcases h.hn with k | k
                                 · exact k
                                 · exact absurd h0 k
    have e1 : dig ds sc = 0 := by rw [← h0, e]; rfl
    rw [e, show sc + 1 - sc = 1 by omega]
    refine ⟨?_, by simp⟩
    show [48] = [bAt ds (sc + 0)]
    rw [(bAt_48 hs (sc + 0)).2 e1]
  · rw [if_neg h0, dn_len]
    refine ⟨?_, Iff.rfl⟩
    obtain ⟨k, hk⟩ : ∃ k, high - sc = k + 1 := ⟨high - sc - 1, by omega⟩
    rw [hk]; rfl
theorem Ends.form {ds : List Nat} {sc low high : Nat} (h : Ends ds sc low high) (hs : Small ds) (neg : Bool) :
    formP neg ds sc = if high - sc > 40 ∨ sc - low > 20 then none else some ((if neg && !decide (val10 ds = 0) then [45] else []) ++ (dn ds sc (high - sc) ++ 46 :: (if low = sc then [48] else dn ds low (sc - low)))) := by
  obtain ⟨o1, o2⟩ := h.orL hs
  have t2 := h.trimR hs
  have hl := h.l
  have hx := trimL_nil (dn_dig hs sc (ds.length - sc))
  have hy := trimR_nil (dn_dig hs 0 sc)
  have hv := val10_split hs sc
  unfold formP wr
  simp only
  have c1 : (40 < (Lib.trimLeftB (dn ds sc (ds.length - sc)) 48).length ∨ 20 < (Lib.trimRightB (dn ds 0 sc) 48).length) ↔ (high - sc > 40 ∨ sc - low > 20) := by
    rw [t2, dn_len]; exact or_congr o2 Iff.rfl
  have c2 : (!(Lib.trimLeftB (dn ds sc (ds.length - sc)) 48 ++ Lib.trimRightB (dn ds 0 sc) 48).isEmpty) = !decide (val10 ds = 0) := by
    congr 1
    rw [Bool.eq_iff_iff, decide_eq_true_iff, List.isEmpty_iff, List.append_eq_nil_iff, hx, hy, hv, Nat.add_eq_zero_iff, Nat.mul_eq_zero]
    have hp : (10 : Nat) ^ sc ≠ 0 := Nat.pos_iff_ne_zero.1 (Nat.pow_pos (by decide))
    constructor
    · rintro ⟨a, b⟩; exact ⟨.inl a, b⟩
    · rintro ⟨a | a, b⟩
      · exact ⟨a, b⟩
      · exact absurd a hp
  rw [c2, o1]
  have c3 : orN (Lib.trimRightB (dn ds 0 sc) 48) = if low = sc then [48] else dn ds low (sc - low) := by
    rw [t2]
    by_cases e : low = sc
    · rw [if_pos e, e, Nat.sub_self]; rfl
    · rw [if_neg e]
      obtain ⟨k, hk⟩ : ∃ k, sc - low = k + 1 := ⟨sc - low - 1, by omega⟩
      rw [hk]; rfl
  rw [c3]
  by_cases hc : high - sc > 40 ∨ sc - low > 20
  · rw [if_pos hc, if_pos (c1.2 hc)]
  · rw [if_neg hc, if_neg (fun k => hc (c1.1 k))]

/-- A number as a whole number scaled by 10 ^ 54. -/
def nval (neg : Bool) (ds : List Nat) (sc : Nat) : Int := sv neg (val10 ds * 10 ^ (54 - sc))
theorem formP_txt (neg : Bool) {ds : List Nat} (hs : Small ds) (sc : Nat) (h54 : sc ≤ 54) (hv : val10 ds * 10 ^ (54 - sc) < 10 ^ 144) : formP neg ds sc = txt (nval neg ds sc) := by
  have e := val10_split hs sc
  have hp : 0 < 10 ^ sc := Nat.pow_pos (by decide)
  have h90 : valD (dn ds sc (ds.length - sc)) < 10 ^ 90 := by
    have h1 : valD (dn ds sc (ds.length - sc)) * 10 ^ sc * 10 ^ (54 - sc) ≤ val10 ds * 10 ^ (54 - sc) := Nat.mul_le_mul_right _ (by omega)
    rw [Nat.mul_assoc, ← Nat.pow_add, show sc + (54 - sc) = 54 by omega] at h1
    have h2 : (10 : Nat) ^ 144 = 10 ^ 90 * 10 ^ 54 := by rw [← Nat.pow_add]
    rw [h2] at hv
    exact Nat.lt_of_mul_lt_mul_right (Nat.lt_of_le_of_lt h1 hv)
  unfold formP nval
  rw [wr_wrN neg _ _ (dn_dig hs _ _) (dn_dig hs _ _) h90 (by rw [dn_len]; exact h54), dn_len, wrN_sv]
  congr 2
  rw [e, Nat.add_mul, Nat.mul_assoc, ← Nat.pow_add, show sc + (54 - sc) = 54 by omega]

/-- Digits read are the bytes again. -/
theorem dn_rev_at (l : List UInt8) (h : l.all isDig = true) (j : Nat) (hj : j < l.length) : bAt (revD l) j = l[l.length - 1 - j]'(by omega) := by
  have hd := List.all_eq_true.1 h _ (List.getElem_mem (show l.length - 1 - j < l.length by omega))
  have hb := (isDig_iff _).1 hd
  unfold bAt dig revD
  apply UInt8.toNat_inj.1
  rw [UInt8.toNat_ofNat', List.getD_eq_getElem?_getD, List.getElem?_reverse (by simpa using hj), List.length_map, List.getElem?_map, List.getElem?_eq_getElem (by omega)]
  simp only [Option.map_some, Option.getD_some]
  omega
theorem dn_revD (a b : List UInt8) (ha : a.all isDig = true) (hb : b.all isDig = true) : dn (revD (a ++ b)) b.length a.length = a ∧ dn (revD (a ++ b)) 0 b.length = b := by
  have hall : (a ++ b).all isDig = true := by rw [List.all_append, ha, hb]; rfl
  have key : ∀ (l : List UInt8), l.all isDig = true → dn (revD l) 0 l.length = l := by
    intro l hl
    apply eq_of_val _ _ (dn_dig (small_rev l hl) _ _) hl (dn_len _ _ _)
    rw [dn_zero (small_rev l hl)]
    have := val10_rev l
    unfold val10 at this
    rwa [revD_len] at this
  have h1 := key (a ++ b) hall
  rw [List.length_append, Nat.add_comm, dn_app, Nat.zero_add] at h1
  exact List.append_inj h1 (dn_len _ _ _)
theorem form_read (neg : Bool) (a b : List UInt8) (ha : a.all isDig = true) (hb : b.all isDig = true) : formP neg (revD (a ++ b)) b.length = wr neg a b := by
  obtain ⟨h1, h2⟩ := dn_revD a b ha hb
  unfold formP
  rw [revD_len, List.length_append, Nat.add_sub_cancel, h1, h2]
end Go.Proofs.YtabgilmehehbjaaDoor

/- Sums, products and quotients of digits, as numbers. No Go stands here. -/
namespace Go.Proofs.YtabgilmehehbjaaDoor

theorem sv_mul (n : Bool) (x k : Nat) : sv n (x * k) = sv n x * (k : Int) := by
  unfold sv; cases n
  · simp
  · simp [Int.neg_mul]
theorem sv_zero (n : Bool) : sv n 0 = 0 := by cases n <;> rfl
theorem sv_not (n : Bool) (x : Nat) : sv (!n) x = -sv n x := by cases n <;> simp [sv]

/-- Digits one place changed. -/
theorem dig_set (ds : List Nat) (j v i : Nat) (h : j < ds.length) : dig (ds.set j v) i = if i = j then v else dig ds i := by
  unfold dig
  simp only [List.getD, List.getElem?_set]
  by_cases e : j = i
  · subst e; simp [h]
  · rw [if_neg e, if_neg (fun k => e k.symm)]
theorem small_set {ds : List Nat} (hs : Small ds) (j v : Nat) (hv : v ≤ 9) (h : j < ds.length) : Small (ds.set j v) := fun i => by
  rw [dig_set _ _ _ _ h]; split
  · exact hv
  · exact hs i
theorem vT_upd (f g : Nat → Nat) (j v : Nat) (hg : ∀ i, g i = if i = j then v else f i) : ∀ n, j < n → vT n g + f j * 10 ^ j = vT n f + v * 10 ^ j := by
  intro n
  induction n with
  | zero => intro h; omega
  | succ n ih =>
    intro h
    show vT n g + g n * 10 ^ n + f j * 10 ^ j = vT n f + f n * 10 ^ n + v * 10 ^ j
    by_cases e : j = n
    · subst e
      have : vT j g = vT j f := vT_eq _ _ _ (fun i hi => by rw [hg, if_neg (by omega)])
      have h2 := hg j
      rw [if_pos rfl] at h2
      rw [this, h2]; omega
    · have := ih (by omega)
      have h2 := hg n
      rw [if_neg (by omega)] at h2
      rw [h2]; omega
theorem val10_set (ds : List Nat) (j v : Nat) (h : j < ds.length) : val10 (ds.set j v) + dig ds j * 10 ^ j = val10 ds + v * 10 ^ j := by
  unfold val10
  rw [List.length_set]
  exact vT_upd _ _ j v (fun i => dig_set ds j v i h) _ h
theorem val10_lt {ds : List Nat} (hs : Small ds) : val10 ds < 10 ^ ds.length := vT_lt _ hs _

/-- A round of the inner loop of a product: digit x of the one number at place i times the digits of the other. -/
structure Row (i x : Nat) (bs' : List Nat) (D0 : Nat) (len : Nat) (ds : List Nat) (k c : Nat) : Prop where
  small : Small ds
  len : ds.length = len
  car : c ≤ 9
  val : val10 ds + c * 10 ^ (i + k) = D0 + x * vT k (dig bs') * 10 ^ i
theorem Row.start {i x : Nat} {bs' ds : List Nat} (hs : Small ds) : Row i x bs' (val10 ds) ds.length ds 0 0 := ⟨hs, rfl, by omega, by simp [vT]⟩
theorem Row.step {i x D0 len k c n : Nat} {bs' ds : List Nat} (h : Row i x bs' D0 len ds k c) (hx : x ≤ 9) (hb : Small bs') (hl : i + k < len) (hn : n = dig ds (i + k) + x * dig bs' k + c) : Row i x bs' D0 len (ds.set (i + k) (n % 10)) (k + 1) (n / 10) ∧ n ≤ 99 := by
  have h1 := h.small (i + k)
  have h2 := hb k
  have h3 : x * dig bs' k ≤ 9 * 9 := Nat.mul_le_mul hx h2
  have h4 := h.car
  have hl' : i + k < ds.length := by rw [h.len]; exact hl
  refine ⟨⟨small_set h.small _ _ (by omega) hl', by rw [List.length_set, h.len], by omega, ?_⟩, by omega⟩
  have e := val10_set ds (i + k) (n % 10) hl'
  have v := h.val
  show _ = D0 + x * (vT k (dig bs') + dig bs' k * 10 ^ k) * 10 ^ i
  have e1 : x * (vT k (dig bs') + dig bs' k * 10 ^ k) * 10 ^ i = x * vT k (dig bs') * 10 ^ i + x * dig bs' k * 10 ^ (i + k) := by
    rw [Nat.mul_add, Nat.add_mul, Nat.pow_add, ← Nat.mul_assoc, Nat.mul_assoc (x * dig bs' k), Nat.mul_comm (10 ^ k)]
  have e2 : n / 10 * 10 ^ (i + (k + 1)) = n / 10 * 10 * 10 ^ (i + k) := by
    rw [← Nat.add_assoc, Nat.pow_succ, Nat.mul_comm (10 ^ (i + k)), Nat.mul_assoc]
  have e3 : n % 10 * 10 ^ (i + k) + n / 10 * 10 * 10 ^ (i + k) = n * 10 ^ (i + k) := by rw [← Nat.add_mul]; congr 1; omega
  have e4 : n * 10 ^ (i + k) = dig ds (i + k) * 10 ^ (i + k) + x * dig bs' k * 10 ^ (i + k) + c * 10 ^ (i + k) := by rw [hn, Nat.add_mul, Nat.add_mul]
  rw [e1, e2]
  omega
/-- The inner loop stays within the digits. -/
theorem Row.room {i x len k c : Nat} {xs bs' ds : List Nat} (h : Row i x bs' (vT i (dig xs) * val10 bs') len ds k c) (ha : Small xs) (hb : Small bs') (hx : x = dig xs i) (hi : i < xs.length) (hlen : len = xs.length + bs'.length + 1) (hk : k < bs'.length ∨ 0 < c) : i + k < len := by
  rcases Nat.lt_or_ge k bs'.length with q | q
  · omega
  · rcases hk with hk | hk
    · omega
    have v := h.val
    rw [val10_pad bs' q] at v
    have hv : vT i (dig xs) * val10 bs' + x * val10 bs' * 10 ^ i = vT (i + 1) (dig xs) * val10 bs' := by
      show _ = (vT i (dig xs) + dig xs i * 10 ^ i) * val10 bs'
      rw [Nat.add_mul, hx, Nat.mul_right_comm]
    rw [hv] at v
    have b1 := vT_lt (dig xs) ha (i + 1)
    have b2 := val10_lt hb
    have b3 : vT (i + 1) (dig xs) * val10 bs' < 10 ^ (i + 1) * 10 ^ bs'.length := by
      rcases Nat.eq_zero_or_pos (val10 bs') with z | z
      · rw [z, Nat.mul_zero]; exact Nat.mul_pos (Nat.pow_pos (by decide)) (Nat.pow_pos (by decide))
      · exact Nat.mul_lt_mul_of_lt_of_lt b1 b2
    rw [← Nat.pow_add] at b3
    have b4 : 1 * 10 ^ (i + k) ≤ c * 10 ^ (i + k) := Nat.mul_le_mul_right _ hk
    have b5 : 10 ^ (i + k) < 10 ^ (i + 1 + bs'.length) := by omega
    have := (Nat.pow_lt_pow_iff_right (show 1 < 10 by decide)).1 b5
    omega
theorem Row.all {i x len k : Nat} {xs bs' ds : List Nat} (h : Row i x bs' (vT i (dig xs) * val10 bs') len ds k 0) (hx : x = dig xs i) (hk : bs'.length ≤ k) : val10 ds = vT (i + 1) (dig xs) * val10 bs' := by
  have v := h.val
  rw [val10_pad bs' hk, Nat.zero_mul, Nat.add_zero] at v
  rw [v]
  show _ = (vT i (dig xs) + dig xs i * 10 ^ i) * val10 bs'
  rw [Nat.add_mul, hx, Nat.mul_right_comm]

/-- A number's digits from place i on. -/
theorem top_step {ds : List Nat} (hs : Small ds) (i : Nat) : val10 ds / 10 ^ i = val10 ds / 10 ^ (i + 1) * 10 + dig ds i := by
  have key : ∀ (f : Nat → Nat), (∀ j, f j ≤ 9) → ∀ n, vT (i + 1 + n) f / 10 ^ i % 10 = f i := by
    intro f hf n
    have e : ∃ q, vT (i + 1 + n) f = vT (i + 1) f + q * 10 ^ (i + 1) := by
      induction n with
      | zero => exact ⟨0, by simp⟩
      | succ n ih =>
        obtain ⟨q, hq⟩ := ih
        refine ⟨q + f (i + 1 + n) * 10 ^ n, ?_⟩
        show vT (i + 1 + n) f + f (i + 1 + n) * 10 ^ (i + 1 + n) = _
        rw [hq, Nat.pow_add 10 (i + 1) n, Nat.add_mul, Nat.mul_assoc (f (i + 1 + n)), Nat.mul_comm (10 ^ n), Nat.add_assoc]
    obtain ⟨q, hq⟩ := e
    have hl := vT_lt f hf i
    rw [hq]
    show (vT i f + f i * 10 ^ i + q * 10 ^ (i + 1)) / 10 ^ i % 10 = f i
    have e2 : vT i f + f i * 10 ^ i + q * 10 ^ (i + 1) = vT i f + 10 ^ i * (f i + q * 10) := by
      rw [Nat.pow_succ, Nat.mul_add, Nat.mul_comm (10 ^ i) (f i), ← Nat.mul_assoc (10 ^ i), Nat.mul_comm (10 ^ i) q, Nat.mul_assoc q, ← Nat.add_assoc]
    rw [e2, Nat.add_mul_div_left _ _ (Nat.pow_pos (by decide)), Nat.div_eq_of_lt hl, Nat.zero_add, Nat.add_mul_mod_self_right, Nat.mod_eq_of_lt (by have := hf i; omega)]
  have h1 := key (dig ds) hs ds.length
  rw [val10_pad ds (by omega)] at h1
  rw [Nat.pow_succ, ← Nat.div_div_eq_div_mul]
  omega
/-- One place of a long division. -/
theorem long_step {X B t : Nat} (hB : 0 < B) : (X * 10 + t) / B = X / B * 10 + (X % B * 10 + t) / B ∧ (X * 10 + t) % B = (X % B * 10 + t) % B := by
  have e : X * 10 + t = X % B * 10 + t + B * (X / B * 10) := by
    have := Nat.div_add_mod X B
    rw [← Nat.mul_assoc]
    generalize X / B = q at *
    generalize X % B = r at *
    rw [← this, Nat.add_mul]; omega
  constructor
  · rw [e, Nat.add_mul_div_left _ _ hB, Nat.add_comm]
  · rw [e, Nat.add_mul_mod_self_left]
end Go.Proofs.YtabgilmehehbjaaDoor

/- The document's reckoning with digits is reckoning with numbers scaled by 10 ^ 54. No Go stands here. -/
namespace Go.Proofs.YtabgilmehehbjaaDoor

theorem nval_abs (n : Bool) (ds : List Nat) (sc : Nat) : (nval n ds sc).natAbs = val10 ds * 10 ^ (54 - sc) := natAbs_sv _ _
theorem form_num {n : Bool} {ds : List Nat} {sc : Nat} (hs : Small ds) (h : sc ≤ 54) {z : Int} (hz : nval n ds sc = z) (hb : z.natAbs < 10 ^ 144) : formP n ds sc = txt z := by
  rw [formP_txt n hs sc h (by rw [← nval_abs n, hz]; exact hb), hz]

theorem pow_cut {s t : Nat} (h : s ≤ t) (h2 : t ≤ 54) : 10 ^ (t - s) * 10 ^ (54 - t) = 10 ^ (54 - s) := by
  rw [← Nat.pow_add]; congr 1; omega
theorem nval_plus {na nb nz : Bool} {da db dz : List Nat} {sa sb s : Nat} (h1 : sa ≤ s) (h2 : sb ≤ s) (h54 : s ≤ 54)
    (h : sv nz (val10 dz) = sv na (val10 da * 10 ^ (s - sa)) + sv nb (val10 db * 10 ^ (s - sb))) : nval nz dz s = nval na da sa + nval nb db sb := by
  unfold nval
  rw [sv_mul, h, Int.add_mul, ← sv_mul, ← sv_mul, Nat.mul_assoc, Nat.mul_assoc, pow_cut h1 h54, pow_cut h2 h54]

/-- What a decimal is to the document: its sign, its digits, how many of them are behind the point. -/
structure Dec (l : List UInt8) (n : Bool) (ds : List Nat) (sc : Nat) : Prop where
  sign : n = dsign l
  small : Small ds
  amt : val10 ds * 10 ^ (54 - sc) = damt l
  sc : sc ≤ 20
  len : ds.length ≤ 60
theorem Dec.val {l : List UInt8} {n : Bool} {ds : List Nat} {sc : Nat} (h : Dec l n ds sc) : nval n ds sc = dval l := by
  unfold nval dval; rw [h.amt, h.sign]
theorem split_chk {l : List UInt8} (h : chk l = true) : okP (sgn l).2 = true ∧ Dec l (sgn l).1 (revD ((Lib.cut (sgn l).2 [46]).1 ++ (Lib.cut (sgn l).2 [46]).2.1)) (Lib.cut (sgn l).2 [46]).2.1.length := by
  obtain ⟨_, _, _, _, a, b, hsp, ha, hb, la, lb, e⟩ := chk_dec l h
  rw [splitP_ok] at hsp
  by_cases hk : okP (sgn l).2 = true
  · rw [if_pos hk] at hsp
    have e0 := Option.some.inj hsp
    have e1 : (sgn l).1 = dsign l := congrArg (·.1) e0
    have e2 : (Lib.cut (sgn l).2 [46]).1 = a := congrArg (·.2.1) e0
    have e3 : (Lib.cut (sgn l).2 [46]).2.1 = b := congrArg (·.2.2) e0
    refine ⟨hk, e1, ?_, ?_, ?_, ?_⟩
    · rw [e2, e3]; exact small_rev _ (by rw [List.all_append, ha, hb]; rfl)
    · rw [e2, e3, e, num54_rev a b (by omega)]
    · rw [e3]; exact lb
    · rw [e2, e3, revD_len, List.length_append]; omega
  · rw [if_neg hk] at hsp; cases hsp

theorem dmul_of {l r : List UInt8} {na nb : Bool} {da db dz : List Nat} {sa sb : Nat} (ha : Dec l na da sa) (hb : Dec r nb db sb) (h : val10 dz = val10 da * val10 db) : nval (na != nb) dz (sa + sb) = dmul l r := by
  unfold nval dmul
  have h1 := ha.sc
  have h2 := hb.sc
  rw [← ha.sign, ← hb.sign, ← ha.amt, ← hb.amt, h]
  congr 1
  have e : val10 da * 10 ^ (54 - sa) * (val10 db * 10 ^ (54 - sb)) = val10 da * val10 db * 10 ^ (54 - (sa + sb)) * 10 ^ 54 := by
    have e1 : 10 ^ (54 - sa) * 10 ^ (54 - sb) = 10 ^ (54 - (sa + sb)) * 10 ^ 54 := by rw [← Nat.pow_add, ← Nat.pow_add]; congr 1; omega
    rw [Nat.mul_assoc (val10 da * val10 db), ← e1, Nat.mul_mul_mul_comm]
  rw [e, Nat.mul_div_cancel _ (Nat.pow_pos (by decide))]
theorem quo_scale (va vb p q t m : Nat) (ht : 0 < t) : va * p * m / (vb * q) = va * (p * t) * m / (vb * (q * t)) := by
  rw [← Nat.mul_assoc va, ← Nat.mul_assoc vb, Nat.mul_right_comm (va * p) t m, Nat.mul_div_mul_right _ _ ht]
theorem dquo_of {l r : List UInt8} {na nb : Bool} {da db dz : List Nat} {sa sb s : Nat} (ha : Dec l na da sa) (hb : Dec r nb db sb) (h1 : sa ≤ s) (h2 : sb ≤ s) (h54 : s ≤ 54)
    (h : val10 dz = val10 da * 10 ^ (s - sa) * 10 ^ 20 / (val10 db * 10 ^ (s - sb))) : nval (na != nb) dz 20 = dquo l r := by
  have e : val10 dz = damt l * 10 ^ 20 / damt r := by
    rw [h, ← ha.amt, ← hb.amt, ← pow_cut h1 h54, ← pow_cut h2 h54]
    exact quo_scale _ _ _ _ _ _ (Nat.pow_pos (by decide))
  unfold nval dquo
  rw [← ha.sign, ← hb.sign, e]
theorem Dec.zero {l : List UInt8} {n : Bool} {ds : List Nat} {sc : Nat} (h : Dec l n ds sc) : val10 ds = 0 ↔ damt l = 0 := by
  have := h.amt
  constructor
  · intro e; rw [← this, e, Nat.zero_mul]
  · intro e
    rw [e, Nat.mul_eq_zero] at this
    rcases this with k | k
    · exact k
    · exact absurd k (Nat.pos_iff_ne_zero.1 (Nat.pow_pos (by decide)))
end Go.Proofs.YtabgilmehehbjaaDoor

/- Which whole number a decimal is; the document's ways of telling a whole number. No Go stands here. -/
namespace Go.Proofs.YtabgilmehehbjaaDoor

/-- A whole number's text: a sign, digits without noughts ahead, '.0'. -/
structure Whole (l : List UInt8) (neg : Bool) (x : List UInt8) : Prop where
  eq : l = (if neg then [45] else []) ++ x ++ [46, 48]
  all : x.all isDig = true
  ne : x ≠ []
  len : x.length ≤ 40
  lead : 2 ≤ x.length → x.headD 0 ≠ 48
theorem suffix_iff (l : List UInt8) : Lib.hasSuffix l [46, 48] = true ↔ ∃ r, l = r ++ [46, 48] := by
  unfold Lib.hasSuffix
  rw [List.isSuffixOf_iff_suffix]
  exact ⟨fun ⟨r, h⟩ => ⟨r, h.symm⟩, fun ⟨r, h⟩ => ⟨r, h.symm⟩⟩
theorem trim_suffix (r : List UInt8) : Lib.trimSuffix (r ++ [46, 48]) [46, 48] = r := by
  unfold Lib.trimSuffix
  rw [if_pos ((suffix_iff _).2 ⟨r, rfl⟩)]
  simp
theorem whole_of {l : List UInt8} (h : chk l = true) (hs : Lib.hasSuffix l [46, 48] = true) : ∃ neg x, Whole l neg x := by
  obtain ⟨n, a, b, hsp, ha, hb, la, lb, hw, hz⟩ := chk_parts l h
  unfold wr at hw
  simp only at hw
  split at hw
  · cases hw
  · rename_i hl
    have e := Option.some.inj hw
    obtain ⟨r, hr⟩ := (suffix_iff l).1 hs
    obtain ⟨N, hN⟩ : ∃ N, N = (n && !(Lib.trimLeftB a 48 ++ Lib.trimRightB b 48).isEmpty) := ⟨_, rfl⟩
    rw [← hN] at e
    have hy := orN_dig (trimR_dig hb)
    have hy0 := orN_ne (Lib.trimRightB b 48)
    generalize orN (Lib.trimRightB b 48) = y at *
    have e2 : ∃ z, y = z ++ [48] := by
      have e3 : (if N = true then [45] else []) ++ orN (Lib.trimLeftB a 48) ++ 46 :: y = (r ++ [46]) ++ [48] := by rw [List.append_assoc, e, hr]; simp
      rcases List.eq_nil_or_concat y with k | ⟨z, c, k⟩
      · exact absurd k hy0
      · rw [List.concat_eq_append] at k
        rw [k] at e3
        refine ⟨z, ?_⟩
        have e4 : ((if N = true then [45] else []) ++ orN (Lib.trimLeftB a 48) ++ 46 :: z) ++ [c] = (r ++ [46]) ++ [48] := by rw [← e3]; simp
        have := List.append_inj_right' e4 rfl
        rw [k, this]
    obtain ⟨z, rfl⟩ := e2
    have hz0 : z = [] := by
      rcases List.eq_nil_or_concat z with k | ⟨q, c, k⟩
      · exact k
      · exfalso
        rw [List.concat_eq_append] at k
        have e5 : ((if N = true then [45] else []) ++ orN (Lib.trimLeftB a 48) ++ 46 :: q ++ [c]) ++ [48] = (r ++ [46]) ++ [48] := by
          have : l = r ++ [46] ++ [48] := by rw [hr]; simp
          rw [← this, ← e, k]; simp
        have e6 := List.append_inj_left' e5 rfl
        have e7 := List.append_inj_right' e6 rfl
        rw [k, List.all_append, List.all_append, List.all_cons] at hy
        rw [(List.cons.inj e7).1] at hy
        simp at hy
        exact absurd hy.1.2 (by decide)
    subst hz0
    refine ⟨N, orN (Lib.trimLeftB a 48), by rw [← e]; simp, orN_dig (trimL_dig ha), orN_ne _, orN_len (by omega) (by omega), fun h2 => ?_⟩
    have hd := head_trim a
    generalize Lib.trimLeftB a 48 = t at *
    cases t with
    | nil => simp [orN] at h2
    | cons c q => exact hd c q rfl

/-- The whole number, if it may be. -/
def wholeP (neg : Bool) (v : Nat) : Option Int := if neg then (if v ≤ 9223372036854775808 then some (-(v : Int)) else none) else if v < 9223372036854775808 then some (v : Int) else none
theorem parseM (M : Nat) (hM : M = 18446744073709551615) (ds : List UInt8) (h : ds.all isDig = true) : ∀ acc, acc ≤ M → Lib.parseUintM M acc ds = if acc * 10 ^ ds.length + valD ds ≤ M then .ok (acc * 10 ^ ds.length + valD ds) else .range := by
  induction ds with
  | nil => intro acc ha; simp only [Lib.parseUintM, valD, List.length_nil, Nat.pow_zero, Nat.mul_one, Nat.add_zero]; rw [if_pos ha]
  | cons c r ih =>
    intro acc ha
    rw [List.all_cons, Bool.and_eq_true] at h
    have hc := dig_le h.1
    have hp : 1 ≤ 10 ^ r.length := Nat.pow_pos (by decide)
    have e : acc * 10 ^ (c :: r).length + valD (c :: r) = (acc * 10 + (c.toNat - 48)) * 10 ^ r.length + valD r := by
      show acc * 10 ^ (r.length + 1) + ((c.toNat - 48) * 10 ^ r.length + valD r) = _
      rw [Nat.pow_succ, Nat.add_mul, Nat.mul_comm (10 ^ r.length) 10, ← Nat.mul_assoc, Nat.add_assoc]
    rw [e]
    unfold Lib.parseUintM
    rw [if_pos (by omega)]
    have hge : (acc * 10 + (c.toNat - 48)) * 1 ≤ (acc * 10 + (c.toNat - 48)) * 10 ^ r.length := Nat.mul_le_mul_left _ hp
    by_cases h1 : 1844674407370955162 ≤ acc
    · rw [if_pos h1, if_neg (by omega)]
    · rw [if_neg h1]
      by_cases h2 : M < acc * 10 + (c.toNat - 48)
      · rw [if_pos h2, if_neg (by omega)]
      · rw [if_neg h2, ih h.2 _ (by omega)]
theorem parse_whole (neg : Bool) (x : List UInt8) (h : x.all isDig = true) (hn : x ≠ []) : Lib.parseIntB 64 ((if neg then [45] else []) ++ x) = match wholeP neg (valD x) with | some v => .ok v | none => .range := by
  have hu : Lib.parseUintB 64 x = if valD x ≤ 2 ^ 64 - 1 then .ok (valD x) else .range := by
    unfold Lib.parseUintB
    rw [if_neg hn, parseM (2 ^ 64 - 1) (by decide) x h 0 (by decide), Nat.zero_mul, Nat.zero_add]
  unfold wholeP
  cases neg with
  | true =>
    show Lib.parseIntB 64 (45 :: x) = _
    unfold Lib.parseIntB
    simp only [show (45 : UInt8).toNat = 45 from rfl]
    rw [if_pos (by simp), hu]
    by_cases h1 : valD x ≤ 2 ^ 64 - 1
    · rw [if_pos h1]
      by_cases h2 : valD x ≤ 9223372036854775808
      · simp only [if_pos h2, if_true]
        rw [if_neg (by simp), if_neg (by simp; omega)]
      · simp only [if_neg h2, if_true]
        rw [if_neg (by simp), if_pos (by simp; omega)]
    · rw [if_neg h1]
      have h2 : ¬ valD x ≤ 9223372036854775808 := by omega
      simp only [if_neg h2, if_true]
  | false =>
    cases x with
    | nil => exact absurd rfl hn
    | cons c r =>
      have hc := h
      rw [List.all_cons, Bool.and_eq_true] at hc
      have hc1 := dig_le hc.1
      show Lib.parseIntB 64 (c :: r) = _
      unfold Lib.parseIntB
      simp only
      rw [if_neg (by omega), hu]
      by_cases h1 : valD (c :: r) ≤ 2 ^ 64 - 1
      · rw [if_pos h1]
        by_cases h2 : valD (c :: r) < 9223372036854775808
        · simp only [if_pos h2, Bool.false_eq_true, if_false]
          rw [if_neg (by simp; omega), if_neg (by omega), if_neg (by omega)]
        · simp only [if_neg h2, Bool.false_eq_true, if_false]
          rw [if_pos ⟨by omega, by omega⟩]
      · rw [if_neg h1]
        have h2 : ¬ valD (c :: r) < 9223372036854775808 := by omega
        simp only [if_neg h2, Bool.false_eq_true, if_false]
/-- Many digits are too many. -/
theorem Whole.big {l : List UInt8} {neg : Bool} {x : List UInt8} (h : Whole l neg x) (hl : 25 < l.length) : wholeP neg (valD x) = none := by
  have h1 : 23 ≤ x.length := by
    have := congrArg List.length h.eq
    simp only [List.length_append, List.length_cons, List.length_nil] at this
    cases neg <;> simp at this <;> omega
  have hx := h.lead (by omega)
  have ha := h.all
  cases x with
  | nil => exact absurd rfl h.ne
  | cons c r =>
    rw [List.all_cons, Bool.and_eq_true] at ha
    have hc := dig_le ha.1
    have hc0 : c.toNat ≠ 48 := fun e => hx (UInt8.toNat_inj.1 e)
    have h22 : 22 ≤ r.length := by simpa using h1
    have h3 : 10 ^ 22 ≤ 10 ^ r.length := Nat.pow_le_pow_right (by decide) h22
    have h4 : 1 * 10 ^ r.length ≤ (c.toNat - 48) * 10 ^ r.length := Nat.mul_le_mul_right _ (by omega)
    have h5 : 10 ^ 22 ≤ valD (c :: r) := by show _ ≤ (c.toNat - 48) * 10 ^ r.length + valD r; omega
    unfold wholeP
    cases neg with
    | true => rw [if_pos rfl, if_neg (by omega)]
    | false => rw [if_neg (by decide), if_neg (by omega)]
/-- Which whole number a text is. -/
def toIntP (l : List UInt8) : Option Int := if chk l && Lib.hasSuffix l [46, 48] then (match Lib.parseIntB 64 (Lib.trimSuffix l [46, 48]) with | .ok v => some v | _ => none) else none
theorem Whole.trim {l : List UInt8} {neg : Bool} {x : List UInt8} (h : Whole l neg x) : Lib.trimSuffix l [46, 48] = (if neg then [45] else []) ++ x := by
  rw [h.eq, trim_suffix]
theorem Whole.toInt {l : List UInt8} {neg : Bool} {x : List UInt8} (h : Whole l neg x) (hc : chk l = true) : toIntP l = wholeP neg (valD x) := by
  unfold toIntP
  have : Lib.hasSuffix l [46, 48] = true := (suffix_iff l).2 ⟨_, h.eq⟩
  rw [hc, this, Bool.and_self, if_pos rfl, h.trim, parse_whole neg x h.all h.ne]
  cases wholeP neg (valD x) <;> rfl
/-- The whole number so far, taken as not above 0. -/
theorem down_step {v k : Nat} (hk : k ≤ 9) : (-(v : Int) < (-9223372036854775808 + (k : Int)).tdiv 10) ↔ 9223372036854775808 < v * 10 + k := by
  rw [show (-9223372036854775808 + (k : Int)) = -((9223372036854775808 - k : Nat) : Int) by omega, Int.neg_tdiv]
  rw [show ((9223372036854775808 - k : Nat) : Int).tdiv 10 = ((9223372036854775808 - k) / 10 : Nat) by
    rw [show (10 : Int) = ((10 : Nat) : Int) from rfl, ← Int.ofNat_tdiv]]
  omega
/-- A numeral, the last digit first. -/
theorem dec_tail (u : Nat) (t : List UInt8) : (if u < 10 then [] else Lib.decDigits (u / 10)) ++ UInt8.ofNat (48 + u % 10) :: t = Lib.decDigits u ++ t := by
  conv => rhs; rw [Lib.decDigits]
  by_cases h : u < 10
  · rw [if_pos h, dif_pos h, Nat.mod_eq_of_lt h]; rfl
  · rw [if_neg h, dif_neg h]; simp
end Go.Proofs.YtabgilmehehbjaaDoor
