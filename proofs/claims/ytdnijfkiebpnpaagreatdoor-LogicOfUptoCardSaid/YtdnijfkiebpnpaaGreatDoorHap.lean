/- Texts of one kind, one behind the other: each says ahead of itself what it shows. -/
import Derived.Test.YtdnijfkiebpnpaaGreatDoorHan
import Derived.Test.YtdnijfkiebpnpaaGreatDoorHao
/- Sums, products and quotients of digits, as numbers. No Go stands here. -/
namespace Go.Proofs.YtdnijfkiebpnpaaGreatDoor

theorem sv_mul (n : Bool) (x k : Nat) : sv n (x * k) = sv n x * (k : Int) := by
  unfold sv; cases n
  · simp
  · simp [Int.neg_mul]
theorem sv_zero (n : Bool) : sv n 0 = 0 := by cases n <;> rfl
theorem sv_not (n : Bool) (x : Nat) : sv (!n) x = -sv n x := by cases n <;> simp [sv]

/-- Digits one place changed. -/
theorem dig_set (ds : List Nat) (j v i : Nat) (h : j < ds.length) : dig (ds.set j v) i = if i = j then v else dig ds i := by
  unfold dig
  simp only [List.getD, List.getElem?_set]
  by_cases e : j = i
  · subst e; simp [h]
  · rw [if_neg e, if_neg (fun k => e k.symm)]
theorem small_set {ds : List Nat} (hs : Small ds) (j v : Nat) (hv : v ≤ 9) (h : j < ds.length) : Small (ds.set j v) := fun i => by
  rw [dig_set _ _ _ _ h]; split
  · exact hv
  · exact hs i
theorem vT_upd (f g : Nat → Nat) (j v : Nat) (hg : ∀ i, g i = if i = j then v else f i) : ∀ n, j < n → vT n g + f j * 10 ^ j = vT n f + v * 10 ^ j := by
  intro n
  induction n with
  | zero => intro h; omega
  | succ n ih =>
    intro h
    show vT n g + g n * 10 ^ n + f j * 10 ^ j = vT n f + f n * 10 ^ n + v * 10 ^ j
    by_cases e : j = n
    · subst e
      have : vT j g = vT j f := vT_eq _ _ _ (fun i hi => by rw [hg, if_neg (by omega)])
      have h2 := hg j
      rw [if_pos rfl] at h2
      rw [this, h2]; omega
    · have := ih (by omega)
      have h2 := hg n
      rw [if_neg (by omega)] at h2
      rw [h2]; omega
theorem val10_set (ds : List Nat) (j v : Nat) (h : j < ds.length) : val10 (ds.set j v) + dig ds j * 10 ^ j = val10 ds + v * 10 ^ j := by
  unfold val10
  rw [List.length_set]
  exact vT_upd _ _ j v (fun i => dig_set ds j v i h) _ h
theorem val10_lt {ds : List Nat} (hs : Small ds) : val10 ds < 10 ^ ds.length := vT_lt _ hs _

/-- A round of the inner loop of a product: digit x of the one number at place i times the digits of the other. -/
structure Row (i x : Nat) (bs' : List Nat) (D0 : Nat) (len : Nat) (ds : List Nat) (k c : Nat) : Prop where
  small : Small ds
  len : ds.length = len
  car : c ≤ 9
  val : val10 ds + c * 10 ^ (i + k) = D0 + x * vT k (dig bs') * 10 ^ i
theorem Row.start {i x : Nat} {bs' ds : List Nat} (hs : Small ds) : Row i x bs' (val10 ds) ds.length ds 0 0 := ⟨hs, rfl, by omega, by simp [vT]⟩
theorem Row.step {i x D0 len k c n : Nat} {bs' ds : List Nat} (h : Row i x bs' D0 len ds k c) (hx : x ≤ 9) (hb : Small bs') (hl : i + k < len) (hn : n = dig ds (i + k) + x * dig bs' k + c) : Row i x bs' D0 len (ds.set (i + k) (n % 10)) (k + 1) (n / 10) ∧ n ≤ 99 := by
  have h1 := h.small (i + k)
  have h2 := hb k
  have h3 : x * dig bs' k ≤ 9 * 9 := Nat.mul_le_mul hx h2
  have h4 := h.car
  have hl' : i + k < ds.length := by rw [h.len]; exact hl
  refine ⟨⟨small_set h.small _ _ (by omega) hl', by rw [List.length_set, h.len], by omega, ?_⟩, by omega⟩
  have e := val10_set ds (i + k) (n % 10) hl'
  have v := h.val
  show _ = D0 + x * (vT k (dig bs') + dig bs' k * 10 ^ k) * 10 ^ i
  have e1 : x * (vT k (dig bs') + dig bs' k * 10 ^ k) * 10 ^ i = x * vT k (dig bs') * 10 ^ i + x * dig bs' k * 10 ^ (i + k) := by
    rw [Nat.mul_add, Nat.add_mul, Nat.pow_add, ← Nat.mul_assoc, Nat.mul_assoc (x * dig bs' k), Nat.mul_comm (10 ^ k)]
  have e2 : n / 10 * 10 ^ (i + (k + 1)) = n / 10 * 10 * 10 ^ (i + k) := by
    rw [← Nat.add_assoc, Nat.pow_succ, Nat.mul_comm (10 ^ (i + k)), Nat.mul_assoc]
  have e3 : n % 10 * 10 ^ (i + k) + n / 10 * 10 * 10 ^ (i + k) = n * 10 ^ (i + k) := by rw [← Nat.add_mul]; congr 1; omega
  have e4 : n * 10 ^ (i + k) = dig ds (i + k) * 10 ^ (i + k) + x * dig bs' k * 10 ^ (i + k) + c * 10 ^ (i + k) := by rw [hn, Nat.add_mul, Nat.add_mul]
  rw [e1, e2]
  omega
/-- The inner loop stays within the digits. -/
theorem Row.room {i x len k c : Nat} {xs bs' ds : List Nat} (h : Row i x bs' (vT i (dig xs) * val10 bs') len ds k c) (ha : Small xs) (hb : Small bs') (hx : x = dig xs i) (hi : i < xs.length) (hlen : len = xs.length + bs'.length + 1) (hk : k < bs'.length ∨ 0 < c) : i + k < len := by
  rcases Nat.lt_or_ge k bs'.length with q | q
  · omega
  · rcases hk with hk | hk
    · omega
    have v := h.val
    rw [val10_pad bs' q] at v
    have hv : vT i (dig xs) * val10 bs' + x * val10 bs' * 10 ^ i = vT (i + 1) (dig xs) * val10 bs' := by
      show _ = (vT i (dig xs) + dig xs i * 10 ^ i) * val10 bs'
      rw [Nat.add_mul, hx, Nat.mul_right_comm]
    rw [hv] at v
    have b1 := vT_lt (dig xs) ha (i + 1)
    have b2 := val10_lt hb
    have b3 : vT (i + 1) (dig xs) * val10 bs' < 10 ^ (i + 1) * 10 ^ bs'.length := by
      rcases Nat.eq_zero_or_pos (val10 bs') with z | z
      · rw [z, Nat.mul_zero]; exact Nat.mul_pos (Nat.pow_pos (by decide)) (Nat.pow_pos (by decide))
      · exact Nat.mul_lt_mul_of_lt_of_lt b1 b2
    rw [← Nat.pow_add] at b3
    have b4 : 1 * 10 ^ (i + k) ≤ c * 10 ^ (i + k) := Nat.mul_le_mul_right _ hk
    have b5 : 10 ^ (i + k) < 10 ^ (i + 1 + bs'.length) := by omega
    have := (Nat.pow_lt_pow_iff_right (show 1 < 10 by decide)).1 b5
    omega
theorem Row.all {i x len k : Nat} {xs bs' ds : List Nat} (h : Row i x bs' (vT i (dig xs) * val10 bs') len ds k 0) (hx : x = dig xs i) (hk : bs'.length ≤ k) : val10 ds = vT (i + 1) (dig xs) * val10 bs' := by
  have v := h.val
  rw [val10_pad bs' hk, Nat.zero_mul, Nat.add_zero] at v
  rw [v]
  show _ = (vT i (dig xs) + dig xs i * 10 ^ i) * val10 bs'
  rw [Nat.add_mul, hx, Nat.mul_right_comm]

/-- A number's digits from place i on. -/
theorem top_step {ds : List Nat} (hs : Small ds) (i : Nat) : val10 ds / 10 ^ i = val10 ds / 10 ^ (i + 1) * 10 + dig ds i := by
  have key : ∀ (f : Nat → Nat), (∀ j, f j ≤ 9) → ∀ n, vT (i + 1 + n) f / 10 ^ i % 10 = f i := by
    intro f hf n
    have e : ∃ q, vT (i + 1 + n) f = vT (i + 1) f + q * 10 ^ (i + 1) := by
      induction n with
      | zero => exact ⟨0, by simp⟩
      | succ n ih =>
        obtain ⟨q, hq⟩ := ih
        refine ⟨q + f (i + 1 + n) * 10 ^ n, ?_⟩
        show vT (i + 1 + n) f + f (i + 1 + n) * 10 ^ (i + 1 + n) = _
        rw [hq, Nat.pow_add 10 (i + 1) n, Nat.add_mul, Nat.mul_assoc (f (i + 1 + n)), Nat.mul_comm (10 ^ n), Nat.add_assoc]
    obtain ⟨q, hq⟩ := e
    have hl := vT_lt f hf i
    rw [hq]
    show (vT i f + f i * 10 ^ i + q * 10 ^ (i + 1)) / 10 ^ i % 10 = f i
    have e2 : vT i f + f i * 10 ^ i + q * 10 ^ (i + 1) = vT i f + 10 ^ i * (f i + q * 10) := by
      rw [Nat.pow_succ, Nat.mul_add, Nat.mul_comm (10 ^ i) (f i), ← Nat.mul_assoc (10 ^ i), Nat.mul_comm (10 ^ i) q, Nat.mul_assoc q, ← Nat.add_assoc]
    rw [e2, Nat.add_mul_div_left _ _ (Nat.pow_pos (by decide)), Nat.div_eq_of_lt hl, Nat.zero_add, Nat.add_mul_mod_self_right, Nat.mod_eq_of_lt (by have := hf i; omega)]
  have h1 := key (dig ds) hs ds.length
  rw [val10_pad ds (by omega)] at h1
  rw [Nat.pow_succ, ← Nat.div_div_eq_div_mul]
  omega
/-- One place of a long division. -/
theorem long_step {X B t : Nat} (hB : 0 < B) : (X * 10 + t) / B = X / B * 10 + (X % B * 10 + t) / B ∧ (X * 10 + t) % B = (X % B * 10 + t) % B := by
  have e : X * 10 + t = X % B * 10 + t + B * (X / B * 10) := by
    have := Nat.div_add_mod X B
    rw [← Nat.mul_assoc]
    generalize X / B = q at *
    generalize X % B = r at *
    rw [← this, Nat.add_mul]; omega
  constructor
  · rw [e, Nat.add_mul_div_left _ _ hB, Nat.add_comm]
  · rw [e, Nat.add_mul_mod_self_left]
end Go.Proofs.YtdnijfkiebpnpaaGreatDoor

/- The document's reckoning with digits is reckoning with numbers scaled by 10 ^ 54. No Go stands here. -/
namespace Go.Proofs.YtdnijfkiebpnpaaGreatDoor

theorem nval_abs (n : Bool) (ds : List Nat) (sc : Nat) : (nval n ds sc).natAbs = val10 ds * 10 ^ (54 - sc) := natAbs_sv _ _
theorem form_num {n : Bool} {ds : List Nat} {sc : Nat} (hs : Small ds) (h : sc ≤ 54) {z : Int} (hz : nval n ds sc = z) (hb : z.natAbs < 10 ^ 144) : formP n ds sc = txt z := by
  rw [formP_txt n hs sc h (by rw [← nval_abs n, hz]; exact hb), hz]

theorem pow_cut {s t : Nat} (h : s ≤ t) (h2 : t ≤ 54) : 10 ^ (t - s) * 10 ^ (54 - t) = 10 ^ (54 - s) := by
  rw [← Nat.pow_add]; congr 1; omega
theorem nval_plus {na nb nz : Bool} {da db dz : List Nat} {sa sb s : Nat} (h1 : sa ≤ s) (h2 : sb ≤ s) (h54 : s ≤ 54)
    (h : sv nz (val10 dz) = sv na (val10 da * 10 ^ (s - sa)) + sv nb (val10 db * 10 ^ (s - sb))) : nval nz dz s = nval na da sa + nval nb db sb := by
  unfold nval
  rw [sv_mul, h, Int.add_mul, ← sv_mul, ← sv_mul, Nat.mul_assoc, Nat.mul_assoc, pow_cut h1 h54, pow_cut h2 h54]

/-- What a decimal is to the document: its sign, its digits, how many of them are behind the point. -/
structure Dec (l : List UInt8) (n : Bool) (ds : List Nat) (sc : Nat) : Prop where
  sign : n = dsign l
  small : Small ds
  amt : val10 ds * 10 ^ (54 - sc) = damt l
  sc : sc ≤ 20
  len : ds.length ≤ 60
theorem Dec.val {l : List UInt8} {n : Bool} {ds : List Nat} {sc : Nat} (h : Dec l n ds sc) : nval n ds sc = dval l := by
  unfold nval dval; rw [h.amt, h.sign]
theorem split_chk {l : List UInt8} (h : chk l = true) : okP (sgn l).2 = true ∧ Dec l (sgn l).1 (revD ((Lib.cut (sgn l).2 [46]).1 ++ (Lib.cut (sgn l).2 [46]).2.1)) (Lib.cut (sgn l).2 [46]).2.1.length := by
  obtain ⟨_, _, _, _, a, b, hsp, ha, hb, la, lb, e⟩ := chk_dec l h
  rw [splitP_ok] at hsp
  by_cases hk : okP (sgn l).2 = true
  · rw [if_pos hk] at hsp
    have e0 := Option.some.inj hsp
    have e1 : (sgn l).1 = dsign l := congrArg (·.1) e0
    have e2 : (Lib.cut (sgn l).2 [46]).1 = a := congrArg (·.2.1) e0
    have e3 : (Lib.cut (sgn l).2 [46]).2.1 = b := congrArg (·.2.2) e0
    refine ⟨hk, e1, ?_, ?_, ?_, ?_⟩
    · rw [e2, e3]; exact small_rev _ (by rw [List.all_append, ha, hb]; rfl)
    · rw [e2, e3, e, num54_rev a b (by omega)]
    · rw [e3]; exact lb
    · rw [e2, e3, revD_len, List.length_append]; omega
  · rw [if_neg hk] at hsp; cases hsp

theorem dmul_of {l r : List UInt8} {na nb : Bool} {da db dz : List Nat} {sa sb : Nat} (ha : Dec l na da sa) (hb : Dec r nb db sb) (h : val10 dz = val10 da * val10 db) : nval (na != nb) dz (sa + sb) = dmul l r := by
  unfold nval dmul
  have h1 := ha.sc
  have h2 := hb.sc
  rw [← ha.sign, ← hb.sign, ← ha.amt, ← hb.amt, h]
  congr 1
  have e : val10 da * 10 ^ (54 - sa) * (val10 db * 10 ^ (54 - sb)) = val10 da * val10 db * 10 ^ (54 - (sa + sb)) * 10 ^ 54 := by
    have e1 : 10 ^ (54 - sa) * 10 ^ (54 - sb) = 10 ^ (54 - (sa + sb)) * 10 ^ 54 := by rw [← Nat.pow_add, ← Nat.pow_add]; congr 1; omega
    rw [Nat.mul_assoc (val10 da * val10 db), ← e1, Nat.mul_mul_mul_comm]
  rw [e, Nat.mul_div_cancel _ (Nat.pow_pos (by decide))]
theorem quo_scale (va vb p q t m : Nat) (ht : 0 < t) : va * p * m / (vb * q) = va * (p * t) * m / (vb * (q * t)) := by
  rw [← Nat.mul_assoc va, ← Nat.mul_assoc vb, Nat.mul_right_comm (va * p) t m, Nat.mul_div_mul_right _ _ ht]
theorem dquo_of {l r : List UInt8} {na nb : Bool} {da db dz : List Nat} {sa sb s : Nat} (ha : Dec l na da sa) (hb : Dec r nb db sb) (h1 : sa ≤ s) (h2 : sb ≤ s) (h54 : s ≤ 54)
    (h : val10 dz = val10 da * 10 ^ (s - sa) * 10 ^ 20 / (val10 db * 10 ^ (s - sb))) : nval (na != nb) dz 20 = dquo l r := by
  have e : val10 dz = damt l * 10 ^ 20 / damt r := by
    rw [h, ← ha.amt, ← hb.amt, ← pow_cut h1 h54, ← pow_cut h2 h54]
    exact quo_scale _ _ _ _ _ _ (Nat.pow_pos (by decide))
  unfold nval dquo
  rw [← ha.sign, ← hb.sign, e]
theorem Dec.zero {l : List UInt8} {n : Bool} {ds : List Nat} {sc : Nat} (h : Dec l n ds sc) : val10 ds = 0 ↔ damt l = 0 := by
  have := h.amt
  constructor
  · intro e; rw [← this, e, Nat.zero_mul]
  · intro e
    rw [e, Nat.mul_eq_zero] at this
    rcases this with k | k
    · exact k
    · exact absurd k (Nat.pos_iff_ne_zero.1 (Nat.pow_pos (by decide)))
end Go.Proofs.YtdnijfkiebpnpaaGreatDoor

/- The sum of two numbers of the document's. -/
namespace Go.Proofs.YtdnijfkiebpnpaaGreatDoor
open Go.RowKit

theorem wp_store44n {op : Oper} {a : Act} {w : World} {K : Act → World → Prop} {Q : Exit → Act → World → Prop} {n m : Bool} {v u : Value} {sc sd : Int} (x y : Operand) (ho : op.op = .store 47 x y) (hd : op.dst = none) (g : Nat)
    (hx : a.eval x = .pointer (some ⟨g, 0, none⟩)) (hy : a.eval y = .agg #[.bool m, u, .int .i64 sd]) (hg : Rec w g n v sc) (h1 : u.oneCell' = true) (h : ∀ w', Only g w w' → Rec w' g m u sd → K a w') : op.wp Tryz.prog a w K Q :=
  wp_store44 x y ho g hx hy hg h1 fun w' h1 h2 => by rw [hd]; exact h w' h1 h2
theorem refScaledA (neg : Bool) (v : Value) (ds : List Nat) (sc scale : Nat) (w : World) (h : Ints w v ds) (hs : sc ≤ scale) (l1 : scale ≤ 1000000000) (l2 : ds.length ≤ 1000000000) (xs : List Nat) (hx : Hid (xs = List.replicate (scale - sc) 0 ++ ds)) :
    Calls Tryz.prog 36 #[.agg #[.bool neg, v, .int .i64 sc], .int .i64 scale] w fun e w' => ∃ z, e = .returned z ∧ Ints w' z xs ∧ Below w.heap.size w w' := by
  rw [hx.out]; exact refScaled neg v ds sc scale w h hs l1 l2
/-- What is known within the last statements of 'plus'. -/
structure PlusS (w : World) (N1 : Bool) (u : Value) (s1 : Int) (N2 : Bool) (v : Value) (s2 : Int) (x : Value) (dx : List Nat) (y : Value) (dy : List Nat) (w' : World) : Prop where
  r2 : Rec w' w.heap.size N1 u s1
  r3 : Rec w' (w.heap.size + 1) N2 v s2
  r4 : ∃ n z k, Rec w' (w.heap.size + 2) n z k
  i1 : Ints w' x dx
  i2 : Ints w' y dy
  bel : Below w.heap.size w w'
theorem PlusS.below {w w' w2 : World} {N1 N2 : Bool} {u v x y : Value} {s1 s2 : Int} {dx dy : List Nat} (h : PlusS w N1 u s1 N2 v s2 x dx y dy w') (k : Below w'.heap.size w' w2) : PlusS w N1 u s1 N2 v s2 x dx y dy w2 :=
  ⟨h.r2.below k, h.r3.below k, (have ⟨n, z, q, r⟩ := h.r4; ⟨n, z, q, r.below k⟩), h.i1.below k, h.i2.below k, below_any h.bel k (Nat.le_of_lt h.r2.lt)⟩
/-- What plus tells: its sign, its digits. -/
def PlusPost (w : World) (V : Int) (L : Nat) (S : Int) (e : Ending) (w' : World) : Prop :=
  ∃ n z zs, e = .returned (.agg #[.bool n, z, .int .i64 S]) ∧ Ints w' z zs ∧ Small zs ∧ sv n (val10 zs) = V ∧ zs.length ≤ L ∧ Below w.heap.size w w'

theorem sv_sum (n : Bool) {a b c : Nat} (h : c = a + b) : sv n c = sv n a + sv n b := by
  unfold sv; cases n <;> simp <;> omega
theorem sv_diff1 {n m : Bool} {a b c : Nat} (hn : n ≠ m) (h : c + b = a) : sv n c = sv n a + sv m b := by
  unfold sv; cases n <;> cases m <;> simp at hn ⊢ <;> omega
theorem sv_diff2 {n m : Bool} {a b c : Nat} (hn : n ≠ m) (h : c + a = b) : sv m c = sv n a + sv m b := by
  unfold sv; cases n <;> cases m <;> simp at hn ⊢ <;> omega
theorem pad_small {k : Nat} {ds : List Nat} (h : Small ds) : Small (List.replicate k 0 ++ ds) := small_pad h

set_option maxRecDepth 20000 in
set_option maxHeartbeats 3200000 in
theorem refPlus (N1 N2 : Bool) (u v : Value) (d1 d2 : List Nat) (s1 s2 S : Nat) (w : World) (I1 : Ints w u d1) (I2 : Ints w v d2) (sm1 : Small d1) (sm2 : Small d2) (h1 : s1 ≤ S) (h2 : s2 ≤ S) (h3 : S = s1 ∨ S = s2) (b1 : S ≤ 1000000) (l1 : d1.length ≤ 100000000) (l2 : d2.length ≤ 100000000) :
    Calls Tryz.prog 26 #[.agg #[.bool N1, u, .int .i64 s1], .agg #[.bool N2, v, .int .i64 s2]] w (PlusPost w (sv N1 (val10 d1 * 10 ^ (S - s1)) + sv N2 (val10 d2 * 10 ^ (S - s2))) (d1.length + d2.length + 2 * S + 1) S) := by
  obtain ⟨dx, hdx⟩ : ∃ dx, dx = List.replicate (S - s1) 0 ++ d1 := ⟨_, rfl⟩
  obtain ⟨dy, hdy⟩ : ∃ dy, dy = List.replicate (S - s2) 0 ++ d2 := ⟨_, rfl⟩
  have hvx : val10 d1 * 10 ^ (S - s1) = val10 dx := by rw [hdx, val10_shift]
  have hvy : val10 d2 * 10 ^ (S - s2) = val10 dy := by rw [hdy, val10_shift]
  have hlx : dx.length = S - s1 + d1.length := by rw [hdx, pad_len]
  have hly : dy.length = S - s2 + d2.length := by rw [hdy, pad_len]
  rw [hvx, hvy]
  have HDX := Lib.hid hdx
  have HDY := Lib.hid hdy
  have hlim : dx.length ≤ 1000000000 ∧ dy.length ≤ 1000000000 ∧ dx.length + dy.length + 1 ≤ d1.length + d2.length + 2 * S + 1 := by omega
  have HLX := Lib.hid hlim
  have hsm : Small dx ∧ Small dy ∧ True := by rw [hdx, hdy]; exact ⟨small_pad sm1, small_pad sm2, trivial⟩
  have HD := Lib.hid hsm
  have HL0 := Lib.hid (And.intro l1 l2)
  have HS3 := Lib.hid h3
  generalize d1.length + d2.length + 2 * S + 1 = L at *
  obtain ⟨V, hV⟩ : ∃ V, V = sv N1 (val10 dx) + sv N2 (val10 dy) := ⟨_, rfl⟩
  rw [← hV]
  have HVS := Lib.hid hV.symm
  have o1 := ints_one I1
  have o2 := ints_one I2
  obtain ⟨W0, hW0⟩ : ∃ W0, W0 = ((w.alloc (.cells #[.bool N1, u, .int .i64 s1] 47)).alloc (.cells #[.bool N2, v, .int .i64 s2] 47)).alloc (.cells #[.bool false, .slice none 0 0, .int .i64 0] 47) := ⟨_, rfl⟩
  have R2 : Rec W0 w.heap.size N1 u s1 := by rw [hW0]; exact heap_old _ (heap_old _ (heap_new _ _ rfl))
  have R3 : Rec W0 (w.heap.size + 1) N2 v s2 := by rw [hW0]; exact heap_old _ (heap_new _ _ (by simp))
  have R4 : Rec W0 (w.heap.size + 2) false (.slice none 0 0) 0 := by rw [hW0]; exact heap_new _ _ (by simp)
  have hb0 : Below w.heap.size w W0 := by rw [hW0]; exact (((Below.refl _ _).alloc (Nat.le_refl _) _).alloc (by simp) _).alloc (by simp; omega) _
  have HR := Lib.hid (And.intro R2 (And.intro R3 (And.intro R4 hb0)))
  have HI1 := Lib.hid (I1.below hb0)
  have HI2 := Lib.hid (I2.below hb0)
  have HW0 := Lib.hid hW0
  clear hvx hvy hlx hly hdx hdy hlim hsm sm1 sm2 I1 I2 l1 l2 h3 hV R2 R3 R4 hb0 hW0
  go_enter Tryz.func26, Tryz.ntmps26
  go_upto_if 13 with fail
  go_cut [5] (fun s5 wx => s5 = .int .i64 S ∧ wx = W0)
  case first =>
    by_cases hs : (s2 : Int) > s1
    · obtain rfl : S = s2 := by have := HS3.out; omega
      go_wp2_with fail
      go_meet
      case rel => exact ⟨rfl, HW0.out.symm⟩
    · obtain rfl : S = s1 := by have := HS3.out; omega
      go_wp2_with fail
      go_meet
      case rel => exact ⟨rfl, HW0.out.symm⟩
  case rest =>
    obtain ⟨rfl, rfl⟩ := hcut
    have r2 := HR.out.1
    have r3 := HR.out.2.1
    go_upto_region 6 with (first
      | ((with_reducible refine wpList_load44 (.tmp 2) w.heap.size r2 ?_ ?_ ?_ ?_); rfl; rfl; rfl)
      | (go_at_call 36; (with_reducible refine (refScaledA N1 u d1 s1 S _ HI1.out h1 (by omega) (by have := HL0.out; omega) dx HDX).mono ?_); rintro e wa ⟨x, rfl, hx, hba⟩; have r3a := r3.below hba; have HA := Lib.hid (And.intro hx hba); clear hx hba r2)
      | ((with_reducible refine wpList_load44 (.tmp 3) (w.heap.size + 1) r3a ?_ ?_ ?_ ?_); rfl; rfl; rfl)
      | (go_at_call 36; (with_reducible refine (refScaledA N2 v d2 s2 S _ (HI2.out.below HA.out.2) h2 (by omega) (by have := HL0.out; omega) dy HDY).mono ?_); rintro e wb ⟨y, rfl, hy, hbb⟩; have HB := Lib.hid (And.intro hy hbb); clear hy hbb r3a r3))
    have HS : Hid (PlusS w N1 u s1 N2 v s2 x dx y dy wb) := Lib.hid ⟨(HR.out.1.below HA.out.2).below HB.out.2, (HR.out.2.1.below HA.out.2).below HB.out.2, ⟨_, _, _, (HR.out.2.2.1.below HA.out.2).below HB.out.2⟩, HA.out.1.below HB.out.2, HB.out.1, below_any (below_any HR.out.2.2.2 HA.out.2 HR.out.2.2.2.size) HB.out.2 (Nat.le_trans HR.out.2.2.2.size HA.out.2.size)⟩
    clear HR HA HB HI1 HI2 HL0 HS3 HDX HDY
    have c2 := HS.out.r2.c0
    have c3 := HS.out.r3.c0
    by_cases hN : N1 = N2
    · subst hN
      have HV : Hid (V = sv N1 (val10 dx + val10 dy)) := Lib.hid (by rw [← HVS.out]; exact (sv_sum N1 rfl).symm)
      go_wp2_with fail
      clear c2 c3
      refine wp_region_held_drew (S := PlusS w N1 u s1 N1 v s2 x dx y dy) (by kernel_rfl) (by have h := HS.out; exact ⟨h.r2, h.r3, h.r4, h.i1, h.i2, h.bel.drew⟩) (fun hHeld => ?_)
      refine wpAnyH_take (i := 0) (v := .pointer (some ⟨w.heap.size, 0, none⟩)) rfl (by kernel_rfl) (by kernel_rfl) (by kernel_rfl) (fun _ _ _ h => h) (Or.inl ⟨by rfl, fun W _ => by go_simp⟩) hHeld ?_
      try simp only [Act.put, List.getElem_toArray, List.getElem_cons_succ, List.getElem_cons_zero, List.setIfInBounds_toArray, List.set_cons_zero, List.set_cons_succ]
      refine wpAnyH_take (i := 1) (v := .bool N1) rfl (by kernel_rfl) (by kernel_rfl) (by kernel_rfl) (fun _ _ _ h => h) (Or.inl ⟨by rfl, fun W h => by have c0 := h.r2.c0; go_simp⟩) hHeld ?_
      try simp only [Act.put, List.getElem_toArray, List.getElem_cons_succ, List.getElem_cons_zero, List.setIfInBounds_toArray, List.set_cons_zero, List.set_cons_succ]
      refine wpAnyH_take (i := 2) (v := x) rfl (by kernel_rfl) (by kernel_rfl) (by kernel_rfl) (fun _ _ _ h => h) (Or.inl ⟨by rfl, fun W _ => by go_simp⟩) hHeld ?_
      try simp only [Act.put, List.getElem_toArray, List.getElem_cons_succ, List.getElem_cons_zero, List.setIfInBounds_toArray, List.set_cons_zero, List.set_cons_succ]
      refine wpAnyH_take (i := 3) (v := y) rfl (by kernel_rfl) (by kernel_rfl) (by kernel_rfl) (fun _ _ _ h => h) (Or.inl ⟨by rfl, fun W _ => by go_simp⟩) hHeld ?_
      try simp only [Act.put, List.getElem_toArray, List.getElem_cons_succ, List.getElem_cons_zero, List.setIfInBounds_toArray, List.set_cons_zero, List.set_cons_succ]
      refine wpAnyH_take (i := 5) (v := .int .i64 S) rfl (by kernel_rfl) (by kernel_rfl) (by kernel_rfl) (fun _ _ _ h => h) (Or.inl ⟨by rfl, fun W _ => by go_simp⟩) hHeld ?_
      try simp only [Act.put, List.getElem_toArray, List.getElem_cons_succ, List.getElem_cons_zero, List.setIfInBounds_toArray, List.set_cons_zero, List.set_cons_succ]
      refine wpAnyH_ready (rs := [4]) (by kernel_rfl) (by simp) ?_
      refine AllReadyH.cons rfl (fun K hK => ?_) AllReadyH.nil
      go_simp
      refine (refAdd x y dx dy _ hHeld.i1 hHeld.i2 HD.out.1 HD.out.2.1 HLX.out.1 HLX.out.2.1).mono ?_
      rintro e wc ⟨z, zs, rfl, hz, hzs, hv, hl, hbc⟩
      obtain ⟨pz, capz, rfl⟩ := hz.form
      have HVZ := Lib.hid hv.out
      have HLZ := Lib.hid hl
      clear hv hl
      refine hK.out _ _ (hHeld.below hbc) (fun hHeld2 => ?_)
      clear hK K hbc hHeld
      have hHeld := hHeld2
      clear hHeld2
      try simp only [Act.put, List.getElem_toArray, List.getElem_cons_succ, List.getElem_cons_zero, List.setIfInBounds_toArray, List.set_cons_zero, List.set_cons_succ]
      refine wpAnyH_take (i := 6) (v := .agg #[.bool N1, .slice pz zs.length capz, .int .i64 S]) rfl (by kernel_rfl) (by kernel_rfl) (by kernel_rfl) (fun _ _ _ h => h) (Or.inl ⟨by rfl, fun W _ => by go_simp⟩) hHeld ?_
      try simp only [Act.put, List.getElem_toArray, List.getElem_cons_succ, List.getElem_cons_zero, List.setIfInBounds_toArray, List.set_cons_zero, List.set_cons_succ]
      obtain ⟨n4, z4, k4, r4⟩ := hHeld.r4
      have hlt := hHeld.r2.lt
      have hzone := ints_one hz
      refine wpAnyH_ready (rs := [7]) (by kernel_rfl) (by simp) ?_
      refine AllReadyH.cons rfl (fun K hK => ?_) AllReadyH.nil
      rw [if_pos (by rfl)]
      refine wp_store44n (.tmp 4) (.tmp 33) rfl rfl (w.heap.size + 2) rfl rfl r4 hzone (fun w5 ho5 x4 => ?_)
      have hz5 := hz.rec ho5 r4
      have hb5 := below_only hHeld.bel ho5 (by omega) (Nat.le_of_lt hlt)
      refine hK.out _ _ ⟨hHeld.r2.only ho5 (by omega), hHeld.r3.only ho5 (by omega), ⟨_, _, _, x4⟩, hHeld.i1.rec ho5 r4, hHeld.i2.rec ho5 r4, hb5⟩ (fun hHeld2 => ?_)
      have HZ5 := Lib.hid (And.intro hz5 (And.intro hzs hb5))
      clear hK K ho5 hz hz5 hzs hb5 r4 hHeld hHeld2
      try simp only [Act.put, List.getElem_toArray, List.getElem_cons_succ, List.getElem_cons_zero, List.setIfInBounds_toArray, List.set_cons_zero, List.set_cons_succ]
      refine wpAnyH_done (by kernel_rfl) ?_ _
      go_wp2_with fail
      exact bodyPost_ret (v := .agg #[.bool N1, .slice pz zs.length capz, .int .i64 S]) (results44one (p := 4) Tryz.results26 _ rfl x4) rfl ⟨N1, _, zs, rfl, HZ5.out.1, HZ5.out.2.1, by rw [HVZ.out]; exact HV.out.symm, by have := HLZ.out; have := HLX.out; omega, HZ5.out.2.2⟩
    · have HNE := Lib.hid hN
      have hNb : (N1 == N2) = false := by simpa using hN
      have J1 := Lib.hid HS.out.i1
      have J2 := Lib.hid HS.out.i2
      obtain ⟨r, hr⟩ : ∃ r, r = cmpZ (val10 dx) (val10 dy) := ⟨_, rfl⟩
      have HRR := Lib.hid hr
      clear hN hr
      by_cases hlt0 : val10 dx < val10 dy
      · have HLE := Lib.hid hlt0
        obtain rfl : r = -1 := by rw [HRR.out]; unfold cmpZ; rw [if_pos (by omega)]
        clear hlt0
        go_wp2_with (go_at_call 38; (with_reducible refine (refCompare x y dx dy _ J1.out J2.out HD.out.1 HD.out.2.1 (by have := HLX.out; omega) (by have := HLX.out; omega) _ HRR.out).mono ?_); rintro e w' ⟨rfl, rfl⟩)
        clear c2 c3
        refine wp_region_held_drew (S := PlusS w N1 u s1 N2 v s2 x dx y dy) (by kernel_rfl) (by have h := HS.out; exact ⟨h.r2, h.r3, h.r4, h.i1, h.i2, h.bel.drew⟩) (fun hHeld => ?_)
        refine wpAnyH_take (i := 0) (v := .pointer (some ⟨w.heap.size + 1, 0, none⟩)) rfl (by kernel_rfl) (by kernel_rfl) (by kernel_rfl) (fun _ _ _ h => h) (Or.inl ⟨by rfl, fun W _ => by go_simp⟩) hHeld ?_
        try simp only [Act.put, List.getElem_toArray, List.getElem_cons_succ, List.getElem_cons_zero, List.setIfInBounds_toArray, List.set_cons_zero, List.set_cons_succ]
        refine wpAnyH_take (i := 1) (v := .bool N2) rfl (by kernel_rfl) (by kernel_rfl) (by kernel_rfl) (fun _ _ _ h => h) (Or.inl ⟨by rfl, fun W h => by have c0 := h.r3.c0; go_simp⟩) hHeld ?_
        try simp only [Act.put, List.getElem_toArray, List.getElem_cons_succ, List.getElem_cons_zero, List.setIfInBounds_toArray, List.set_cons_zero, List.set_cons_succ]
        refine wpAnyH_take (i := 2) (v := y) rfl (by kernel_rfl) (by kernel_rfl) (by kernel_rfl) (fun _ _ _ h => h) (Or.inl ⟨by rfl, fun W _ => by go_simp⟩) hHeld ?_
        try simp only [Act.put, List.getElem_toArray, List.getElem_cons_succ, List.getElem_cons_zero, List.setIfInBounds_toArray, List.set_cons_zero, List.set_cons_succ]
        refine wpAnyH_take (i := 3) (v := x) rfl (by kernel_rfl) (by kernel_rfl) (by kernel_rfl) (fun _ _ _ h => h) (Or.inl ⟨by rfl, fun W _ => by go_simp⟩) hHeld ?_
        try simp only [Act.put, List.getElem_toArray, List.getElem_cons_succ, List.getElem_cons_zero, List.setIfInBounds_toArray, List.set_cons_zero, List.set_cons_succ]
        refine wpAnyH_take (i := 5) (v := .int .i64 S) rfl (by kernel_rfl) (by kernel_rfl) (by kernel_rfl) (fun _ _ _ h => h) (Or.inl ⟨by rfl, fun W _ => by go_simp⟩) hHeld ?_
        try simp only [Act.put, List.getElem_toArray, List.getElem_cons_succ, List.getElem_cons_zero, List.setIfInBounds_toArray, List.set_cons_zero, List.set_cons_succ]
        refine wpAnyH_ready (rs := [4]) (by kernel_rfl) (by simp) ?_
        refine AllReadyH.cons rfl (fun K hK => ?_) AllReadyH.nil
        go_simp
        refine (refSub y x dy dx _ hHeld.i2 hHeld.i1 HD.out.2.1 HD.out.1 (by have := HLE.out; omega) HLX.out.2.1).mono ?_
        rintro e wc ⟨z, zs, rfl, hz, hzs, hv, hl, hbc⟩
        obtain ⟨pz, capz, rfl⟩ := hz.form
        have HVZ := Lib.hid hv.out
        have HLZ := Lib.hid hl
        clear hv hl
        refine hK.out _ _ (hHeld.below hbc) (fun hHeld2 => ?_)
        clear hK K hbc hHeld
        have hHeld := hHeld2
        clear hHeld2
        try simp only [Act.put, List.getElem_toArray, List.getElem_cons_succ, List.getElem_cons_zero, List.setIfInBounds_toArray, List.set_cons_zero, List.set_cons_succ]
        refine wpAnyH_take (i := 6) (v := .agg #[.bool N2, .slice pz zs.length capz, .int .i64 S]) rfl (by kernel_rfl) (by kernel_rfl) (by kernel_rfl) (fun _ _ _ h => h) (Or.inl ⟨by rfl, fun W _ => by go_simp⟩) hHeld ?_
        try simp only [Act.put, List.getElem_toArray, List.getElem_cons_succ, List.getElem_cons_zero, List.setIfInBounds_toArray, List.set_cons_zero, List.set_cons_succ]
        obtain ⟨n4, z4, k4, r4⟩ := hHeld.r4
        have hlt := hHeld.r2.lt
        have hzone := ints_one hz
        refine wpAnyH_ready (rs := [7]) (by kernel_rfl) (by simp) ?_
        refine AllReadyH.cons rfl (fun K hK => ?_) AllReadyH.nil
        rw [if_pos (by rfl)]
        refine wp_store44n (.tmp 4) (.tmp 44) rfl rfl (w.heap.size + 2) rfl rfl r4 hzone (fun w5 ho5 x4 => ?_)
        have hz5 := hz.rec ho5 r4
        have hb5 := below_only hHeld.bel ho5 (by omega) (Nat.le_of_lt hlt)
        refine hK.out _ _ ⟨hHeld.r2.only ho5 (by omega), hHeld.r3.only ho5 (by omega), ⟨_, _, _, x4⟩, hHeld.i1.rec ho5 r4, hHeld.i2.rec ho5 r4, hb5⟩ (fun hHeld2 => ?_)
        have HZ5 := Lib.hid (And.intro hz5 (And.intro hzs hb5))
        clear hK K ho5 hz hz5 hzs hb5 r4 hHeld hHeld2
        try simp only [Act.put, List.getElem_toArray, List.getElem_cons_succ, List.getElem_cons_zero, List.setIfInBounds_toArray, List.set_cons_zero, List.set_cons_succ]
        refine wpAnyH_done (by kernel_rfl) ?_ _
        go_wp2_with fail
        exact bodyPost_ret (v := .agg #[.bool N2, .slice pz zs.length capz, .int .i64 S]) (results44one (p := 4) Tryz.results26 _ rfl x4) rfl ⟨N2, _, zs, rfl, HZ5.out.1, HZ5.out.2.1, by rw [← HVS.out]; exact sv_diff2 HNE.out HVZ.out, by have := HLZ.out; have := HLX.out; omega, HZ5.out.2.2⟩
      · have HLE := Lib.hid hlt0
        have hrn : ¬ r < 0 := by rw [HRR.out]; unfold cmpZ; rw [if_neg (by omega)]; split <;> omega
        clear hlt0
        go_wp2_with (go_at_call 38; (with_reducible refine (refCompare x y dx dy _ J1.out J2.out HD.out.1 HD.out.2.1 (by have := HLX.out; omega) (by have := HLX.out; omega) _ HRR.out).mono ?_); rintro e w' ⟨rfl, rfl⟩)
        clear c2 c3
        refine wp_region_held_drew (S := PlusS w N1 u s1 N2 v s2 x dx y dy) (by kernel_rfl) (by have h := HS.out; exact ⟨h.r2, h.r3, h.r4, h.i1, h.i2, h.bel.drew⟩) (fun hHeld => ?_)
        refine wpAnyH_take (i := 0) (v := .pointer (some ⟨w.heap.size, 0, none⟩)) rfl (by kernel_rfl) (by kernel_rfl) (by kernel_rfl) (fun _ _ _ h => h) (Or.inl ⟨by rfl, fun W _ => by go_simp⟩) hHeld ?_
        try simp only [Act.put, List.getElem_toArray, List.getElem_cons_succ, List.getElem_cons_zero, List.setIfInBounds_toArray, List.set_cons_zero, List.set_cons_succ]
        refine wpAnyH_take (i := 1) (v := .bool N1) rfl (by kernel_rfl) (by kernel_rfl) (by kernel_rfl) (fun _ _ _ h => h) (Or.inl ⟨by rfl, fun W h => by have c0 := h.r2.c0; go_simp⟩) hHeld ?_
        try simp only [Act.put, List.getElem_toArray, List.getElem_cons_succ, List.getElem_cons_zero, List.setIfInBounds_toArray, List.set_cons_zero, List.set_cons_succ]
        refine wpAnyH_take (i := 2) (v := x) rfl (by kernel_rfl) (by kernel_rfl) (by kernel_rfl) (fun _ _ _ h => h) (Or.inl ⟨by rfl, fun W _ => by go_simp⟩) hHeld ?_
        try simp only [Act.put, List.getElem_toArray, List.getElem_cons_succ, List.getElem_cons_zero, List.setIfInBounds_toArray, List.set_cons_zero, List.set_cons_succ]
        refine wpAnyH_take (i := 3) (v := y) rfl (by kernel_rfl) (by kernel_rfl) (by kernel_rfl) (fun _ _ _ h => h) (Or.inl ⟨by rfl, fun W _ => by go_simp⟩) hHeld ?_
        try simp only [Act.put, List.getElem_toArray, List.getElem_cons_succ, List.getElem_cons_zero, List.setIfInBounds_toArray, List.set_cons_zero, List.set_cons_succ]
        refine wpAnyH_take (i := 5) (v := .int .i64 S) rfl (by kernel_rfl) (by kernel_rfl) (by kernel_rfl) (fun _ _ _ h => h) (Or.inl ⟨by rfl, fun W _ => by go_simp⟩) hHeld ?_
        try simp only [Act.put, List.getElem_toArray, List.getElem_cons_succ, List.getElem_cons_zero, List.setIfInBounds_toArray, List.set_cons_zero, List.set_cons_succ]
        refine wpAnyH_ready (rs := [4]) (by kernel_rfl) (by simp) ?_
        refine AllReadyH.cons rfl (fun K hK => ?_) AllReadyH.nil
        go_simp
        refine (refSub x y dx dy _ hHeld.i1 hHeld.i2 HD.out.1 HD.out.2.1 (by have := HLE.out; omega) HLX.out.1).mono ?_
        rintro e wc ⟨z, zs, rfl, hz, hzs, hv, hl, hbc⟩
        obtain ⟨pz, capz, rfl⟩ := hz.form
        have HVZ := Lib.hid hv.out
        have HLZ := Lib.hid hl
        clear hv hl
        refine hK.out _ _ (hHeld.below hbc) (fun hHeld2 => ?_)
        clear hK K hbc hHeld
        have hHeld := hHeld2
        clear hHeld2
        try simp only [Act.put, List.getElem_toArray, List.getElem_cons_succ, List.getElem_cons_zero, List.setIfInBounds_toArray, List.set_cons_zero, List.set_cons_succ]
        refine wpAnyH_take (i := 6) (v := .agg #[.bool N1, .slice pz zs.length capz, .int .i64 S]) rfl (by kernel_rfl) (by kernel_rfl) (by kernel_rfl) (fun _ _ _ h => h) (Or.inl ⟨by rfl, fun W _ => by go_simp⟩) hHeld ?_
        try simp only [Act.put, List.getElem_toArray, List.getElem_cons_succ, List.getElem_cons_zero, List.setIfInBounds_toArray, List.set_cons_zero, List.set_cons_succ]
        obtain ⟨n4, z4, k4, r4⟩ := hHeld.r4
        have hlt := hHeld.r2.lt
        have hzone := ints_one hz
        refine wpAnyH_ready (rs := [7]) (by kernel_rfl) (by simp) ?_
        refine AllReadyH.cons rfl (fun K hK => ?_) AllReadyH.nil
        rw [if_pos (by rfl)]
        refine wp_store44n (.tmp 4) (.tmp 51) rfl rfl (w.heap.size + 2) rfl rfl r4 hzone (fun w5 ho5 x4 => ?_)
        have hz5 := hz.rec ho5 r4
        have hb5 := below_only hHeld.bel ho5 (by omega) (Nat.le_of_lt hlt)
        refine hK.out _ _ ⟨hHeld.r2.only ho5 (by omega), hHeld.r3.only ho5 (by omega), ⟨_, _, _, x4⟩, hHeld.i1.rec ho5 r4, hHeld.i2.rec ho5 r4, hb5⟩ (fun hHeld2 => ?_)
        have HZ5 := Lib.hid (And.intro hz5 (And.intro hzs hb5))
        clear hK K ho5 hz hz5 hzs hb5 r4 hHeld hHeld2
        try simp only [Act.put, List.getElem_toArray, List.getElem_cons_succ, List.getElem_cons_zero, List.setIfInBounds_toArray, List.set_cons_zero, List.set_cons_succ]
        refine wpAnyH_done (by kernel_rfl) ?_ _
        go_wp2_with fail
        exact bodyPost_ret (v := .agg #[.bool N1, .slice pz zs.length capz, .int .i64 S]) (results44one (p := 4) Tryz.results26 _ rfl x4) rfl ⟨N1, _, zs, rfl, HZ5.out.1, HZ5.out.2.1, by rw [← HVS.out]; exact sv_diff1 HNE.out HVZ.out, by have := HLZ.out; have := HLX.out; omega, HZ5.out.2.2⟩
end Go.Proofs.YtdnijfkiebpnpaaGreatDoor
