/- Texts of one kind, one behind the other: each says ahead of itself what it shows. -/
import Derived.Test.YtoifjjgakblhhaaGreatDoorHag
import Derived.Test.YtoifjjgakblhhaaGreatDoorHai
import Derived.Test.YtoifjjgakblhhaaGreatDoorHah
import Derived.Test.YtoifjjgakblhhaaGreatDoorHaf
import Derived.Deep.LoopGhost
import Derived.WalkMore
import Derived.Lib.ItoaMem
import Derived.Deep.RegionHeld3
/- The laws of decimals, as laws of whole numbers. No Go stands here. -/
namespace Go.Proofs.YtoifjjgakblhhaaGreatDoor

/-- The product. -/
def dmul (l r : List UInt8) : Int := sv (dsign l != dsign r) (damt l * damt r / 10 ^ 54)
/-- The quotient, cut behind twenty digits. -/
def dquo (l r : List UInt8) : Int := sv (dsign l != dsign r) (damt l * 10 ^ 20 / damt r * 10 ^ 34)
/-- -1, 0 or 1. -/
def cmpZ (x y : Int) : Int := if x < y then -1 else if y < x then 1 else 0

theorem cmpZ_swap (x y : Int) : cmpZ y x = -cmpZ x y := by unfold cmpZ; split <;> split <;> (try split) <;> omega
theorem cmpZ_zero (x y : Int) : cmpZ x y = 0 ↔ x = y := by unfold cmpZ; split <;> (try split) <;> omega

theorem natAbs_sv (n : Bool) (x : Nat) : (sv n x).natAbs = x := by unfold sv; cases n <;> simp
theorem dval_lt {l : List UInt8} (h : chk l = true) : (dval l).natAbs < 10 ^ 94 := by
  unfold dval; rw [natAbs_sv]; exact (chk_dec l h).2.1
theorem dmul_lt {l r : List UInt8} (h : chk l = true) (h2 : chk r = true) : (dmul l r).natAbs < 10 ^ 144 := by
  unfold dmul
  rw [natAbs_sv, Nat.div_lt_iff_lt_mul (by decide)]
  have a := (chk_dec l h).2.1
  have b := (chk_dec r h2).2.1
  have h3 : damt l * damt r ≤ 10 ^ 94 * 10 ^ 94 := Nat.mul_le_mul (by omega) (by omega)
  have h4 : (10 : Nat) ^ 94 * 10 ^ 94 < 10 ^ 144 * 10 ^ 54 := by decide
  omega

end Go.Proofs.YtoifjjgakblhhaaGreatDoor

/- Div, Neg, Compare. -/
namespace Go.Proofs.YtoifjjgakblhhaaGreatDoor
open Go.RowKit

theorem quo_text (l r : List UInt8) (h : chk l = true) (h2 : chk r = true) (h0 : damt r ≠ 0) :
    wr (dsign l != dsign r) (digsOf (damt l * 10 ^ 20 / damt r) 20 144) (digsOf (damt l * 10 ^ 20 / damt r) 0 20) = txt (dquo l r) := by
  obtain ⟨_, a1, _⟩ := chk_dec l h
  obtain ⟨_, _, b2, _⟩ := chk_dec r h2
  have hr : 10 ^ 34 ≤ damt r := by
    have := Nat.div_add_mod (damt r) (10 ^ 34)
    rw [b2] at this
    have hp : 1 ≤ damt r / 10 ^ 34 := by
      by_cases e : damt r / 10 ^ 34 = 0
      · rw [e] at this; omega
      · omega
    have : 10 ^ 34 * 1 ≤ 10 ^ 34 * (damt r / 10 ^ 34) := Nat.mul_le_mul_left _ hp
    omega
  obtain ⟨Q, hQ⟩ : ∃ Q, Q = damt l * 10 ^ 20 / damt r := ⟨_, rfl⟩
  unfold dquo
  rw [← hQ, ← wrN_sv]
  have hQlt : Q / 10 ^ 20 < 10 ^ 90 := by
    have h1 : Q ≤ damt l * 10 ^ 20 / 10 ^ 34 := by rw [hQ]; exact Nat.div_le_div_left hr (by decide)
    have h3 : damt l * 10 ^ 20 / 10 ^ 34 ≤ damt l * 10 ^ 20 := Nat.div_le_self _ _
    rw [Nat.div_lt_iff_lt_mul (by decide)]
    have h4 : damt l * 10 ^ 20 / 10 ^ 34 < 10 ^ 80 := by
      rw [Nat.div_lt_iff_lt_mul (by decide)]
      have : damt l * 10 ^ 20 < 10 ^ 94 * 10 ^ 20 := Nat.mul_lt_mul_of_pos_right a1 (by decide)
      rw [← Nat.pow_add] at this ⊢
      exact this
    have h5 : (10 : Nat) ^ 80 ≤ 10 ^ 90 * 10 ^ 20 := by decide
    omega
  have v1 : valD (digsOf Q 20 144) = Q / 10 ^ 20 := by
    rw [digsOf_val, Nat.mod_eq_of_lt]
    have : (10 : Nat) ^ 90 ≤ 10 ^ 144 := by decide
    omega
  rw [wr_wrN _ _ _ (digsOf_dig _ _ _) (digsOf_dig _ _ _) (by rw [v1]; exact hQlt) (by rw [digsOf_len]; omega), v1, digsOf_val, digsOf_len, Nat.pow_zero, Nat.div_one]
  have e : (10 : Nat) ^ 54 = 10 ^ 20 * 10 ^ 34 := by rw [← Nat.pow_add]
  have key : Q / 10 ^ 20 * 10 ^ 54 + Q % 10 ^ 20 * 10 ^ (54 - 20) = Q * 10 ^ 34 := by
    rw [show 54 - 20 = 34 by omega, e, ← Nat.mul_assoc, ← Nat.add_mul, Nat.mul_comm (Q / 10 ^ 20), Nat.div_add_mod]
  rw [key]

theorem cmpS_val (l r : List UInt8) (h : chk l = true) (h2 : chk r = true) : cmpS (dsign l) (damt l) (dsign r) (damt r) = cmpZ (dval l) (dval r) := by
  have a := (chk_dec l h).2.2.2.1
  have b := (chk_dec r h2).2.2.2.1
  unfold dval sv cmpS cmpZ cmpI
  generalize damt l = x at *
  generalize damt r = y at *
  cases h3 : dsign l <;> cases h4 : dsign r <;> simp only [h3, h4, Bool.false_eq_true, if_false, if_true, Bool.not_true, Bool.not_false, Bool.and_true, Bool.and_false, Bool.false_and, Bool.true_and, Bool.and_self, Int.ofNat_lt, Int.neg_lt_neg_iff] at *
  · have := b trivial
    rw [if_neg (by omega), if_pos (by omega)]
  · have := a trivial
    rw [if_pos (by omega)]

set_option maxRecDepth 20000 in
set_option maxHeartbeats 1600000 in
theorem cmpYes (s t : ByteArray) (w : World) (hG : Gd w) (hs : s.size < 4294967281) (ht : t.size < 4294967281) (h : chk s.data.toList = true) (h2 : chk t.data.toList = true) :
    Calls Tryz.prog 91 #[.string s, .string t] w fun e w' => e = .returned (.int .i64 (cmpZ (dval s.data.toList) (dval t.data.toList))) ∧ Below w.heap.size w w' := by
  have hc : ∀ W, Gd W → Calls Tryz.prog 128 #[.string s, .string t] W fun e w' => ∃ c d f g, e = .returned (.tuple #[.agg c, .agg d, .bool true]) ∧ IsNum c (dsign s.data.toList) f ∧ wval f = damt s.data.toList ∧
      IsNum d (dsign t.data.toList) g ∧ wval g = damt t.data.toList ∧ Below W.heap.size W w' := fun W hW => bothYes s t W hW hs ht h h2
  have HC := Lib.hid hc
  obtain ⟨r, hr⟩ : ∃ r, r = cmpZ (dval s.data.toList) (dval t.data.toList) := ⟨_, rfl⟩
  have hcm : ∀ (c d : Array Value) (f g : Nat → Nat) W, IsNum c (dsign s.data.toList) f → wval f = damt s.data.toList → IsNum d (dsign t.data.toList) g → wval g = damt t.data.toList → Calls Tryz.prog 129 #[.agg c, .agg d] W fun e w' => e = .returned (.int .i64 r) ∧ Below W.heap.size W w' := fun c d f g W hc e1 hd e2 => by
    have := cmpNum c d _ _ f g W hc hd
    rwa [e1, e2, cmpS_val _ _ h h2, ← hr] at this
  have HCM := Lib.hid hcm
  rw [← hr]
  clear hc hcm h h2 hs ht hr
  go_enter Tryz.func91, Tryz.ntmps91
  go_wp2_with (first
    | (go_at_call 128; (with_reducible refine (HC.out _ hG).mono ?_); rintro e w1 ⟨c, d, f, g, rfl, hn, hx, hm, hy, hb⟩; have HX := Lib.hid hx; have HY := Lib.hid hy; clear hx hy; have l1 : Lies ((w1.alloc (.cells #[.bool false, .int .u32 0, .int .u32 0, .int .u32 0, .int .u32 0, .int .u32 0, .int .u32 0, .int .u32 0, .int .u32 0, .int .u32 0, .int .u32 0, .int .u32 0, .int .u32 0, .int .u32 0, .int .u32 0, .int .u32 0, .int .u32 0] 136)).alloc (.cells #[.bool false, .int .u32 0, .int .u32 0, .int .u32 0, .int .u32 0, .int .u32 0, .int .u32 0, .int .u32 0, .int .u32 0, .int .u32 0, .int .u32 0, .int .u32 0, .int .u32 0, .int .u32 0, .int .u32 0, .int .u32 0, .int .u32 0] 136)) w1.heap.size zero59 false (fun _ => 0) := (lies_zero _ rfl).alloc _; have l2 : Lies ((w1.alloc (.cells #[.bool false, .int .u32 0, .int .u32 0, .int .u32 0, .int .u32 0, .int .u32 0, .int .u32 0, .int .u32 0, .int .u32 0, .int .u32 0, .int .u32 0, .int .u32 0, .int .u32 0, .int .u32 0, .int .u32 0, .int .u32 0, .int .u32 0] 136)).alloc (.cells #[.bool false, .int .u32 0, .int .u32 0, .int .u32 0, .int .u32 0, .int .u32 0, .int .u32 0, .int .u32 0, .int .u32 0, .int .u32 0, .int .u32 0, .int .u32 0, .int .u32 0, .int .u32 0, .int .u32 0, .int .u32 0, .int .u32 0] 136)) (w1.heap.size + 1) zero59 false (fun _ => 0) := lies_zero _ (by simp); have hb1 : Below w.heap.size w ((w1.alloc (.cells #[.bool false, .int .u32 0, .int .u32 0, .int .u32 0, .int .u32 0, .int .u32 0, .int .u32 0, .int .u32 0, .int .u32 0, .int .u32 0, .int .u32 0, .int .u32 0, .int .u32 0, .int .u32 0, .int .u32 0, .int .u32 0, .int .u32 0] 136)).alloc (.cells #[.bool false, .int .u32 0, .int .u32 0, .int .u32 0, .int .u32 0, .int .u32 0, .int .u32 0, .int .u32 0, .int .u32 0, .int .u32 0, .int .u32 0, .int .u32 0, .int .u32 0, .int .u32 0, .int .u32 0, .int .u32 0, .int .u32 0] 136)) := (hb.alloc hb.size _).alloc (by have := hb.size; simp; omega) _; have hsz := hb.size)
    | ((with_reducible refine wpList_storeN (.tmp 5) (.tmp 12) w1.heap.size (by assumption) hn ?_ ?_ ?_ ?_ ?_); rfl; rfl; rfl; rfl; intro w2 ho p1; have p2 := l2.only ho (by omega); have hb2 := below_only hb1 ho hsz (Nat.le_of_lt (Nat.lt_of_le_of_lt hsz l1.lt)))
    | ((with_reducible refine wpList_storeN (.tmp 6) (.tmp 13) (w1.heap.size + 1) (by assumption) hm ?_ ?_ ?_ ?_ ?_); rfl; rfl; rfl; rfl; intro w3 ho3 q2; have q1 := p1.only ho3 (by omega); have hb3 := below_only hb2 ho3 (by omega) (Nat.le_of_lt (Nat.lt_of_le_of_lt hsz p1.lt)))
    | ((with_reducible refine wpList_loadN (.tmp 5) w1.heap.size (by assumption) ?_ ?_ ?_ ?_); rfl; rfl; rfl)
    | ((with_reducible refine wpList_loadN (.tmp 6) (w1.heap.size + 1) (by assumption) ?_ ?_ ?_ ?_); rfl; rfl; rfl)
    | (go_at_call 129; (with_reducible refine (HCM.out c d f g _ hn HX.out hm HY.out).mono ?_); rintro e w4 ⟨rfl, hb4⟩; have hb5 := below_any hb3 hb4 hb3.size))
  go_ret
  exact ⟨rfl, hb5⟩

end Go.Proofs.YtoifjjgakblhhaaGreatDoor

/- The product of two rows of words, whose words outside 3 .. 10 are noughts. No Go stands here. -/
namespace Go.Proofs.YtoifjjgakblhhaaGreatDoor

/-- Only the words from 3 to 10 may be other than 0. -/
def Mid (f : Nat → Nat) : Prop := ∀ j, j < 3 ∨ 11 ≤ j → j < 16 → f j = 0

theorem vN_low (f : Nat → Nat) (h : Mid f) : vN 3 f = 0 := by
  simp only [vN, h 0 (by omega) (by omega), h 1 (by omega) (by omega), h 2 (by omega) (by omega)]
  simp
theorem vN_mid (f : Nat → Nat) (h : Mid f) : vN 11 f = wval f := by
  have := vN_above f (fun _ => 0) 11 16 (by omega) (fun j a b => h j (by omega) b)
  have e : ∀ n, vN n (fun _ => 0) = 0 := by intro n; induction n with
    | zero => rfl
    | succ n ih => simp [vN, ih]
  rw [e, e] at this
  unfold wval; omega

/-- The outer loop: the words below i of f have been multiplied. -/
structure TimesI (f g p : Nat → Nat) (i : Nat) : Prop where
  val : wval p * BASE ^ 6 = vN i f * wval g
  words : Words p
  high : ∀ j, i + 5 ≤ j → j < 16 → p j = 0
/-- The inner loop: word i of f has been multiplied with the words below j of g. -/
structure TimesJ (f g p : Nat → Nat) (i j cr : Nat) : Prop where
  val : wval p * BASE ^ 6 + cr * BASE ^ (i + j) = vN i f * wval g + f i * BASE ^ i * vN j g
  words : Words p
  high : ∀ k, i + 5 ≤ k → k < 16 → p k = 0
  carry : cr < BASE

theorem wval_zero : wval (fun _ => 0) = 0 := by
  have e : ∀ n, vN n (fun _ => 0) = 0 := by intro n; induction n with
    | zero => rfl
    | succ n ih => simp [vN, ih]
  exact e 16
theorem TimesI.zero {f g : Nat → Nat} (hf : Mid f) : TimesI f g (fun _ => 0) 3 :=
  ⟨by rw [vN_low f hf, wval_zero, Nat.zero_mul, Nat.zero_mul], fun _ _ => by decide, fun _ _ _ => rfl⟩
theorem TimesI.inner {f g p : Nat → Nat} {i : Nat} (H : TimesI f g p i) (hg : Mid g) : TimesJ f g p i 3 0 :=
  ⟨by rw [vN_low g hg, H.val, Nat.zero_mul, Nat.mul_zero], H.words, H.high, by decide⟩
theorem base_is : BASE = 1000000000 := rfl
theorem sum_lt {x y p c : Nat} (hx : x < BASE) (hy : y < BASE) (hp : p < BASE) (hc : c < BASE) : x * y + p + c < BASE * BASE := by
  rw [base_is] at *
  have h1 : x * y ≤ 999999999 * 999999999 := Nat.mul_le_mul (by omega) (by omega)
  omega
theorem TimesJ.step {f g p : Nat → Nat} {i j cr : Nat} (H : TimesJ f g p i j cr) (hf : Words f) (hg : Words g) (hi : i < 11) (hj : j < 11) (hi3 : 3 ≤ i) (hj3 : 3 ≤ j) :
    TimesJ f g (upd p (i + j - 6) ((f i * g j + p (i + j - 6) + cr) % BASE)) i (j + 1) ((f i * g j + p (i + j - 6) + cr) / BASE) := by
  have hs := sum_lt (hf i (by omega)) (hg j (by omega)) (H.words (i + j - 6) (by omega)) H.carry
  refine ⟨?_, H.words.upd (Nat.mod_lt _ (by decide)), ?_, by rw [Nat.div_lt_iff_lt_mul (by decide)]; exact hs⟩
  · have hu := wval_upd p (i + j - 6) ((f i * g j + p (i + j - 6) + cr) % BASE) (by omega)
    have hv := H.val
    have hd := Nat.div_add_mod (f i * g j + p (i + j - 6) + cr) BASE
    have e6 : BASE ^ (i + j) = BASE ^ (i + j - 6) * BASE ^ 6 := by rw [← Nat.pow_add]; congr 1; omega
    have e1 : BASE ^ (i + (j + 1)) = BASE * BASE ^ (i + j) := by rw [← Nat.add_assoc, Nat.pow_succ, Nat.mul_comm]
    have ej : BASE ^ i * BASE ^ j = BASE ^ (i + j) := by rw [← Nat.pow_add]
    generalize p (i + j - 6) = pa at *
    generalize (f i * g j + pa + cr) / BASE = q at *
    generalize (f i * g j + pa + cr) % BASE = r at *
    generalize wval (upd p (i + j - 6) r) = W' at *
    generalize wval p = W at *
    have hu6 : W' * BASE ^ 6 + pa * BASE ^ (i + j) = W * BASE ^ 6 + r * BASE ^ (i + j) := by
      rw [e6, ← Nat.mul_assoc, ← Nat.mul_assoc, ← Nat.add_mul, ← Nat.add_mul, hu]
    have hd6 : (BASE * q + r) * BASE ^ (i + j) = (f i * g j + pa + cr) * BASE ^ (i + j) := by rw [hd]
    have hq : q * BASE ^ (i + (j + 1)) = BASE * q * BASE ^ (i + j) := by rw [e1]; ac_rfl
    have hfg : f i * BASE ^ i * (g j * BASE ^ j) = f i * g j * BASE ^ (i + j) := by rw [← ej]; ac_rfl
    rw [hq]
    simp only [vN, Nat.mul_add, hfg]
    simp only [Nat.add_mul] at hd6
    omega
  · intro k hk hk2
    rw [upd_other _ _ (by omega)]
    exact H.high k hk hk2
theorem TimesJ.outer {f g p : Nat → Nat} {i cr : Nat} (H : TimesJ f g p i 11 cr) (hg : Mid g) (hi : i < 11) : TimesI f g (upd p (i + 5) cr) (i + 1) := by
  refine ⟨?_, H.words.upd H.carry, ?_⟩
  · have hu := wval_upd p (i + 5) cr (by omega)
    rw [H.high (i + 5) (by omega) (by omega), Nat.zero_mul, Nat.add_zero] at hu
    have hv := H.val
    rw [vN_mid g hg] at hv
    have e6 : BASE ^ (i + 11) = BASE ^ (i + 5) * BASE ^ 6 := by rw [← Nat.pow_add]
    rw [hu, Nat.add_mul, Nat.mul_assoc, ← e6, hv]
    simp only [vN, Nat.add_mul]
  · intro k hk hk2
    rw [upd_other _ _ (by omega)]
    exact H.high k (by omega) hk2
theorem TimesI.done {f g p : Nat → Nat} (H : TimesI f g p 11) (hf : Mid f) : wval p * 10 ^ 54 = wval f * wval g := by
  have := H.val
  rw [vN_mid f hf, base_pow] at this
  exact this

/-- An amount that has twenty digits behind the point and forty ahead lies in the middle. -/
theorem mid_of (f : Nat → Nat) (hf : Words f) (h1 : wval f < 10 ^ 94) (h2 : wval f % 10 ^ 34 = 0) : Mid f := by
  intro j hj hj2
  rw [limb_val f hf j hj2, base_pow]
  rcases hj with hj | hj
  · have e : wval f = wval f / 10 ^ 34 * 10 ^ 34 := by
      have := Nat.div_add_mod (wval f) (10 ^ 34)
      rw [h2, Nat.add_zero, Nat.mul_comm] at this
      exact this.symm
    have e2 : (10 : Nat) ^ 34 = 10 ^ (34 - 9 * j - 9) * BASE * 10 ^ (9 * j) := by
      have : BASE = 10 ^ 9 := rfl
      rw [this, ← Nat.pow_add, ← Nat.pow_add]; congr 1; omega
    rw [e, e2, ← Nat.mul_assoc, ← Nat.mul_assoc, Nat.mul_div_cancel _ (Nat.pow_pos (by omega)), Nat.mul_mod_left]
  · have : 10 ^ 94 ≤ 10 ^ (9 * j) := Nat.pow_le_pow_right (by omega) (by omega)
    rw [Nat.div_eq_of_lt (by omega), Nat.zero_mod]

end Go.Proofs.YtoifjjgakblhhaaGreatDoor

/- times. -/
namespace Go.Proofs.YtoifjjgakblhhaaGreatDoor
open Go.RowKit

theorem Lies.drewN {w : World} {g : Nat} {c : Array Value} {n : Bool} {f : Nat → Nat} (h : Lies w g c n f) (k : Nat) : Lies (w.drewN k) g c n f := h

/-- What times leaves. -/
def ProdPost (sg : Bool) (f g : Nat → Nat) (w : World) (e : Ending) (w' : World) : Prop := ∃ c' h, e = .returned (.agg c') ∧ IsNum c' sg h ∧ wval h * 10 ^ 54 = wval f * wval g ∧ Below w.heap.size w w'

theorem Lies.set {w : World} {g : Nat} {c : Array Value} {n : Bool} {f : Nat → Nat} (h : Lies w g c n f) {k v : Nat} (hk : k < 16) (hv : v < BASE) :
    Lies (w.setCell ⟨g, 1 + k, none⟩ (.int .u32 v)) g (c.setIfInBounds (1 + k) (.int .u32 v)) n (upd f k v) := ⟨heap_set h.1 _ _, h.2.set hk hv⟩

set_option maxRecDepth 20000 in
set_option maxHeartbeats 3200000 in
theorem timesNum (c d : Array Value) (n m : Bool) (f g : Nat → Nat) (w : World) (hc : IsNum c n f) (hd : IsNum d m g) (mf : Mid f) (mg : Mid g) :
    Calls Tryz.prog 162 #[.agg c, .agg d] w (ProdPost (n != m) f g w) := by
  obtain ⟨sg, hsg⟩ : ∃ sg, sg = (n != m) := ⟨_, rfl⟩
  rw [← hsg]
  have hsg2 : (!n == m) = sg := by rw [hsg]; cases n <;> cases m <;> rfl
  have hsg3 : (n == m) = !sg := by rw [hsg]; cases n <;> cases m <;> rfl
  have hsg4 : (n != m) = sg := hsg.symm
  clear hsg
  have l1 : Lies (((w.alloc (.cells c 136)).alloc (.cells d 136)).alloc (.cells #[.bool false, .int .u32 0, .int .u32 0, .int .u32 0, .int .u32 0, .int .u32 0, .int .u32 0, .int .u32 0, .int .u32 0, .int .u32 0, .int .u32 0, .int .u32 0, .int .u32 0, .int .u32 0, .int .u32 0, .int .u32 0, .int .u32 0] 136)) w.heap.size c n f := ((lies_new w hc rfl).alloc _).alloc _
  have l2 : Lies (((w.alloc (.cells c 136)).alloc (.cells d 136)).alloc (.cells #[.bool false, .int .u32 0, .int .u32 0, .int .u32 0, .int .u32 0, .int .u32 0, .int .u32 0, .int .u32 0, .int .u32 0, .int .u32 0, .int .u32 0, .int .u32 0, .int .u32 0, .int .u32 0, .int .u32 0, .int .u32 0, .int .u32 0] 136)) (w.heap.size + 1) d m g := (lies_new _ hd (by simp)).alloc _
  have l3 : Lies (((w.alloc (.cells c 136)).alloc (.cells d 136)).alloc (.cells #[.bool false, .int .u32 0, .int .u32 0, .int .u32 0, .int .u32 0, .int .u32 0, .int .u32 0, .int .u32 0, .int .u32 0, .int .u32 0, .int .u32 0, .int .u32 0, .int .u32 0, .int .u32 0, .int .u32 0, .int .u32 0, .int .u32 0] 136)) (w.heap.size + 1 + 1) zero59 false (fun _ => 0) := lies_zero _ (by simp)
  have h0 := l1.cell0
  have h1 := l2.cell0
  have hb := below3 w (.cells c 136) (.cells d 136) (.cells #[.bool false, .int .u32 0, .int .u32 0, .int .u32 0, .int .u32 0, .int .u32 0, .int .u32 0, .int .u32 0, .int .u32 0, .int .u32 0, .int .u32 0, .int .u32 0, .int .u32 0, .int .u32 0, .int .u32 0, .int .u32 0, .int .u32 0] 136)
  have k1 := l1.alloc (.cells #[.bool sg, .int .u32 0, .int .u32 0, .int .u32 0, .int .u32 0, .int .u32 0, .int .u32 0, .int .u32 0, .int .u32 0, .int .u32 0, .int .u32 0, .int .u32 0, .int .u32 0, .int .u32 0, .int .u32 0, .int .u32 0, .int .u32 0] 136)
  have k2 := l2.alloc (.cells #[.bool sg, .int .u32 0, .int .u32 0, .int .u32 0, .int .u32 0, .int .u32 0, .int .u32 0, .int .u32 0, .int .u32 0, .int .u32 0, .int .u32 0, .int .u32 0, .int .u32 0, .int .u32 0, .int .u32 0, .int .u32 0, .int .u32 0] 136)
  have k3 := l3.alloc (.cells #[.bool sg, .int .u32 0, .int .u32 0, .int .u32 0, .int .u32 0, .int .u32 0, .int .u32 0, .int .u32 0, .int .u32 0, .int .u32 0, .int .u32 0, .int .u32 0, .int .u32 0, .int .u32 0, .int .u32 0, .int .u32 0, .int .u32 0] 136)
  have k4 : Lies ((((w.alloc (.cells c 136)).alloc (.cells d 136)).alloc (.cells #[.bool false, .int .u32 0, .int .u32 0, .int .u32 0, .int .u32 0, .int .u32 0, .int .u32 0, .int .u32 0, .int .u32 0, .int .u32 0, .int .u32 0, .int .u32 0, .int .u32 0, .int .u32 0, .int .u32 0, .int .u32 0, .int .u32 0] 136)).alloc (.cells #[.bool sg, .int .u32 0, .int .u32 0, .int .u32 0, .int .u32 0, .int .u32 0, .int .u32 0, .int .u32 0, .int .u32 0, .int .u32 0, .int .u32 0, .int .u32 0, .int .u32 0, .int .u32 0, .int .u32 0, .int .u32 0, .int .u32 0] 136)) (w.heap.size + 1 + 1 + 1) (sign59 sg) sg (fun _ => 0) := lies_sign _ _ (by simp)
  have hb4 := hb.alloc (by simp; omega) (.cells #[.bool sg, .int .u32 0, .int .u32 0, .int .u32 0, .int .u32 0, .int .u32 0, .int .u32 0, .int .u32 0, .int .u32 0, .int .u32 0, .int .u32 0, .int .u32 0, .int .u32 0, .int .u32 0, .int .u32 0, .int .u32 0, .int .u32 0] 136)
  clear hb
  go_enter Tryz.func162, Tryz.ntmps162
  go_wp2_with fail
  clear h0 h1 l1 l2 l3 hsg2 hsg3 hsg4
  go_loopg [6] 8 (fun gg s6 wr => ∃ (i : Nat) (cp : Array Value) (p : Nat → Nat), i + gg = 11 ∧ 3 ≤ i ∧ s6 = .int .i64 i ∧ Lies wr w.heap.size c n f ∧ Lies wr (w.heap.size + 1) d m g ∧ Lies wr (w.heap.size + 1 + 1) zero59 false (fun _ => 0) ∧
    Lies wr (w.heap.size + 1 + 1 + 1) cp sg p ∧ TimesI f g p i ∧ Below w.heap.size w wr)
  case atStart => exact ⟨3, _, _, by omega, by omega, rfl, k1, k2, k3, k4, TimesI.zero mf, hb4⟩
  case round =>
    clear k1 k2 k3 k4 hb4
    obtain ⟨i, cp, p, hig, hi3, rfl, k1, k2, k3, k4, hT, hb⟩ := hrel
    cases gk with
    | zero =>
      obtain rfl : i = 11 := by omega
      have hval := Lib.hid (hT.done mf)
      clear hT
      go_wp2_with (first
        | ((with_reducible refine wpList_loadN (.tmp 5) (w.heap.size + 1 + 1 + 1) (by assumption) ?_ ?_ ?_ ?_); rfl; rfl; rfl)
        | ((with_reducible refine wpList_storeN (.tmp 4) (.tmp 63) (w.heap.size + 1 + 1) (by assumption) k4.num ?_ ?_ ?_ ?_ ?_); rfl; rfl; rfl; rfl; intro w5 ho5 m3; have hb5 := below_only hb ho5 (by omega) (Nat.le_of_lt k1.lt)))
      exact bodyPost_ret (v := .agg cp) (results_num (p := 4) Tryz.results162 _ rfl m3) rfl ⟨cp, p, rfl, k4.num, hval.out, hb5⟩
    | succ gg =>
      have hi : i < 11 := by omega
      go_wp2_with fail
      go_loopg [7, 8] 8 (fun g3 s7 s8 wr => ∃ (j cr : Nat) (cp : Array Value) (p : Nat → Nat), j + g3 = 11 ∧ 3 ≤ j ∧ s7 = .int .u64 cr ∧ s8 = .int .i64 j ∧ Lies wr w.heap.size c n f ∧ Lies wr (w.heap.size + 1) d m g ∧ Lies wr (w.heap.size + 1 + 1) zero59 false (fun _ => 0) ∧
        Lies wr (w.heap.size + 1 + 1 + 1) cp sg p ∧ TimesJ f g p i j cr ∧ Below w.heap.size w wr)
      case atStart => exact ⟨3, 0, cp, p, by omega, by omega, rfl, rfl, k1, k2, k3, k4, hT.inner mg, hb⟩
      case round =>
        clear k1 k2 k3 k4 hb hT
        obtain ⟨j, cr, cp, p, hjg, hj3, rfl, rfl, k1, k2, k3, k4, hT, hb⟩ := hrel
        cases gk with
        | zero =>
          obtain rfl : j = 11 := by omega
          have hcr : cr < 1000000000 := hT.carry
          obtain ⟨q, hq⟩ : ∃ q : Nat, (i : Int) + 11 - 6 = q := ⟨i + 5, by omega⟩
          have hqi : q = i + 5 := by omega
          have hq16 : (q : Int) < 16 := by omega
          have hu : ∃ u, wr.cell? ⟨w.heap.size + 1 + 1 + 1, 1 + q, none⟩ = some u := ⟨_, cell_of k4.heap _ (k4.num.word q (by omega))⟩
          obtain ⟨u, hu⟩ := hu
          have hf1 : wr.frozen? ⟨w.heap.size + 1 + 1 + 1, 1 + q, none⟩ = false := free_of k4.heap _
          have HQ := Lib.hid hqi
          clear hqi
          go_wp2_with fail
          have hT' := hT.outer mg hi
          go_roundg gg
          case measure => omega
          case rel =>
            have ho := (Only.refl (w.heap.size + 1 + 1 + 1) wr).setCell (1 + q) none (.int .u32 (cr : Int))
            exact ⟨i + 1, _, _, by omega, by omega, by go_num, k1.only ho (by omega), k2.only ho (by omega), k3.only ho (by omega), by rw [HQ.out]; exact k4.set (by omega) hcr, hT', below_only hb ho (by omega) (Nat.le_of_lt k1.lt)⟩
        | succ g3 =>
          have hj : j < 11 := by omega
          have hcr : cr < 1000000000 := hT.carry
          obtain ⟨q, hq⟩ : ∃ q : Nat, (i : Int) + j - 6 = q := ⟨i + j - 6, by omega⟩
          have hqi : q = i + j - 6 := by omega
          have hq16 : (q : Int) < 16 := by omega
          have hqn : q < 16 := by omega
          obtain ⟨fi, hfi⟩ : ∃ fi : Int, fi = f i := ⟨_, rfl⟩
          obtain ⟨gj, hgj⟩ : ∃ gj : Int, gj = g j := ⟨_, rfl⟩
          obtain ⟨pa, hpa⟩ : ∃ pa : Int, pa = p q := ⟨_, rfl⟩
          have hx : wr.cell? ⟨w.heap.size, 1 + i, none⟩ = some (.int .u32 fi) := by rw [hfi]; exact cell_of k1.heap _ (k1.num.word i (by omega))
          have hy : wr.cell? ⟨w.heap.size + 1, 1 + j, none⟩ = some (.int .u32 gj) := by rw [hgj]; exact cell_of k2.heap _ (k2.num.word j (by omega))
          have hz : wr.cell? ⟨w.heap.size + 1 + 1 + 1, 1 + q, none⟩ = some (.int .u32 pa) := by rw [hpa]; exact cell_of k4.heap _ (k4.num.word q hqn)
          have hfr : wr.frozen? ⟨w.heap.size + 1 + 1 + 1, 1 + q, none⟩ = false := free_of k4.heap _
          obtain ⟨X, hX⟩ : ∃ X : Int, X = fi * gj := ⟨_, rfl⟩
          have f1 : f i < 1000000000 := hc.lt i (by omega)
          have g1 : g j < 1000000000 := hd.lt j (by omega)
          have p1 : p q < 1000000000 := hT.words q hqn
          have hXn : X = ((f i * g j : Nat) : Int) := by rw [hX, hfi, hgj, Int.natCast_mul]
          have hX2 : f i * g j ≤ 999999999 * 999999999 := Nat.mul_le_mul (by omega) (by omega)
          have x0 : 0 ≤ X := by omega
          have x1 : X ≤ 999999998000000001 := by omega
          have pa0 : 0 ≤ pa := by omega
          have pa1 : pa < 1000000000 := by omega
          have fi0 : 0 ≤ fi := by omega
          have fi1 : fi < 1000000000 := by omega
          have gj0 : 0 ≤ gj := by omega
          have gj1 : gj < 1000000000 := by omega
          have hT' := hT.step hc.lt hd.lt hi hj hi3 hj3
          have e1 : (X + pa + cr) % 1000000000 = (((f i * g j + p (i + j - 6) + cr) % BASE : Nat) : Int) := by rw [hXn, hpa, hqi]; unfold BASE; omega
          have e2 : (X + pa + cr) / 1000000000 = (((f i * g j + p (i + j - 6) + cr) / BASE : Nat) : Int) := by rw [hXn, hpa, hqi]; unfold BASE; omega
          have w1 : IntKind.u64.wrap X = X := IntWalk.u64_in _ (by omega)
          have w2 : IntKind.u64.wrap (X + pa) = X + pa := IntWalk.u64_in _ (by omega)
          have w3 : IntKind.u64.wrap (X + pa + cr) = X + pa + cr := IntWalk.u64_in _ (by omega)
          have E1 := Lib.hid e1
          have E2 := Lib.hid e2
          have HQ := Lib.hid hqi
          have hmul : fi * gj = X := hX.symm
          clear e1 e2 hqi hXn hX2 hX hfi hgj hpa f1 g1 p1
          have i16 : (i : Int) < 16 := by omega
          have j16 : (j : Int) < 16 := by omega
          go_wp2_with fail
          go_quiet (fail)
          go_wp2_with fail
          go_roundg g3
          case measure => omega
          case rel =>
            have ho := ((Only.refl (w.heap.size + 1 + 1 + 1) wr).drewN nq).setCell (1 + q) none (.int .u32 ((X + pa + cr) % 1000000000))
            exact ⟨j + 1, _, _, _, by omega, by omega, by rw [E2.out], by go_num, k1.only ho (by omega), k2.only ho (by omega), k3.only ho (by omega), by rw [E1.out, ← HQ.out]; exact (k4.drewN nq).set hqn (Nat.mod_lt _ (by decide)), by rw [← HQ.out] at hT' ⊢; exact hT', below_only hb ho (by omega) (Nat.le_of_lt k1.lt)⟩

end Go.Proofs.YtoifjjgakblhhaaGreatDoor

/- Mul, Neg, OfInt. -/
namespace Go.Proofs.YtoifjjgakblhhaaGreatDoor
open Go.RowKit

set_option maxRecDepth 20000 in
set_option maxHeartbeats 1600000 in
theorem reckonTimes (s t : ByteArray) (w : World) (hG : Gd w) (hs : s.size < 4294967281) (ht : t.size < 4294967281) (h : chk s.data.toList = true) (h2 : chk t.data.toList = true) (x : ByteArray) (k : Int)
    (hv : said (txt (dmul s.data.toList t.data.toList)) = .tuple #[.string x, .int .i64 k]) :
    Calls Tryz.prog 159 #[.string s, .string t, .func (Fn.func 162) #[] #[]] w fun e w' => e = .returned (.tuple #[.string x, .int .i64 k]) ∧ Below w.heap.size w w' := by
  have hc : ∀ W, Gd W → Calls Tryz.prog 128 #[.string s, .string t] W fun e w' => ∃ c d f g, e = .returned (.tuple #[.agg c, .agg d, .bool true]) ∧ IsNum c (dsign s.data.toList) f ∧ wval f = damt s.data.toList ∧
      IsNum d (dsign t.data.toList) g ∧ wval g = damt t.data.toList ∧ Below W.heap.size W w' := fun W hW => bothYes s t W hW hs ht h h2
  have HC := Lib.hid hc
  have hop : ∀ (c d : Array Value) (f g : Nat → Nat) W, IsNum c (dsign s.data.toList) f → wval f = damt s.data.toList → IsNum d (dsign t.data.toList) g → wval g = damt t.data.toList →
      Calls Tryz.prog 162 #[.agg c, .agg d] W fun e w' => ∃ c' r h, e = .returned (.agg c') ∧ IsNum c' r h ∧ Aside (sv r (wval h) = dmul s.data.toList t.data.toList) ∧ Below W.heap.size W w' := by
    intro c d f g W h1 e1 h3 e2
    obtain ⟨_, x1, x2, _⟩ := chk_dec _ h
    obtain ⟨_, y1, y2, _⟩ := chk_dec _ h2
    refine (timesNum c d _ _ f g W h1 h3 (mid_of f h1.lt (by rw [e1]; exact x1) (by rw [e1]; exact x2)) (mid_of g h3.lt (by rw [e2]; exact y1) (by rw [e2]; exact y2))).mono ?_
    rintro e w' ⟨c', k, rfl, hr, hval, hb⟩
    refine ⟨c', _, k, rfl, hr, ?_, hb⟩
    unfold Aside dmul
    rw [← e1, ← e2, ← hval, Nat.mul_div_cancel _ (by decide)]
  have HOP := Lib.hid hop
  have HV := Lib.hid hv
  clear hc hop hv h h2 hs ht
  go_enter Tryz.func159, Tryz.ntmps159
  go_wp2_with (first
    | (go_at_call 128; (with_reducible refine (HC.out _ hG).mono ?_); rintro e w1 ⟨c, d, f, g, rfl, hn, hx, hm, hy, hb⟩; have HX := Lib.hid hx; have HY := Lib.hid hy; clear hx hy; have l1 : Lies ((w1.alloc (.cells #[.bool false, .int .u32 0, .int .u32 0, .int .u32 0, .int .u32 0, .int .u32 0, .int .u32 0, .int .u32 0, .int .u32 0, .int .u32 0, .int .u32 0, .int .u32 0, .int .u32 0, .int .u32 0, .int .u32 0, .int .u32 0, .int .u32 0] 136)).alloc (.cells #[.bool false, .int .u32 0, .int .u32 0, .int .u32 0, .int .u32 0, .int .u32 0, .int .u32 0, .int .u32 0, .int .u32 0, .int .u32 0, .int .u32 0, .int .u32 0, .int .u32 0, .int .u32 0, .int .u32 0, .int .u32 0, .int .u32 0] 136)) w1.heap.size zero59 false (fun _ => 0) := (lies_zero _ rfl).alloc _; have l2 : Lies ((w1.alloc (.cells #[.bool false, .int .u32 0, .int .u32 0, .int .u32 0, .int .u32 0, .int .u32 0, .int .u32 0, .int .u32 0, .int .u32 0, .int .u32 0, .int .u32 0, .int .u32 0, .int .u32 0, .int .u32 0, .int .u32 0, .int .u32 0, .int .u32 0] 136)).alloc (.cells #[.bool false, .int .u32 0, .int .u32 0, .int .u32 0, .int .u32 0, .int .u32 0, .int .u32 0, .int .u32 0, .int .u32 0, .int .u32 0, .int .u32 0, .int .u32 0, .int .u32 0, .int .u32 0, .int .u32 0, .int .u32 0, .int .u32 0] 136)) (w1.heap.size + 1) zero59 false (fun _ => 0) := lies_zero _ (by simp); have hb1 : Below w.heap.size w ((w1.alloc (.cells #[.bool false, .int .u32 0, .int .u32 0, .int .u32 0, .int .u32 0, .int .u32 0, .int .u32 0, .int .u32 0, .int .u32 0, .int .u32 0, .int .u32 0, .int .u32 0, .int .u32 0, .int .u32 0, .int .u32 0, .int .u32 0, .int .u32 0] 136)).alloc (.cells #[.bool false, .int .u32 0, .int .u32 0, .int .u32 0, .int .u32 0, .int .u32 0, .int .u32 0, .int .u32 0, .int .u32 0, .int .u32 0, .int .u32 0, .int .u32 0, .int .u32 0, .int .u32 0, .int .u32 0, .int .u32 0, .int .u32 0] 136)) := (hb.alloc hb.size _).alloc (by have := hb.size; simp; omega) _; have hsz := hb.size)
    | ((with_reducible refine wpList_storeN (.tmp 8) (.tmp 15) w1.heap.size (by assumption) hn ?_ ?_ ?_ ?_ ?_); rfl; rfl; rfl; rfl; intro w2 ho p1; have p2 := l2.only ho (by omega); have hb2 := below_only hb1 ho hsz (Nat.le_of_lt (Nat.lt_of_le_of_lt hsz l1.lt)))
    | ((with_reducible refine wpList_storeN (.tmp 9) (.tmp 16) (w1.heap.size + 1) (by assumption) hm ?_ ?_ ?_ ?_ ?_); rfl; rfl; rfl; rfl; intro w3 ho3 q2; have q1 := p1.only ho3 (by omega); have hb3 := below_only hb2 ho3 (by omega) (Nat.le_of_lt (Nat.lt_of_le_of_lt hsz p1.lt)))
    | ((with_reducible refine wpList_loadN (.tmp 8) w1.heap.size (by assumption) ?_ ?_ ?_ ?_); rfl; rfl; rfl)
    | ((with_reducible refine wpList_loadN (.tmp 9) (w1.heap.size + 1) (by assumption) ?_ ?_ ?_ ?_); rfl; rfl; rfl)
    | (go_at_call 162; (with_reducible refine (HOP.out c d f g _ hn HX.out hm HY.out).mono ?_); rintro e w4 ⟨c', r, h, rfl, hr, hsv, hb4⟩; have hb5 := below_any hb3 hb4 (Nat.le_of_lt (Nat.lt_of_le_of_lt hsz q1.lt)))
    | (go_at_call 180; (with_reducible refine (textNum c' r h _ _ hr hsv.out x k HV.out).mono ?_); rintro e w5 ⟨rfl, hb6⟩; have hb7 := below_any hb5 hb6 hb5.size))
  go_ret2
  exact ⟨rfl, hb7⟩

set_option maxHeartbeats 800000 in
theorem mulYes (s t : ByteArray) (w : World) (hG : Gd w) (hs : s.size < 4294967281) (ht : t.size < 4294967281) (h : chk s.data.toList = true) (h2 : chk t.data.toList = true) (x : ByteArray) (k : Int)
    (hv : said (txt (dmul s.data.toList t.data.toList)) = .tuple #[.string x, .int .i64 k]) :
    Calls Tryz.prog 140 #[.string s, .string t] w fun e w' => e = .returned (.tuple #[.string x, .int .i64 k]) ∧ Below w.heap.size w w' := by
  have hc : ∀ W, Gd W → Calls Tryz.prog 159 #[.string s, .string t, .func (Fn.func 162) #[] #[]] W fun e w' => e = .returned (.tuple #[.string x, .int .i64 k]) ∧ Below W.heap.size W w' := fun W hW => reckonTimes s t W hW hs ht h h2 x k hv
  have HC := Lib.hid hc
  clear hc hv h h2 hs ht
  go_enter Tryz.func140, Tryz.ntmps140
  go_wp2_with (go_at_call 159; (with_reducible refine (HC.out _ hG).mono ?_); rintro e w1 ⟨rfl, hb⟩)
  go_ret2
  exact ⟨rfl, hb⟩
/-- The table of powers of ten is as the library's text lays it. -/
def Tab (w : World) : Prop := Lib.TabIs Tryz.prog w "internal/strconv.uint64pow10" .u64 Lib.pow10Tab

theorem var_below {P : Program} {w w' : World} {name : String} {cs : Array Value} (h : w.var? P name = some cs) (k : Below w.heap.size w w') : w'.var? P name = some cs := by
  unfold World.var? at *
  cases hg : P.globalNamed name with
  | none => rw [hg] at h; cases h
  | some g =>
    rw [hg] at h
    simp only [Option.bind_some] at h ⊢
    have hlt : g < w.heap.size := by
      by_cases e : g < w.heap.size
      · exact e
      · rw [Array.getElem?_eq_none (by omega)] at h; cases h
    rw [k.block g hlt]; exact h
theorem Tab.below {w w' : World} (h : Tab w) (k : Below w.heap.size w w') : Tab w' := by
  exact var_below h k

theorem ofIntAt (n : Int) (h0 : -9223372036854775808 ≤ n) (h1 : n ≤ 9223372036854775807) (w : World) (hT : Tab w) (X : ByteArray) (hX : X = bs (Lib.itoa n)) (hs : X.size ≤ 20) :
    Calls Tryz.prog 130 #[.int .i64 n] w fun e w' => e = .returned (.string (X ++ ⟨#[46, 48]⟩)) ∧ Below w.heap.size w w' := by
  have hc : ∀ W, Tab W → Calls Tryz.prog 153 #[.int .i64 n, .int .i64 10] W fun e w' => e = .returned (.string X) ∧ Below W.heap.size W w' := fun W hW => by
    refine (Tryz.strconv_FormatInt_10 n h0 h1 W hW).mono ?_
    rintro e w' ⟨rfl, k, os, rfl⟩
    refine ⟨by rw [hX], ?_⟩
    exact (below_drewN (Below.refl _ _) k).trans ⟨rfl, rfl, rfl, by simp [Sort.grow], fun i hi => by simp only [Sort.grow]; rw [Array.getElem?_append_left (by exact hi)]⟩
  have HC := Lib.hid hc
  clear hc hX
  go_enter Tryz.func130, Tryz.ntmps130
  go_wp2_with (go_at_call 153; (with_reducible refine (HC.out _ hT).mono ?_); rintro e w1 ⟨rfl, hb⟩)
  go_ret
  exact ⟨rfl, hb⟩

end Go.Proofs.YtoifjjgakblhhaaGreatDoor

/- A whole number's text is a decimal, and says that number. No Go stands here. -/
namespace Go.Proofs.YtoifjjgakblhhaaGreatDoor
open Go.RowKit

theorem trimL_none {l : List UInt8} (h : ∀ c r, l = c :: r → c ≠ 48) : Lib.trimLeftB l 48 = l := by
  cases l with
  | nil => rfl
  | cons c r =>
    unfold Lib.trimLeftB
    rw [List.dropWhile_cons, if_neg (by simpa using h c r rfl)]
theorem dec_all (u : Nat) : (Lib.decDigits u).all isDig = true ∧ valD (Lib.decDigits u) = u ∧ Lib.decDigits u ≠ [] ∧ (1 ≤ u → (Lib.decDigits u).headD 0 ≠ 48) := by
  induction u using Nat.strongRecOn with
  | _ u ih =>
    have hb : ∀ k, k < 10 → (UInt8.ofNat (48 + k)).toNat = 48 + k := fun k hk => by rw [UInt8.toNat_ofNat']; omega
    have hd : ∀ k, k < 10 → isDig (UInt8.ofNat (48 + k)) = true := fun k hk => by rw [isDig_iff, hb k hk]; omega
    rw [Lib.decDigits]
    by_cases h : u < 10
    · rw [dif_pos h]
      refine ⟨by rw [List.all_cons, hd u h]; rfl, by (show ((UInt8.ofNat (48 + u)).toNat - 48) * 10 ^ 0 + 0 = u; rw [hb u h]; omega), by simp, fun h1 e => ?_⟩
      have := hb u h
      have e2 : UInt8.ofNat (48 + u) = 48 := e
      rw [e2] at this
      have h48 : (48 : UInt8).toNat = 48 := rfl
      omega
    · rw [dif_neg h]
      obtain ⟨a1, a2, a3, a4⟩ := ih (u / 10) (by omega)
      have hm : u % 10 < 10 := Nat.mod_lt _ (by decide)
      refine ⟨by rw [List.all_append, a1, List.all_cons, hd _ hm]; rfl, ?_, by simp, fun _ => ?_⟩
      · rw [valD_append, a2]
        simp [valD, hb _ hm]; omega
      · have := a4 (by omega)
        cases hl : Lib.decDigits (u / 10) with
        | nil => exact absurd hl a3
        | cons c r => rw [hl] at this; exact this
theorem dec_len (u : Nat) (h : u ≤ 9223372036854775808) : (Lib.decDigits u).length ≤ 19 := by
  obtain ⟨a1, a2, a3, a4⟩ := dec_all u
  by_cases h0 : u = 0
  · rw [h0, Lib.decDigits]; simp
  · have a5 := a4 (by omega)
    cases hl : Lib.decDigits u with
    | nil => exact absurd hl a3
    | cons c r =>
      rw [hl] at a1 a2 a5
      rw [List.all_cons, Bool.and_eq_true] at a1
      have hc := dig_le a1.1
      have hc0 : c.toNat ≠ 48 := fun e => a5 (UInt8.toNat_inj.1 e)
      rcases Nat.lt_or_ge r.length 19 with k | k
      · simp; omega
      · exfalso
        have h3 : 10 ^ 19 ≤ 10 ^ r.length := Nat.pow_le_pow_right (by decide) k
        have h4 : 1 * 10 ^ r.length ≤ (c.toNat - 48) * 10 ^ r.length := Nat.mul_le_mul_right _ (by omega)
        have h5 : (c.toNat - 48) * 10 ^ r.length + valD r = u := a2
        omega
theorem whole_text (neg : Bool) (u : Nat) (hu : neg = true → 1 ≤ u) (hl : (Lib.decDigits u).length ≤ 40) : chk ((if neg then [45] else []) ++ Lib.decDigits u ++ [46, 48]) = true := by
  obtain ⟨a1, a2, a3, a4⟩ := dec_all u
  have hw : wr neg (Lib.decDigits u) [48] = some ((if neg then [45] else []) ++ Lib.decDigits u ++ [46, 48]) := by
    unfold wr
    have t2 : Lib.trimRightB [48] 48 = [] := by decide
    by_cases h0 : u = 0
    · have e : Lib.decDigits u = [48] := by rw [h0, Lib.decDigits]; rfl
      have hn : neg = false := by
        cases neg with
        | false => rfl
        | true => exact absurd (hu rfl) (by omega)
      rw [e, hn]
      decide
    · have t1 : Lib.trimLeftB (Lib.decDigits u) 48 = Lib.decDigits u := trimL_none fun c r e => by
        have := a4 (by omega)
        rw [e] at this; exact this
      simp only [t1, t2, List.append_nil]
      rw [if_neg (by simp; omega)]
      have e2 : (Lib.decDigits u).isEmpty = false := by
        cases hx : Lib.decDigits u with
        | nil => exact absurd hx a3
        | cons c r => rfl
      have e3 : orN (Lib.decDigits u) = Lib.decDigits u := by unfold orN; rw [e2]; rfl
      rw [e2, e3]
      cases neg <;> simp [orN]
  unfold chk readP
  have hs := splitP_canon neg (Lib.decDigits u) [48] a1 a3 (by decide) (by decide)
  have e4 : (if neg then [45] else []) ++ Lib.decDigits u ++ [46, 48] = (if neg then [45] else []) ++ (Lib.decDigits u ++ 46 :: [48]) := by simp
  rw [e4] at hw ⊢
  rw [hs]
  simp only [Option.map_some]
  rw [hw]
  simp


theorem bs_size (l : List UInt8) : (bs l).size = l.length := by simp [ByteArray.size]
theorem whole_val (neg : Bool) (u : Nat) : dval ((if neg then [45] else []) ++ Lib.decDigits u ++ [46, 48]) = (if neg then -(u : Int) else u) * 10 ^ 54 := by
  obtain ⟨a1, a2, a3, a4⟩ := dec_all u
  have hs := splitP_canon neg (Lib.decDigits u) [48] a1 a3 (by decide) (by decide)
  have hl : (if neg then [45] else []) ++ Lib.decDigits u ++ [46, 48] = (if neg then [45] else []) ++ (Lib.decDigits u ++ 46 :: [48]) := by simp
  rw [hl]
  unfold dval dsign damt
  rw [hs]
  show sv neg (num54 (Lib.decDigits u) [48]) = _
  have hn : num54 (Lib.decDigits u) [48] = u * 10 ^ 54 := by
    unfold num54
    rw [a2, show valD [48] = 0 from rfl, Nat.zero_mul, Nat.add_zero]
  rw [hn]
  unfold sv
  cases neg
  · simp
  · simp [Int.neg_mul]
/-- The text of a whole number. -/
def intT (n : Int) : ByteArray := bs (Lib.itoa n) ++ ⟨#[46, 48]⟩
theorem intT_facts (n : Int) (h0 : -9223372036854775808 ≤ n) (h1 : n ≤ 9223372036854775807) : chk (intT n).data.toList = true ∧ dval (intT n).data.toList = n * 10 ^ 54 ∧ (intT n).size ≤ 100 ∧ (bs (Lib.itoa n)).size ≤ 20 := by
  have key : ∀ (neg : Bool) (u : Nat), (if neg then -(u : Int) else u) = n → (neg = true → 1 ≤ u) → Lib.itoa n = (if neg then [45] else []) ++ Lib.decDigits u → u ≤ 9223372036854775808 →
      chk (intT n).data.toList = true ∧ dval (intT n).data.toList = n * 10 ^ 54 ∧ (intT n).size ≤ 100 ∧ (bs (Lib.itoa n)).size ≤ 20 := by
    intro neg u hn hu hit hub
    have hlen := dec_len u hub
    have hT : (intT n).data.toList = (if neg then [45] else []) ++ Lib.decDigits u ++ [46, 48] := by
      unfold intT
      rw [ByteArray.data_append, Array.toList_append, hit]
    have hsz : (bs (Lib.itoa n)).size ≤ 20 := by
      rw [bs_size, hit, List.length_append]
      cases neg <;> simp <;> omega
    refine ⟨by rw [hT]; exact whole_text neg u hu (by omega), by rw [hT, whole_val, hn], ?_, hsz⟩
    have h5 : (intT n).data.toList.length = (intT n).size := Array.length_toList
    rw [← h5, hT]
    simp only [List.length_append, List.length_cons, List.length_nil]
    split <;> simp <;> omega
  by_cases hneg : n < 0
  · obtain ⟨u, hu⟩ : ∃ u : Nat, n = -(u : Int) := ⟨n.natAbs, by omega⟩
    have hit : Lib.itoa n = 45 :: Lib.decDigits u := by rw [hu]; exact Lib.itoa_neg u (by omega)
    exact key true u hu.symm (fun _ => by omega) hit (by omega)
  · obtain ⟨u, rfl⟩ := Int.eq_ofNat_of_zero_le (Int.not_lt.1 hneg)
    exact key false u rfl (fun h => by cases h) (Lib.itoa_nonneg u) (by omega)
end Go.Proofs.YtoifjjgakblhhaaGreatDoor

/- A number as a decimal; two numbers held against each other. -/
namespace Go.Proofs.YtoifjjgakblhhaaGreatDoor
open Go.RowKit

/-- What a number says, scaled by 10 ^ 54. -/
def numV (k n : Int) (t : ByteArray) : Int := if k = 2 then n * 10 ^ 54 else if chk t.data.toList then dval t.data.toList else 0
/-- A decimal text that says z. -/
def Says (z : Int) (s : ByteArray) : Prop := chk s.data.toList = true ∧ dval s.data.toList = z ∧ s.size < 4294967281

theorem ofIntSays (n : Int) (h0 : -9223372036854775808 ≤ n) (h1 : n ≤ 9223372036854775807) (w : World) (hT : Tab w) :
    Calls Tryz.prog 130 #[.int .i64 n] w fun e w' => ∃ s, e = .returned (.string s) ∧ Says (n * 10 ^ 54) s ∧ Below w.heap.size w w' := by
  obtain ⟨f1, f2, f3, f4⟩ := intT_facts n h0 h1
  refine (ofIntAt n h0 h1 w hT _ rfl f4).mono ?_
  rintro e w' ⟨rfl, hb⟩
  exact ⟨_, rfl, ⟨f1, f2, show (intT n).size < _ by omega⟩, hb⟩

theorem asDecimalAt (k : Int) (b : Bool) (n : Int) (t x : ByteArray) (p : Option Addr) (len cap : Nat) (w : World) (hG : Gd w) (hT : Tab w) (hf : Fine n t x len) :
    Calls Tryz.prog 92 #[.agg #[.int .i64 k, .bool b, .int .i64 n, .string t, .string x, .slice p len cap]] w fun e w' => ∃ s, e = .returned (.string s) ∧ Says (numV k n t) s ∧ Below w.heap.size w w' := by
  have l0 := six_new (k := k) (b := b) (n := n) (t := t) (x := x) (p := p) (len := len) (cap := cap) w rfl
  have b0 := below1 w (.cells #[.int .i64 k, .bool b, .int .i64 n, .string t, .string x, .slice p len cap] 28)
  have g0 := hG.below b0
  have t0 := hT.below b0
  have z0 := b0.size
  have f0 := l0.c0
  have f2 := l0.c2
  have f3 := l0.c3
  have HF := Lib.hid hf
  by_cases h2 : k = 2
  · subst h2
    obtain ⟨z, hz⟩ : ∃ z, z = numV 2 n t := ⟨_, rfl⟩
    have hc := fun W hW => ofIntSays n HF.out.lo HF.out.hi W hW
    have e : numV 2 n t = n * 10 ^ 54 := by unfold numV; rw [if_pos rfl]
    rw [← e, ← hz] at hc
    rw [← hz]
    have HC := Lib.hid hc
    clear hc hz e l0 hf
    go_enter Tryz.func92, Tryz.ntmps92
    go_wp2_with (go_at_call 130; (with_reducible refine (HC.out _ t0).mono ?_); rintro e w1 ⟨s, rfl, hs, hb⟩; have HS := Lib.hid hs; clear hs; replace b0 := below_any b0 hb z0)
    go_ret
    exact ⟨s, rfl, HS.out, b0⟩
  · have e2 : (k == 2) = false := by simpa using h2
    cases hk : chk t.data.toList with
    | true =>
      have e : numV k n t = dval t.data.toList := by unfold numV; rw [if_neg h2, if_pos hk]
      rw [e]
      have hsay : Hid (Says (dval t.data.toList) t) := Lib.hid ⟨hk, rfl, by have := hf.ht; omega⟩
      have hc := fun W hW => checkAt t W hW (by have := hf.ht; omega)
      rw [hk] at hc
      have b9 := b0
      clear h2 e hk l0 hf
      generalize dval t.data.toList = z at hsay ⊢
      go_enter Tryz.func92, Tryz.ntmps92
      go_wp2_with (go_at_call 73; (with_reducible refine (hc _ g0).mono ?_); rintro e w1 ⟨rfl, hb⟩; have c3 := (hb.cell (p := ⟨w.heap.size, 3, none⟩) (World.block_lt_of_cell? _ _ f3)).trans f3; replace b9 := below_any b0 hb z0)
      go_ret
      exact ⟨t, rfl, hsay.out, b9⟩
    | false =>
      have e : numV k n t = 0 := by unfold numV; rw [if_neg h2, if_neg (by simp [hk])]
      rw [e]
      have hc := fun W hW => checkAt t W hW (by have := hf.ht; omega)
      rw [hk] at hc
      have hd := fun W hW => ofIntSays 0 (by omega) (by omega) W hW
      rw [Int.zero_mul] at hd
      have HD := Lib.hid hd
      have b9 := b0
      clear h2 e hk l0 hf hd
      go_enter Tryz.func92, Tryz.ntmps92
      go_wp2_with (first
        | (go_at_call 73; (with_reducible refine (hc _ g0).mono ?_); rintro e w1 ⟨rfl, hb⟩; have t1 := t0.below hb; replace b9 := below_any b0 hb z0)
        | (go_at_call 130; (with_reducible refine (HD.out _ t1).mono ?_); rintro e w2 ⟨s, rfl, hs, hb2⟩; have HS := Lib.hid hs; clear hs; replace b9 := below_any b9 hb2 b9.size))
      go_ret
      exact ⟨s, rfl, HS.out, b9⟩
end Go.Proofs.YtoifjjgakblhhaaGreatDoor

/- Two numbers held against each other. -/
namespace Go.Proofs.YtoifjjgakblhhaaGreatDoor
open Go.RowKit

theorem cmpZ_scale (a b : Int) : cmpZ (a * 10 ^ 54) (b * 10 ^ 54) = cmpZ a b := by
  obtain ⟨P, hP⟩ : ∃ P : Int, P = 10 ^ 54 := ⟨_, rfl⟩
  have hp : 0 < P := by rw [hP]; decide
  rw [← hP]
  clear hP
  unfold cmpZ
  by_cases h : a < b
  · rw [if_pos h, if_pos (Int.mul_lt_mul_of_pos_right h hp)]
  · rw [if_neg h, if_neg (fun h2 => h (Int.lt_of_mul_lt_mul_right h2 (Int.le_of_lt hp)))]
    by_cases h3 : b < a
    · rw [if_pos h3, if_pos (Int.mul_lt_mul_of_pos_right h3 hp)]
    · rw [if_neg h3, if_neg (fun h2 => h3 (Int.lt_of_mul_lt_mul_right h2 (Int.le_of_lt hp)))]

theorem cmpIntAt (a b : Int) (w : World) : Calls Tryz.prog 90 #[.int .i64 a, .int .i64 b] w fun e w' => e = .returned (.int .i64 (cmpZ a b)) ∧ Below w.heap.size w w' := by
  by_cases h : a < b
  · have e : cmpZ a b = -1 := by unfold cmpZ; rw [if_pos h]
    rw [e]
    clear e
    go_enter Tryz.func90, Tryz.ntmps90
    go_wp2
    go_ret
    exact ⟨rfl, Below.refl _ _⟩
  · by_cases h2 : b < a
    · have e : cmpZ a b = 1 := by unfold cmpZ; rw [if_neg h, if_pos h2]
      rw [e]
      clear e
      go_enter Tryz.func90, Tryz.ntmps90
      go_wp2
      go_ret
      exact ⟨rfl, Below.refl _ _⟩
    · have e : cmpZ a b = 0 := by unfold cmpZ; rw [if_neg h, if_neg h2]
      rw [e]
      obtain rfl : a = b := by omega
      clear e h2 h
      go_enter Tryz.func90, Tryz.ntmps90
      go_wp2
      go_ret
      exact ⟨rfl, Below.refl _ _⟩
end Go.Proofs.YtoifjjgakblhhaaGreatDoor
