/- Texts of one kind, one behind the other: each says ahead of itself what it shows. -/
import Derived.Test.YtanbgdhmfjgihaaGreatDoorLaf
import Derived.Test.YtanbgdhmfjgihaaGreatDoorLaa
import Derived.Deep.DeepCutAuto
import Derived.Laws.StructEq
import Derived.Deep.RegionWith
import Derived.Test.YtanbgdhmfjgihaaGreatDoorLab
import Derived.Deep.RegionHeld3
/- Whether a value may be: the program's answer, for values in one another. -/
namespace Go.Proofs.YtanbgdhmfjgihaaGreatDoor
open Go.RowKit

theorem held_slice {W : World} {L : Value} {l : List Val} (h : Held W L l) : ∃ p cap, L = .slice p l.length cap := by
  cases l with
  | nil => unfold Held at h; exact h
  | cons v r => unfold Held at h; obtain ⟨g, off, cap, e, _⟩ := h; exact ⟨_, cap, e⟩

theorem allBig (p : Option Addr) (len cap : Nat) (d : Int) (w : World) (h : (4096 : Int) < len) :
    Calls Tryz.prog 111 #[.slice p len cap, .int .i64 d] w fun e w' => e = .returned (.bool false) ∧ Low w.heap.size w w' := by
  go_enter Tryz.func111, Tryz.ntmps111
  go_wp2_with fail
  go_ret
  exact ⟨rfl, Low.refl _ _⟩
theorem allDeep (p : Option Addr) (len cap : Nat) (d : Int) (w : World) (h : ¬ (4096 : Int) < len) (h2 : 60 < d) :
    Calls Tryz.prog 111 #[.slice p len cap, .int .i64 d] w fun e w' => e = .returned (.bool false) ∧ Low w.heap.size w w' := by
  go_enter Tryz.func111, Tryz.ntmps111
  go_wp2_with fail
  go_ret
  exact ⟨rfl, Low.refl _ _⟩
theorem allNone (p : Option Addr) (cap : Nat) (d : Int) (w : World) (h2 : ¬ 60 < d) :
    Calls Tryz.prog 111 #[.slice p 0 cap, .int .i64 d] w fun e w' => e = .returned (.bool true) ∧ Low w.heap.size w w' := by
  go_enter Tryz.func111, Tryz.ntmps111
  go_wp2_with fail
  go_loopw [16] (fun i wr => i = .int .i64 0 ∧ wr = w) (fun _ _ => 0)
  case atStart => exact ⟨rfl, rfl⟩
  case round =>
    obtain ⟨rfl, rfl⟩ := hrel
    go_wp2_with fail
    go_ret
    exact ⟨rfl, Low.refl _ _⟩

theorem allAny (l : List Val) (L : Value) (d : Nat) (w : World) (hG : Gd w) (hl : Held w L l) (each : d ≤ 60 → ∀ v ∈ l, MayBeAt v d) :
    Calls Tryz.prog 111 #[L, .int .i64 d] w fun e w' => e = .returned (.bool (decide (l.length ≤ 4096) && decide (d ≤ 60) && eachP l d)) ∧ Low w.heap.size w w' := by
  obtain ⟨p, cap, rfl⟩ := held_slice hl
  by_cases h1 : l.length ≤ 4096
  · rw [decide_eq_true h1, Bool.true_and]
    by_cases h2 : d ≤ 60
    · rw [decide_eq_true h2, Bool.true_and]
      cases l with
      | nil =>
        unfold eachP
        exact allNone p cap d w (by omega)
      | cons v r =>
        unfold Held at hl
        obtain ⟨g, off, cap', e, hv, hr⟩ := hl
        cases e
        refine allMayAt (v :: r) g off cap d w hG ?_ h1 h2 (each h2)
        unfold Holds
        exact ⟨hv, hr⟩
    · rw [decide_eq_false h2, Bool.false_and]
      exact allDeep p _ cap d w (by omega) (by omega)
  · rw [decide_eq_false h1, Bool.false_and, Bool.false_and]
    exact allBig p _ cap d w (by omega)

theorem mayBe_step (d : Nat) (hd : d ≤ 60) (next : d + 1 ≤ 60 → ∀ v, MayBeAt v (d + 1)) (v : Val) : MayBeAt v d := by
  intro W k b n t x l L e hG ht hx hL
  subst e
  obtain ⟨p, cap, rfl⟩ := held_slice hL
  unfold mayP
  refine mayBeOf k b n t x p l.length cap d W _ hG (by omega) (by omega) (by omega) (by omega) fun _ W' hb => ?_
  have := allAny l _ (d + 1) W' (hG.below hb.is) (Held.below l hL hb.is) fun h v _ => next h v
  simpa using this
theorem mayBeAll : ∀ (m d : Nat), m + d = 60 → ∀ v, MayBeAt v d
  | 0, d, e, v => mayBe_step d (by omega) (fun h => absurd h (by omega)) v
  | m + 1, d, e, v => mayBe_step d (by omega) (fun _ => mayBeAll m (d + 1) (by omega)) v

/-- Check answers mayP, of any value that lies whole in memory. -/
theorem checkAtV (v : Val) (k : Int) (b : Bool) (n : Int) (t x : ByteArray) (l : List Val) (L : Value) (W : World) (e : v = .mk k b n t x l) (hG : Gd W) (ht : t.size ≤ 2097152) (hx : x.size ≤ 2097152) (hL : Held W L l) :
    Calls Tryz.prog 48 #[.agg #[.int .i64 k, .bool b, .int .i64 n, .string t, .string x, L]] W fun e w' => e = .returned (.bool (mayP v 0)) ∧ Low W.heap.size W w' := by
  obtain ⟨p, cap, rfl⟩ := held_slice hL
  have l0 : Six (W.alloc (.cells #[.int .i64 k, .bool b, .int .i64 n, .string t, .string x, .slice p l.length cap] 39)) W.heap.size k b n t x p l.length cap := six_new _ rfl
  have b0 := low1 W (.cells #[.int .i64 k, .bool b, .int .i64 n, .string t, .string x, .slice p l.length cap] 39)
  have hc : Calls Tryz.prog 86 #[.agg #[.int .i64 k, .bool b, .int .i64 n, .string t, .string x, .slice p l.length cap], .int .i64 0] (W.alloc (.cells #[.int .i64 k, .bool b, .int .i64 n, .string t, .string x, .slice p l.length cap] 39)) _ :=
    mayBeAll 60 0 rfl v _ k b n t x l _ e (hG.alloc _) ht hx (Held.below l hL b0.is)
  go_enter Tryz.func48, Tryz.ntmps48
  go_wp2_with (first
    | ((with_reducible refine wpList_load6 (.tmp 1) W.heap.size l0 ?_ ?_ ?_ ?_); rfl; rfl; rfl)
    | (go_at_call 86; (with_reducible refine hc.mono ?_); rintro e w' ⟨rfl, hb⟩; have b3 := low_any b0 hb (Nat.le_of_lt l0.lt)))
  go_ret
  exact ⟨by first | rfl | (subst e; rfl), b3⟩
end Go.Proofs.YtanbgdhmfjgihaaGreatDoor

/- compareAmount: which of two amounts is the greater. -/
namespace Go.Proofs.YtanbgdhmfjgihaaGreatDoor
open Go.RowKit

set_option maxHeartbeats 400000 in
theorem cmpAmt (c d : Array Value) (n m : Bool) (xs ys : Nat → Nat) (hc : IsNum c n xs) (hd : IsNum d m ys) (w : World) :
    Calls Tryz.prog 214 #[.agg c, .agg d] w fun e w' => e = .returned (.int .i64 (cmpI (wval xs) (wval ys))) ∧ Low w.heap.size w w' := by
  go_enter Tryz.func214, Tryz.ntmps214
  go_wp2
  go_loopw [5] (fun i wr => ∃ k : Int, -1 ≤ k ∧ k ≤ 15 ∧ i = .int .i64 k ∧ (∀ j : Nat, k < j → j < 16 → xs j = ys j) ∧ wr.heap[w.heap.size]? = some (.cells c 229) ∧ wr.heap[w.heap.size+1]? = some (.cells d 229) ∧ Low w.heap.size w wr) (fun i _ => (intOf i + 1).toNat)
  case atStart =>
    refine ⟨15, by omega, by omega, rfl, fun j a b => by omega, ?_, ?_, ?_⟩
    · rw [Below.heap_alloc _ _ _ (by simp)]; exact heap_new _ _ rfl
    · exact heap_new _ _ (by simp)
    · exact ((Low.refl _ _).alloc (Nat.le_refl _) _).alloc (by simp) _
  case round =>
    obtain ⟨k, hk1, hk2, rfl, heq, hb1, hb2, hbel⟩ := hrel
    have HE := Lib.hid heq
    clear heq
    have B1 := Lib.hid hb1
    have B2 := Lib.hid hb2
    clear hb1 hb2
    by_cases hk : 0 ≤ k
    · obtain ⟨k, rfl⟩ := Int.eq_ofNat_of_zero_le hk
      have hx : wr.cell? ⟨w.heap.size, 1 + k, none⟩ = some (.int .u32 (xs k)) := cell_of B1.out _ (hc.word k (by omega))
      have hy : wr.cell? ⟨w.heap.size + 1, 1 + k, none⟩ = some (.int .u32 (ys k)) := cell_of B2.out _ (hd.word k (by omega))
      have hkk : (k : Int) < 16 := by omega
      rcases Nat.lt_trichotomy (xs k) (ys k) with h | h | h
      · go_wp2
        go_quiet (fail)
        go_wp2
        go_ret
        refine ⟨?_, low_drewN hbel _⟩
        rw [cmpI_lt (wval_lt_of xs ys hc.lt k (by omega) (fun j a b => HE.out j (by omega) b) h)]; rfl
      · have HH := Lib.hid h
        clear h
        have h1 : decide (xs k < ys k) = false := by have := HH.out; simp; omega
        have h2 : decide (ys k < xs k) = false := by have := HH.out; simp; omega
        go_wp2
        go_quiet (fail)
        go_wp2
        go_quiet (fail)
        go_wp2
        go_roundw
        case rel => exact ⟨_, by omega, by omega, rfl, fun j a b => (if e : j = k then by rw [e]; exact HH.out else HE.out j (by omega) b), B1.out, B2.out, low_drewN hbel _⟩
        case measure => simp [intOf]
      · go_wp2
        go_quiet (fail)
        go_wp2
        go_quiet (fail)
        go_wp2
        go_ret
        refine ⟨?_, low_drewN (low_drewN hbel _) _⟩
        rw [cmpI_gt (wval_lt_of ys xs hd.lt k (by omega) (fun j a b => (HE.out j (by omega) b).symm) h)]; rfl
    · go_wp2
      go_ret
      refine ⟨?_, hbel⟩
      rw [cmpI_eq (wval_eq_of xs ys fun j hj => HE.out j (by omega) hj)]; rfl
end Go.Proofs.YtanbgdhmfjgihaaGreatDoor

/- addAmount, takeAmount, push: what they do to the number behind the pointer. -/
namespace Go.Proofs.YtanbgdhmfjgihaaGreatDoor
open Go.RowKit

end Go.Proofs.YtanbgdhmfjgihaaGreatDoor

/- isZero, opposite, compare. -/
namespace Go.Proofs.YtanbgdhmfjgihaaGreatDoor
open Go.RowKit

/-- Compare of two signs and amounts, as the text has it. -/
def cmpS (n : Bool) (x : Nat) (m : Bool) (y : Nat) : Int :=
  if n && !m then -1 else if m && !n then 1 else if n then cmpI y x else cmpI x y

end Go.Proofs.YtanbgdhmfjgihaaGreatDoor

/- Digits and what they say; the two ways round between numbers and their texts. No Go stands here. -/
namespace Go.Proofs.YtanbgdhmfjgihaaGreatDoor

/-- What digits say. -/
def valD : List UInt8 → Nat
  | [] => 0
  | c :: r => (c.toNat - 48) * 10 ^ r.length + valD r

theorem valD_append (l r : List UInt8) : valD (l ++ r) = valD l * 10 ^ r.length + valD r := by
  induction l with
  | nil => simp [valD]
  | cons c l ih =>
    simp only [List.cons_append, valD, ih, List.length_append, Nat.pow_add, Nat.add_mul]
    rw [← Nat.mul_assoc]; omega

theorem dig_le {c : UInt8} (h : isDig c = true) : 48 ≤ c.toNat ∧ c.toNat ≤ 57 := by
  have := (isDig_iff c).1 h; omega

theorem valD_lt (l : List UInt8) (h : l.all isDig = true) : valD l < 10 ^ l.length := by
  induction l with
  | nil => simp [valD]
  | cons c l ih =>
    simp only [List.all_cons, Bool.and_eq_true] at h
    have := dig_le h.1
    have ih := ih h.2
    have : (c.toNat - 48) * 10 ^ l.length ≤ 9 * 10 ^ l.length := Nat.mul_le_mul_right _ (by omega)
    simp only [valD, List.length_cons, Nat.pow_succ]
    omega

theorem eq_of_val : ∀ (a b : List UInt8), a.all isDig = true → b.all isDig = true → a.length = b.length → valD a = valD b → a = b
  | [], [], _, _, _, _ => rfl
  | [], _ :: _, _, _, h, _ => by simp at h
  | _ :: _, [], _, _, h, _ => by simp at h
  | c :: a, d :: b, ha, hb, hl, hv => by
    simp only [List.all_cons, Bool.and_eq_true] at ha hb
    have hl' : a.length = b.length := by simpa using hl
    have l1 := valD_lt a ha.2
    have l2 := valD_lt b hb.2
    have c1 := dig_le ha.1
    have c2 := dig_le hb.1
    simp only [valD] at hv
    rw [← hl'] at hv l2
    have key : c.toNat - 48 = d.toNat - 48 ∧ valD a = valD b := by
      generalize c.toNat - 48 = p at *
      generalize d.toNat - 48 = q at *
      generalize 10 ^ a.length = B at *
      rcases Nat.lt_trichotomy p q with h | h | h
      · have : (p + 1) * B ≤ q * B := Nat.mul_le_mul_right _ h
        rw [Nat.add_mul, Nat.one_mul] at this
        omega
      · subst h; exact ⟨rfl, by omega⟩
      · have : (q + 1) * B ≤ p * B := Nat.mul_le_mul_right _ h
        rw [Nat.add_mul, Nat.one_mul] at this
        omega
    have : c = d := UInt8.toNat_inj.1 (by omega)
    rw [this, eq_of_val a b ha.2 hb.2 hl' key.2]

/-- The digit of N at place p. -/
def digAt (N p : Nat) : UInt8 := UInt8.ofNat (48 + N / 10 ^ p % 10)
/-- The n digits of N from place lo on, the highest first. -/
def digsOf (N lo : Nat) : Nat → List UInt8
  | 0 => []
  | n + 1 => digAt N (lo + n) :: digsOf N lo n

theorem digAt_toNat (N p : Nat) : (digAt N p).toNat = 48 + N / 10 ^ p % 10 := by
  unfold digAt
  have : N / 10 ^ p % 10 < 10 := Nat.mod_lt _ (by omega)
  rw [UInt8.toNat_ofNat']
  omega
theorem digAt_dig (N p : Nat) : isDig (digAt N p) = true := by
  rw [isDig_iff, digAt_toNat]
  have : N / 10 ^ p % 10 < 10 := Nat.mod_lt _ (by omega)
  omega
theorem digsOf_len (N lo n : Nat) : (digsOf N lo n).length = n := by
  induction n with
  | zero => rfl
  | succ n ih => simp [digsOf, ih]
theorem digsOf_dig (N lo n : Nat) : (digsOf N lo n).all isDig = true := by
  induction n with
  | zero => rfl
  | succ n ih => simp [digsOf, ih, digAt_dig]
theorem digsOf_val (N lo n : Nat) : valD (digsOf N lo n) = N / 10 ^ lo % 10 ^ n := by
  induction n with
  | zero => simp [digsOf, valD, Nat.mod_one]
  | succ n ih =>
    simp only [digsOf, valD, ih, digsOf_len, digAt_toNat]
    rw [Nat.pow_add, ← Nat.div_div_eq_div_mul, Nat.add_sub_cancel_left, Nat.pow_succ]
    generalize N / 10 ^ lo = M
    rw [Nat.mod_mul, Nat.mul_comm (M / 10 ^ n % 10)]
    omega

theorem rep_dig (k : Nat) : (List.replicate k (48 : UInt8)).all isDig = true := by
  induction k with
  | zero => rfl
  | succ k ih => rw [List.replicate_succ, List.all_cons, ih]; rfl
theorem rep_val (k : Nat) : valD (List.replicate k (48 : UInt8)) = 0 := by
  induction k with
  | zero => rfl
  | succ k ih => rw [List.replicate_succ]; simp [valD, ih]

theorem trimL_rep (k : Nat) (l : List UInt8) : Lib.trimLeftB (List.replicate k 48 ++ l) 48 = Lib.trimLeftB l 48 := by
  unfold Lib.trimLeftB
  induction k with
  | zero => simp
  | succ k ih => rw [List.replicate_succ, List.cons_append, List.dropWhile_cons, if_pos (by simp)]; exact ih
theorem trimR_rep (k : Nat) (l : List UInt8) : Lib.trimRightB (l ++ List.replicate k 48) 48 = Lib.trimRightB l 48 := by
  have := trimL_rep k l.reverse
  unfold Lib.trimLeftB at this
  unfold Lib.trimRightB
  rw [List.reverse_append, List.reverse_replicate, this]

/-- The text of N scaled by 10 ^ 54. -/
def wrN (neg : Bool) (N : Nat) : Option (List UInt8) := wr neg (digsOf N 54 90) (digsOf N 0 54)

theorem trimL_val (a b : List UInt8) (ha : a.all isDig = true) (hb : b.all isDig = true) (hv : valD a = valD b) : Lib.trimLeftB a 48 = Lib.trimLeftB b 48 := by
  rcases Nat.le_total a.length b.length with h | h
  · rw [← trimL_rep (b.length - a.length) a]
    congr 1
    exact eq_of_val _ _ (by rw [List.all_append, rep_dig, ha]; rfl) hb (by simp; omega) (by rw [valD_append, rep_val]; omega)
  · rw [← trimL_rep (a.length - b.length) b]
    congr 1
    exact eq_of_val _ _ ha (by rw [List.all_append, rep_dig, hb]; rfl) (by simp; omega) (by rw [valD_append, rep_val]; omega)
theorem trimR_val (a b : List UInt8) (ha : a.all isDig = true) (hb : b.all isDig = true) (n : Nat) (la : a.length ≤ n) (lb : b.length ≤ n) (hv : valD a * 10 ^ (n - a.length) = valD b * 10 ^ (n - b.length)) : Lib.trimRightB a 48 = Lib.trimRightB b 48 := by
  rw [← trimR_rep (n - a.length) a, ← trimR_rep (n - b.length) b]
  congr 1
  exact eq_of_val _ _ (by rw [List.all_append, rep_dig, ha]; rfl) (by rw [List.all_append, rep_dig, hb]; rfl) (by simp; omega) (by rw [valD_append, valD_append, rep_val, rep_val, List.length_replicate, List.length_replicate]; omega)

theorem wr_congr (neg : Bool) {a a' b b' : List UInt8} (h : Lib.trimLeftB a 48 = Lib.trimLeftB a' 48) (k : Lib.trimRightB b 48 = Lib.trimRightB b' 48) : wr neg a b = wr neg a' b' := by
  unfold wr; rw [h, k]

/-- Digits, however many noughts are needless, are written as their number is. -/
theorem wr_wrN (neg : Bool) (a b : List UInt8) (ha : a.all isDig = true) (hb : b.all isDig = true) (hv : valD a < 10 ^ 90) (lb : b.length ≤ 54) :
    wr neg a b = wrN neg (valD a * 10 ^ 54 + valD b * 10 ^ (54 - b.length)) := by
  have hlt : valD b * 10 ^ (54 - b.length) < 10 ^ 54 := by
    have h1 := valD_lt b hb
    have h2 : 10 ^ b.length * 10 ^ (54 - b.length) = 10 ^ 54 := by rw [← Nat.pow_add]; congr 1; omega
    have h3 : valD b * 10 ^ (54 - b.length) < 10 ^ b.length * 10 ^ (54 - b.length) := Nat.mul_lt_mul_of_pos_right h1 (Nat.pow_pos (by omega))
    omega
  unfold wrN
  refine wr_congr neg (trimL_val _ _ ha (digsOf_dig _ _ _) ?_) (trimR_val _ _ hb (digsOf_dig _ _ _) 54 lb (by rw [digsOf_len]; omega) ?_)
  · rw [digsOf_val, Nat.mul_comm, Nat.mul_add_div (Nat.pow_pos (by omega)), Nat.div_eq_of_lt hlt, Nat.add_zero, Nat.mod_eq_of_lt hv]
  · rw [digsOf_val, digsOf_len, Nat.sub_self, Nat.pow_zero, Nat.mul_one, Nat.div_one, Nat.add_comm, Nat.add_mul_mod_self_right, Nat.mod_eq_of_lt hlt]

end Go.Proofs.YtanbgdhmfjgihaaGreatDoor

/- Texts that are decimals: the way back. No Go stands here. -/
namespace Go.Proofs.YtanbgdhmfjgihaaGreatDoor

theorem cut_nil : Lib.cut [] [46] = ([], [], false) := by simp [Lib.cut, Lib.index]
theorem cut_hit (r : List UInt8) : Lib.cut (46 :: r) [46] = ([], r, true) := by simp [Lib.cut, Lib.index]
theorem cut_step (c : UInt8) (r : List UInt8) (h : c ≠ 46) : Lib.cut (c :: r) [46] = (c :: (Lib.cut r [46]).1, (Lib.cut r [46]).2.1, (Lib.cut r [46]).2.2) := by
  have hp : [46].isPrefixOf (c :: r) = false := by simp [List.isPrefixOf, beq_eq_false_iff_ne.2 (fun e : (46 : UInt8) = c => h e.symm)]
  have hge := Lib.index_ge r [46]
  unfold Lib.cut
  rw [Lib.index, hp]
  by_cases h0 : 0 ≤ Lib.index r [46]
  · have e1 : (Lib.index r [46] == -1) = false := by simp; omega
    simp only [Bool.false_eq_true, if_false, e1]
    rw [if_pos h0, if_pos (by omega)]
    have e2 : (Lib.index r [46] + 1).toNat = (Lib.index r [46]).toNat + 1 := by omega
    rw [e2]
    simp
  · have e1 : Lib.index r [46] = -1 := by omega
    rw [e1]
    simp
theorem cut_dig (d e : List UInt8) (h : d.all isDig = true) : Lib.cut (d ++ 46 :: e) [46] = (d, e, true) := by
  induction d with
  | nil => exact cut_hit e
  | cons c d ih =>
    simp only [List.all_cons, Bool.and_eq_true] at h
    rw [List.cons_append, cut_step _ _ (by rintro rfl; exact absurd h.1 (by decide)), ih h.2]

theorem digs_of {l : List UInt8} (h : l.all isDig = true) (hne : l ≠ []) : digs l = true := by
  unfold digs; rw [h]; cases l with
  | nil => exact absurd rfl hne
  | cons _ _ => rfl

theorem sgn_dig {x r : List UInt8} (h : x.all isDig = true) (hne : x ≠ []) : sgn (x ++ r) = (false, x ++ r) := by
  cases x with
  | nil => exact absurd rfl hne
  | cons c x =>
    simp only [List.all_cons, Bool.and_eq_true] at h
    have h45 : c ≠ 45 := by rintro rfl; exact absurd h.1 (by decide)
    have h43 : c ≠ 43 := by rintro rfl; exact absurd h.1 (by decide)
    simp [sgn, h45, h43]

/-- A text of a sign, digits, a point and digits is split so. -/
theorem splitP_canon (n : Bool) (x y : List UInt8) (hx : x.all isDig = true) (hx0 : x ≠ []) (hy : y.all isDig = true) (hy0 : y ≠ []) :
    splitP ((if n then [45] else []) ++ (x ++ 46 :: y)) = some (n, x, y) := by
  have e : sgn ((if n then [45] else []) ++ (x ++ 46 :: y)) = (n, x ++ 46 :: y) := by
    cases n
    · show sgn ([] ++ (x ++ 46 :: y)) = _
      rw [List.nil_append]
      exact sgn_dig hx hx0
    · simp [sgn]
  unfold splitP
  rw [e]
  simp only [cut_dig x y hx, digs_of hx hx0, digs_of hy hy0]
  rfl

theorem orN_dig {x : List UInt8} (h : x.all isDig = true) : (orN x).all isDig = true := by
  unfold orN; split
  · rfl
  · exact h
theorem orN_ne (x : List UInt8) : orN x ≠ [] := by
  unfold orN; cases x <;> simp
theorem orN_len {x : List UInt8} {n : Nat} (h : x.length ≤ n) (hn : 1 ≤ n) : (orN x).length ≤ n := by
  unfold orN; split
  · simpa using hn
  · exact h
theorem orN_val (x : List UInt8) : valD (orN x) = valD x := by
  cases x <;> simp [orN, valD]

theorem trimL_split (l : List UInt8) : ∃ k, l = List.replicate k 48 ++ Lib.trimLeftB l 48 := by
  unfold Lib.trimLeftB
  induction l with
  | nil => exact ⟨0, rfl⟩
  | cons c l ih =>
    by_cases h : c = 48
    · obtain ⟨k, hk⟩ := ih
      refine ⟨k + 1, ?_⟩
      rw [List.dropWhile_cons, if_pos (by simp [h]), List.replicate_succ, List.cons_append, ← hk, h]
    · exact ⟨0, by rw [List.dropWhile_cons, if_neg (by simp [h])]; rfl⟩
theorem trimR_split (l : List UInt8) : ∃ k, l = Lib.trimRightB l 48 ++ List.replicate k 48 := by
  obtain ⟨k, hk⟩ := trimL_split l.reverse
  refine ⟨k, ?_⟩
  unfold Lib.trimLeftB at hk
  unfold Lib.trimRightB
  have := congrArg List.reverse hk
  rw [List.reverse_reverse, List.reverse_append, List.reverse_replicate] at this
  exact this

theorem trimL_dig {l : List UInt8} (h : l.all isDig = true) : (Lib.trimLeftB l 48).all isDig = true := by
  obtain ⟨k, hk⟩ := trimL_split l
  rw [hk, List.all_append, Bool.and_eq_true] at h
  exact h.2
theorem trimR_dig {l : List UInt8} (h : l.all isDig = true) : (Lib.trimRightB l 48).all isDig = true := by
  obtain ⟨k, hk⟩ := trimR_split l
  rw [hk, List.all_append, Bool.and_eq_true] at h
  exact h.1
theorem trimL_same (l : List UInt8) : valD (Lib.trimLeftB l 48) = valD l := by
  obtain ⟨k, hk⟩ := trimL_split l
  have := congrArg valD hk
  rw [valD_append, rep_val] at this
  omega
theorem trimR_same (l : List UInt8) {n : Nat} (h : l.length ≤ n) : valD (Lib.trimRightB l 48) * 10 ^ (n - (Lib.trimRightB l 48).length) = valD l * 10 ^ (n - l.length) := by
  obtain ⟨k, hk⟩ := trimR_split l
  generalize Lib.trimRightB l 48 = t at *
  subst hk
  rw [valD_append, rep_val, List.length_append, List.length_replicate, Nat.add_zero, Nat.mul_assoc, ← Nat.pow_add]
  simp only [List.length_append, List.length_replicate] at h
  congr 2
  omega
theorem trimL_idem (l : List UInt8) : Lib.trimLeftB (orN (Lib.trimLeftB l 48)) 48 = Lib.trimLeftB l 48 := by
  obtain ⟨k, hk⟩ := trimL_split l
  have e : Lib.trimLeftB l 48 = Lib.trimLeftB (Lib.trimLeftB l 48) 48 := by
    have := congrArg (Lib.trimLeftB · 48) hk
    simp only [trimL_rep] at this
    exact this
  unfold orN
  split
  · rename_i h
    have : Lib.trimLeftB l 48 = [] := by simpa using h
    rw [this]; rfl
  · exact e.symm
theorem trimR_idem (l : List UInt8) : Lib.trimRightB (orN (Lib.trimRightB l 48)) 48 = Lib.trimRightB l 48 := by
  obtain ⟨k, hk⟩ := trimR_split l
  have e : Lib.trimRightB l 48 = Lib.trimRightB (Lib.trimRightB l 48) 48 := by
    have := congrArg (Lib.trimRightB · 48) hk
    simp only [trimR_rep] at this
    exact this
  unfold orN
  split
  · rename_i h
    have : Lib.trimRightB l 48 = [] := by simpa using h
    rw [this]; rfl
  · exact e.symm

theorem head_trim (l : List UInt8) : ∀ c r, Lib.trimLeftB l 48 = c :: r → c ≠ 48 := by
  intro c r h e
  have := List.head?_dropWhile_not (fun x : UInt8 => x == 48) l
  unfold Lib.trimLeftB at h
  rw [h, e] at this
  simp at this
theorem trimL_nil {l : List UInt8} (hd : l.all isDig = true) : Lib.trimLeftB l 48 = [] ↔ valD l = 0 := by
  constructor
  · intro h; rw [← trimL_same, h]; rfl
  · intro h
    cases e : Lib.trimLeftB l 48 with
    | nil => rfl
    | cons c r =>
      have hc := head_trim l c r e
      have hdd := trimL_dig hd
      rw [e, List.all_cons, Bool.and_eq_true] at hdd
      have := dig_le hdd.1
      have h2 := trimL_same l
      rw [e, h] at h2
      simp only [valD] at h2
      have hne : c.toNat ≠ 48 := fun h => hc (UInt8.toNat_inj.1 h)
      have : 0 < (c.toNat - 48) * 10 ^ r.length := Nat.mul_pos (by omega) (Nat.pow_pos (by omega))
      omega
theorem trimR_nil {l : List UInt8} (hd : l.all isDig = true) : Lib.trimRightB l 48 = [] ↔ valD l = 0 := by
  constructor
  · intro h
    have := trimR_same l (Nat.le_refl _)
    rw [h] at this
    simpa [valD] using this.symm
  · intro h
    obtain ⟨k, hk⟩ := trimR_split l
    have : l = List.replicate l.length 48 := eq_of_val _ _ hd (rep_dig _) (by simp) (by rw [h, rep_val])
    rw [this]
    have e := trimR_rep l.length []
    rw [List.nil_append] at e
    rw [e]; rfl

/-- What was written is split, and read, as what it was. -/
theorem wr_back (neg : Bool) (a b t : List UInt8) (ha : a.all isDig = true) (hb : b.all isDig = true) (h : wr neg a b = some t) :
    ∃ x y, splitP t = some (neg && !(decide (valD a = 0) && decide (valD b = 0)), x, y) ∧ x.all isDig = true ∧ y.all isDig = true ∧ x.length ≤ 40 ∧ y.length ≤ 20 ∧ valD x = valD a ∧
      (∀ n, b.length ≤ n → 20 ≤ n → valD y * 10 ^ (n - y.length) = valD b * 10 ^ (n - b.length)) ∧ chk t = true := by
  have hiff : (Lib.trimLeftB a 48 ++ Lib.trimRightB b 48).isEmpty = (decide (valD a = 0) && decide (valD b = 0)) := by
    rw [Bool.eq_iff_iff]
    simp only [List.isEmpty_iff, List.append_eq_nil_iff, trimL_nil ha, trimR_nil hb, Bool.and_eq_true, decide_eq_true_iff]
  have h0 := h
  unfold wr at h
  simp only at h
  split at h
  · cases h
  · rename_i hl
    have hl1 : (Lib.trimLeftB a 48).length ≤ 40 := by omega
    have hl2 : (Lib.trimRightB b 48).length ≤ 20 := by omega
    rw [hiff, Option.some.injEq] at h
    have hsp := splitP_canon (neg && !(decide (valD a = 0) && decide (valD b = 0))) (orN (Lib.trimLeftB a 48)) (orN (Lib.trimRightB b 48)) (orN_dig (trimL_dig ha)) (orN_ne _) (orN_dig (trimR_dig hb)) (orN_ne _)
    rw [h] at hsp
    refine ⟨_, _, hsp, orN_dig (trimL_dig ha), orN_dig (trimR_dig hb), orN_len hl1 (by omega), orN_len hl2 (by omega), by rw [orN_val, trimL_same], ?_, ?_⟩
    · intro n hn hn2
      rw [← trimR_same b hn]
      unfold orN
      split
      · rename_i he
        have : Lib.trimRightB b 48 = [] := by simpa using he
        rw [this]
        simp [valD]
      · rfl
    · unfold chk readP
      rw [hsp]
      simp only [Option.map_some]
      have : wr (neg && !(decide (valD a = 0) && decide (valD b = 0))) (orN (Lib.trimLeftB a 48)) (orN (Lib.trimRightB b 48)) = some t := by
        unfold wr
        simp only [trimL_idem, trimR_idem]
        rw [if_neg hl, hiff, ← h, Bool.and_assoc, Bool.and_self]
      rw [this]
      simp

/-- A decimal is what its parts are written as. -/
theorem chk_parts (l : List UInt8) (h : chk l = true) : ∃ n a b, splitP l = some (n, a, b) ∧ a.all isDig = true ∧ b.all isDig = true ∧ a.length ≤ 40 ∧ b.length ≤ 20 ∧ wr n a b = some l ∧
    (n = true → ¬ (valD a = 0 ∧ valD b = 0)) := by
  have h' : readP l = some (some l) := by simpa [chk] using h
  unfold readP at h'
  cases hs : splitP l with
  | none => rw [hs] at h'; cases h'
  | some x =>
    obtain ⟨n, a, b⟩ := x
    rw [hs] at h'
    simp only [Option.map_some, Option.some.injEq] at h'
    have hd : a.all isDig = true ∧ b.all isDig = true := by
      have hs' := hs
      unfold splitP at hs'
      simp only at hs'
      split at hs'
      · rename_i hc
        simp only [Option.some.injEq, Prod.mk.injEq] at hs'
        obtain ⟨_, rfl, rfl⟩ := hs'
        rw [Bool.and_eq_true, Bool.or_eq_true] at hc
        refine ⟨?_, ?_⟩
        · have := hc.1; unfold digs at this; rw [Bool.and_eq_true] at this; exact this.2
        · rcases hc.2 with h | h
          · have hf : (Lib.cut (sgn l).2 [46]).2.2 = false := by simpa using h
            have : (Lib.cut (sgn l).2 [46]).2.1 = [] := by
              unfold Lib.cut at hf ⊢
              split at hf
              · cases hf
              · rw [if_neg (by assumption)]
            rw [this]; rfl
          · unfold digs at h; rw [Bool.and_eq_true] at h; exact h.2
      · cases hs'
    obtain ⟨x, y, e1, e2, e3, e4, e5, e6, e7, e8⟩ := wr_back n a b l hd.1 hd.2 h'
    rw [hs, Option.some.injEq, Prod.mk.injEq, Prod.mk.injEq] at e1
    obtain ⟨f1, rfl, rfl⟩ := e1
    refine ⟨n, a, b, rfl, hd.1, hd.2, e4, e5, h', ?_⟩
    rintro rfl ⟨g1, g2⟩
    rw [g1, g2] at f1
    simp at f1

/-- The number of parts, scaled by 10 ^ 54. -/
def num54 (a b : List UInt8) : Nat := valD a * 10 ^ 54 + valD b * 10 ^ (54 - b.length)

end Go.Proofs.YtanbgdhmfjgihaaGreatDoor

/- Decimals as whole numbers scaled by 10 ^ 54, and back. No Go stands here. -/
namespace Go.Proofs.YtanbgdhmfjgihaaGreatDoor

/-- A signed amount. -/
def sv (n : Bool) (x : Nat) : Int := if n then -(x : Int) else x
/-- What a decimal is as a number: its sign, its amount scaled by 10 ^ 54. -/
def dsign (l : List UInt8) : Bool := ((splitP l).getD (false, [], [])).1
def damt (l : List UInt8) : Nat := num54 ((splitP l).getD (false, [], [])).2.1 ((splitP l).getD (false, [], [])).2.2
def dval (l : List UInt8) : Int := sv (dsign l) (damt l)
/-- The text of a number scaled by 10 ^ 54, if it may be. -/
def txt (z : Int) : Option (List UInt8) := wrN (decide (z < 0)) z.natAbs

theorem wr_zero (n m : Bool) (a b : List UInt8) (ha : a.all isDig = true) (hb : b.all isDig = true) (h1 : valD a = 0) (h2 : valD b = 0) : wr n a b = wr m a b := by
  unfold wr
  simp only [(trimL_nil ha).2 h1, (trimR_nil hb).2 h2, List.append_nil, List.isEmpty_nil, Bool.not_true, Bool.and_false]

theorem wrN_sv (r : Bool) (x : Nat) : wrN r x = txt (sv r x) := by
  unfold txt sv
  cases r
  · simp only [Bool.false_eq_true, if_false]
    rw [Int.natAbs_natCast, decide_eq_false (by omega)]
  · simp only [if_true]
    rw [Int.natAbs_neg, Int.natAbs_natCast]
    by_cases h : x = 0
    · subst h
      exact wr_zero _ _ _ _ (digsOf_dig _ _ _) (digsOf_dig _ _ _) (by simp [digsOf_val]) (by simp [digsOf_val])
    · rw [decide_eq_true (by omega)]

theorem num54_facts (a b : List UInt8) (ha : a.all isDig = true) (hb : b.all isDig = true) (la : a.length ≤ 40) (lb : b.length ≤ 20) : num54 a b < 10 ^ 94 ∧ num54 a b % 10 ^ 34 = 0 := by
  have h1 := valD_lt a ha
  have h2 := valD_lt b hb
  have h3 : 10 ^ a.length ≤ 10 ^ 40 := Nat.pow_le_pow_right (by omega) la
  have h4 : valD b * 10 ^ (54 - b.length) < 10 ^ b.length * 10 ^ (54 - b.length) := Nat.mul_lt_mul_of_pos_right h2 (Nat.pow_pos (by omega))
  rw [← Nat.pow_add, show b.length + (54 - b.length) = 54 by omega] at h4
  unfold num54
  constructor
  · have h5 : (valD a + 1) * 10 ^ 54 ≤ 10 ^ 40 * 10 ^ 54 := Nat.mul_le_mul_right _ (by omega)
    rw [← Nat.pow_add, Nat.add_mul] at h5
    omega
  · have e1 : 10 ^ 54 = 10 ^ 20 * 10 ^ 34 := by rw [← Nat.pow_add]
    have e2 : 10 ^ (54 - b.length) = 10 ^ (20 - b.length) * 10 ^ 34 := by rw [← Nat.pow_add]; congr 1; omega
    rw [e1, e2, ← Nat.mul_assoc, ← Nat.mul_assoc, ← Nat.add_mul, Nat.mul_mod_left]

/-- What a decimal is. -/
theorem chk_dec (l : List UInt8) (h : chk l = true) : txt (dval l) = some l ∧ damt l < 10 ^ 94 ∧ damt l % 10 ^ 34 = 0 ∧ (dsign l = true → damt l ≠ 0) ∧
    ∃ a b, splitP l = some (dsign l, a, b) ∧ a.all isDig = true ∧ b.all isDig = true ∧ a.length ≤ 40 ∧ b.length ≤ 20 ∧ damt l = num54 a b := by
  obtain ⟨n, a, b, hsp, ha, hb, la, lb, hw, hz⟩ := chk_parts l h
  have e1 : dsign l = n := by unfold dsign; rw [hsp]; rfl
  have e2 : damt l = num54 a b := by unfold damt; rw [hsp]; rfl
  obtain ⟨f1, f2⟩ := num54_facts a b ha hb la lb
  have hlt := valD_lt a ha
  have h90 : 10 ^ a.length ≤ 10 ^ 90 := Nat.pow_le_pow_right (by omega) (by omega)
  refine ⟨?_, by rw [e2]; exact f1, by rw [e2]; exact f2, ?_, a, b, by rw [e1]; exact hsp, ha, hb, la, lb, e2⟩
  · unfold dval
    rw [← wrN_sv, e1, e2, ← hw, wr_wrN n a b ha hb (by omega) (by omega)]
    rfl
  · rw [e1, e2]
    intro hn h0
    apply hz hn
    unfold num54 at h0
    have p1 : 0 < 10 ^ (54 - b.length) := Nat.pow_pos (by omega)
    rcases Nat.add_eq_zero_iff.1 h0 with ⟨q1, q2⟩
    rw [Nat.mul_eq_zero] at q1 q2
    exact ⟨by omega, by omega⟩

end Go.Proofs.YtanbgdhmfjgihaaGreatDoor

/- plus. -/
namespace Go.Proofs.YtanbgdhmfjgihaaGreatDoor
open Go.RowKit

theorem AddTo.done {f g h : Nat → Nat} {c : Nat} (H : AddTo f g h c 16) (hs : wval f + wval g < BASE ^ 16) : wval h = wval f + wval g := by
  have s := H.sum
  have hc : c = 0 := by
    by_cases e : c = 0
    · exact e
    · have : 1 * BASE ^ 16 ≤ c * BASE ^ 16 := Nat.mul_le_mul_right _ (by omega)
      unfold wval at hs; omega
  subst hc
  unfold wval at *; omega

theorem TakeFrom.done {f g h : Nat → Nat} {c : Nat} (H : TakeFrom f g h c 16) (hs : wval g ≤ wval f) (hf : Words f) : wval h + wval g = wval f := by
  have s := H.sum
  have hl := vN_lt h H.words 16 (by omega)
  have hc : c = 0 := by
    by_cases e : c = 0
    · exact e
    · have : 1 * BASE ^ 16 ≤ c * BASE ^ 16 := Nat.mul_le_mul_right _ (by omega)
      unfold wval at hs; omega
  subst hc
  unfold wval; omega


end Go.Proofs.YtanbgdhmfjgihaaGreatDoor

/- Results that are numbers. -/
namespace Go.Proofs.YtanbgdhmfjgihaaGreatDoor
open Go.RowKit
theorem results_num_tmp {fn : Func} {p q : Tmp} (h : fn.results = #[.cell p 229, .tmp q]) (tmps : Array Value) {w : World} {g : Nat} {c : Array Value} {n : Bool} {f : Nat → Nat} (v : Value)
    (hp : tmps.getD p undef = .pointer (some ⟨g, 0, none⟩)) (hq : tmps.getD q undef = v) (hg : Lies w g c n f) : (results fn tmps).run Tryz.prog w = .ok (.tuple #[.agg c, v]) w := by
  have hp' : tmps[p]?.getD undef = .pointer (some ⟨g, 0, none⟩) := by simpa using hp
  have hq' : tmps[q]?.getD undef = v := by simpa using hq
  have hl := run_loadVar_row (P := Tryz.prog) w g 229 229 c (0, 0) _ hg.1 Tryz.underlying229 rfl (by rw [hg.2.size]; exact info59)
  simp [results, h, hp', hq', asAddr, hl]
theorem results_num2_tmp {fn : Func} {p p2 q : Tmp} (h : fn.results = #[.cell p 229, .cell p2 229, .tmp q]) (tmps : Array Value) {w : World} {g g2 : Nat} {c c2 : Array Value} {n n2 : Bool} {f f2 : Nat → Nat} (v : Value)
    (hp : tmps.getD p undef = .pointer (some ⟨g, 0, none⟩)) (hp2 : tmps.getD p2 undef = .pointer (some ⟨g2, 0, none⟩)) (hq : tmps.getD q undef = v) (hg : Lies w g c n f) (hg2 : Lies w g2 c2 n2 f2) : (results fn tmps).run Tryz.prog w = .ok (.tuple #[.agg c, .agg c2, v]) w := by
  have hp' : tmps[p]?.getD undef = .pointer (some ⟨g, 0, none⟩) := by simpa using hp
  have hp2' : tmps[p2]?.getD undef = .pointer (some ⟨g2, 0, none⟩) := by simpa using hp2
  have hq' : tmps[q]?.getD undef = v := by simpa using hq
  have hl := run_loadVar_row (P := Tryz.prog) w g 229 229 c (0, 0) _ hg.1 Tryz.underlying229 rfl (by rw [hg.2.size]; exact info59)
  have hl2 := run_loadVar_row (P := Tryz.prog) w g2 229 229 c2 (0, 0) _ hg2.1 Tryz.underlying229 rfl (by rw [hg2.2.size]; exact info59)
  simp [results, h, hp', hp2', hq', asAddr, hl, hl2]
/-- A sign and noughts. -/
def sign59 (n : Bool) : Array Value := #[.bool n, .int .u32 0, .int .u32 0, .int .u32 0, .int .u32 0, .int .u32 0, .int .u32 0, .int .u32 0, .int .u32 0, .int .u32 0, .int .u32 0, .int .u32 0, .int .u32 0, .int .u32 0, .int .u32 0, .int .u32 0, .int .u32 0]
theorem isNum_sign (n : Bool) : IsNum (sign59 n) n (fun _ => 0) :=
  ⟨rfl, fun j hj => by have := isNum_zero.word j hj; rw [Nat.add_comm] at this ⊢; exact this, rfl, fun j _ => by decide⟩
theorem lies_sign (w : World) (n : Bool) {g : Nat} (e : w.heap.size = g) : Lies (w.alloc (.cells #[.bool n, .int .u32 0, .int .u32 0, .int .u32 0, .int .u32 0, .int .u32 0, .int .u32 0, .int .u32 0, .int .u32 0, .int .u32 0, .int .u32 0, .int .u32 0, .int .u32 0, .int .u32 0, .int .u32 0, .int .u32 0, .int .u32 0] 229)) g (sign59 n) n (fun _ => 0) :=
  ⟨heap_new _ _ e, isNum_sign n⟩

end Go.Proofs.YtanbgdhmfjgihaaGreatDoor

/- minus. -/
namespace Go.Proofs.YtanbgdhmfjgihaaGreatDoor
open Go.RowKit

theorem yieldsIf_loadN {ops : Array Oper} {S : World → Prop} {op : Oper} {a : Act} (hw : Region.wanted op (yielded ops a.tmps) = true) (x : Operand) (ho : op.op = .load 229 x)
    (g : Nat) (hx : a.eval x = .pointer (some ⟨g, 0, none⟩)) (c : Array Value) (n : Bool) (f : Nat → Nat) (hS : ∀ w, S w → Lies w g c n f) : YieldsIf Tryz.prog ops S op (.agg c) a :=
  .inl ⟨hw, fun w hw' => by
    unfold execOp
    simp only [ho, hx, Instr.loadAt, Instr.sureAddr, Sem.run_bind, Sem.run_pure, Result.andThen_ok, run_loadVar_row (P := Tryz.prog) w g 229 229 c (0, 0) _ (hS w hw').1 Tryz.underlying229 rfl (by rw [(hS w hw').2.size]; exact info59)]⟩
theorem storeN {w : World} {g : Nat} {c c' : Array Value} {n n' : Bool} {f f' : Nat → Nat} (h : Lies w g c n f) (k : IsNum c' n' f') : (Instr.storeAt 229 (.pointer (some ⟨g, 0, none⟩)) (.agg c')).run Tryz.prog w = .ok () (w.setRow g c') := by
  simp only [Instr.storeAt, Instr.sureAddr, Sem.run_bind, Sem.run_pure, Result.andThen_ok]
  exact run_storeVar_row (P := Tryz.prog) w g 229 229 c c' h.1 (by rw [k.size]; exact info59) (by rw [h.2.size, k.size]) k.one

theorem wp_storeN {op : Oper} {a : Act} {w : World} {K : Act → World → Prop} {Q : Exit → Act → World → Prop} (x y : Operand) (ho : op.op = .store 229 x y) (g : Nat) {c c' : Array Value} {n n' : Bool} {f f' : Nat → Nat}
    (hx : a.eval x = .pointer (some ⟨g, 0, none⟩)) (hy : a.eval y = .agg c') (hl : Lies w g c n f) (hn : IsNum c' n' f') (h : ∀ w', Only g w w' → Lies w' g c' n' f' → K (a.put op.dst undef) w') : op.wp Tryz.prog a w K Q := by
  unfold Oper.wp execOp
  simp only [ho, hx, hy, storeN hl hn, Sem.run_bind, Sem.run_pure, Result.andThen_ok]
  exact h _ (Only.setRow w c') ⟨heap_setRow hl.1, hn⟩

end Go.Proofs.YtanbgdhmfjgihaaGreatDoor

/- powerOfTen, digit, put. -/
namespace Go.Proofs.YtanbgdhmfjgihaaGreatDoor
open Go.RowKit

/-- Powers of ten behind a name. -/
def ten (e : Nat) : Nat := 10 ^ e

set_option maxHeartbeats 400000 in
theorem powTen (e : Int) (w : World) (h0 : 0 ≤ e) (h9 : e ≤ 8) :
    Calls Tryz.prog 229 #[.int .i64 e] w fun r w' => r = .returned (.int .u32 (ten e.toNat)) ∧ Low w.heap.size w w' := by
  have he : e = 0 ∨ e = 1 ∨ e = 2 ∨ e = 3 ∨ e = 4 ∨ e = 5 ∨ e = 6 ∨ e = 7 ∨ e = 8 := by omega
  rcases he with rfl | rfl | rfl | rfl | rfl | rfl | rfl | rfl | rfl
  all_goals
    go_enter Tryz.func229, Tryz.ntmps229
    go_wp2
    go_ret
    exact ⟨by simp [ten], (Low.refl _ _).alloc (Nat.le_refl _) _⟩

/-- What is loaded, at every world of the region. -/
def Holds1 (b o : Nat) (v : Value) (w : World) : Prop := w.cell? ⟨b, o, none⟩ = some v ∧ w.frozen? ⟨b, o, none⟩ = false ∧ b < w.heap.size
theorem Holds1.below {b o : Nat} {v : Value} {w w' : World} (h : Holds1 b o v w) (k : Below w.heap.size w w') : Holds1 b o v w' :=
  ⟨(k.cell (p := ⟨b, o, none⟩) h.2.2).trans h.1, (k.frozen (p := ⟨b, o, none⟩) h.2.2).trans h.2.1, Nat.lt_of_lt_of_le h.2.2 k.size⟩

end Go.Proofs.YtanbgdhmfjgihaaGreatDoor

/- digit. -/
namespace Go.Proofs.YtanbgdhmfjgihaaGreatDoor
open Go.RowKit

theorem powTenT (t e : Int) (w : World) (h0 : 0 ≤ e) (h9 : e ≤ 8) (H : Hid (t = ten e.toNat)) :
    Calls Tryz.prog 229 #[.int .i64 e] w fun r w' => r = .returned (.int .u32 t) ∧ Low w.heap.size w w' := by
  rw [H.out]; exact powTen e w h0 h9

end Go.Proofs.YtanbgdhmfjgihaaGreatDoor

/- put: a digit laid at its place. -/
namespace Go.Proofs.YtanbgdhmfjgihaaGreatDoor
open Go.RowKit

set_option maxHeartbeats 400000 in
theorem putAt (b : Nat) (c : Array Value) (n : Bool) (f : Nat → Nat) (p d : Int) (w : World) (hb : w.heap[b]? = some (.cells c 229)) (hc : IsNum c n f)
    (hp0 : 0 ≤ p) (hp : p ≤ 143) (hd0 : 48 ≤ d) (hd : d ≤ 57) (hroom : (f (p / 9).toNat : Int) + (d - 48) * ten (p % 9).toNat < 1000000000) :
    Calls Tryz.prog 223 #[.pointer (some ⟨b, 0, none⟩), .int .i64 p, .int .u8 d] w fun e w' => e = .returned (.tuple #[]) ∧ Only b w w' ∧
      ∃ c', w'.heap[b]? = some (.cells c' 229) ∧ IsNum c' n (upd f (p / 9).toNat (f (p / 9).toNat + (d - 48).toNat * ten (p % 9).toNat)) := by
  have hsz := lt_of_heap hb
  have hj : (p / 9).toNat < 16 := by omega
  have hp9 : p / 9 < 16 := by omega
  have hp8 : 0 ≤ p / 9 := by omega
  have hx : w.cell? ⟨b, 1 + (p / 9).toNat, none⟩ = some (.int .u32 (f (p / 9).toNat)) := cell_of hb _ (hc.word _ hj)
  have hf : w.frozen? ⟨b, 1 + (p / 9).toNat, none⟩ = false := free_of hb _
  have hlt : f (p / 9).toNat < 1000000000 := hc.lt _ hj
  have m0 : 0 ≤ p % 9 := by omega
  have m8 : p % 9 ≤ 8 := by omega
  obtain ⟨x, hx'⟩ : ∃ x : Int, x = f (p / 9).toNat := ⟨_, rfl⟩
  have hx0 : 0 ≤ x := by omega
  have hx9 : x < 1000000000 := by omega
  rw [← hx'] at hx
  obtain ⟨t, ht⟩ : ∃ t : Int, t = ten (p % 9).toNat := ⟨_, rfl⟩
  rw [← hx', ← ht] at hroom
  have ht1 : 1 ≤ t := by rw [ht]; unfold ten; have := Nat.pow_pos (n := (p % 9).toNat) (show 0 < 10 by omega); omega
  obtain ⟨y, hy⟩ : ∃ y : Int, y = (d - 48) * t := ⟨_, rfl⟩
  have hy0 : 0 ≤ y := by rw [hy]; exact Int.mul_nonneg (by omega) (by omega)
  rw [← hy] at hroom
  have HT := Lib.hid ht
  have HX := Lib.hid hx'
  clear ht hx'
  have e5 : IntKind.u8.wrap (d - 48) = d - 48 := IntWalk.u8_in _ (by omega)
  have e6 : IntKind.u32.wrap (d - 48) = d - 48 := IntWalk.u32_in _ (by omega)
  have e7 : IntKind.u32.wrap y = y := IntWalk.u32_in _ (by omega)
  have e8 : IntKind.u32.wrap (x + y) = x + y := IntWalk.u32_in _ (by omega)
  have e3 : IntKind.i64.wrap (p / 9) = p / 9 := IntWalk.i64_in _ (by omega)
  have e1 : p.tdiv 9 = p / 9 := Int.tdiv_eq_ediv_of_nonneg hp0
  have e2 : p.tmod 9 = p % 9 := Int.tmod_eq_emod_of_nonneg hp0
  have e4 : (d - 48) * t = y := hy.symm
  have HY := Lib.hid hy
  clear hy
  go_enter Tryz.func223, Tryz.ntmps223
  go_wp2_with fail
  go_region_with (go_at_call 229; refine (powTenT t (p % 9) _ m0 m8 HT).mono ?_; rintro e w' ⟨rfl, hbel⟩; have hx2 := (hbel.cell (p := ⟨b, 1 + (p / 9).toNat, none⟩) hsz).trans hx; have hf2 := (hbel.frozen (p := ⟨b, 1 + (p / 9).toNat, none⟩) hsz).trans hf)
  all_goals
    go_wp2
    go_end0
    have hv : x + y = ((f (p / 9).toNat + (d - 48).toNat * ten (p % 9).toNat : Nat) : Int) := by
      rw [HX.out, HY.out, HT.out, Int.natCast_add, Int.natCast_mul, Int.toNat_of_nonneg (by omega)]
    have hw1 : w'.heap[b]? = some (.cells c 229) := (hbel.block b hsz).trans hb
    refine ⟨rfl, ((Only.refl b w).drew.trans (Only.of_low (b := b) hbel)).setCell _ _ _, _, heap_set hw1 _ _, ?_⟩
    have hval : f (p / 9).toNat + (d - 48).toNat * ten (p % 9).toNat < BASE := by unfold BASE; omega
    rw [hv]
    exact hc.set hj hval
end Go.Proofs.YtanbgdhmfjgihaaGreatDoor

/- Words and digits. No Go stands here. -/
namespace Go.Proofs.YtanbgdhmfjgihaaGreatDoor

theorem base_pow (j : Nat) : BASE ^ j = 10 ^ (9 * j) := by
  rw [Nat.pow_mul]; rfl
theorem base_pos (j : Nat) : 0 < BASE ^ j := Nat.pow_pos (by decide)

theorem limb_N (f : Nat → Nat) (hf : Words f) (j : Nat) : ∀ n, j < n → n ≤ 16 → vN n f / BASE ^ j % BASE = f j := by
  intro n
  induction n with
  | zero => intro h; omega
  | succ n ih =>
    intro h hn
    by_cases e : j = n
    · subst e
      have := vN_lt f hf j (by omega)
      simp only [vN]
      rw [Nat.add_mul_div_right _ _ (base_pos j), Nat.div_eq_of_lt this, Nat.zero_add, Nat.mod_eq_of_lt (hf j (by omega))]
    · have hlt : j < n := by omega
      rw [← ih hlt (by omega)]
      simp only [vN]
      obtain ⟨d, rfl⟩ : ∃ d, n = j + 1 + d := ⟨n - (j + 1), by omega⟩
      have e : f (j + 1 + d) * BASE ^ (j + 1 + d) = (f (j + 1 + d) * BASE ^ d * BASE) * BASE ^ j := by
        rw [Nat.pow_add, Nat.pow_succ]
        generalize BASE ^ d = x
        generalize BASE ^ j = y
        ac_rfl
      rw [e, Nat.add_mul_div_right _ _ (base_pos j), Nat.add_mul_mod_self_right]

theorem limb_val (f : Nat → Nat) (hf : Words f) (j : Nat) (hj : j < 16) : f j = wval f / BASE ^ j % BASE := (limb_N f hf j 16 hj (Nat.le_refl _)).symm

theorem vN_updv (f : Nat → Nat) (j v : Nat) : ∀ n, j < n → vN n (upd f j v) + f j * BASE ^ j = vN n f + v * BASE ^ j := by
  intro n
  induction n with
  | zero => intro h; omega
  | succ n ih =>
    intro h
    by_cases e : j = n
    · subst e
      simp only [vN, upd_same, vN_upd _ _ _ _ (Nat.le_refl _)]; omega
    · have := ih (by omega)
      simp only [vN, upd_other f v (show n ≠ j by omega)]; omega
theorem wval_upd (f : Nat → Nat) (j v : Nat) (hj : j < 16) : wval (upd f j v) + f j * BASE ^ j = wval f + v * BASE ^ j := vN_updv f j v 16 hj

/-- A place with nothing but noughts at it and below has room for a digit. -/
theorem room (f : Nat → Nat) (hf : Words f) (M p : Nat) (hp : p < 144) (h : wval f = M * 10 ^ (p + 1)) : f (p / 9) + 9 * 10 ^ (p % 9) < BASE := by
  rw [limb_val f hf (p / 9) (by omega), base_pow, h]
  have e : 10 ^ (p + 1) = 10 ^ (p % 9 + 1) * 10 ^ (9 * (p / 9)) := by rw [← Nat.pow_add]; congr 1; omega
  rw [e, ← Nat.mul_assoc, Nat.mul_div_cancel _ (Nat.pow_pos (by omega))]
  obtain ⟨r, hr⟩ : ∃ r, r = p % 9 := ⟨_, rfl⟩
  rw [← hr]
  have hr9 : r ≤ 8 := by omega
  have eb : BASE = 10 ^ (r + 1) * 10 ^ (8 - r) := by rw [← Nat.pow_add, show r + 1 + (8 - r) = 9 by omega]; rfl
  rw [Nat.mul_comm M, eb, Nat.mul_mod_mul_left]
  have h1 : M % 10 ^ (8 - r) < 10 ^ (8 - r) := Nat.mod_lt _ (Nat.pow_pos (by omega))
  have h2 : 10 ^ (r + 1) * (M % 10 ^ (8 - r) + 1) ≤ 10 ^ (r + 1) * 10 ^ (8 - r) := Nat.mul_le_mul_left _ h1
  rw [Nat.mul_add, Nat.mul_one, Nat.pow_succ] at h2
  have h3 : 0 < 10 ^ r := Nat.pow_pos (by omega)
  rw [Nat.pow_succ]
  omega

/-- A digit laid at a place adds its worth. -/
theorem put_val (f : Nat → Nat) (p d : Nat) (hp : p < 144) : wval (upd f (p / 9) (f (p / 9) + d * 10 ^ (p % 9))) = wval f + d * 10 ^ p := by
  have := wval_upd f (p / 9) (f (p / 9) + d * 10 ^ (p % 9)) (by omega)
  have e : d * 10 ^ (p % 9) * BASE ^ (p / 9) = d * 10 ^ p := by
    rw [base_pow, Nat.mul_assoc, ← Nat.pow_add]; congr 2; omega
  rw [Nat.add_mul, e] at this
  omega

end Go.Proofs.YtanbgdhmfjgihaaGreatDoor
