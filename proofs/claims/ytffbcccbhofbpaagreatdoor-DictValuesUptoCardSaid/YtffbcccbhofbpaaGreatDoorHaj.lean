/- Texts of one kind, one behind the other: each says ahead of itself what it shows. -/
import Derived.Test.YtffbcccbhofbpaaGreatDoorHaf
import Derived.Deep.LoopGhost
import Derived.WalkMore
import Derived.Test.YtffbcccbhofbpaaGreatDoorHai
import Derived.Lib.ItoaMem
import Derived.Deep.RegionHeld3
import Derived.StillTailTactics
import Derived.Test.YtffbcccbhofbpaaGreatDoorHag
import Derived.WalkKit
import Derived.OwnWalk
import Derived.Maps.AppendAt
import Derived.Lib.AppendStr
/- The product of two rows of words, whose words outside 3 .. 10 are noughts. No Go stands here. -/
namespace Go.Proofs.YtffbcccbhofbpaaGreatDoor

/-- Only the words from 3 to 10 may be other than 0. -/
def Mid (f : Nat → Nat) : Prop := ∀ j, j < 3 ∨ 11 ≤ j → j < 16 → f j = 0

theorem vN_low (f : Nat → Nat) (h : Mid f) : vN 3 f = 0 := by
  simp only [vN, h 0 (by omega) (by omega), h 1 (by omega) (by omega), h 2 (by omega) (by omega)]
  simp
theorem vN_mid (f : Nat → Nat) (h : Mid f) : vN 11 f = wval f := by
  have := vN_above f (fun _ => 0) 11 16 (by omega) (fun j a b => h j (by omega) b)
  have e : ∀ n, vN n (fun _ => 0) = 0 := by intro n; induction n with
    | zero => rfl
    | succ n ih => simp [vN, ih]
  rw [e, e] at this
  unfold wval; omega

/-- The outer loop: the words below i of f have been multiplied. -/
structure TimesI (f g p : Nat → Nat) (i : Nat) : Prop where
  val : wval p * BASE ^ 6 = vN i f * wval g
  words : Words p
  high : ∀ j, i + 5 ≤ j → j < 16 → p j = 0
/-- The inner loop: word i of f has been multiplied with the words below j of g. -/
structure TimesJ (f g p : Nat → Nat) (i j cr : Nat) : Prop where
  val : wval p * BASE ^ 6 + cr * BASE ^ (i + j) = vN i f * wval g + f i * BASE ^ i * vN j g
  words : Words p
  high : ∀ k, i + 5 ≤ k → k < 16 → p k = 0
  carry : cr < BASE

theorem wval_zero : wval (fun _ => 0) = 0 := by
  have e : ∀ n, vN n (fun _ => 0) = 0 := by intro n; induction n with
    | zero => rfl
    | succ n ih => simp [vN, ih]
  exact e 16
theorem TimesI.zero {f g : Nat → Nat} (hf : Mid f) : TimesI f g (fun _ => 0) 3 :=
  ⟨by rw [vN_low f hf, wval_zero, Nat.zero_mul, Nat.zero_mul], fun _ _ => by decide, fun _ _ _ => rfl⟩
theorem TimesI.inner {f g p : Nat → Nat} {i : Nat} (H : TimesI f g p i) (hg : Mid g) : TimesJ f g p i 3 0 :=
  ⟨by rw [vN_low g hg, H.val, Nat.zero_mul, Nat.mul_zero], H.words, H.high, by decide⟩
theorem base_is : BASE = 1000000000 := rfl
theorem sum_lt {x y p c : Nat} (hx : x < BASE) (hy : y < BASE) (hp : p < BASE) (hc : c < BASE) : x * y + p + c < BASE * BASE := by
  rw [base_is] at *
  have h1 : x * y ≤ 999999999 * 999999999 := Nat.mul_le_mul (by omega) (by omega)
  omega
theorem TimesJ.step {f g p : Nat → Nat} {i j cr : Nat} (H : TimesJ f g p i j cr) (hf : Words f) (hg : Words g) (hi : i < 11) (hj : j < 11) (hi3 : 3 ≤ i) (hj3 : 3 ≤ j) :
    TimesJ f g (upd p (i + j - 6) ((f i * g j + p (i + j - 6) + cr) % BASE)) i (j + 1) ((f i * g j + p (i + j - 6) + cr) / BASE) := by
  have hs := sum_lt (hf i (by omega)) (hg j (by omega)) (H.words (i + j - 6) (by omega)) H.carry
  refine ⟨?_, H.words.upd (Nat.mod_lt _ (by decide)), ?_, by rw [Nat.div_lt_iff_lt_mul (by decide)]; exact hs⟩
  · have hu := wval_upd p (i + j - 6) ((f i * g j + p (i + j - 6) + cr) % BASE) (by omega)
    have hv := H.val
    have hd := Nat.div_add_mod (f i * g j + p (i + j - 6) + cr) BASE
    have e6 : BASE ^ (i + j) = BASE ^ (i + j - 6) * BASE ^ 6 := by rw [← Nat.pow_add]; congr 1; omega
    have e1 : BASE ^ (i + (j + 1)) = BASE * BASE ^ (i + j) := by rw [← Nat.add_assoc, Nat.pow_succ, Nat.mul_comm]
    have ej : BASE ^ i * BASE ^ j = BASE ^ (i + j) := by rw [← Nat.pow_add]
    generalize p (i + j - 6) = pa at *
    generalize (f i * g j + pa + cr) / BASE = q at *
    generalize (f i * g j + pa + cr) % BASE = r at *
    generalize wval (upd p (i + j - 6) r) = W' at *
    generalize wval p = W at *
    have hu6 : W' * BASE ^ 6 + pa * BASE ^ (i + j) = W * BASE ^ 6 + r * BASE ^ (i + j) := by
      rw [e6, ← Nat.mul_assoc, ← Nat.mul_assoc, ← Nat.add_mul, ← Nat.add_mul, hu]
    have hd6 : (BASE * q + r) * BASE ^ (i + j) = (f i * g j + pa + cr) * BASE ^ (i + j) := by rw [hd]
    have hq : q * BASE ^ (i + (j + 1)) = BASE * q * BASE ^ (i + j) := by rw [e1]; ac_rfl
    have hfg : f i * BASE ^ i * (g j * BASE ^ j) = f i * g j * BASE ^ (i + j) := by rw [← ej]; ac_rfl
    rw [hq]
    simp only [vN, Nat.mul_add, hfg]
    simp only [Nat.add_mul] at hd6
    omega
  · intro k hk hk2
    rw [upd_other _ _ (by omega)]
    exact H.high k hk hk2
theorem TimesJ.outer {f g p : Nat → Nat} {i cr : Nat} (H : TimesJ f g p i 11 cr) (hg : Mid g) (hi : i < 11) : TimesI f g (upd p (i + 5) cr) (i + 1) := by
  refine ⟨?_, H.words.upd H.carry, ?_⟩
  · have hu := wval_upd p (i + 5) cr (by omega)
    rw [H.high (i + 5) (by omega) (by omega), Nat.zero_mul, Nat.add_zero] at hu
    have hv := H.val
    rw [vN_mid g hg] at hv
    have e6 : BASE ^ (i + 11) = BASE ^ (i + 5) * BASE ^ 6 := by rw [← Nat.pow_add]
    rw [hu, Nat.add_mul, Nat.mul_assoc, ← e6, hv]
    simp only [vN, Nat.add_mul]
  · intro k hk hk2
    rw [upd_other _ _ (by omega)]
    exact H.high k (by omega) hk2
theorem TimesI.done {f g p : Nat → Nat} (H : TimesI f g p 11) (hf : Mid f) : wval p * 10 ^ 54 = wval f * wval g := by
  have := H.val
  rw [vN_mid f hf, base_pow] at this
  exact this

/-- An amount that has twenty digits behind the point and forty ahead lies in the middle. -/
theorem mid_of (f : Nat → Nat) (hf : Words f) (h1 : wval f < 10 ^ 94) (h2 : wval f % 10 ^ 34 = 0) : Mid f := by
  intro j hj hj2
  rw [limb_val f hf j hj2, base_pow]
  rcases hj with hj | hj
  · have e : wval f = wval f / 10 ^ 34 * 10 ^ 34 := by
      have := Nat.div_add_mod (wval f) (10 ^ 34)
      rw [h2, Nat.add_zero, Nat.mul_comm] at this
      exact this.symm
    have e2 : (10 : Nat) ^ 34 = 10 ^ (34 - 9 * j - 9) * BASE * 10 ^ (9 * j) := by
      have : BASE = 10 ^ 9 := rfl
      rw [this, ← Nat.pow_add, ← Nat.pow_add]; congr 1; omega
    rw [e, e2, ← Nat.mul_assoc, ← Nat.mul_assoc, Nat.mul_div_cancel _ (Nat.pow_pos (by omega)), Nat.mul_mod_left]
  · have : 10 ^ 94 ≤ 10 ^ (9 * j) := Nat.pow_le_pow_right (by omega) (by omega)
    rw [Nat.div_eq_of_lt (by omega), Nat.zero_mod]

end Go.Proofs.YtffbcccbhofbpaaGreatDoor

/- times. -/
namespace Go.Proofs.YtffbcccbhofbpaaGreatDoor
open Go.RowKit

/-- What times leaves. -/
def ProdPost (sg : Bool) (f g : Nat → Nat) (w : World) (e : Ending) (w' : World) : Prop := ∃ c' h, e = .returned (.agg c') ∧ IsNum c' sg h ∧ wval h * 10 ^ 54 = wval f * wval g ∧ Below w.heap.size w w'

end Go.Proofs.YtffbcccbhofbpaaGreatDoor

/- Mul, Neg, OfInt. -/
namespace Go.Proofs.YtffbcccbhofbpaaGreatDoor
open Go.RowKit

/-- The table of powers of ten is as the library's text lays it. -/
def Tab (w : World) : Prop := Lib.TabIs Tryz.prog w "internal/strconv.uint64pow10" .u64 Lib.pow10Tab

theorem var_below {P : Program} {w w' : World} {name : String} {cs : Array Value} (h : w.var? P name = some cs) (k : Below w.heap.size w w') : w'.var? P name = some cs := by
  unfold World.var? at *
  cases hg : P.globalNamed name with
  | none => rw [hg] at h; cases h
  | some g =>
    rw [hg] at h
    simp only [Option.bind_some] at h ⊢
    have hlt : g < w.heap.size := by
      by_cases e : g < w.heap.size
      · exact e
      · rw [Array.getElem?_eq_none (by omega)] at h; cases h
    rw [k.block g hlt]; exact h
theorem Tab.below {w w' : World} (h : Tab w) (k : Below w.heap.size w w') : Tab w' := by
  exact var_below h k

end Go.Proofs.YtffbcccbhofbpaaGreatDoor

/- A whole number's text is a decimal, and says that number. No Go stands here. -/
namespace Go.Proofs.YtffbcccbhofbpaaGreatDoor
open Go.RowKit

theorem trimL_none {l : List UInt8} (h : ∀ c r, l = c :: r → c ≠ 48) : Lib.trimLeftB l 48 = l := by
  cases l with
  | nil => rfl
  | cons c r =>
    unfold Lib.trimLeftB
    rw [List.dropWhile_cons, if_neg (by simpa using h c r rfl)]
theorem dec_all (u : Nat) : (Lib.decDigits u).all isDig = true ∧ valD (Lib.decDigits u) = u ∧ Lib.decDigits u ≠ [] ∧ (1 ≤ u → (Lib.decDigits u).headD 0 ≠ 48) := by
  induction u using Nat.strongRecOn with
  | _ u ih =>
    have hb : ∀ k, k < 10 → (UInt8.ofNat (48 + k)).toNat = 48 + k := fun k hk => by rw [UInt8.toNat_ofNat']; omega
    have hd : ∀ k, k < 10 → isDig (UInt8.ofNat (48 + k)) = true := fun k hk => by rw [isDig_iff, hb k hk]; omega
    rw [Lib.decDigits]
    by_cases h : u < 10
    · rw [dif_pos h]
      refine ⟨by rw [List.all_cons, hd u h]; rfl, by (show ((UInt8.ofNat (48 + u)).toNat - 48) * 10 ^ 0 + 0 = u; rw [hb u h]; omega), by simp, fun h1 e => ?_⟩
      have := hb u h
      have e2 : UInt8.ofNat (48 + u) = 48 := e
      rw [e2] at this
      have h48 : (48 : UInt8).toNat = 48 := rfl
      omega
    · rw [dif_neg h]
      obtain ⟨a1, a2, a3, a4⟩ := ih (u / 10) (by omega)
      have hm : u % 10 < 10 := Nat.mod_lt _ (by decide)
      refine ⟨by rw [List.all_append, a1, List.all_cons, hd _ hm]; rfl, ?_, by simp, fun _ => ?_⟩
      · rw [valD_append, a2]
        simp [valD, hb _ hm]; omega
      · have := a4 (by omega)
        cases hl : Lib.decDigits (u / 10) with
        | nil => exact absurd hl a3
        | cons c r => rw [hl] at this; exact this
theorem dec_len (u : Nat) (h : u ≤ 9223372036854775808) : (Lib.decDigits u).length ≤ 19 := by
  obtain ⟨a1, a2, a3, a4⟩ := dec_all u
  by_cases h0 : u = 0
  · rw [h0, Lib.decDigits]; simp
  · have a5 := a4 (by omega)
    cases hl : Lib.decDigits u with
    | nil => exact absurd hl a3
    | cons c r =>
      rw [hl] at a1 a2 a5
      rw [List.all_cons, Bool.and_eq_true] at a1
      have hc := dig_le a1.1
      have hc0 : c.toNat ≠ 48 := fun e => a5 (UInt8.toNat_inj.1 e)
      rcases Nat.lt_or_ge r.length 19 with k | k
      · simp; omega
      · exfalso
        have h3 : 10 ^ 19 ≤ 10 ^ r.length := Nat.pow_le_pow_right (by decide) k
        have h4 : 1 * 10 ^ r.length ≤ (c.toNat - 48) * 10 ^ r.length := Nat.mul_le_mul_right _ (by omega)
        have h5 : (c.toNat - 48) * 10 ^ r.length + valD r = u := a2
        omega
theorem whole_text (neg : Bool) (u : Nat) (hu : neg = true → 1 ≤ u) (hl : (Lib.decDigits u).length ≤ 40) : chk ((if neg then [45] else []) ++ Lib.decDigits u ++ [46, 48]) = true := by
  obtain ⟨a1, a2, a3, a4⟩ := dec_all u
  have hw : wr neg (Lib.decDigits u) [48] = some ((if neg then [45] else []) ++ Lib.decDigits u ++ [46, 48]) := by
    unfold wr
    have t2 : Lib.trimRightB [48] 48 = [] := by decide
    by_cases h0 : u = 0
    · have e : Lib.decDigits u = [48] := by rw [h0, Lib.decDigits]; rfl
      have hn : neg = false := by
        cases neg with
        | false => rfl
        | true => exact absurd (hu rfl) (by omega)
      rw [e, hn]
      decide
    · have t1 : Lib.trimLeftB (Lib.decDigits u) 48 = Lib.decDigits u := trimL_none fun c r e => by
        have := a4 (by omega)
        rw [e] at this; exact this
      simp only [t1, t2, List.append_nil]
      rw [if_neg (by simp; omega)]
      have e2 : (Lib.decDigits u).isEmpty = false := by
        cases hx : Lib.decDigits u with
        | nil => exact absurd hx a3
        | cons c r => rfl
      have e3 : orN (Lib.decDigits u) = Lib.decDigits u := by unfold orN; rw [e2]; rfl
      rw [e2, e3]
      cases neg <;> simp [orN]
  unfold chk readP
  have hs := splitP_canon neg (Lib.decDigits u) [48] a1 a3 (by decide) (by decide)
  have e4 : (if neg then [45] else []) ++ Lib.decDigits u ++ [46, 48] = (if neg then [45] else []) ++ (Lib.decDigits u ++ 46 :: [48]) := by simp
  rw [e4] at hw ⊢
  rw [hs]
  simp only [Option.map_some]
  rw [hw]
  simp


theorem bs_size (l : List UInt8) : (bs l).size = l.length := by simp [ByteArray.size]
theorem bs_app (x y : List UInt8) : (bs x ++ bs y : ByteArray).data.toList = x ++ y := by
  rw [ByteArray.data_append, Array.toList_append]
theorem whole_val (neg : Bool) (u : Nat) : dval ((if neg then [45] else []) ++ Lib.decDigits u ++ [46, 48]) = (if neg then -(u : Int) else u) * 10 ^ 54 := by
  obtain ⟨a1, a2, a3, a4⟩ := dec_all u
  have hs := splitP_canon neg (Lib.decDigits u) [48] a1 a3 (by decide) (by decide)
  have hl : (if neg then [45] else []) ++ Lib.decDigits u ++ [46, 48] = (if neg then [45] else []) ++ (Lib.decDigits u ++ 46 :: [48]) := by simp
  rw [hl]
  unfold dval dsign damt
  rw [hs]
  show sv neg (num54 (Lib.decDigits u) [48]) = _
  have hn : num54 (Lib.decDigits u) [48] = u * 10 ^ 54 := by
    unfold num54
    rw [a2, show valD [48] = 0 from rfl, Nat.zero_mul, Nat.add_zero]
  rw [hn]
  unfold sv
  cases neg
  · simp
  · simp [Int.neg_mul]
/-- The text of a whole number. -/
def intT (n : Int) : ByteArray := bs (Lib.itoa n) ++ ⟨#[46, 48]⟩
theorem intT_facts (n : Int) (h0 : -9223372036854775808 ≤ n) (h1 : n ≤ 9223372036854775807) : chk (intT n).data.toList = true ∧ dval (intT n).data.toList = n * 10 ^ 54 ∧ (intT n).size ≤ 100 ∧ (bs (Lib.itoa n)).size ≤ 20 := by
  have key : ∀ (neg : Bool) (u : Nat), (if neg then -(u : Int) else u) = n → (neg = true → 1 ≤ u) → Lib.itoa n = (if neg then [45] else []) ++ Lib.decDigits u → u ≤ 9223372036854775808 →
      chk (intT n).data.toList = true ∧ dval (intT n).data.toList = n * 10 ^ 54 ∧ (intT n).size ≤ 100 ∧ (bs (Lib.itoa n)).size ≤ 20 := by
    intro neg u hn hu hit hub
    have hlen := dec_len u hub
    have hT : (intT n).data.toList = (if neg then [45] else []) ++ Lib.decDigits u ++ [46, 48] := by
      unfold intT
      rw [ByteArray.data_append, Array.toList_append, hit]
    have hsz : (bs (Lib.itoa n)).size ≤ 20 := by
      rw [bs_size, hit, List.length_append]
      cases neg <;> simp <;> omega
    refine ⟨by rw [hT]; exact whole_text neg u hu (by omega), by rw [hT, whole_val, hn], ?_, hsz⟩
    have h5 : (intT n).data.toList.length = (intT n).size := Array.length_toList
    rw [← h5, hT]
    simp only [List.length_append, List.length_cons, List.length_nil]
    split <;> simp <;> omega
  by_cases hneg : n < 0
  · obtain ⟨u, hu⟩ : ∃ u : Nat, n = -(u : Int) := ⟨n.natAbs, by omega⟩
    have hit : Lib.itoa n = 45 :: Lib.decDigits u := by rw [hu]; exact Lib.itoa_neg u (by omega)
    exact key true u hu.symm (fun _ => by omega) hit (by omega)
  · obtain ⟨u, rfl⟩ := Int.eq_ofNat_of_zero_le (Int.not_lt.1 hneg)
    exact key false u rfl (fun h => by cases h) (Lib.itoa_nonneg u) (by omega)
end Go.Proofs.YtffbcccbhofbpaaGreatDoor

/- Whether two values are the same: the program's answer. -/
namespace Go.Proofs.YtffbcccbhofbpaaGreatDoor
open Go.RowKit

mutual
/-- Whether two values are the same. -/
def sameP : Val → Val → Bool
  | .mk k b n t x l, .mk k2 b2 n2 t2 x2 l2 => (k == k2) && ((b == b2) && ((n == n2) && ((t.toList == t2.toList) && ((x.toList == x2.toList) && ((l.length == l2.length) && eachSame l l2)))))
def eachSame : List Val → List Val → Bool
  | v :: r, v2 :: r2 => sameP v v2 && eachSame r r2
  | _, _ => true
end
theorem eachSame_no : (l l2 : List Val) → ∀ (i : Nat) (h : i < l.length) (h2 : i < l2.length), sameP l[i] l2[i] = false → eachSame l l2 = false
  | [], _, i, h, _, _ => absurd h (by simp)
  | _ :: _, [], i, _, h2, _ => absurd h2 (by simp)
  | v :: r, v2 :: r2, i, h, h2, e => by
    unfold eachSame
    match i, h, h2 with
    | 0, _, _ => rw [show sameP v v2 = false from e]; rfl
    | i + 1, h, h2 => rw [eachSame_no r r2 i (by simpa using h) (by simpa using h2) e, Bool.and_false]
theorem eachSame_yes : (l l2 : List Val) → (∀ (i : Nat) (h : i < l.length) (h2 : i < l2.length), sameP l[i] l2[i] = true) → eachSame l l2 = true
  | [], _, _ => by unfold eachSame; rfl
  | _ :: _, [], _ => by unfold eachSame; rfl
  | v :: r, v2 :: r2, h => by
    unfold eachSame
    rw [show sameP v v2 = true from h 0 (by simp) (by simp), Bool.true_and]
    exact eachSame_yes r r2 fun i h1 h2 => h (i + 1) (by simpa using h1) (by simpa using h2)

/-- A value's cells, and where its list lies. -/
structure Opens (w : World) (g off : Nat) (v : Val) (k : Int) (b : Bool) (n : Int) (t x : ByteArray) (q : List Val) (p : Option Addr) (cap : Nat) : Prop where
  e : v = .mk k b n t x q
  c0 : w.cell? ⟨g, off, none⟩ = some (.int .i64 k)
  c1 : w.cell? ⟨g, off + 1, none⟩ = some (.bool b)
  c2 : w.cell? ⟨g, off + 2, none⟩ = some (.int .i64 n)
  c3 : w.cell? ⟨g, off + 3, none⟩ = some (.string t)
  c4 : w.cell? ⟨g, off + 4, none⟩ = some (.string x)
  c5 : w.cell? ⟨g, off + 5, none⟩ = some (.slice p q.length cap)
  hf : Fine n t x q.length
  hl : Held w (.slice p q.length cap) q
theorem HoldsOne.opens {w : World} {g off : Nat} : {v : Val} → HoldsOne w g off v → ∃ k b n t x q p cap, Opens w g off v k b n t x q p cap
  | .mk k b n t x q, h => by
    unfold HoldsOne at h
    obtain ⟨h0, h1, h2, h3, h4, hf, L, h5, hl⟩ := h
    obtain ⟨p, cap, rfl⟩ := held_slice hl
    exact ⟨k, b, n, t, x, q, p, cap, rfl, h0, h1, h2, h3, h4, h5, hf, hl⟩
theorem Held.form {w : World} {p : Option Addr} {cap n : Nat} {v : Val} {r : List Val} (h : Held w (.slice p n cap) (v :: r)) : ∃ g off, p = some ⟨g, off, none⟩ ∧ Holds w g off (v :: r) := by
  unfold Held at h
  obtain ⟨g, off, cap', e, hv, hr⟩ := h
  cases e
  refine ⟨g, off, rfl, ?_⟩
  unfold Holds
  exact ⟨hv, hr⟩

end Go.Proofs.YtffbcccbhofbpaaGreatDoor

/- Same, for values in one another. -/
namespace Go.Proofs.YtffbcccbhofbpaaGreatDoor
open Go.RowKit

end Go.Proofs.YtffbcccbhofbpaaGreatDoor

/- A number as a decimal; two numbers held against each other. -/
namespace Go.Proofs.YtffbcccbhofbpaaGreatDoor
open Go.RowKit

/-- What a number says, scaled by 10 ^ 54. -/
def numV (k n : Int) (t : ByteArray) : Int := if k = 2 then n * 10 ^ 54 else if chk t.data.toList then dval t.data.toList else 0
/-- A decimal text that says z. -/
def Says (z : Int) (s : ByteArray) : Prop := chk s.data.toList = true ∧ dval s.data.toList = z ∧ s.size < 4294967281

end Go.Proofs.YtffbcccbhofbpaaGreatDoor

/- Two numbers held against each other. -/
namespace Go.Proofs.YtffbcccbhofbpaaGreatDoor
open Go.RowKit

theorem cmpZ_scale (a b : Int) : cmpZ (a * 10 ^ 54) (b * 10 ^ 54) = cmpZ a b := by
  obtain ⟨P, hP⟩ : ∃ P : Int, P = 10 ^ 54 := ⟨_, rfl⟩
  have hp : 0 < P := by rw [hP]; decide
  rw [← hP]
  clear hP
  unfold cmpZ
  by_cases h : a < b
  · rw [if_pos h, if_pos (Int.mul_lt_mul_of_pos_right h hp)]
  · rw [if_neg h, if_neg (fun h2 => h (Int.lt_of_mul_lt_mul_right h2 (Int.le_of_lt hp)))]
    by_cases h3 : b < a
    · rw [if_pos h3, if_pos (Int.mul_lt_mul_of_pos_right h3 hp)]
    · rw [if_neg h3, if_neg (fun h2 => h3 (Int.lt_of_mul_lt_mul_right h2 (Int.le_of_lt hp)))]

end Go.Proofs.YtffbcccbhofbpaaGreatDoor

/- Two numbers held against each other: compareNumbers. -/
namespace Go.Proofs.YtffbcccbhofbpaaGreatDoor
open Go.RowKit

theorem Six.range {w : World} {g : Nat} {k : Int} {b : Bool} {n : Int} {t x : ByteArray} {p : Option Addr} {len cap : Nat} (h : Six w g k b n t x p len cap) : w.rangeAt g 0 [.int .i64 k, .bool b, .int .i64 n, .string t, .string x, .slice p len cap] := by
  have := range6 (g := g) (off := 0) h.c0 h.c1 h.c2 h.c3 h.c4 h.c5
  exact this
theorem yields6 {ops : Array Oper} {S : World → Prop} {op : Oper} {a : Act} {k : Int} {b : Bool} {n : Int} {t x : ByteArray} {p : Option Addr} {len cap : Nat} (hw : Region.wanted op (yielded ops a.tmps) = true) (y : Operand) (ho : op.op = .load 31 y) (g : Nat) (hx : a.eval y = .pointer (some ⟨g, 0, none⟩))
    (hS : ∀ w, S w → Six w g k b n t x p len cap) : YieldsIf Tryz.prog ops S op (.agg #[.int .i64 k, .bool b, .int .i64 n, .string t, .string x, .slice p len cap]) a :=
  yieldsIf_load_mid hw 31 y ho g 0 hx [.int .i64 k, .bool b, .int .i64 n, .string t, .string x, .slice p len cap] _ (fun w h => (hS w h).range) Tryz.underlying31 rfl info28

end Go.Proofs.YtffbcccbhofbpaaGreatDoor

/- A literal that may say the same as another value: isOpen. -/
namespace Go.Proofs.YtffbcccbhofbpaaGreatDoor
open Go.RowKit

def numB (k : Int) : Bool := k == 2 || k == 3
/-- Whether the first is a literal that may say the same as the second, though it isn't the same. -/
def openP (k k2 : Int) (same : Bool) : Bool := (k == 10) && (!same && (k2 == 10 || (k2 == 4 || (k2 == 1 || numB k2))))
end Go.Proofs.YtffbcccbhofbpaaGreatDoor

/- Whether two values are equal: what is asked; lists, one by one. -/
namespace Go.Proofs.YtffbcccbhofbpaaGreatDoor
open Go.RowKit

theorem Opens.below {w w' : World} {g off : Nat} {v : Val} {k : Int} {b : Bool} {n : Int} {t x : ByteArray} {q : List Val} {p : Option Addr} {cap : Nat} (o : Opens w g off v k b n t x q p cap) (h : Below w.heap.size w w') : Opens w' g off v k b n t x q p cap := by
  have hg := World.block_lt_of_cell? w _ o.c0
  exact ⟨o.e, (h.cell (p := ⟨g, off, none⟩) hg).trans o.c0, (h.cell (p := ⟨g, off + 1, none⟩) hg).trans o.c1, (h.cell (p := ⟨g, off + 2, none⟩) hg).trans o.c2, (h.cell (p := ⟨g, off + 3, none⟩) hg).trans o.c3,
    (h.cell (p := ⟨g, off + 4, none⟩) hg).trans o.c4, (h.cell (p := ⟨g, off + 5, none⟩) hg).trans o.c5, o.hf, Held.below q o.hl h⟩
theorem Opens.range {w : World} {g off : Nat} {v : Val} {k : Int} {b : Bool} {n : Int} {t x : ByteArray} {q : List Val} {p : Option Addr} {cap : Nat} (o : Opens w g off v k b n t x q p cap) : w.rangeAt g off [.int .i64 k, .bool b, .int .i64 n, .string t, .string x, .slice p q.length cap] :=
  range6 o.c0 o.c1 o.c2 o.c3 o.c4 o.c5
def tI (b : Bool) : Int := if b then 1 else 0
theorem truthT (b : Bool) (w : World) : Calls Tryz.prog 48 #[.bool b] w fun e w' => e = .returned (.int .i64 (tI b)) ∧ w' = w :=
  (truthOfAt b w).mono fun e w' ⟨h, h2⟩ => ⟨h, h2.symm⟩
def andE (a b : Int) : Int := if a = 0 ∨ b = 0 then 0 else if a = 2 ∨ b = 2 then 2 else 1
def graphB (k : Int) : Bool := k == 5 || k == 6 || k == 7
mutual
/-- The truth value of two values being equal. -/
def equalP (lang : Int) : Val → Val → Int
  | .mk k b n t x l, .mk k2 b2 n2 t2 x2 l2 =>
    if k = 0 ∨ k2 = 0 then 2
    else if numB k = true ∧ numB k2 = true then tI (cmpZ (numV k n t) (numV k2 n2 t2) == 0)
    else if lang = 1 ∧ (graphB k || (graphB k2 || (openP k k2 (sameP (.mk k b n t x l) (.mk k2 b2 n2 t2 x2 l2)) || openP k2 k (sameP (.mk k2 b2 n2 t2 x2 l2) (.mk k b n t x l))))) = true then 2
    else if k = 5 ∧ k2 = 5 then (if l.length = l2.length then eachEqual lang l l2 else 0)
    else tI (sameP (.mk k b n t x l) (.mk k2 b2 n2 t2 x2 l2))
def eachEqual (lang : Int) : List Val → List Val → Int
  | v :: r, v2 :: r2 => andE (equalP lang v v2) (eachEqual lang r r2)
  | _, _ => 1
end
def E3 (a : Int) : Prop := a = 0 ∨ a = 1 ∨ a = 2
theorem e3_tI (b : Bool) : E3 (tI b) := by cases b <;> simp [tI, E3]
theorem e3_and (a b : Int) : E3 (andE a b) := by unfold andE; split <;> (try split) <;> simp [E3]
theorem e3_each (lang : Int) (l l2 : List Val) : E3 (eachEqual lang l l2) := by
  cases l with
  | nil => unfold eachEqual; exact .inr (.inl rfl)
  | cons v r =>
    cases l2 with
    | nil => unfold eachEqual; exact .inr (.inl rfl)
    | cons v2 r2 => unfold eachEqual; exact e3_and _ _
theorem e3_equal (lang : Int) (v v2 : Val) : E3 (equalP lang v v2) := by
  cases v with
  | mk k b n t x l =>
    cases v2 with
    | mk k2 b2 n2 t2 x2 l2 =>
      unfold equalP
      split
      · exact .inr (.inr rfl)
      · split
        · exact e3_tI _
        · split
          · exact .inr (.inr rfl)
          · split
            · split
              · exact e3_each _ _ _
              · exact .inl rfl
            · exact e3_tI _
theorem andE_assoc {a b c : Int} (h : E3 a) (g : E3 b) (k : E3 c) : andE (andE a b) c = andE a (andE b c) := by
  rcases h with rfl | rfl | rfl <;> rcases g with rfl | rfl | rfl <;> rcases k with rfl | rfl | rfl <;> decide
theorem andE_one {a : Int} (h : E3 a) : andE 1 a = a ∧ andE a 1 = a ∧ andE a 0 = 0 ∧ andE 0 a = 0 := by rcases h with rfl | rfl | rfl <;> decide
theorem each_drop (lang : Int) (l l2 : List Val) (j : Nat) (h : j < l.length) (h2 : j < l2.length) : eachEqual lang (l.drop j) (l2.drop j) = andE (equalP lang l[j] l2[j]) (eachEqual lang (l.drop (j + 1)) (l2.drop (j + 1))) := by
  rw [List.drop_eq_getElem_cons h, List.drop_eq_getElem_cons h2, eachEqual]
theorem each_end (lang : Int) (l l2 : List Val) (j : Nat) (h : l.length ≤ j) : eachEqual lang (l.drop j) (l2.drop j) = 1 := by
  rw [List.drop_eq_nil_of_le h]
  unfold eachEqual
  rfl

end Go.Proofs.YtffbcccbhofbpaaGreatDoor

/- How a text's length is encoded: four bytes behind what was there. -/
namespace Go.Proofs.YtffbcccbhofbpaaGreatDoor
open Go.RowKit

theorem info5b : (Tryz.prog.info? 5).map (fun i => (i.zero, i.size, i.bytes)) = some (some (.int .u8 0), 1, 1) := by kernel_rfl
/-- A row of bytes of one's own. -/
structure Own (base n : Nat) (v : Value) (w0 w : World) : Prop where
  row : ∃ xs, w.ownsRow base 5 1 v n xs
  lo : base ≤ w.heap.size
  bel : Below base w0 w

set_option maxRecDepth 20000 in
set_option maxHeartbeats 3200000 in
theorem encodeInt3 (base n : Nat) (v : Value) (w0 w : World) (h : Own base n v w0 w) (hn : n ≤ 1000) :
    Calls Tryz.prog 49 #[v, .int .u64 3, .int .i64 4] w fun e w' => ∃ v', e = .returned v' ∧ Own base (n + 4) v' w0 w' := by
  obtain ⟨i0, hi, hz0, hz1, hz2⟩ := info_parts info5b
  go_enter Tryz.func49, Tryz.ntmps49
  go_wp2_with fail
  go_loopg [0, 7] 4 (fun gg s0 s7 wr => ∃ j : Nat, j + gg = 4 ∧ s7 = .int .i64 (3 - (j : Int)) ∧ Own base (n + j) s0 w0 wr)
  case atStart => exact ⟨0, by omega, rfl, h⟩
  case round =>
    clear h
    obtain ⟨j, hj, rfl, O⟩ := hrel
    have hj4 : j = 0 ∨ j = 1 ∨ j = 2 ∨ j = 3 ∨ j = 4 := by omega
    obtain ⟨⟨xs, hown⟩, hlo, hbel⟩ := O
    rcases hj4 with rfl | rfl | rfl | rfl | rfl
    case inr.inr.inr.inr =>
      go_wp2_with fail
      go_ret
      exact ⟨_, rfl, ⟨xs, hown⟩, hlo, hbel⟩
    all_goals
      go_wp2_with (at_builtin; refine wpList_append_own _ rfl _ _ 57 rfl base 5 i0 (.int .u8 0) 1 1 Tryz.underlying57 hi hz0 hz1 hz2 rfl (by decide) _ _ _ rfl (hown.alloc _) ⟨wr.heap.size, 0, none⟩ 1 1 [_] rfl rfl (cell_one_new _ _ _) ?_ ?_ ?_ ?_ ?_)
      all_goals (try (first | rfl | (unfold maxLen; omega) | omega | (simp; omega) | (intro u hu; simp at hu; subst hu; rfl)))
      intro v' w1 hown' hgrow _
      have b1 : Below base w0 w1 := (hbel.alloc hlo _).grown hgrow (by simp; omega) (fun k hk => by have := (hown.lt k hk).1; omega)
      have l1 : base ≤ w1.heap.size := by have := hgrow.size; simp at this; omega
      clear hgrow
      go_wp2_with fail
      go_roundg (gk - 1)
      case measure => omega
      case rel => first | exact ⟨1, by omega, rfl, ⟨_, hown'⟩, l1, b1⟩ | exact ⟨2, by omega, rfl, ⟨_, hown'⟩, l1, b1⟩ | exact ⟨3, by omega, rfl, ⟨_, hown'⟩, l1, b1⟩ | exact ⟨4, by omega, rfl, ⟨_, hown'⟩, l1, b1⟩
end Go.Proofs.YtffbcccbhofbpaaGreatDoor

/- How the text 1.0 is encoded, and the decimal 1.0: eight bytes. -/
namespace Go.Proofs.YtffbcccbhofbpaaGreatDoor
open Go.RowKit

/-- The text 1.0. -/
def oneT : ByteArray := ⟨#[49, 46, 48]⟩
theorem Own.say {base n m : Nat} {v v' : Value} {w0 w w1 : World} {xs : List Value} (h : Own base n v w0 w) (hown : w1.ownsRow base 5 1 v' m xs) (hg : w.grownBy w1 v.ownBlock) : Own base m v' w0 w1 := by
  obtain ⟨⟨ys, hr⟩, hlo, hbel⟩ := h
  exact ⟨⟨xs, hown⟩, Nat.le_trans hlo hg.size, hbel.grown hg hlo (fun k hk => (hr.lt k hk).1)⟩

set_option maxRecDepth 20000 in
set_option maxHeartbeats 3200000 in
theorem encodeText1 (base n : Nat) (v : Value) (w0 w : World) (h : Own base n v w0 w) (hn : n ≤ 100) :
    Calls Tryz.prog 50 #[v, .string oneT] w fun e w' => ∃ v', e = .returned v' ∧ Own base (n + 7) v' w0 w' := by
  obtain ⟨i0, hi, hz0, hz1, hz2⟩ := info_parts info5b
  unfold oneT
  go_enter Tryz.func50, Tryz.ntmps50
  go_wp2_with (first
    | (go_at_call 49; (with_reducible refine (encodeInt3 base n v w0 w h (by omega)).mono ?_); rintro e w1 ⟨v1, rfl, O⟩; have O2 := O; obtain ⟨⟨xs, hown⟩, hlo, hbel⟩ := O2)
    | (at_builtin; refine Lib.wpList_append_own_string _ rfl _ _ 57 9 rfl base 5 i0 Tryz.underlying57 Tryz.underlying9 hi hz0 hz1 hz2 _ _ _ rfl hown _ rfl ?_ ?_ hlo ?_))
  all_goals (try (first | rfl | (show n + 4 + 3 ≤ maxLen; unfold maxLen; omega) | (show n + 4 + 3 ≤ 140737488355328; omega)))
  intro v' w2 hown' hgrow _
  have O2 := O.say hown' hgrow
  clear O hgrow
  go_wp2_with fail
  go_ret
  exact ⟨_, rfl, O2⟩
end Go.Proofs.YtffbcccbhofbpaaGreatDoor

/- How a number is encoded: so many bytes, the highest first. -/
namespace Go.Proofs.YtffbcccbhofbpaaGreatDoor
open Go.RowKit

set_option maxRecDepth 20000 in
set_option maxHeartbeats 3200000 in
theorem encodeIntAt (w0 w : World) (A : Value) (l : List UInt8) (n : Int) (k : Nat) (hk : k ≤ 8) (h0 : 0 ≤ n) (h1 : n < 18446744073709551616) (h : OwnB w0 A l w) (hl : l.length ≤ 1000000000) :
    Calls Tryz.prog 49 #[A, .int .u64 n, .int .i64 k] w fun e w' => ∃ A', e = .returned A' ∧ OwnB w0 A' (l ++ beB n k) w' ∧ Bx w w' := by
  obtain ⟨i0, hi, hz0, hz1, hz2⟩ := info_parts info5
  go_enter Tryz.func49, Tryz.ntmps49
  go_wp2_with fail
  go_loopg [0, 7] k (fun gg s0 s7 wr => ∃ L : List UInt8, s7 = .int .i64 ((gg : Int) - 1) ∧ OwnB w0 s0 L wr ∧ gg ≤ 8 ∧ L.length + gg ≤ 1000000008 ∧ Hid (L ++ beB n gg = l ++ beB n k) ∧ Hid (Bx w wr))
  case atStart => exact ⟨l, rfl, h, hk, by omega, Lib.hid rfl, Lib.hid (Bx.refl _)⟩
  case round =>
    clear h
    obtain ⟨L, rfl, O, hg, hL, HE, HB⟩ := hrel
    cases gk with
    | zero =>
      have HE2 := HE.out
      have e0 : L = l ++ beB n k := by simpa [beB] using HE2
      subst e0
      have HO := Lib.hid O
      clear O HE HE2
      go_wp2_with fail
      go_ret
      exact ⟨_, rfl, HO.out, HB.out⟩
    | succ i =>
      have hown := O.own
      have hlo := O.lo
      have e1 : ((i + 1 : Nat) : Int) - 1 = i := by omega
      rw [e1]
      go_wp2_with (at_builtin; refine wpList_append_own _ rfl _ _ 57 rfl w0.heap.size 5 i0 (.int .u8 0) 1 1 Tryz.underlying57 hi hz0 hz1 hz2 rfl (by decide) _ _ _ rfl (hown.alloc _) ⟨wr.heap.size, 0, none⟩ 1 1 [_] rfl rfl (cell_one_new _ _ _) ?_ ?_ ?_ ?_ ?_)
      all_goals (try (first | rfl | (unfold maxLen; omega) | omega | (simp; omega) | (intro u hu; simp at hu; subst hu; rfl)))
      intro v' w1 hown' hgrow _
      have O2 := (O.alloc _).say (l' := L ++ [byteOf n i]) hown' hgrow (by simp) (by rw [vals_append, vals_one _ (byteOf_int n i)])
      have HB2 := Lib.hid ((HB.out.trans (Bx.below (below1 _ _))).trans ((O.alloc _).bx hgrow))
      have HO := Lib.hid O2
      have HE2 : Hid ((L ++ [byteOf n i]) ++ beB n i = l ++ beB n k) := Lib.hid (by rw [← HE.out]; simp [beB])
      have hL2 : (L ++ [byteOf n i]).length + i ≤ 1000000008 := by simp; omega
      clear hown hown' hgrow O O2 HE hL HB
      go_wp2_with fail
      go_roundg i
      case measure => omega
      case rel => exact ⟨L ++ [byteOf n i], rfl, HO.out, by omega, hL2, HE2, HB2⟩

/-- A text, its length ahead. -/
theorem textLen (t : ByteArray) (ht : t.size ≤ 2097152) : (0 : Int) ≤ t.size ∧ (t.size : Int) < 18446744073709551616 := by omega
set_option maxRecDepth 20000 in
set_option maxHeartbeats 3200000 in
theorem encodeTextAt (w0 w : World) (A : Value) (l : List UInt8) (t : ByteArray) (ht : t.size ≤ 2097152) (h : OwnB w0 A l w) (hl : l.length ≤ 900000000) :
    Calls Tryz.prog 50 #[A, .string t] w fun e w' => ∃ A', e = .returned A' ∧ OwnB w0 A' (l ++ lenB t) w' ∧ Bx w w' := by
  obtain ⟨i0, hi, hz0, hz1, hz2⟩ := info_parts info5
  obtain ⟨n, hn⟩ : ∃ n, n = t.size := ⟨_, rfl⟩
  have hc : Calls Tryz.prog 49 #[A, .int .u64 t.size, .int .i64 4] w fun e w' => ∃ A', e = .returned A' ∧ OwnB w0 A' (l ++ beB t.size 4) w' ∧ Bx w w' := encodeIntAt w0 w A l (t.size : Int) 4 (by omega) (textLen t ht).1 (textLen t ht).2 h (by omega)
  have HC := Lib.hid hc
  clear h hc
  go_enter Tryz.func50, Tryz.ntmps50
  go_wp2_with (first
    | (go_at_call 49; (with_reducible refine HC.out.mono ?_); rintro e w1 ⟨v1, rfl, O, hbx⟩; have hown := O.own; have hlo := O.lo)
    | (at_builtin; refine Lib.wpList_append_own_string _ rfl _ _ 57 9 rfl w0.heap.size 5 i0 Tryz.underlying57 Tryz.underlying9 hi hz0 hz1 hz2 _ _ _ rfl hown t rfl ?_ ?_ hlo ?_))
  all_goals (try (first | rfl | (rw [List.length_append, beB_length]; unfold maxLen; omega) | (rw [List.length_append, beB_length]; omega)))
  intro v' w2 hown' hgrow _
  have O2 := O.say (l' := l ++ lenB t) hown' hgrow (by simp only [lenB, List.length_append, txtB_length]; omega) (by unfold lenB; rw [← List.append_assoc, vals_append (b := txtB t)]; rfl)
  have HB := Lib.hid (hbx.trans (O.bx hgrow))
  have HO := Lib.hid O2
  clear hown hown' hgrow O O2 hbx
  go_wp2_with fail
  go_ret
  exact ⟨_, rfl, HO.out, HB.out⟩
end Go.Proofs.YtffbcccbhofbpaaGreatDoor
