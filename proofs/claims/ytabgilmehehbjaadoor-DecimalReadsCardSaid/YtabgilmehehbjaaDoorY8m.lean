/- Whole numbers: what each side tells is the same. -/
import Derived.Test.YtabgilmehehbjaaDoorY7m
import Derived.Test.YtabgilmehehbjaaDoorT2m
namespace Go.Proofs.YtabgilmehehbjaaDoor
open Go.RowKit

theorem dec_all (u : Nat) : (Lib.decDigits u).all isDig = true ∧ valD (Lib.decDigits u) = u ∧ Lib.decDigits u ≠ [] ∧ (1 ≤ u → (Lib.decDigits u).headD 0 ≠ 48) := by
  induction u using Nat.strongRecOn with
  | _ u ih =>
    have hb : ∀ k, k < 10 → (UInt8.ofNat (48 + k)).toNat = 48 + k := fun k hk => by rw [UInt8.toNat_ofNat']; omega
    have hd : ∀ k, k < 10 → isDig (UInt8.ofNat (48 + k)) = true := fun k hk => by rw [isDig_iff, hb k hk]; omega
    rw [Lib.decDigits]
    by_cases h : u < 10
    · rw [dif_pos h]
      refine ⟨by rw [List.all_cons, hd u h]; rfl, by (show ((UInt8.ofNat (48 + u)).toNat - 48) * 10 ^ 0 + 0 = u; rw [hb u h]; omega), by simp, fun h1 e => ?_⟩
      have := hb u h
      have e2 : UInt8.ofNat (48 + u) = 48 := e
      rw [e2] at this
      have h48 : (48 : UInt8).toNat = 48 := rfl
      omega
    · rw [dif_neg h]
      obtain ⟨a1, a2, a3, a4⟩ := ih (u / 10) (by omega)
      have hm : u % 10 < 10 := Nat.mod_lt _ (by decide)
      refine ⟨by rw [List.all_append, a1, List.all_cons, hd _ hm]; rfl, ?_, by simp, fun _ => ?_⟩
      · rw [valD_append, a2]
        simp [valD, hb _ hm]; omega
      · have := a4 (by omega)
        cases hl : Lib.decDigits (u / 10) with
        | nil => exact absurd hl a3
        | cons c r => rw [hl] at this; exact this
theorem dec_len (u : Nat) (h : u ≤ 9223372036854775808) : (Lib.decDigits u).length ≤ 19 := by
  obtain ⟨a1, a2, a3, a4⟩ := dec_all u
  by_cases h0 : u = 0
  · rw [h0, Lib.decDigits]; simp
  · have a5 := a4 (by omega)
    cases hl : Lib.decDigits u with
    | nil => exact absurd hl a3
    | cons c r =>
      rw [hl] at a1 a2 a5
      rw [List.all_cons, Bool.and_eq_true] at a1
      have hc := dig_le a1.1
      have hc0 : c.toNat ≠ 48 := fun e => a5 (UInt8.toNat_inj.1 e)
      rcases Nat.lt_or_ge r.length 19 with k | k
      · simp; omega
      · exfalso
        have h3 : 10 ^ 19 ≤ 10 ^ r.length := Nat.pow_le_pow_right (by decide) k
        have h4 : 1 * 10 ^ r.length ≤ (c.toNat - 48) * 10 ^ r.length := Nat.mul_le_mul_right _ (by omega)
        have h5 : (c.toNat - 48) * 10 ^ r.length + valD r = u := a2
        omega
theorem whole_text (neg : Bool) (u : Nat) (hu : neg = true → 1 ≤ u) (hl : (Lib.decDigits u).length ≤ 40) : chk ((if neg then [45] else []) ++ Lib.decDigits u ++ [46, 48]) = true := by
  obtain ⟨a1, a2, a3, a4⟩ := dec_all u
  have hw : wr neg (Lib.decDigits u) [48] = some ((if neg then [45] else []) ++ Lib.decDigits u ++ [46, 48]) := by
    unfold wr
    have t2 : Lib.trimRightB [48] 48 = [] := by decide
    by_cases h0 : u = 0
    · have e : Lib.decDigits u = [48] := by rw [h0, Lib.decDigits]; rfl
      have hn : neg = false := by
        cases neg with
        | false => rfl
        | true => exact absurd (hu rfl) (by omega)
      rw [e, hn]
      decide
    · have t1 : Lib.trimLeftB (Lib.decDigits u) 48 = Lib.decDigits u := trimL_none fun c r e => by
        have := a4 (by omega)
        rw [e] at this; exact this
      simp only [t1, t2, List.append_nil]
      rw [if_neg (by simp; omega)]
      have e2 : (Lib.decDigits u).isEmpty = false := by
        cases hx : Lib.decDigits u with
        | nil => exact absurd hx a3
        | cons c r => rfl
      have e3 : orN (Lib.decDigits u) = Lib.decDigits u := by unfold orN; rw [e2]; rfl
      rw [e2, e3]
      cases neg <;> simp [orN]
  unfold chk readP
  have hs := splitP_canon neg (Lib.decDigits u) [48] a1 a3 (by decide) (by decide)
  have e4 : (if neg then [45] else []) ++ Lib.decDigits u ++ [46, 48] = (if neg then [45] else []) ++ (Lib.decDigits u ++ 46 :: [48]) := by simp
  rw [e4] at hw ⊢
  rw [hs]
  simp only [Option.map_some]
  rw [hw]
  simp

theorem toIntNoChk (s : ByteArray) (w : World) (hG : Gd w) (hs : s.size < 4294967281) (hk : chk s.data.toList = false) :
    Calls Tryd.prog 13 #[.string s] w fun e w' => e = .returned (.tuple #[.int .i64 0, .bool false]) ∧ Below w.heap.size w w' := by
  have KC : Hid (false = chk s.data.toList) := Lib.hid hk.symm
  clear hk
  go_enter Tryd.func13, Tryd.ntmps13
  go_wp2_with (go_at_call 15; (with_reducible refine (checkB s _ _ hG hs KC).mono ?_); rintro e w1 ⟨rfl, hb1⟩)
  go_ret2
  exact ⟨rfl, hb1⟩
theorem toIntNoSuf (s X : ByteArray) (w : World) (hG : Gd w) (hs : s.size < 4294967281) (hk : chk s.data.toList = true) (hsf : Lib.hasSuffix s.data.toList [46, 48] = false) (hX : X = bs (Lib.trimSuffix s.data.toList [46, 48])) :
    Calls Tryd.prog 13 #[.string s] w fun e w' => e = .returned (.tuple #[.int .i64 0, .bool false]) ∧ Below w.heap.size w w' := by
  have KC : Hid (true = chk s.data.toList) := Lib.hid hk.symm
  have HX := Lib.hid hX
  have HD : Hid (false = Lib.hasSuffix s.data.toList [46, 48]) := Lib.hid hsf.symm
  clear hk hX hsf
  go_enter Tryd.func13, Tryd.ntmps13
  go_wp2_with (first
    | (go_at_call 15; (with_reducible refine (checkB s _ _ hG hs KC).mono ?_); rintro e w1 ⟨rfl, hb1⟩)
    | (go_at_call 39; (with_reducible refine (sufB s X _ _ hs HX HD).mono ?_); rintro e w' ⟨rfl, rfl⟩))
  go_ret2
  exact ⟨rfl, hb1⟩
theorem intSaid_form (r : Option Int) : ∃ n b, intSaid r = .tuple #[.int .i64 n, .bool b] := by cases r <;> exact ⟨_, _, rfl⟩
theorem bs_size (l : List UInt8) : (bs l).size = l.length := by simp [ByteArray.size]
theorem trim_len (l : List UInt8) : (Lib.trimSuffix l [46, 48]).length ≤ l.length := Lib.trimSuffix_le l [46, 48]
theorem toIntAny (s : ByteArray) (w : World) (hG : Gd w) (hE : Er w) (hs : s.size ≤ 300) (neg : Bool) (x : List UInt8) (hc : chk s.data.toList = true) (hw : Whole s.data.toList neg x) (n : Int) (b : Bool) (hv : intSaid (wholeP neg (valD x)) = .tuple #[.int .i64 n, .bool b]) :
    Calls Tryd.prog 13 #[.string s] w fun e w' => e = .returned (.tuple #[.int .i64 n, .bool b]) ∧ Below w.heap.size w w' := by
  have hp := parse_whole neg x hw.all hw.ne
  have hss : s.data.toList.length = s.size := Array.length_toList
  have hsf : Lib.hasSuffix s.data.toList [46, 48] = true := (suffix_iff _).2 ⟨_, hw.eq⟩
  have hX : (bs (Lib.trimSuffix s.data.toList [46, 48])).data.toList = (if neg then [45] else []) ++ x := hw.trim
  have hXs : (bs (Lib.trimSuffix s.data.toList [46, 48])).size < 4294967281 := by
    rw [bs_size]; have := trim_len s.data.toList; omega
  cases hr : wholeP neg (valD x) with
  | some v =>
    rw [hr] at hp hv
    have h := toIntOk s (bs (Lib.trimSuffix s.data.toList [46, 48])) v w hG (by omega) hc hsf rfl hXs (by rw [hX]; exact hp)
    have e : Value.tuple #[.int .i64 v, .bool true] = .tuple #[.int .i64 n, .bool b] := hv
    rwa [e] at h
  | none =>
    rw [hr] at hp hv
    have h := toIntBig s (bs (Lib.trimSuffix s.data.toList [46, 48])) w hG hE (by omega) hc hsf rfl hXs (by rw [hX]; exact hp)
    have e : Value.tuple #[.int .i64 0, .bool false] = .tuple #[.int .i64 n, .bool b] := hv
    rwa [e] at h
theorem toIntAgree (a : ByteArray) (ha : a.size ≤ 300) :
    ∃ n b, (∀ W, Gd W → Er W → Calls Tryd.prog 13 #[.string a] W fun e w' => e = .returned (.tuple #[.int .i64 n, .bool b]) ∧ Below W.heap.size W w') ∧
      (∀ W, Calls Tryd.prog 14 #[.string a] W fun e w' => e = .returned (.tuple #[.int .i64 n, .bool b]) ∧ Below W.heap.size W w') := by
  have hss : a.data.toList.length = a.size := Array.length_toList
  cases hc : chk a.data.toList with
  | false => exact ⟨0, false, fun W hG _ => toIntNoChk a W hG (by omega) hc, fun W => refToIntBad a W (by omega) (.inl hc)⟩
  | true =>
    cases hs : Lib.hasSuffix a.data.toList [46, 48] with
    | false => exact ⟨0, false, fun W hG _ => toIntNoSuf a _ W hG (by omega) hc hs rfl, fun W => refToIntBad a W (by omega) (.inr (.inr hs))⟩
    | true =>
      obtain ⟨neg, x, hw⟩ := whole_of hc hs
      obtain ⟨n, b, hv⟩ := intSaid_form (wholeP neg (valD x))
      by_cases h25 : a.size ≤ 25
      · exact ⟨n, b, fun W hG hE => toIntAny a W hG hE ha neg x hc hw n b hv, fun W => refToIntGood a W h25 hc neg x hw n b hv⟩
      · have hn := hw.big (by omega)
        rw [hn] at hv
        have hv2 : intSaid (wholeP neg (valD x)) = .tuple #[.int .i64 0, .bool false] := by rw [hn]; rfl
        exact ⟨0, false, fun W hG hE => toIntAny a W hG hE ha neg x hc hw 0 false hv2, fun W => refToIntBad a W (by omega) (.inr (.inl (by omega)))⟩
/-- A whole number and its text. -/
theorem intAgree (n : Int) (h0 : -9223372036854775808 ≤ n) (h1 : n ≤ 9223372036854775807) :
    ∃ T : ByteArray, (∀ W, Tab W → Calls Tryd.prog 17 #[.int .i64 n] W fun e w' => e = .returned (.string T) ∧ Below W.heap.size W w') ∧
      (∀ W, Calls Tryd.prog 18 #[.int .i64 n] W fun e w' => e = .returned (.string T) ∧ Below W.heap.size W w') ∧
      (∀ W, Gd W → Er W → Calls Tryd.prog 13 #[.string T] W fun e w' => e = .returned (.tuple #[.int .i64 n, .bool true]) ∧ Below W.heap.size W w') := by
  have hlen := Lib.itoa_length_le n h0 h1
  have key : ∀ (neg : Bool) (u : Nat), (if neg then -(u : Int) else u) = n → (neg = true → 1 ≤ u) → Lib.itoa n = (if neg then [45] else []) ++ Lib.decDigits u →
      (∀ W, Calls Tryd.prog 18 #[.int .i64 n] W fun e w' => e = .returned (.string (bs (Lib.itoa n) ++ ⟨#[46, 48]⟩)) ∧ Below W.heap.size W w') →
      ∃ T : ByteArray, (∀ W, Tab W → Calls Tryd.prog 17 #[.int .i64 n] W fun e w' => e = .returned (.string T) ∧ Below W.heap.size W w') ∧
      (∀ W, Calls Tryd.prog 18 #[.int .i64 n] W fun e w' => e = .returned (.string T) ∧ Below W.heap.size W w') ∧
      (∀ W, Gd W → Er W → Calls Tryd.prog 13 #[.string T] W fun e w' => e = .returned (.tuple #[.int .i64 n, .bool true]) ∧ Below W.heap.size W w') := by
    intro neg u hn hu hit hre
    have hT : (bs (Lib.itoa n) ++ ⟨#[46, 48]⟩ : ByteArray).data.toList = (if neg then [45] else []) ++ Lib.decDigits u ++ [46, 48] := by
      rw [ByteArray.data_append, Array.toList_append, hit]
    obtain ⟨a1, a2, a3, a4⟩ := dec_all u
    have hdl : (Lib.decDigits u).length ≤ 21 := by
      rw [hit, List.length_append] at hlen; omega
    have hw : Whole (bs (Lib.itoa n) ++ ⟨#[46, 48]⟩ : ByteArray).data.toList neg (Lib.decDigits u) := by
      refine ⟨hT, a1, a3, by omega, fun h2 => ?_⟩
      by_cases hz : u = 0
      · rw [hz, Lib.decDigits] at h2; simp at h2
      · exact a4 (by omega)
    have hc : chk (bs (Lib.itoa n) ++ ⟨#[46, 48]⟩ : ByteArray).data.toList = true := by rw [hT]; exact whole_text neg u hu (by omega)
    have hsz : (bs (Lib.itoa n) ++ ⟨#[46, 48]⟩ : ByteArray).size ≤ 300 := by
      have h5 : (bs (Lib.itoa n) ++ ⟨#[46, 48]⟩ : ByteArray).data.toList.length = (bs (Lib.itoa n) ++ ⟨#[46, 48]⟩ : ByteArray).size := Array.length_toList
      rw [← h5, hT]
      simp only [List.length_append, List.length_cons, List.length_nil]
      split <;> simp <;> omega
    have hv : intSaid (wholeP neg (valD (Lib.decDigits u))) = .tuple #[.int .i64 n, .bool true] := by
      rw [a2]
      unfold wholeP
      cases neg with
      | true =>
        have hn' : -(u : Int) = n := hn
        rw [if_pos rfl, if_pos (by omega), hn']; rfl
      | false =>
        have hn' : (u : Int) = n := hn
        rw [if_neg (by decide), if_pos (by omega), hn']; rfl
    exact ⟨_, fun W hTb => ofIntAt n h0 h1 W hTb _ rfl (by rw [bs_size, hit, List.length_append]; have := dec_len u (by cases neg <;> simp at hn <;> omega); cases neg <;> simp <;> omega), hre, fun W hG hE => toIntAny _ W hG hE hsz neg _ hc hw n true hv⟩
  by_cases hneg : n < 0
  · obtain ⟨u, hu⟩ : ∃ u : Nat, n = -(u : Int) := ⟨n.natAbs, by omega⟩
    have hit : Lib.itoa n = 45 :: Lib.decDigits u := by rw [hu]; exact Lib.itoa_neg u (by omega)
    refine key true u hu.symm (fun _ => by omega) hit (fun W => ?_)
    have := refOfIntNeg u (by omega) (by omega) W (bs (Lib.decDigits u)) (Lib.hid rfl)
    rw [← hu] at this
    have e : (⟨#[45]⟩ ++ bs (Lib.decDigits u) ++ ⟨#[46, 48]⟩ : ByteArray) = bs (Lib.itoa n) ++ ⟨#[46, 48]⟩ := by
      apply bytes_ext
      simp only [ByteArray.data_append, Array.toList_append]
      rw [hit]; rfl
    rwa [e] at this
  · obtain ⟨u, rfl⟩ := Int.eq_ofNat_of_zero_le (Int.not_lt.1 hneg)
    have hit : Lib.itoa (u : Int) = Lib.decDigits u := Lib.itoa_nonneg u
    refine key false u rfl (fun h => by cases h) hit (fun W => ?_)
    rw [hit]
    exact refOfIntNat u (by omega) W (bs (Lib.decDigits u)) (Lib.hid rfl)
end Go.Proofs.YtabgilmehehbjaaDoor
