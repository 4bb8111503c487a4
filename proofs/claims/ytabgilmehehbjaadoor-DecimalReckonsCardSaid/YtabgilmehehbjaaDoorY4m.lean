/- The law DecimalReckons: what each side tells is the same. -/
import Derived.Test.YtabgilmehehbjaaDoorGy
import Derived.Test.YtabgilmehehbjaaDoorC0m
namespace Go.Proofs.YtabgilmehehbjaaDoor
open Go.RowKit

set_option maxRecDepth 20000 in
theorem negNo (s : ByteArray) (w : World) (hG : Gd w) (hs : s.size < 4294967281) (h : chk s.data.toList = false) :
    Calls Tryd.prog 30 #[.string s] w fun e w' => e = .returned (.tuple #[.string ⟨#[]⟩, .int .i64 1]) ∧ Below w.heap.size w w' := by
  have hc : ∀ W, Gd W → Calls Tryd.prog 55 #[.string s] W fun e w' => e = .returned (.tuple #[.agg zero59, .bool false]) ∧ Below W.heap.size W w' := fun W hW => parseNo s W hW hs h
  have HC := Lib.hid hc
  clear hc h
  go_enter Tryd.func30, Tryd.ntmps30
  go_wp2_with (first
    | (go_at_call 55; (with_reducible refine (HC.out _ hG).mono ?_); rintro e w1 ⟨rfl, hb⟩; have l1 := lies_zero w1 rfl; have hb1 := below_any (Below.refl w.heap.size w) hb (Nat.le_refl _); have hb2 := hb1.alloc hb.size (.cells #[.bool false, .int .u32 0, .int .u32 0, .int .u32 0, .int .u32 0, .int .u32 0, .int .u32 0, .int .u32 0, .int .u32 0, .int .u32 0, .int .u32 0, .int .u32 0, .int .u32 0, .int .u32 0, .int .u32 0, .int .u32 0, .int .u32 0] 59))
    | ((with_reducible refine wpList_storeN (.tmp 4) (.tmp 9) w1.heap.size l1 isNum_zero ?_ ?_ ?_ ?_ ?_); rfl; rfl; rfl; rfl; intro w2 ho p1; have hb3 := below_only hb2 ho hb.size (Nat.le_of_lt (Nat.lt_of_le_of_lt hb.size l1.lt))))
  go_ret2
  exact ⟨rfl, hb3⟩

theorem addAgree (a c : ByteArray) (ha : a.size ≤ 300) (hc : c.size ≤ 300) :
    ∃ x k, (∀ W, Gd W → Calls Tryd.prog 22 #[.string a, .string c] W fun e w' => e = .returned (.tuple #[.string x, .int .i64 k]) ∧ Below W.heap.size W w') ∧
      (∀ W, Calls Tryd.prog 23 #[.string a, .string c] W fun e w' => e = .returned (.tuple #[.string x, .int .i64 k]) ∧ Below W.heap.size W w') := by
  have za : a.size < 4294967281 := by omega
  have zc : c.size < 4294967281 := by omega
  have ra : a.size ≤ 1000000000 := by omega
  have rc : c.size ≤ 1000000000 := by omega
  by_cases h : chk a.data.toList = true
  · by_cases h2 : chk c.data.toList = true
    · obtain ⟨x, k, hv⟩ := said_form (txt (dval a.data.toList + dval c.data.toList))
      exact ⟨x, k, fun W hG => addYes a c W hG za zc h h2 x k hv, fun W => refAddYes a c W ra rc h h2 x k hv⟩
    · have h3 : chk a.data.toList = false ∨ chk c.data.toList = false := .inr (by simpa using h2)
      exact ⟨_, _, fun W hG => addNo a c W hG za zc h3, fun W => refAddNo a c W ra rc h3⟩
  · have h3 : chk a.data.toList = false ∨ chk c.data.toList = false := .inl (by simpa using h)
    exact ⟨_, _, fun W hG => addNo a c W hG za zc h3, fun W => refAddNo a c W ra rc h3⟩

theorem subAgree (a c : ByteArray) (ha : a.size ≤ 300) (hc : c.size ≤ 300) :
    ∃ x k, (∀ W, Gd W → Calls Tryd.prog 24 #[.string a, .string c] W fun e w' => e = .returned (.tuple #[.string x, .int .i64 k]) ∧ Below W.heap.size W w') ∧
      (∀ W, Calls Tryd.prog 25 #[.string a, .string c] W fun e w' => e = .returned (.tuple #[.string x, .int .i64 k]) ∧ Below W.heap.size W w') := by
  have za : a.size < 4294967281 := by omega
  have zc : c.size < 4294967281 := by omega
  have ra : a.size ≤ 1000000000 := by omega
  have rc : c.size ≤ 1000000000 := by omega
  by_cases h : chk a.data.toList = true
  · by_cases h2 : chk c.data.toList = true
    · obtain ⟨x, k, hv⟩ := said_form (txt (dval a.data.toList - dval c.data.toList))
      exact ⟨x, k, fun W hG => subYes a c W hG za zc h h2 x k hv, fun W => refSubYes a c W ra rc h h2 x k hv⟩
    · have h3 : chk a.data.toList = false ∨ chk c.data.toList = false := .inr (by simpa using h2)
      exact ⟨_, _, fun W hG => subNo a c W hG za zc h3, fun W => refSubNo a c W ra rc h3⟩
  · have h3 : chk a.data.toList = false ∨ chk c.data.toList = false := .inl (by simpa using h)
    exact ⟨_, _, fun W hG => subNo a c W hG za zc h3, fun W => refSubNo a c W ra rc h3⟩

theorem mulAgree (a c : ByteArray) (ha : a.size ≤ 300) (hc : c.size ≤ 300) :
    ∃ x k, (∀ W, Gd W → Calls Tryd.prog 26 #[.string a, .string c] W fun e w' => e = .returned (.tuple #[.string x, .int .i64 k]) ∧ Below W.heap.size W w') ∧
      (∀ W, Calls Tryd.prog 27 #[.string a, .string c] W fun e w' => e = .returned (.tuple #[.string x, .int .i64 k]) ∧ Below W.heap.size W w') := by
  have za : a.size < 4294967281 := by omega
  have zc : c.size < 4294967281 := by omega
  have ra : a.size ≤ 1000000000 := by omega
  have rc : c.size ≤ 1000000000 := by omega
  by_cases h : chk a.data.toList = true
  · by_cases h2 : chk c.data.toList = true
    · obtain ⟨x, k, hv⟩ := said_form (txt (dmul a.data.toList c.data.toList))
      exact ⟨x, k, fun W hG => mulYes a c W hG za zc h h2 x k hv, fun W => refMulYes a c W ra rc h h2 x k hv⟩
    · have h3 : chk a.data.toList = false ∨ chk c.data.toList = false := .inr (by simpa using h2)
      exact ⟨_, _, fun W hG => mulNo a c W hG za zc h3, fun W => refMulNo a c W ra rc h3⟩
  · have h3 : chk a.data.toList = false ∨ chk c.data.toList = false := .inl (by simpa using h)
    exact ⟨_, _, fun W hG => mulNo a c W hG za zc h3, fun W => refMulNo a c W ra rc h3⟩

theorem divAgree (a c : ByteArray) (ha : a.size ≤ 300) (hc : c.size ≤ 300) :
    ∃ x k, (∀ W, Gd W → Calls Tryd.prog 28 #[.string a, .string c] W fun e w' => e = .returned (.tuple #[.string x, .int .i64 k]) ∧ Below W.heap.size W w') ∧
      (∀ W, Calls Tryd.prog 29 #[.string a, .string c] W fun e w' => e = .returned (.tuple #[.string x, .int .i64 k]) ∧ Below W.heap.size W w') := by
  have za : a.size < 4294967281 := by omega
  have zc : c.size < 4294967281 := by omega
  have ra : a.size ≤ 1000000000 := by omega
  have rc : c.size ≤ 1000000000 := by omega
  by_cases h : chk a.data.toList = true
  · by_cases h2 : chk c.data.toList = true
    · by_cases h0 : damt c.data.toList = 0
      · exact ⟨_, _, fun W hG => divZero a c W hG za zc h h2 h0, fun W => refDivZero a c W ra rc h h2 h0⟩
      · obtain ⟨x, k, hv⟩ := said_form (txt (dquo a.data.toList c.data.toList))
        exact ⟨x, k, fun W hG => divYes a c W hG za zc h h2 h0 x k hv, fun W => refDivYes a c W ra rc h h2 h0 x k hv⟩
    · have h3 : chk a.data.toList = false ∨ chk c.data.toList = false := .inr (by simpa using h2)
      exact ⟨_, _, fun W hG => divNo a c W hG za zc h3, fun W => refDivNo a c W ra rc h3⟩
  · have h3 : chk a.data.toList = false ∨ chk c.data.toList = false := .inl (by simpa using h)
    exact ⟨_, _, fun W hG => divNo a c W hG za zc h3, fun W => refDivNo a c W ra rc h3⟩

theorem cmpAgree (a c : ByteArray) (ha : a.size ≤ 300) (hc : c.size ≤ 300) :
    ∃ r, (∀ W, Gd W → Calls Tryd.prog 20 #[.string a, .string c] W fun e w' => e = .returned (.int .i64 r) ∧ Below W.heap.size W w') ∧
      (∀ W, Calls Tryd.prog 21 #[.string a, .string c] W fun e w' => e = .returned (.int .i64 r) ∧ Below W.heap.size W w') := by
  have za : a.size < 4294967281 := by omega
  have zc : c.size < 4294967281 := by omega
  have ra : a.size ≤ 1000000000 := by omega
  have rc : c.size ≤ 1000000000 := by omega
  by_cases h : chk a.data.toList = true
  · by_cases h2 : chk c.data.toList = true
    · exact ⟨_, fun W hG => cmpYes a c W hG za zc h h2, fun W => refCmpYes a c W ra rc h h2⟩
    · have h3 : chk a.data.toList = false ∨ chk c.data.toList = false := .inr (by simpa using h2)
      exact ⟨_, fun W hG => cmpNo a c W hG za zc h3, fun W => refCmpNo a c W ra rc h3⟩
  · have h3 : chk a.data.toList = false ∨ chk c.data.toList = false := .inl (by simpa using h)
    exact ⟨_, fun W hG => cmpNo a c W hG za zc h3, fun W => refCmpNo a c W ra rc h3⟩
theorem negAgree (a : ByteArray) (ha : a.size ≤ 300) :
    ∃ x k, (∀ W, Gd W → Calls Tryd.prog 30 #[.string a] W fun e w' => e = .returned (.tuple #[.string x, .int .i64 k]) ∧ Below W.heap.size W w') ∧
      (∀ W, Calls Tryd.prog 31 #[.string a] W fun e w' => e = .returned (.tuple #[.string x, .int .i64 k]) ∧ Below W.heap.size W w') := by
  have za : a.size < 4294967281 := by omega
  have ra : a.size ≤ 1000000000 := by omega
  by_cases h : chk a.data.toList = true
  · obtain ⟨x, k, hv⟩ := said_form (txt (-dval a.data.toList))
    exact ⟨x, k, fun W hG => negYes a W hG za h x k hv, fun W => refNegYes a W ra h x k hv⟩
  · have h3 : chk a.data.toList = false := by simpa using h
    exact ⟨_, _, fun W hG => negNo a W hG za h3, fun W => refNegNo a W ra h3⟩

set_option maxRecDepth 20000 in
set_option maxHeartbeats 6400000 in
theorem reckonsSome (b off n cap : Nat) (v2 : Value) (S : Nat → ByteArray) (w : World) (hG : Gd w) (hT : Tab w) (hS : Strs w b off n S) (_hn : n ≤ maxLen) (hz : ∀ i, i < n → (S i).size ≤ maxLen) :
    Calls Tryd.prog 4 #[.agg #[.slice (some ⟨b, off, none⟩) n cap, v2]] w fun e w' => e = .returned (.bool true) ∧ Below w.heap.size w w' := by
  unfold maxLen at _hn
  have I0 := Inv.start (cap := cap) v2 hG hT hS
  have HZ := Lib.hid hz
  clear hz
  go_enter Tryd.func4, Tryd.ntmps4
  go_wp2_with fail
  go_loopg [3] n (fun gg s3 wr => ∃ i : Nat, i + gg = n ∧ s3 = .int .i64 ((i : Int) + 1) ∧ Inv w b off n cap S wr)
  case atStart => exact ⟨0, by omega, rfl, I0⟩
  case round =>
    clear I0
    obtain ⟨j, hig, rfl, I⟩ := hrel
    have hp := I.cell
    by_cases hlt : (j : Int) + 1 < n
    · by_cases h12 : (j : Int) + 1 < 12
      · obtain ⟨a, ha⟩ : ∃ a, a = S j := ⟨_, rfl⟩
        obtain ⟨c, hc⟩ : ∃ c, c = S (j + 1) := ⟨_, rfl⟩
        have c1 : wr.cell? ⟨b, off + j, none⟩ = some (.string a) := by rw [ha]; exact I.s j (by omega)
        have c2 : wr.cell? ⟨b, off + (j + 1), none⟩ = some (.string c) := by rw [hc]; exact I.s (j + 1) (by omega)
        clear ha hc
        by_cases sa : a.size ≤ 300
        · have SA : Hid (true = decide (a.size ≤ 300)) := Lib.hid (by simp [sa])
          by_cases sc : c.size ≤ 300
          · have SC : Hid (true = decide (c.size ≤ 300)) := Lib.hid (by simp [sc])
            obtain ⟨r, D1, E1⟩ := cmpAgree a c sa sc
            obtain ⟨x2, k2, D2, E2⟩ := addAgree a c sa sc
            obtain ⟨x3, k3, D3, E3⟩ := subAgree a c sa sc
            obtain ⟨x4, k4, D4, E4⟩ := mulAgree a c sa sc
            obtain ⟨x5, k5, D5, E5⟩ := divAgree a c sa sc
            obtain ⟨x6, k6, D6, E6⟩ := negAgree a sa
            have F1 := Lib.hid (And.intro D1 E1)
            have F2 := Lib.hid (And.intro D2 E2)
            have F3 := Lib.hid (And.intro D3 E3)
            have F4 := Lib.hid (And.intro D4 E4)
            have F5 := Lib.hid (And.intro D5 E5)
            have F6 := Lib.hid (And.intro D6 E6)
            clear D1 D2 D3 D4 D5 D6 E1 E2 E3 E4 E5 E6 sa sc
            go_wp2_with (first
              | (go_at_call 10; (with_reducible refine (shortB a _ _ SA).mono ?_); rintro e w' ⟨rfl, rfl⟩)
              | (go_at_call 10; (with_reducible refine (shortB c _ _ SC).mono ?_); rintro e w' ⟨rfl, rfl⟩)
              | (go_at_call 20; (with_reducible refine (F1.out.1 _ I.g).mono ?_); rintro e w1 ⟨rfl, hb1⟩; have I1 := Lib.hid (I.step hb1); clear hb1)
              | (go_at_call 21; (with_reducible refine (F1.out.2 _).mono ?_); rintro e w2 ⟨rfl, hb1⟩; have I2 := Lib.hid (I1.out.step hb1); clear hb1)
              | (go_at_call 22; (with_reducible refine (F2.out.1 _ I2.out.g).mono ?_); rintro e w3 ⟨rfl, hb1⟩; have I3 := Lib.hid (I2.out.step hb1); clear hb1)
              | (go_at_call 23; (with_reducible refine (F2.out.2 _).mono ?_); rintro e w4 ⟨rfl, hb1⟩; have I4 := Lib.hid (I3.out.step hb1); clear hb1)
              | (go_at_call 24; (with_reducible refine (F3.out.1 _ I4.out.g).mono ?_); rintro e w5 ⟨rfl, hb1⟩; have I5 := Lib.hid (I4.out.step hb1); clear hb1)
              | (go_at_call 25; (with_reducible refine (F3.out.2 _).mono ?_); rintro e w6 ⟨rfl, hb1⟩; have I6 := Lib.hid (I5.out.step hb1); clear hb1)
              | (go_at_call 26; (with_reducible refine (F4.out.1 _ I6.out.g).mono ?_); rintro e w7 ⟨rfl, hb1⟩; have I7 := Lib.hid (I6.out.step hb1); clear hb1)
              | (go_at_call 27; (with_reducible refine (F4.out.2 _).mono ?_); rintro e w8 ⟨rfl, hb1⟩; have I8 := Lib.hid (I7.out.step hb1); clear hb1)
              | (go_at_call 28; (with_reducible refine (F5.out.1 _ I8.out.g).mono ?_); rintro e w9 ⟨rfl, hb1⟩; have I9 := Lib.hid (I8.out.step hb1); clear hb1)
              | (go_at_call 29; (with_reducible refine (F5.out.2 _).mono ?_); rintro e w10 ⟨rfl, hb1⟩; have I10 := Lib.hid (I9.out.step hb1); clear hb1)
              | (go_at_call 30; (with_reducible refine (F6.out.1 _ I10.out.g).mono ?_); rintro e w11 ⟨rfl, hb1⟩; have I11 := Lib.hid (I10.out.step hb1); clear hb1)
              | (go_at_call 31; (with_reducible refine (F6.out.2 _).mono ?_); rintro e w12 ⟨rfl, hb1⟩; have I12 := Lib.hid (I11.out.step hb1); clear hb1))
            go_roundg (gk - 1)
            case measure => omega
            case rel => exact ⟨j + 1, by omega, by go_num, I12.out⟩
          · have SC : Hid (false = decide (c.size ≤ 300)) := Lib.hid (by simp; omega)
            go_wp2_with (first
              | (go_at_call 10; (with_reducible refine (shortB a _ _ SA).mono ?_); rintro e w' ⟨rfl, rfl⟩)
              | (go_at_call 10; (with_reducible refine (shortB c _ _ SC).mono ?_); rintro e w' ⟨rfl, rfl⟩))
            go_roundg (gk - 1)
            case measure => omega
            case rel => exact ⟨j + 1, by omega, by go_num, I⟩
        · have SA : Hid (false = decide (a.size ≤ 300)) := Lib.hid (by simp; omega)
          go_wp2_with (go_at_call 10; (with_reducible refine (shortB a _ _ SA).mono ?_); rintro e w' ⟨rfl, rfl⟩)
          go_roundg (gk - 1)
          case measure => omega
          case rel => exact ⟨j + 1, by omega, by go_num, I⟩
      · go_wp2_with (go_at_call 19; (with_reducible refine (wakesAt _ I.g I.t).mono ?_); rintro e w1 ⟨rfl, hb1⟩)
        go_ret
        exact ⟨rfl, (I.step hb1).bel⟩
    · go_wp2_with (go_at_call 19; (with_reducible refine (wakesAt _ I.g I.t).mono ?_); rintro e w1 ⟨rfl, hb1⟩)
      go_ret
      exact ⟨rfl, (I.step hb1).bel⟩
end Go.Proofs.YtabgilmehehbjaaDoor
