/- Which whole number a text is, the document's way. -/
import Derived.Test.YtabgilmehehbjaaDoorY6m
namespace Go.Proofs.YtabgilmehehbjaaDoor
open Go.RowKit

/-- What ToInt tells. -/
def intSaid : Option Int → Value
  | some v => .tuple #[.int .i64 v, .bool true]
  | none => .tuple #[.int .i64 0, .bool false]
theorem chk_len3 {l : List UInt8} (h : chk l = true) : 3 ≤ l.length := by
  obtain ⟨n, a, b, hsp, ha, hb, la, lb, hw, _⟩ := chk_parts l h
  unfold wr at hw
  simp only at hw
  split at hw
  · cases hw
  · rw [← Option.some.inj hw]
    have h1 := List.length_pos_iff.2 (orN_ne (Lib.trimLeftB a 48))
    have h2 := List.length_pos_iff.2 (orN_ne (Lib.trimRightB b 48))
    simp only [List.length_append, List.length_cons]
    omega
theorem suffix_drop {l : List UInt8} (h : 2 ≤ l.length) : Lib.hasSuffix l [46, 48] = (l.drop (l.length - 2) == [46, 48]) := by
  have := Lib.hasSuffix_of_drop l [46, 48]
  rw [← this, decide_eq_true (by simpa using h), Bool.true_and]; rfl
theorem toInt_none {l : List UInt8} (h : chk l = false) : toIntP l = none := by unfold toIntP; rw [h]; rfl
theorem toInt_suffix {l : List UInt8} (h : Lib.hasSuffix l [46, 48] = false) : toIntP l = none := by unfold toIntP; rw [h, Bool.and_false]; rfl
theorem toInt_long {l : List UInt8} (h : 25 < l.length) : toIntP l = none := by
  cases hc : chk l with
  | false => exact toInt_none hc
  | true =>
    cases hs : Lib.hasSuffix l [46, 48] with
    | false => exact toInt_suffix hs
    | true =>
      obtain ⟨neg, x, hw⟩ := whole_of hc hs
      rw [hw.toInt hc, hw.big h]

set_option maxRecDepth 20000 in
theorem refToIntBad (s : ByteArray) (w : World) (hs : s.size ≤ 1000000000) (h : chk s.data.toList = false ∨ 25 < s.size ∨ Lib.hasSuffix s.data.toList [46, 48] = false) :
    Calls Tryd.prog 14 #[.string s] w fun e w' => e = .returned (.tuple #[.int .i64 0, .bool false]) ∧ Below w.heap.size w w' := by
  cases hc : chk s.data.toList with
  | false =>
    have HC : Hid (false = chk s.data.toList) := Lib.hid hc.symm
    clear hc h
    go_enter Tryd.func14, Tryd.ntmps14
    go_wp2_with (go_at_call 16; (with_reducible refine (refCheckB s _ _ hs HC).mono ?_); rintro e w1 ⟨rfl, hb1⟩)
    go_ret2
    exact ⟨rfl, hb1⟩
  | true =>
    have HC : Hid (true = chk s.data.toList) := Lib.hid hc.symm
    have hl3 := chk_len3 hc
    have hss : s.data.toList.length = s.size := Array.length_toList
    by_cases hl : (s.size : Int) > 25
    · clear hc h hl3 hss
      go_enter Tryd.func14, Tryd.ntmps14
      go_wp2_with (go_at_call 16; (with_reducible refine (refCheckB s _ _ hs HC).mono ?_); rintro e w1 ⟨rfl, hb1⟩)
      go_ret2
      exact ⟨rfl, hb1⟩
    · have hsf : Lib.hasSuffix s.data.toList [46, 48] = false := by
        rcases h with h | h | h
        · rw [hc] at h; cases h
        · omega
        · exact h
      rw [suffix_drop (by omega)] at hsf
      obtain ⟨k, hk⟩ : ∃ k : Nat, k = s.size - 2 := ⟨_, rfl⟩
      have hk1 : (s.size : Int) - 2 = k := by omega
      have hk2 : k ≤ s.size := by omega
      have hne : ((s.extract k s.size).toList == [46, 48]) = false := by
        rw [ByteArray.toList_eq, Lib.extract_to_end, ← hsf, hss, hk]
      clear hc h hl3 hss hsf hk
      go_enter Tryd.func14, Tryd.ntmps14
      go_wp2_with (go_at_call 16; (with_reducible refine (refCheckB s _ _ hs HC).mono ?_); rintro e w1 ⟨rfl, hb1⟩)
      go_ret2
      exact ⟨rfl, hb1⟩

theorem whole_none {neg : Bool} {v : Nat} (h : 9223372036854775808 < v) : wholeP neg v = none := by
  unfold wholeP; cases neg
  · rw [if_neg (by decide), if_neg (by omega)]
  · rw [if_pos rfl, if_neg (by omega)]
theorem valD_take (l : List UInt8) (h : l.all isDig = true) (i : Nat) : valD (l.take i) ≤ valD l := by
  have := valD_append (l.take i) (l.drop i)
  rw [List.take_append_drop] at this
  have hp : 1 ≤ 10 ^ (l.drop i).length := Nat.pow_pos (by decide)
  have h2 : valD (l.take i) * 1 ≤ valD (l.take i) * 10 ^ (l.drop i).length := Nat.mul_le_mul_left _ hp
  omega

set_option maxRecDepth 20000 in
set_option maxHeartbeats 3200000 in
theorem refToIntGood (s : ByteArray) (w : World) (hs : s.size ≤ 25) (hc : chk s.data.toList = true) (neg : Bool) (x : List UInt8) (hw : Whole s.data.toList neg x) (a : Int) (b : Bool) (hr : intSaid (wholeP neg (valD x)) = .tuple #[.int .i64 a, .bool b]) :
    Calls Tryd.prog 14 #[.string s] w fun e w' => e = .returned (.tuple #[.int .i64 a, .bool b]) ∧ Below w.heap.size w w' := by
  have HC : Hid (true = chk s.data.toList) := Lib.hid hc.symm
  have hs9 : s.size ≤ 1000000000 := by omega
  have hss : s.data.toList.length = s.size := Array.length_toList
  have hl3 := chk_len3 hc
  obtain ⟨k, hk⟩ : ∃ k : Nat, k = s.size - 2 := ⟨_, rfl⟩
  have hk1 : (s.size : Int) - 2 = k := by omega
  have hk2 : k ≤ s.size := by omega
  have hk0 : 0 < k := by omega
  have hle : ¬ (s.size : Int) > 25 := by omega
  have hsf : Lib.hasSuffix s.data.toList [46, 48] = true := (suffix_iff _).2 ⟨_, hw.eq⟩
  rw [suffix_drop (by omega)] at hsf
  have heq : ((s.extract k s.size).toList == [46, 48]) = true := by
    rw [ByteArray.toList_eq, Lib.extract_to_end, ← hsf, hss, hk]
  have hY : (s.extract 0 k).data.toList = (if neg then [45] else []) ++ x := by
    have h0 : (s.extract 0 k).data.toList = s.data.toList.take k := by
      rw [Lib.extract_data]; rfl
    have h2 := congrArg List.length hw.eq
    rw [List.length_append] at h2
    rw [h0, hw.eq]
    exact List.take_left' (by simp at h2 ⊢; omega)
  obtain ⟨D, hD⟩ : ∃ D : ByteArray, D = bs x := ⟨_, rfl⟩
  have hps : 0 < (s.extract 0 k).size := by simp [ByteArray.size_extract]; omega
  have hh : (s.extract 0 k)[0] = ((if neg then [45] else []) ++ x).headD 0 := by
    rw [byte_at _ 0 hps]
    have : ∀ (l : List UInt8) (q : 0 < l.length), l[0] = l.headD 0 := fun l q => by
      cases l with
      | nil => exact absurd q (by simp)
      | cons c r => rfl
    rw [this _ (by simpa using hps), hY]
  have h45 : (((s.extract 0 k)[0].toNat : Int) == 45) = neg := by
    cases neg with
    | true => rw [hh]; rfl
    | false =>
      have hx := hw.all
      have hn := hw.ne
      cases x with
      | nil => exact absurd rfl hn
      | cons c r =>
        rw [List.all_cons, Bool.and_eq_true] at hx
        have := dig_le hx.1
        rw [hh]
        show (((c.toNat : Nat) : Int) == 45) = false
        simp; omega
  have HY := Lib.hid hY
  have HD := Lib.hid hD
  have HW := Lib.hid hw
  have HR := Lib.hid hr
  clear hc hss hl3 hk hsf hY hD hw hr hh
  go_enter Tryd.func14, Tryd.ntmps14
  go_upto_if 33 with (go_at_call 16; (with_reducible refine (refCheckB s _ _ hs9 HC).mono ?_); rintro e w1 ⟨rfl, hb1⟩)
  go_cut [5] (fun s5 wx => s5 = .string D ∧ wx = w1)
  case first =>
    cases neg with
    | true =>
      have hE : (s.extract 0 k).extract 1 k = D := by
        apply bytes_ext
        have h1 := Lib.extract_data (s.extract 0 k) 1 k
        rw [HY.out] at h1
        rw [HD.out]
        have h2 := congrArg List.length HY.out
        have h3 : (s.extract 0 k).data.toList.length = k := by simp; omega
        rw [h3] at h2
        have h4 : k = x.length + 1 := by simpa using h2
        show _ = x
        rw [h1]
        show List.take (k - 1) x = x
        exact List.take_of_length_le (by omega)
      clear h45 heq
      go_wp2_with fail
      go_meet
      case rel => exact ⟨rfl, rfl⟩
    | false =>
      have hE : s.extract 0 k = D := by
        apply bytes_ext
        rw [HY.out, HD.out]; rfl
      clear h45 heq
      go_wp2_with fail
      go_meet
      case rel => exact ⟨rfl, rfl⟩
  case rest =>
    obtain ⟨rfl, rfl⟩ := hcut
    clear h45 heq hps hk1 hk2 hk0 HY hle
    have hxl : x.length = D.size := by rw [HD.out]; exact Array.length_toList.symm
    have hxs : D.size ≤ 40 := by rw [← hxl]; exact HW.out.len
    have HXL := Lib.hid hxl
    have hall := HW.out.all
    have HA := Lib.hid hall
    clear hxl hall
    go_wp2_with fail
    go_loopg [4, 7] D.size (fun gg s4 s7 wr => ∃ (i v : Nat) (m : Int), i + gg = D.size ∧ s7 = .int .i64 i ∧ s4 = .int .i64 m ∧ Hid (m = -(v : Int)) ∧ m ≤ 0 ∧ -9223372036854775808 ≤ m ∧ Hid (v = valD (x.take i)) ∧ wr = wc)
    case atStart => exact ⟨0, 0, _, by omega, rfl, rfl, Lib.hid rfl, by omega, by omega, Lib.hid rfl, rfl⟩
    case round =>
      obtain ⟨i, v, m, hig, rfl, rfl, HM, hm0, hm1, HV, rfl⟩ := hrel
      by_cases hlt : (i : Int) < D.size
      · have hi : i < D.size := by omega
        have hil : i < x.length := by rw [HXL.out]; exact hi
        have hbyte : D[i] = x[i] := by
          rw [byte_at D i hi]
          have e2 : D.data.toList = x := by rw [HD.out]
          simp [e2]
        have hdg := dig_le (List.all_eq_true.1 HA.out _ (List.getElem_mem hil))
        rw [← hbyte] at hdg
        obtain ⟨d, hd⟩ : ∃ d : Nat, d = D[i].toNat - 48 := ⟨_, rfl⟩
        have hd1 : (D[i].toNat : Int) - 48 = d := by omega
        have hd9 : d ≤ 9 := by omega
        have hw1 : IntKind.u8.wrap (d : Int) = d := by unfold IntKind.wrap; simp [IntKind.bits, IntKind.signed]; omega
        have hw2 : IntKind.i64.wrap (d : Int) = d := IntWalk.i64_in _ (by omega)
        have hnext : valD (x.take (i + 1)) = v * 10 + d := by rw [take_val x i hil, ← HV.out, ← hbyte, ← hd]
        have hds := down_step (v := v) (k := d) hd9
        rw [← HM.out] at hds
        have HNX := Lib.hid hnext
        have HDS := Lib.hid hds
        clear hnext hds hd hbyte hdg
        by_cases hov : 9223372036854775808 < v * 10 + d
        · have hlt2 : m < (-9223372036854775808 + (d : Int)).tdiv 10 := HDS.out.2 hov
          have hnone : wholeP neg (valD x) = none := whole_none (by have := valD_take x HA.out (i + 1); rw [HNX.out] at this; omega)
          have hab : a = 0 ∧ b = false := by
            have := HR.out
            rw [hnone] at this
            simp [intSaid] at this
            obtain ⟨q1, q2⟩ := this
            exact ⟨by omega, by cases b <;> simp_all⟩
          obtain ⟨rfl, rfl⟩ := hab
          clear HR hnone HDS
          go_wp2_with fail
          go_ret2
          exact ⟨rfl, hb1⟩
        · have hlt2 : ¬ m < (-9223372036854775808 + (d : Int)).tdiv 10 := fun q => hov (HDS.out.1 q)
          have hmv : m = -(v : Int) := HM.out
          have HMN : Hid (10 * m - d = -((v * 10 + d : Nat) : Int)) := Lib.hid (by rw [hmv]; omega)
          have hr1 : 10 * m - d ≤ 0 := by omega
          have hr2 : -9223372036854775808 ≤ 10 * m - d := by omega
          have hr3 : -9223372036854775808 ≤ 10 * m := by omega
          clear hmv HDS
          go_wp2_with fail
          go_roundg (gk - 1)
          case measure => omega
          case rel => exact ⟨i + 1, v * 10 + d, 10 * m - d, by omega, by go_num, rfl, HMN, hr1, hr2, Lib.hid HNX.out.symm, rfl⟩
      · obtain rfl : i = D.size := by omega
        have hvv : v = valD x := by rw [HV.out, List.take_of_length_le (by rw [HXL.out]; exact Nat.le_refl _)]
        have hmv : m = -(v : Int) := HM.out
        have hr := HR.out
        rw [← hvv] at hr
        cases neg with
        | true =>
          have hab : a = m ∧ b = true := by
            unfold wholeP at hr
            rw [if_pos rfl, if_pos (by omega)] at hr
            simp [intSaid] at hr
            obtain ⟨q1, q2⟩ := hr
            exact ⟨by omega, by cases b <;> simp_all⟩
          obtain ⟨rfl, rfl⟩ := hab
          clear HR hr hmv hvv
          go_wp2_with fail
          go_ret2
          exact ⟨rfl, hb1⟩
        | false =>
          by_cases hmin : m = -9223372036854775808
          · have hab : a = 0 ∧ b = false := by
              unfold wholeP at hr
              rw [if_neg (by decide), if_neg (by omega)] at hr
              simp [intSaid] at hr
              obtain ⟨q1, q2⟩ := hr
              exact ⟨by omega, by cases b <;> simp_all⟩
            obtain ⟨rfl, rfl⟩ := hab
            clear HR hr hmv hvv
            have hminb : (m == -9223372036854775808) = true := by simpa using hmin
            go_wp2_with fail
            go_ret2
            exact ⟨rfl, hb1⟩
          · have hab : a = -m ∧ b = true := by
              unfold wholeP at hr
              rw [if_neg (by decide), if_pos (by omega)] at hr
              simp [intSaid] at hr
              obtain ⟨q1, q2⟩ := hr
              exact ⟨by omega, by cases b <;> simp_all⟩
            obtain ⟨rfl, rfl⟩ := hab
            clear HR hr hmv hvv
            have hminb : (m == -9223372036854775808) = false := by simpa using hmin
            go_wp2_with fail
            go_ret2
            exact ⟨rfl, hb1⟩
end Go.Proofs.YtabgilmehehbjaaDoor
