/- parse: a decimal as a number. -/
import Derived.Test.YtoifjjgakblhhaaDoorS4m
import Derived.Test.YtoifjjgakblhhaaDoorA5m
import Derived.Test.YtoifjjgakblhhaaDoorGa
import Derived.Test.YtoifjjgakblhhaaDoorRm
import Derived.Test.YtoifjjgakblhhaaDoorGa
namespace Go.Proofs.YtoifjjgakblhhaaDoor
open Go.RowKit

set_option maxHeartbeats 800000 in
theorem parseNo (s : ByteArray) (w : World) (hG : Gd w) (hs : s.size < 4294967281) (h : chk s.data.toList = false) :
    Calls Tryd.prog 49 #[.string s] w fun e w' => e = .returned (.tuple #[.agg zero59, .bool false]) ∧ Below w.heap.size w w' := by
  have hc : ∀ W, Gd W → Calls Tryd.prog 30 #[.string s] W fun e w' => e = .returned (.bool false) ∧ Below W.heap.size W w' := fun W hW => by
    have := checkAt s W hW hs
    rwa [h] at this
  have HC := Lib.hid hc
  clear hc h
  have l0 := lies_zero w rfl
  have g0 := hG.alloc (.cells #[.bool false, .int .u32 0, .int .u32 0, .int .u32 0, .int .u32 0, .int .u32 0, .int .u32 0, .int .u32 0, .int .u32 0, .int .u32 0, .int .u32 0, .int .u32 0, .int .u32 0, .int .u32 0, .int .u32 0, .int .u32 0, .int .u32 0] 73)
  have b0 := (Below.refl w.heap.size w).alloc (Nat.le_refl _) (.cells #[.bool false, .int .u32 0, .int .u32 0, .int .u32 0, .int .u32 0, .int .u32 0, .int .u32 0, .int .u32 0, .int .u32 0, .int .u32 0, .int .u32 0, .int .u32 0, .int .u32 0, .int .u32 0, .int .u32 0, .int .u32 0, .int .u32 0] 73)
  go_enter Tryd.func49, Tryd.ntmps49
  go_wp2_with (first
    | (go_at_call 30; (with_reducible refine (HC.out _ g0).mono ?_); rintro e w1 ⟨rfl, hb⟩; have l1 := l0.below hb; have b1 := below_any b0 hb (Nat.le_of_lt l0.lt))
    | ((with_reducible refine wpList_storeN (.tmp 2) (.tmp 14) w.heap.size (by assumption) isNum_zero ?_ ?_ ?_ ?_ ?_); rfl; rfl; rfl; rfl; intro w2 ho2 m2; have b2 := below_only b1 ho2 (Nat.le_refl _) (Nat.le_of_lt l1.lt)))
  exact bodyPost_ret (v := .tuple #[.agg zero59, .bool false]) (results_num_tmp (p := 2) (q := 3) Tryd.results49 _ (.bool false) rfl rfl m2) rfl ⟨rfl, b2⟩

theorem putStep (g : Nat) (c : Array Value) (n : Bool) (f : Nat → Nat) (M q x : Nat) (p d : Int) (w : World) (hl : Lies w g c n f) (hpq : p = q) (hp : q ≤ 143) (hd0 : d = 48 + x) (hd : x ≤ 9) (hv : wval f = M * 10 ^ (q + 1)) :
    Calls Tryd.prog 55 #[.pointer (some ⟨g, 0, none⟩), .int .i64 p, .int .u8 d] w fun e w' => e = .returned (.tuple #[]) ∧ Only g w w' ∧
      ∃ c' f', Lies w' g c' n f' ∧ wval f' = (M * 10 + x) * 10 ^ q := by
  subst hpq hd0
  have hx : ((48 : Int) + x - 48).toNat = x := by omega
  have e1 : ((q : Int) / 9).toNat = q / 9 := by omega
  have e2 : ((q : Int) % 9).toNat = q % 9 := by omega
  have hr := room f hl.num.lt M q (by omega) hv
  have hroom : (f ((q : Int) / 9).toNat : Int) + ((48 : Int) + x - 48) * ten ((q : Int) % 9).toNat < 1000000000 := by
    rw [e1, e2]
    unfold ten
    have h1 : x * 10 ^ (q % 9) ≤ 9 * 10 ^ (q % 9) := Nat.mul_le_mul_right _ (by omega)
    have h2 : ((48 : Int) + x - 48) * ((10 ^ (q % 9) : Nat) : Int) = ((x * 10 ^ (q % 9) : Nat) : Int) := by
      rw [Int.natCast_mul]; congr 1; omega
    rw [h2]
    unfold BASE at hr
    omega
  refine (putAt g c n f q _ w hl.heap hl.num (by omega) (by omega) (by omega) (by omega) hroom).mono ?_
  rintro e w' ⟨rfl, ho, c', hh, hn⟩
  refine ⟨rfl, ho, c', _, lies_mk hh hn, ?_⟩
  rw [e1, e2, hx]
  unfold ten
  rw [put_val f q _ (by omega), hv, Nat.add_mul, Nat.pow_succ]
  congr 1
  ac_rfl

theorem take_val (l : List UInt8) (k : Nat) (h : k < l.length) : valD (l.take (k + 1)) = valD (l.take k) * 10 + (l[k].toNat - 48) := by
  rw [List.take_succ_eq_append_getElem h, valD_append]
  simp [valD]
theorem byte_at (A : ByteArray) (k : Nat) (h : k < A.size) : A[k] = A.data.toList[k]'(by simpa using h) := by
  simp [ByteArray.getElem_eq_getElem_data]
theorem byte_dig (A : ByteArray) (hA : A.data.toList.all isDig = true) (k : Nat) (h : k < A.size) : 48 ≤ A[k].toNat ∧ A[k].toNat ≤ 57 := by
  rw [byte_at A k h]
  exact dig_le (List.all_eq_true.1 hA _ (List.getElem_mem _))

set_option maxHeartbeats 1600000 in
theorem parseYes (s A B : ByteArray) (n : Bool) (w : World) (hG : Gd w) (hs : s.size < 4294967281) (h : chk s.data.toList = true) (hsp : splitP s.data.toList = some (n, A.data.toList, B.data.toList))
    (hA : A.data.toList.all isDig = true) (hB : B.data.toList.all isDig = true) (lA : A.size ≤ 40) (lB : B.size ≤ 20) :
    Calls Tryd.prog 49 #[.string s] w fun e w' => ∃ c f, e = .returned (.tuple #[.agg c, .bool true]) ∧ IsNum c n f ∧ wval f = num54 A.data.toList B.data.toList ∧ Below w.heap.size w w' := by
  have hc : ∀ W, Gd W → Calls Tryd.prog 30 #[.string s] W fun e w' => e = .returned (.bool true) ∧ Below W.heap.size W w' := fun W hW => by
    have := checkAt s W hW hs
    rwa [h] at this
  have hc2 : ∀ W, Gd W → Calls Tryd.prog 52 #[.string s] W fun e w' => e = .returned (.tuple #[.bool n, .string A, .string B, .bool true]) ∧ Below W.heap.size W w' := fun W hW => by
    have := splitAt s W hW hs
    rw [hsp] at this
    exact this
  have HC := Lib.hid hc
  have HS := Lib.hid hc2
  clear hc h hc2 hsp
  have l0 := lies_zero w rfl
  have g0 := hG.alloc (.cells #[.bool false, .int .u32 0, .int .u32 0, .int .u32 0, .int .u32 0, .int .u32 0, .int .u32 0, .int .u32 0, .int .u32 0, .int .u32 0, .int .u32 0, .int .u32 0, .int .u32 0, .int .u32 0, .int .u32 0, .int .u32 0, .int .u32 0] 73)
  have b0 := (Below.refl w.heap.size w).alloc (Nat.le_refl _) (.cells #[.bool false, .int .u32 0, .int .u32 0, .int .u32 0, .int .u32 0, .int .u32 0, .int .u32 0, .int .u32 0, .int .u32 0, .int .u32 0, .int .u32 0, .int .u32 0, .int .u32 0, .int .u32 0, .int .u32 0, .int .u32 0, .int .u32 0] 73)
  go_enter Tryd.func49, Tryd.ntmps49
  go_wp2_with (first
    | (go_at_call 30; (with_reducible refine (HC.out _ g0).mono ?_); rintro e w1 ⟨rfl, hb⟩; have l1 := l0.below hb; have b1 := below_any b0 hb (Nat.le_of_lt l0.lt); have g1 := g0.below hb)
    | (go_at_call 52; (with_reducible refine (HS.out _ g1).mono ?_); rintro e w2 ⟨rfl, hb2⟩; have l2 := l1.below hb2; have b2 := below_any b1 hb2 (Nat.le_of_lt l1.lt)))
  have l3 := lies_sign w2 n rfl
  have k3 := l2.alloc (.cells #[.bool n, .int .u32 0, .int .u32 0, .int .u32 0, .int .u32 0, .int .u32 0, .int .u32 0, .int .u32 0, .int .u32 0, .int .u32 0, .int .u32 0, .int .u32 0, .int .u32 0, .int .u32 0, .int .u32 0, .int .u32 0, .int .u32 0] 73)
  have b3 := b2.alloc (Nat.le_of_lt l2.lt) (.cells #[.bool n, .int .u32 0, .int .u32 0, .int .u32 0, .int .u32 0, .int .u32 0, .int .u32 0, .int .u32 0, .int .u32 0, .int .u32 0, .int .u32 0, .int .u32 0, .int .u32 0, .int .u32 0, .int .u32 0, .int .u32 0, .int .u32 0] 73)
  have hne : w.heap.size ≠ w2.heap.size := Nat.ne_of_lt l2.lt
  have hle : w.heap.size ≤ w2.heap.size := Nat.le_of_lt l2.lt
  go_loopw [26] (fun i wr => ∃ (k : Nat) (c : Array Value) (f : Nat → Nat), k ≤ A.size ∧ i = .int .i64 k ∧ Lies wr w2.heap.size c n f ∧ Lies wr w.heap.size zero59 false (fun _ => 0) ∧ Below w.heap.size w wr ∧ wval f = valD (A.data.toList.take k) * 10 ^ (54 + A.size - k)) (fun i _ => A.size - (intOf i).toNat)
  case atStart =>
    exact ⟨0, _, _, Nat.zero_le _, rfl, l3, k3, b3, by simp [valD, wval, vN]⟩
  case round =>
    obtain ⟨k, c, f, hk, rfl, hl, hz, hbel, hv⟩ := hrel
    have HV := Lib.hid hv
    clear hv
    by_cases hlt : k < A.size
    · have hd := byte_dig A hA k hlt
      obtain ⟨x, hx⟩ : ∃ x, A[k].toNat = 48 + x := ⟨A[k].toNat - 48, by omega⟩
      have hx1 : (A[k].toNat : Int) = 48 + x := by omega
      have hx9 : x ≤ 9 := by omega
      have hd2 : (A[k].toNat : Int) ≤ 57 := by omega
      obtain ⟨q, hq⟩ : ∃ q, q = 54 + A.size - (k + 1) := ⟨_, rfl⟩
      have hq1 : q ≤ 143 := by omega
      have hnew : valD (A.data.toList.take (k + 1)) * 10 ^ (54 + A.size - (k + 1)) = (valD (A.data.toList.take k) * 10 + x) * 10 ^ q := by
        rw [take_val _ k (by simpa using hlt), ← hq, ← byte_at A k hlt]
        congr 2
        omega
      have hold : wval f = valD (A.data.toList.take k) * 10 ^ (q + 1) := by rw [HV.out]; congr 2; omega
      have HQ := Lib.hid hq
      have HN := Lib.hid hnew
      have HO := Lib.hid hold
      have HX := Lib.hid hx1
      clear hd hx hq hnew hold hx1
      go_wp2_with (go_at_call 55; (with_reducible refine (putStep _ _ _ _ (valD (A.data.toList.take k)) q x _ _ _ hl ?_ hq1 HX.out hx9 HO.out).mono ?_); (have := HQ.out; omega); rintro e w3 ⟨rfl, ho, c', f', hl', hv'⟩; have HV' := Lib.hid hv'; clear hv')
      go_roundw
      case rel => exact ⟨k + 1, c', f', by omega, by go_num, hl', hz.only ho hne, below_only hbel ho hle (Nat.le_of_lt hz.lt), by rw [HN.out]; exact HV'.out⟩
      case measure => simp [intOf]; omega
    · obtain rfl : k = A.size := by omega
      have hv0 : wval f = valD A.data.toList * 10 ^ 54 := by
        have := HV.out
        rw [List.take_of_length_le (by simp), show 54 + A.size - A.size = 54 by omega] at this
        exact this
      have HV0 := Lib.hid hv0
      clear hv0
      go_wp2_with fail
      obtain ⟨wo, rfl⟩ : ∃ wo : World, wo = wr := ⟨_, rfl⟩
      go_loopw [42] (fun i wr => ∃ (k : Nat) (c : Array Value) (f : Nat → Nat), k ≤ B.size ∧ i = .int .i64 k ∧ Lies wr w2.heap.size c n f ∧ Lies wr w.heap.size zero59 false (fun _ => 0) ∧ Below w.heap.size w wr ∧ wval f = (valD A.data.toList * 10 ^ k + valD (B.data.toList.take k)) * 10 ^ (54 - k)) (fun i _ => B.size - (intOf i).toNat)
      case atStart => exact ⟨0, c, f, Nat.zero_le _, rfl, hl, hz, hbel, by rw [HV0.out]; simp [valD]⟩
      case round =>
        clear hl hz hbel HV HV0
        obtain ⟨k, c, f, hk, rfl, hl, hz, hbel, hv⟩ := hrel
        have HV := Lib.hid hv
        clear hv
        by_cases hlt : k < B.size
        · have hd := byte_dig B hB k hlt
          obtain ⟨x, hx⟩ : ∃ x, B[k].toNat = 48 + x := ⟨B[k].toNat - 48, by omega⟩
          have hx1 : (B[k].toNat : Int) = 48 + x := by omega
          have hx9 : x ≤ 9 := by omega
          have hd2 : (B[k].toNat : Int) ≤ 57 := by omega
          obtain ⟨q, hq⟩ : ∃ q, q = 54 - (k + 1) := ⟨_, rfl⟩
          have hq1 : q ≤ 143 := by omega
          have hnew : (valD A.data.toList * 10 ^ (k + 1) + valD (B.data.toList.take (k + 1))) * 10 ^ (54 - (k + 1)) = ((valD A.data.toList * 10 ^ k + valD (B.data.toList.take k)) * 10 + x) * 10 ^ q := by
            rw [take_val _ k (by simpa using hlt), ← hq, ← byte_at B k hlt, Nat.pow_succ]
            congr 1
            have : B[k].toNat - 48 = x := by omega
            rw [this, Nat.add_mul, Nat.mul_assoc]
            omega
          have hold : wval f = (valD A.data.toList * 10 ^ k + valD (B.data.toList.take k)) * 10 ^ (q + 1) := by rw [HV.out]; congr 2; omega
          have HQ := Lib.hid hq
          have HN := Lib.hid hnew
          have HO := Lib.hid hold
          have HX := Lib.hid hx1
          clear hd hx hq hnew hold hx1
          go_wp2_with (go_at_call 55; (with_reducible refine (putStep _ _ _ _ (valD A.data.toList * 10 ^ k + valD (B.data.toList.take k)) q x _ _ _ hl ?_ hq1 HX.out hx9 HO.out).mono ?_); (have := HQ.out; omega); rintro e w3 ⟨rfl, ho, c', f', hl', hv'⟩; have HV' := Lib.hid hv'; clear hv')
          go_roundw
          case rel => exact ⟨k + 1, c', f', by omega, by go_num, hl', hz.only ho hne, below_only hbel ho hle (Nat.le_of_lt hz.lt), by rw [HN.out]; exact HV'.out⟩
          case measure => simp [intOf]; omega
        · obtain rfl : k = B.size := by omega
          have hv0 : wval f = num54 A.data.toList B.data.toList := by
            have := HV.out
            rw [List.take_of_length_le (by simp)] at this
            rw [this]
            unfold num54
            rw [Nat.add_mul, Nat.mul_assoc, ← Nat.pow_add]
            have e : B.data.toList.length = B.size := by simp
            rw [e]
            congr 3
            omega
          have HV0 := Lib.hid hv0
          clear hv0
          go_wp2_with (first
            | ((with_reducible refine wpList_loadN (.tmp 8) w2.heap.size (by assumption) ?_ ?_ ?_ ?_); rfl; rfl; rfl)
            | ((with_reducible refine wpList_storeN (.tmp 2) (.tmp 52) w.heap.size (by assumption) hl.num ?_ ?_ ?_ ?_ ?_); rfl; rfl; rfl; rfl; intro w5 ho5 m5; have b5 := below_only hbel ho5 (Nat.le_refl _) (Nat.le_of_lt hz.lt)))
          exact bodyPost_ret (v := .tuple #[.agg c, .bool true]) (results_num_tmp (p := 2) (q := 3) Tryd.results49 _ (.bool true) rfl rfl m5) rfl ⟨c, f, rfl, hl.num, HV0.out, b5⟩

end Go.Proofs.YtoifjjgakblhhaaDoor
