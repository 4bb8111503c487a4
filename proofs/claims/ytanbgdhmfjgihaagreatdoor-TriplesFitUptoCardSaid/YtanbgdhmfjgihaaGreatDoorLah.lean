/- Texts of one kind, one behind the other: each says ahead of itself what it shows. -/
import Derived.Test.YtanbgdhmfjgihaaGreatDoorLad
import Derived.Test.YtanbgdhmfjgihaaGreatDoorLag
import Derived.Deep.WholeRow
import Derived.Laws.IdiomStrings
import Derived.WalkMore
import Derived.Deep.LoopGhost
import Derived.OwnWalk
import Derived.Lib.ItoaMem
/- parse: a decimal as a number. -/
namespace Go.Proofs.YtanbgdhmfjgihaaGreatDoor
open Go.RowKit

theorem putStep (g : Nat) (c : Array Value) (n : Bool) (f : Nat → Nat) (M q x : Nat) (p d : Int) (w : World) (hl : Lies w g c n f) (hpq : p = q) (hp : q ≤ 143) (hd0 : d = 48 + x) (hd : x ≤ 9) (hv : wval f = M * 10 ^ (q + 1)) :
    Calls Tryz.prog 223 #[.pointer (some ⟨g, 0, none⟩), .int .i64 p, .int .u8 d] w fun e w' => e = .returned (.tuple #[]) ∧ Only g w w' ∧
      ∃ c' f', Lies w' g c' n f' ∧ wval f' = (M * 10 + x) * 10 ^ q := by
  subst hpq hd0
  have hx : ((48 : Int) + x - 48).toNat = x := by omega
  have e1 : ((q : Int) / 9).toNat = q / 9 := by omega
  have e2 : ((q : Int) % 9).toNat = q % 9 := by omega
  have hr := room f hl.num.lt M q (by omega) hv
  have hroom : (f ((q : Int) / 9).toNat : Int) + ((48 : Int) + x - 48) * ten ((q : Int) % 9).toNat < 1000000000 := by
    rw [e1, e2]
    unfold ten
    have h1 : x * 10 ^ (q % 9) ≤ 9 * 10 ^ (q % 9) := Nat.mul_le_mul_right _ (by omega)
    have h2 : ((48 : Int) + x - 48) * ((10 ^ (q % 9) : Nat) : Int) = ((x * 10 ^ (q % 9) : Nat) : Int) := by
      rw [Int.natCast_mul]; congr 1; omega
    rw [h2]
    unfold BASE at hr
    omega
  refine (putAt g c n f q _ w hl.heap hl.num (by omega) (by omega) (by omega) (by omega) hroom).mono ?_
  rintro e w' ⟨rfl, ho, c', hh, hn⟩
  refine ⟨rfl, ho, c', _, lies_mk hh hn, ?_⟩
  rw [e1, e2, hx]
  unfold ten
  rw [put_val f q _ (by omega), hv, Nat.add_mul, Nat.pow_succ]
  congr 1
  ac_rfl

theorem take_val (l : List UInt8) (k : Nat) (h : k < l.length) : valD (l.take (k + 1)) = valD (l.take k) * 10 + (l[k].toNat - 48) := by
  rw [List.take_succ_eq_append_getElem h, valD_append]
  simp [valD]
theorem byte_at (A : ByteArray) (k : Nat) (h : k < A.size) : A[k] = A.data.toList[k]'(by simpa using h) := by
  simp [ByteArray.getElem_eq_getElem_data]
theorem byte_dig (A : ByteArray) (hA : A.data.toList.all isDig = true) (k : Nat) (h : k < A.size) : 48 ≤ A[k].toNat ∧ A[k].toNat ≤ 57 := by
  rw [byte_at A k h]
  exact dig_le (List.all_eq_true.1 hA _ (List.getElem_mem _))

set_option maxHeartbeats 1600000 in
theorem parseYes (s A B : ByteArray) (n : Bool) (w : World) (hG : Gd w) (hs : s.size < 4294967281) (h : chk s.data.toList = true) (hsp : splitP s.data.toList = some (n, A.data.toList, B.data.toList))
    (hA : A.data.toList.all isDig = true) (hB : B.data.toList.all isDig = true) (lA : A.size ≤ 40) (lB : B.size ≤ 20) :
    Calls Tryz.prog 213 #[.string s] w fun e w' => ∃ c f, e = .returned (.tuple #[.agg c, .bool true]) ∧ IsNum c n f ∧ wval f = num54 A.data.toList B.data.toList ∧ Low w.heap.size w w' := by
  have hc : ∀ W, Gd W → Calls Tryz.prog 108 #[.string s] W fun e w' => e = .returned (.bool true) ∧ Low W.heap.size W w' := fun W hW => by
    have := checkAt s W hW hs
    rwa [h] at this
  have hc2 : ∀ W, Gd W → Calls Tryz.prog 178 #[.string s] W fun e w' => e = .returned (.tuple #[.bool n, .string A, .string B, .bool true]) ∧ Low W.heap.size W w' := fun W hW => by
    have := splitAt s W hW hs
    rw [hsp] at this
    exact this
  have HC := Lib.hid hc
  have HS := Lib.hid hc2
  clear hc h hc2 hsp
  have l0 := lies_zero w rfl
  have g0 := hG.alloc (.cells #[.bool false, .int .u32 0, .int .u32 0, .int .u32 0, .int .u32 0, .int .u32 0, .int .u32 0, .int .u32 0, .int .u32 0, .int .u32 0, .int .u32 0, .int .u32 0, .int .u32 0, .int .u32 0, .int .u32 0, .int .u32 0, .int .u32 0] 229)
  have b0 := (Low.refl w.heap.size w).alloc (Nat.le_refl _) (.cells #[.bool false, .int .u32 0, .int .u32 0, .int .u32 0, .int .u32 0, .int .u32 0, .int .u32 0, .int .u32 0, .int .u32 0, .int .u32 0, .int .u32 0, .int .u32 0, .int .u32 0, .int .u32 0, .int .u32 0, .int .u32 0, .int .u32 0] 229)
  go_enter Tryz.func213, Tryz.ntmps213
  go_wp2_with (first
    | (go_at_call 108; (with_reducible refine (HC.out _ g0).mono ?_); rintro e w1 ⟨rfl, hb⟩; have l1 := l0.below hb.is; have b1 := low_any b0 hb (Nat.le_of_lt l0.lt); have g1 := g0.below hb.is)
    | (go_at_call 178; (with_reducible refine (HS.out _ g1).mono ?_); rintro e w2 ⟨rfl, hb2⟩; have l2 := l1.below hb2.is; have b2 := low_any b1 hb2 (Nat.le_of_lt l1.lt)))
  have l3 := lies_sign w2 n rfl
  have k3 := l2.alloc (.cells #[.bool n, .int .u32 0, .int .u32 0, .int .u32 0, .int .u32 0, .int .u32 0, .int .u32 0, .int .u32 0, .int .u32 0, .int .u32 0, .int .u32 0, .int .u32 0, .int .u32 0, .int .u32 0, .int .u32 0, .int .u32 0, .int .u32 0] 229)
  have b3 := b2.alloc (Nat.le_of_lt l2.lt) (.cells #[.bool n, .int .u32 0, .int .u32 0, .int .u32 0, .int .u32 0, .int .u32 0, .int .u32 0, .int .u32 0, .int .u32 0, .int .u32 0, .int .u32 0, .int .u32 0, .int .u32 0, .int .u32 0, .int .u32 0, .int .u32 0, .int .u32 0] 229)
  have hne : w.heap.size ≠ w2.heap.size := Nat.ne_of_lt l2.lt
  have hle : w.heap.size ≤ w2.heap.size := Nat.le_of_lt l2.lt
  go_loopw [26] (fun i wr => ∃ (k : Nat) (c : Array Value) (f : Nat → Nat), k ≤ A.size ∧ i = .int .i64 k ∧ Lies wr w2.heap.size c n f ∧ Lies wr w.heap.size zero59 false (fun _ => 0) ∧ Low w.heap.size w wr ∧ wval f = valD (A.data.toList.take k) * 10 ^ (54 + A.size - k)) (fun i _ => A.size - (intOf i).toNat)
  case atStart =>
    exact ⟨0, _, _, Nat.zero_le _, rfl, l3, k3, b3, by simp [valD, wval, vN]⟩
  case round =>
    obtain ⟨k, c, f, hk, rfl, hl, hz, hbel, hv⟩ := hrel
    have HV := Lib.hid hv
    clear hv
    by_cases hlt : k < A.size
    · have hd := byte_dig A hA k hlt
      obtain ⟨x, hx⟩ : ∃ x, A[k].toNat = 48 + x := ⟨A[k].toNat - 48, by omega⟩
      have hx1 : (A[k].toNat : Int) = 48 + x := by omega
      have hx9 : x ≤ 9 := by omega
      have hd2 : (A[k].toNat : Int) ≤ 57 := by omega
      obtain ⟨q, hq⟩ : ∃ q, q = 54 + A.size - (k + 1) := ⟨_, rfl⟩
      have hq1 : q ≤ 143 := by omega
      have hnew : valD (A.data.toList.take (k + 1)) * 10 ^ (54 + A.size - (k + 1)) = (valD (A.data.toList.take k) * 10 + x) * 10 ^ q := by
        rw [take_val _ k (by simpa using hlt), ← hq, ← byte_at A k hlt]
        congr 2
        omega
      have hold : wval f = valD (A.data.toList.take k) * 10 ^ (q + 1) := by rw [HV.out]; congr 2; omega
      have HQ := Lib.hid hq
      have HN := Lib.hid hnew
      have HO := Lib.hid hold
      have HX := Lib.hid hx1
      clear hd hx hq hnew hold hx1
      go_wp2_with (go_at_call 223; (with_reducible refine (putStep _ _ _ _ (valD (A.data.toList.take k)) q x _ _ _ hl ?_ hq1 HX.out hx9 HO.out).mono ?_); (have := HQ.out; omega); rintro e w3 ⟨rfl, ho, c', f', hl', hv'⟩; have HV' := Lib.hid hv'; clear hv')
      go_roundw
      case rel => exact ⟨k + 1, c', f', by omega, by go_num, hl', hz.only ho hne, low_only hbel ho hle (Nat.le_of_lt hz.lt), by rw [HN.out]; exact HV'.out⟩
      case measure => simp [intOf]; omega
    · obtain rfl : k = A.size := by omega
      have hv0 : wval f = valD A.data.toList * 10 ^ 54 := by
        have := HV.out
        rw [List.take_of_length_le (by simp), show 54 + A.size - A.size = 54 by omega] at this
        exact this
      have HV0 := Lib.hid hv0
      clear hv0
      go_wp2_with fail
      obtain ⟨wo, rfl⟩ : ∃ wo : World, wo = wr := ⟨_, rfl⟩
      go_loopw [42] (fun i wr => ∃ (k : Nat) (c : Array Value) (f : Nat → Nat), k ≤ B.size ∧ i = .int .i64 k ∧ Lies wr w2.heap.size c n f ∧ Lies wr w.heap.size zero59 false (fun _ => 0) ∧ Low w.heap.size w wr ∧ wval f = (valD A.data.toList * 10 ^ k + valD (B.data.toList.take k)) * 10 ^ (54 - k)) (fun i _ => B.size - (intOf i).toNat)
      case atStart => exact ⟨0, c, f, Nat.zero_le _, rfl, hl, hz, hbel, by rw [HV0.out]; simp [valD]⟩
      case round =>
        clear hl hz hbel HV HV0
        obtain ⟨k, c, f, hk, rfl, hl, hz, hbel, hv⟩ := hrel
        have HV := Lib.hid hv
        clear hv
        by_cases hlt : k < B.size
        · have hd := byte_dig B hB k hlt
          obtain ⟨x, hx⟩ : ∃ x, B[k].toNat = 48 + x := ⟨B[k].toNat - 48, by omega⟩
          have hx1 : (B[k].toNat : Int) = 48 + x := by omega
          have hx9 : x ≤ 9 := by omega
          have hd2 : (B[k].toNat : Int) ≤ 57 := by omega
          obtain ⟨q, hq⟩ : ∃ q, q = 54 - (k + 1) := ⟨_, rfl⟩
          have hq1 : q ≤ 143 := by omega
          have hnew : (valD A.data.toList * 10 ^ (k + 1) + valD (B.data.toList.take (k + 1))) * 10 ^ (54 - (k + 1)) = ((valD A.data.toList * 10 ^ k + valD (B.data.toList.take k)) * 10 + x) * 10 ^ q := by
            rw [take_val _ k (by simpa using hlt), ← hq, ← byte_at B k hlt, Nat.pow_succ]
            congr 1
            have : B[k].toNat - 48 = x := by omega
            rw [this, Nat.add_mul, Nat.mul_assoc]
            omega
          have hold : wval f = (valD A.data.toList * 10 ^ k + valD (B.data.toList.take k)) * 10 ^ (q + 1) := by rw [HV.out]; congr 2; omega
          have HQ := Lib.hid hq
          have HN := Lib.hid hnew
          have HO := Lib.hid hold
          have HX := Lib.hid hx1
          clear hd hx hq hnew hold hx1
          go_wp2_with (go_at_call 223; (with_reducible refine (putStep _ _ _ _ (valD A.data.toList * 10 ^ k + valD (B.data.toList.take k)) q x _ _ _ hl ?_ hq1 HX.out hx9 HO.out).mono ?_); (have := HQ.out; omega); rintro e w3 ⟨rfl, ho, c', f', hl', hv'⟩; have HV' := Lib.hid hv'; clear hv')
          go_roundw
          case rel => exact ⟨k + 1, c', f', by omega, by go_num, hl', hz.only ho hne, low_only hbel ho hle (Nat.le_of_lt hz.lt), by rw [HN.out]; exact HV'.out⟩
          case measure => simp [intOf]; omega
        · obtain rfl : k = B.size := by omega
          have hv0 : wval f = num54 A.data.toList B.data.toList := by
            have := HV.out
            rw [List.take_of_length_le (by simp)] at this
            rw [this]
            unfold num54
            rw [Nat.add_mul, Nat.mul_assoc, ← Nat.pow_add]
            have e : B.data.toList.length = B.size := by simp
            rw [e]
            congr 3
            omega
          have HV0 := Lib.hid hv0
          clear hv0
          go_wp2_with (first
            | ((with_reducible refine wpList_loadN (.tmp 8) w2.heap.size (by assumption) ?_ ?_ ?_ ?_); rfl; rfl; rfl)
            | ((with_reducible refine wpList_storeN (.tmp 2) (.tmp 52) w.heap.size (by assumption) hl.num ?_ ?_ ?_ ?_ ?_); rfl; rfl; rfl; rfl; intro w5 ho5 m5; have b5 := low_only hbel ho5 (Nat.le_refl _) (Nat.le_of_lt hz.lt)))
          exact bodyPost_ret (v := .tuple #[.agg c, .bool true]) (results_num_tmp (p := 2) (q := 3) Tryz.results213 _ (.bool true) rfl rfl m5) rfl ⟨c, f, rfl, hl.num, HV0.out, b5⟩

end Go.Proofs.YtanbgdhmfjgihaaGreatDoor

/- text: a number as a text. -/
namespace Go.Proofs.YtanbgdhmfjgihaaGreatDoor
open Go.RowKit

/-- The digits' cells, the highest digit first. -/
structure IsDigs (d : Array Value) (k N : Nat) : Prop where
  size : d.size = 144
  at_ : ∀ j, 144 - k ≤ j → j < 144 → d[j]? = some (.int .u8 ((digAt N (143 - j)).toNat : Int))

end Go.Proofs.YtanbgdhmfjgihaaGreatDoor

/- parseBoth. -/
namespace Go.Proofs.YtanbgdhmfjgihaaGreatDoor
open Go.RowKit

theorem parseDec (s : ByteArray) (w : World) (hG : Gd w) (hs : s.size < 4294967281) (h : chk s.data.toList = true) :
    Calls Tryz.prog 213 #[.string s] w fun e w' => ∃ c f, e = .returned (.tuple #[.agg c, .bool true]) ∧ IsNum c (dsign s.data.toList) f ∧ wval f = damt s.data.toList ∧ Low w.heap.size w w' := by
  obtain ⟨n, a, b, hsp, ha, hb, la, lb, _, _⟩ := chk_parts _ h
  have e1 : dsign s.data.toList = n := by unfold dsign; rw [hsp]; rfl
  have e2 : damt s.data.toList = num54 a b := by unfold damt; rw [hsp]; rfl
  rw [e1, e2]
  exact parseYes s (bs a) (bs b) n w hG hs h hsp ha hb (by simpa [ByteArray.size] using la) (by simpa [ByteArray.size] using lb)

set_option maxRecDepth 20000 in
set_option maxHeartbeats 1600000 in
theorem bothYes (s t : ByteArray) (w : World) (hG : Gd w) (hs : s.size < 4294967281) (ht : t.size < 4294967281) (h : chk s.data.toList = true) (h2 : chk t.data.toList = true) :
    Calls Tryz.prog 205 #[.string s, .string t] w fun e w' => ∃ c d f g, e = .returned (.tuple #[.agg c, .agg d, .bool true]) ∧ IsNum c (dsign s.data.toList) f ∧ wval f = damt s.data.toList ∧
      IsNum d (dsign t.data.toList) g ∧ wval g = damt t.data.toList ∧ Low w.heap.size w w' := by
  have hc : ∀ W, Gd W → Calls Tryz.prog 213 #[.string s] W fun e w' => ∃ c f, e = .returned (.tuple #[.agg c, .bool true]) ∧ IsNum c (dsign s.data.toList) f ∧ wval f = damt s.data.toList ∧ Low W.heap.size W w' := fun W hW => parseDec s W hW hs h
  have hc2 : ∀ W, Gd W → Calls Tryz.prog 213 #[.string t] W fun e w' => ∃ c f, e = .returned (.tuple #[.agg c, .bool true]) ∧ IsNum c (dsign t.data.toList) f ∧ wval f = damt t.data.toList ∧ Low W.heap.size W w' := fun W hW => parseDec t W hW ht h2
  have HC := Lib.hid hc
  have HC2 := Lib.hid hc2
  generalize dsign s.data.toList = sn at *
  generalize damt s.data.toList = sx at *
  generalize dsign t.data.toList = tn at *
  generalize damt t.data.toList = tx at *
  clear hc hc2 h h2 hs ht
  have l1 : Lies ((w.alloc (.cells #[.bool false, .int .u32 0, .int .u32 0, .int .u32 0, .int .u32 0, .int .u32 0, .int .u32 0, .int .u32 0, .int .u32 0, .int .u32 0, .int .u32 0, .int .u32 0, .int .u32 0, .int .u32 0, .int .u32 0, .int .u32 0, .int .u32 0] 229)).alloc (.cells #[.bool false, .int .u32 0, .int .u32 0, .int .u32 0, .int .u32 0, .int .u32 0, .int .u32 0, .int .u32 0, .int .u32 0, .int .u32 0, .int .u32 0, .int .u32 0, .int .u32 0, .int .u32 0, .int .u32 0, .int .u32 0, .int .u32 0] 229)) w.heap.size zero59 false (fun _ => 0) := (lies_zero _ rfl).alloc _
  have l2 : Lies ((w.alloc (.cells #[.bool false, .int .u32 0, .int .u32 0, .int .u32 0, .int .u32 0, .int .u32 0, .int .u32 0, .int .u32 0, .int .u32 0, .int .u32 0, .int .u32 0, .int .u32 0, .int .u32 0, .int .u32 0, .int .u32 0, .int .u32 0, .int .u32 0] 229)).alloc (.cells #[.bool false, .int .u32 0, .int .u32 0, .int .u32 0, .int .u32 0, .int .u32 0, .int .u32 0, .int .u32 0, .int .u32 0, .int .u32 0, .int .u32 0, .int .u32 0, .int .u32 0, .int .u32 0, .int .u32 0, .int .u32 0, .int .u32 0] 229)) (w.heap.size + 1) zero59 false (fun _ => 0) := lies_zero _ (by simp)
  have g0 := (hG.alloc (.cells #[.bool false, .int .u32 0, .int .u32 0, .int .u32 0, .int .u32 0, .int .u32 0, .int .u32 0, .int .u32 0, .int .u32 0, .int .u32 0, .int .u32 0, .int .u32 0, .int .u32 0, .int .u32 0, .int .u32 0, .int .u32 0, .int .u32 0] 229)).alloc (.cells #[.bool false, .int .u32 0, .int .u32 0, .int .u32 0, .int .u32 0, .int .u32 0, .int .u32 0, .int .u32 0, .int .u32 0, .int .u32 0, .int .u32 0, .int .u32 0, .int .u32 0, .int .u32 0, .int .u32 0, .int .u32 0, .int .u32 0] 229)
  have hb0 := ((Low.refl w.heap.size w).alloc (Nat.le_refl _) (.cells #[.bool false, .int .u32 0, .int .u32 0, .int .u32 0, .int .u32 0, .int .u32 0, .int .u32 0, .int .u32 0, .int .u32 0, .int .u32 0, .int .u32 0, .int .u32 0, .int .u32 0, .int .u32 0, .int .u32 0, .int .u32 0, .int .u32 0] 229)).alloc (by simp) (.cells #[.bool false, .int .u32 0, .int .u32 0, .int .u32 0, .int .u32 0, .int .u32 0, .int .u32 0, .int .u32 0, .int .u32 0, .int .u32 0, .int .u32 0, .int .u32 0, .int .u32 0, .int .u32 0, .int .u32 0, .int .u32 0, .int .u32 0] 229)
  go_enter Tryz.func205, Tryz.ntmps205
  go_wp2_with (first
    | (go_at_call 213; (with_reducible refine (HC.out _ g0).mono ?_); rintro e w1 ⟨c, f, rfl, hn, hv, hb⟩; have HV := Lib.hid hv; clear hv; have q1 := l1.below hb.is; have q2 := l2.below hb.is; have g1 := g0.below hb.is; have hb1 := low_any hb0 hb (Nat.le_of_lt l1.lt))
    | ((with_reducible refine wpList_storeN (.tmp 4) (.tmp 10) w.heap.size (by assumption) hn ?_ ?_ ?_ ?_ ?_); rfl; rfl; rfl; rfl; intro w2 ho p1; have p2 := q2.only ho (by omega); have hb2 := low_only hb1 ho (Nat.le_refl _) (Nat.le_of_lt q1.lt); have g2 : Gd w2 := hG.below hb2.is)
    | (go_at_call 213; (with_reducible refine (HC2.out _ g2).mono ?_); rintro e w3 ⟨d, g, rfl, hnd, hvd, hb⟩; have HVD := Lib.hid hvd; clear hvd; have r1 := p1.below hb.is; have r2 := p2.below hb.is; have hb3 := low_any hb2 hb (Nat.le_of_lt p1.lt))
    | ((with_reducible refine wpList_storeN (.tmp 5) (.tmp 19) (w.heap.size + 1) (by assumption) hnd ?_ ?_ ?_ ?_ ?_); rfl; rfl; rfl; rfl; intro w4 ho4 m2; have m1 := r1.only ho4 (by omega); have hb4 := low_only hb3 ho4 (by omega) (Nat.le_of_lt r1.lt)))
  refine wp_region_held_drew (S := fun w' => Lies w' w.heap.size c sn f ∧ Lies w' (w.heap.size + 1) d tn g ∧ Low w.heap.size w w') (by kernel_rfl) ⟨m1, m2, hb4.drew⟩ (fun hHeld => ?_)
  refine wpAnyH_take (i := 0) rfl (by kernel_rfl) (by kernel_rfl) (by kernel_rfl) (fun _ _ _ h => h) (yieldsIf_loadN (by rfl) (.tmp 4) rfl w.heap.size rfl c sn f (fun _ h => h.1)) hHeld ?_
  try simp only [Act.put, List.setIfInBounds_toArray]
  refine wpAnyH_take (i := 1) rfl (by kernel_rfl) (by kernel_rfl) (by kernel_rfl) (fun _ _ _ h => h) (yieldsIf_loadN (by rfl) (.tmp 5) rfl (w.heap.size + 1) rfl d tn g (fun _ h => h.2.1)) hHeld ?_
  try simp only [Act.put]
  obtain ⟨u1, u2, u3⟩ := hHeld
  refine wpAnyH_ready (rs := [2]) (by kernel_rfl) (by simp) ?_
  refine AllReadyH.cons rfl (fun K hK => ?_) AllReadyH.nil
  rw [if_pos (by rfl)]
  refine wp_storeN (.tmp 4) (.tmp 25) rfl w.heap.size rfl rfl u1 hn (fun w5 ho5 x1 => ?_)
  refine hK.out _ _ ⟨x1, u2.only ho5 (by omega), low_only u3 ho5 (Nat.le_refl _) (Nat.le_of_lt u1.lt)⟩ (fun hHeld => ?_)
  clear hK K u1 u2 u3 x1 ho5
  try simp only [Act.put]
  obtain ⟨u1, u2, u3⟩ := hHeld
  refine wpAnyH_ready (rs := [3]) (by kernel_rfl) (by simp) ?_
  refine AllReadyH.cons rfl (fun K hK => ?_) AllReadyH.nil
  rw [if_pos (by rfl)]
  refine wp_storeN (.tmp 5) (.tmp 26) rfl (w.heap.size + 1) rfl rfl u2 hnd (fun w6 ho6 x2 => ?_)
  refine hK.out _ _ ⟨u1.only ho6 (by omega), x2, low_only u3 ho6 (by omega) (Nat.le_of_lt u1.lt)⟩ (fun hHeld => ?_)
  clear hK K u1 u2 u3 x2 ho6
  try simp only [Act.put]
  obtain ⟨u1, u2, u3⟩ := hHeld
  refine wpAnyH_ready (rs := [4]) (by kernel_rfl) (by simp) ?_
  refine AllReadyH.cons rfl (fun K hK => ?_) AllReadyH.nil
  go_simp
  refine hK.out _ _ ⟨u1, u2, u3⟩ (fun hHeld => ?_)
  clear hK K hHeld
  try simp only [Act.put, List.setIfInBounds_toArray, List.set_cons_zero, List.set_cons_succ]
  refine wpAnyH_done (by kernel_rfl) ?_ _
  go_wp2_with fail
  exact bodyPost_ret (v := .tuple #[.agg c, .agg d, .bool true]) (results_num2_tmp (p := 4) (p2 := 5) (q := 6) Tryz.results205 _ (.bool true) rfl rfl rfl u1 u2) rfl ⟨c, d, f, g, rfl, hn, HV.out, hnd, HVD.out, u3⟩

end Go.Proofs.YtanbgdhmfjgihaaGreatDoor

/- reckon, Add, Sub. -/
namespace Go.Proofs.YtanbgdhmfjgihaaGreatDoor
open Go.RowKit

end Go.Proofs.YtanbgdhmfjgihaaGreatDoor

/- Long division, digit by digit. No Go stands here. -/
namespace Go.Proofs.YtanbgdhmfjgihaaGreatDoor

/-- The digits qs have been found of the first t of 164 digits of N by m; R is left. -/
structure OverTo (N m t R : Nat) (qs : List UInt8) : Prop where
  len : qs.length = t
  dig : qs.all isDig = true
  eq : valD qs * m + R = N / 10 ^ (164 - t)
  lt : R < m

theorem OverTo.zero {N m : Nat} (hN : N < 10 ^ 164) (hm : 0 < m) : OverTo N m 0 0 [] :=
  ⟨rfl, rfl, by rw [Nat.sub_zero, Nat.div_eq_of_lt hN]; simp [valD], hm⟩

theorem OverTo.done {N m R : Nat} {qs : List UInt8} (H : OverTo N m 164 R qs) : qs = digsOf (N / m) 0 164 := by
  have e := H.eq
  rw [Nat.sub_self, Nat.pow_zero, Nat.div_one] at e
  have hq : N / m = valD qs := by
    rw [← e]
    have := H.lt
    rw [Nat.mul_comm, Nat.mul_add_div (by omega), Nat.div_eq_of_lt this, Nat.add_zero]
  have hl := valD_lt qs H.dig
  rw [H.len] at hl
  refine eq_of_val _ _ H.dig (digsOf_dig _ _ _) (by rw [H.len, digsOf_len]) ?_
  rw [digsOf_val, Nat.pow_zero, Nat.div_one, hq, Nat.mod_eq_of_lt hl]

theorem PushTo.done {f h : Nat → Nat} {d c : Nat} (H : PushTo f d h c 16) (hs : wval f * 10 + d < BASE ^ 16) : wval h = wval f * 10 + d := by
  have s := H.sum
  have hc : c = 0 := by
    by_cases e : c = 0
    · exact e
    · have : 1 * BASE ^ 16 ≤ c * BASE ^ 16 := Nat.mul_le_mul_right _ (by omega)
      unfold wval at hs; omega
  subst hc
  unfold wval at *; omega

end Go.Proofs.YtanbgdhmfjgihaaGreatDoor

/- over: the quotient's digits. -/
namespace Go.Proofs.YtanbgdhmfjgihaaGreatDoor
open Go.RowKit

/-- The bytes of a list, as values. -/
def vals (l : List UInt8) : List Value := l.map fun b => .int .u8 (b.toNat : Int)
end Go.Proofs.YtanbgdhmfjgihaaGreatDoor

/- compare. -/
namespace Go.Proofs.YtanbgdhmfjgihaaGreatDoor
open Go.RowKit

theorem cmpFT (c d : Array Value) (f g : Nat → Nat) (w : World) (hc : IsNum c false f) (hd : IsNum d true g) :
    Calls Tryz.prog 206 #[.agg c, .agg d] w fun e w' => e = .returned (.int .i64 1) ∧ Low w.heap.size w w' := by
  have h0 : ((w.alloc (.cells c 229)).alloc (.cells d 229)).cell? ⟨w.heap.size, 0, none⟩ = some (.bool false) := cell_of (heap_old _ (heap_new _ _ rfl)) _ hc.neg
  have h1 : ((w.alloc (.cells c 229)).alloc (.cells d 229)).cell? ⟨w.heap.size + 1, 0, none⟩ = some (.bool true) := cell_of (heap_new _ _ (by simp)) _ hd.neg
  go_enter Tryz.func206, Tryz.ntmps206
  go_wp2_with fail
  go_ret
  exact ⟨rfl, ((Low.refl _ _).alloc (Nat.le_refl _) _).alloc (by simp) _⟩

set_option maxHeartbeats 800000 in
theorem cmpFF (c d : Array Value) (f g : Nat → Nat) (w : World) (hc : IsNum c false f) (hd : IsNum d false g) :
    Calls Tryz.prog 206 #[.agg c, .agg d] w fun e w' => e = .returned (.int .i64 (cmpI (wval f) (wval g))) ∧ Low w.heap.size w w' := by
  have h0 : ((w.alloc (.cells c 229)).alloc (.cells d 229)).cell? ⟨w.heap.size, 0, none⟩ = some (.bool false) := cell_of (heap_old _ (heap_new _ _ rfl)) _ hc.neg
  have h1 : ((w.alloc (.cells c 229)).alloc (.cells d 229)).cell? ⟨w.heap.size + 1, 0, none⟩ = some (.bool false) := cell_of (heap_new _ _ (by simp)) _ hd.neg
  have b1 : ((w.alloc (.cells c 229)).alloc (.cells d 229)).heap[w.heap.size]? = some (.cells c 229) := heap_old _ (heap_new _ _ rfl)
  have b2 : ((w.alloc (.cells c 229)).alloc (.cells d 229)).heap[w.heap.size + 1]? = some (.cells d 229) := heap_new _ _ (by simp)
  have hb : Low w.heap.size w ((w.alloc (.cells c 229)).alloc (.cells d 229)) := ((Low.refl _ _).alloc (Nat.le_refl _) _).alloc (by simp) _
  have hs : w.heap.size ≤ ((w.alloc (.cells c 229)).alloc (.cells d 229)).heap.size := by simp; omega
  have B1 := Lib.hid b1
  have B2 := Lib.hid b2
  clear b1 b2
  go_enter Tryz.func206, Tryz.ntmps206
  go_wp2_with (first
      | ((with_reducible refine wpList_load_num w.heap.size c ?_ ?_ (.tmp 2) ?_ ?_ ?_ ?_); exact B1.out; exact hc.size; rfl; rfl; rfl)
      | ((with_reducible refine wpList_load_num (w.heap.size + 1) d ?_ ?_ (.tmp 3) ?_ ?_ ?_ ?_); exact B2.out; exact hd.size; rfl; rfl; rfl)
      | (go_at_call 214; (with_reducible refine (cmpAmt c d _ _ _ _ hc hd _).mono ?_); rintro e w' ⟨rfl, hbel⟩))
  go_ret
  exact ⟨rfl, low_any hb hbel hs⟩
theorem cmpTF (c d : Array Value) (f g : Nat → Nat) (w : World) (hc : IsNum c true f) (hd : IsNum d false g) :
    Calls Tryz.prog 206 #[.agg c, .agg d] w fun e w' => e = .returned (.int .i64 (-1)) ∧ Low w.heap.size w w' := by
  have h0 : ((w.alloc (.cells c 229)).alloc (.cells d 229)).cell? ⟨w.heap.size, 0, none⟩ = some (.bool true) := cell_of (heap_old _ (heap_new _ _ rfl)) _ hc.neg
  have h1 : ((w.alloc (.cells c 229)).alloc (.cells d 229)).cell? ⟨w.heap.size + 1, 0, none⟩ = some (.bool false) := cell_of (heap_new _ _ (by simp)) _ hd.neg
  go_enter Tryz.func206, Tryz.ntmps206
  go_wp2_with fail
  go_ret
  exact ⟨rfl, ((Low.refl _ _).alloc (Nat.le_refl _) _).alloc (by simp) _⟩

set_option maxHeartbeats 800000 in
theorem cmpTT (c d : Array Value) (f g : Nat → Nat) (w : World) (hc : IsNum c true f) (hd : IsNum d true g) :
    Calls Tryz.prog 206 #[.agg c, .agg d] w fun e w' => e = .returned (.int .i64 (cmpI (wval g) (wval f))) ∧ Low w.heap.size w w' := by
  have h0 : ((w.alloc (.cells c 229)).alloc (.cells d 229)).cell? ⟨w.heap.size, 0, none⟩ = some (.bool true) := cell_of (heap_old _ (heap_new _ _ rfl)) _ hc.neg
  have h1 : ((w.alloc (.cells c 229)).alloc (.cells d 229)).cell? ⟨w.heap.size + 1, 0, none⟩ = some (.bool true) := cell_of (heap_new _ _ (by simp)) _ hd.neg
  have b1 : ((w.alloc (.cells c 229)).alloc (.cells d 229)).heap[w.heap.size]? = some (.cells c 229) := heap_old _ (heap_new _ _ rfl)
  have b2 : ((w.alloc (.cells c 229)).alloc (.cells d 229)).heap[w.heap.size + 1]? = some (.cells d 229) := heap_new _ _ (by simp)
  have hb : Low w.heap.size w ((w.alloc (.cells c 229)).alloc (.cells d 229)) := ((Low.refl _ _).alloc (Nat.le_refl _) _).alloc (by simp) _
  have hs : w.heap.size ≤ ((w.alloc (.cells c 229)).alloc (.cells d 229)).heap.size := by simp; omega
  have B1 := Lib.hid b1
  have B2 := Lib.hid b2
  clear b1 b2
  go_enter Tryz.func206, Tryz.ntmps206
  go_wp2_with (first
      | ((with_reducible refine wpList_load_num w.heap.size c ?_ ?_ (.tmp 2) ?_ ?_ ?_ ?_); exact B1.out; exact hc.size; rfl; rfl; rfl)
      | ((with_reducible refine wpList_load_num (w.heap.size + 1) d ?_ ?_ (.tmp 3) ?_ ?_ ?_ ?_); exact B2.out; exact hd.size; rfl; rfl; rfl)
      | (go_at_call 214; (with_reducible refine (cmpAmt d c _ _ _ _ hd hc _).mono ?_); rintro e w' ⟨rfl, hbel⟩))
  go_ret
  exact ⟨rfl, low_any hb hbel hs⟩
theorem cmpS_ff (x y : Nat) : cmpS false x false y = cmpI x y := by simp [cmpS]
theorem cmpS_ft (x y : Nat) : cmpS false x true y = 1 := by simp [cmpS]
theorem cmpS_tf (x y : Nat) : cmpS true x false y = -1 := by simp [cmpS]
theorem cmpS_tt (x y : Nat) : cmpS true x true y = cmpI y x := by simp [cmpS]

theorem cmpNum (c d : Array Value) (n m : Bool) (f g : Nat → Nat) (w : World) (hc : IsNum c n f) (hd : IsNum d m g) :
    Calls Tryz.prog 206 #[.agg c, .agg d] w fun e w' => e = .returned (.int .i64 (cmpS n (wval f) m (wval g))) ∧ Low w.heap.size w w' := by
  cases n <;> cases m
  · rw [cmpS_ff]; exact cmpFF c d f g w hc hd
  · rw [cmpS_ft]; exact cmpFT c d f g w hc hd
  · rw [cmpS_tf]; exact cmpTF c d f g w hc hd
  · rw [cmpS_tt]; exact cmpTT c d f g w hc hd

end Go.Proofs.YtanbgdhmfjgihaaGreatDoor

/- The laws of decimals, as laws of whole numbers. No Go stands here. -/
namespace Go.Proofs.YtanbgdhmfjgihaaGreatDoor

/-- -1, 0 or 1. -/
def cmpZ (x y : Int) : Int := if x < y then -1 else if y < x then 1 else 0

theorem cmpZ_swap (x y : Int) : cmpZ y x = -cmpZ x y := by unfold cmpZ; split <;> split <;> (try split) <;> omega
end Go.Proofs.YtanbgdhmfjgihaaGreatDoor

/- Div, Neg, Compare. -/
namespace Go.Proofs.YtanbgdhmfjgihaaGreatDoor
open Go.RowKit

theorem cmpS_val (l r : List UInt8) (h : chk l = true) (h2 : chk r = true) : cmpS (dsign l) (damt l) (dsign r) (damt r) = cmpZ (dval l) (dval r) := by
  have a := (chk_dec l h).2.2.2.1
  have b := (chk_dec r h2).2.2.2.1
  unfold dval sv cmpS cmpZ cmpI
  generalize damt l = x at *
  generalize damt r = y at *
  cases h3 : dsign l <;> cases h4 : dsign r <;> simp only [h3, h4, Bool.false_eq_true, if_false, if_true, Bool.not_true, Bool.not_false, Bool.and_true, Bool.and_false, Bool.and_self, Int.ofNat_lt, Int.neg_lt_neg_iff] at *
  · have := b trivial
    rw [if_neg (by omega), if_pos (by omega)]
  · have := a trivial
    rw [if_pos (by omega)]

set_option maxRecDepth 20000 in
set_option maxHeartbeats 1600000 in
theorem cmpYes (s t : ByteArray) (w : World) (hG : Gd w) (hs : s.size < 4294967281) (ht : t.size < 4294967281) (h : chk s.data.toList = true) (h2 : chk t.data.toList = true) :
    Calls Tryz.prog 193 #[.string s, .string t] w fun e w' => e = .returned (.int .i64 (cmpZ (dval s.data.toList) (dval t.data.toList))) ∧ Low w.heap.size w w' := by
  have hc : ∀ W, Gd W → Calls Tryz.prog 205 #[.string s, .string t] W fun e w' => ∃ c d f g, e = .returned (.tuple #[.agg c, .agg d, .bool true]) ∧ IsNum c (dsign s.data.toList) f ∧ wval f = damt s.data.toList ∧
      IsNum d (dsign t.data.toList) g ∧ wval g = damt t.data.toList ∧ Low W.heap.size W w' := fun W hW => bothYes s t W hW hs ht h h2
  have HC := Lib.hid hc
  obtain ⟨r, hr⟩ : ∃ r, r = cmpZ (dval s.data.toList) (dval t.data.toList) := ⟨_, rfl⟩
  have hcm : ∀ (c d : Array Value) (f g : Nat → Nat) W, IsNum c (dsign s.data.toList) f → wval f = damt s.data.toList → IsNum d (dsign t.data.toList) g → wval g = damt t.data.toList → Calls Tryz.prog 206 #[.agg c, .agg d] W fun e w' => e = .returned (.int .i64 r) ∧ Low W.heap.size W w' := fun c d f g W hc e1 hd e2 => by
    have := cmpNum c d _ _ f g W hc hd
    rwa [e1, e2, cmpS_val _ _ h h2, ← hr] at this
  have HCM := Lib.hid hcm
  rw [← hr]
  clear hc hcm h h2 hs ht hr
  go_enter Tryz.func193, Tryz.ntmps193
  go_wp2_with (first
    | (go_at_call 205; (with_reducible refine (HC.out _ hG).mono ?_); rintro e w1 ⟨c, d, f, g, rfl, hn, hx, hm, hy, hb⟩; have HX := Lib.hid hx; have HY := Lib.hid hy; clear hx hy; have l1 : Lies ((w1.alloc (.cells #[.bool false, .int .u32 0, .int .u32 0, .int .u32 0, .int .u32 0, .int .u32 0, .int .u32 0, .int .u32 0, .int .u32 0, .int .u32 0, .int .u32 0, .int .u32 0, .int .u32 0, .int .u32 0, .int .u32 0, .int .u32 0, .int .u32 0] 229)).alloc (.cells #[.bool false, .int .u32 0, .int .u32 0, .int .u32 0, .int .u32 0, .int .u32 0, .int .u32 0, .int .u32 0, .int .u32 0, .int .u32 0, .int .u32 0, .int .u32 0, .int .u32 0, .int .u32 0, .int .u32 0, .int .u32 0, .int .u32 0] 229)) w1.heap.size zero59 false (fun _ => 0) := (lies_zero _ rfl).alloc _; have l2 : Lies ((w1.alloc (.cells #[.bool false, .int .u32 0, .int .u32 0, .int .u32 0, .int .u32 0, .int .u32 0, .int .u32 0, .int .u32 0, .int .u32 0, .int .u32 0, .int .u32 0, .int .u32 0, .int .u32 0, .int .u32 0, .int .u32 0, .int .u32 0, .int .u32 0] 229)).alloc (.cells #[.bool false, .int .u32 0, .int .u32 0, .int .u32 0, .int .u32 0, .int .u32 0, .int .u32 0, .int .u32 0, .int .u32 0, .int .u32 0, .int .u32 0, .int .u32 0, .int .u32 0, .int .u32 0, .int .u32 0, .int .u32 0, .int .u32 0] 229)) (w1.heap.size + 1) zero59 false (fun _ => 0) := lies_zero _ (by simp); have hb1 : Low w.heap.size w ((w1.alloc (.cells #[.bool false, .int .u32 0, .int .u32 0, .int .u32 0, .int .u32 0, .int .u32 0, .int .u32 0, .int .u32 0, .int .u32 0, .int .u32 0, .int .u32 0, .int .u32 0, .int .u32 0, .int .u32 0, .int .u32 0, .int .u32 0, .int .u32 0] 229)).alloc (.cells #[.bool false, .int .u32 0, .int .u32 0, .int .u32 0, .int .u32 0, .int .u32 0, .int .u32 0, .int .u32 0, .int .u32 0, .int .u32 0, .int .u32 0, .int .u32 0, .int .u32 0, .int .u32 0, .int .u32 0, .int .u32 0, .int .u32 0] 229)) := (hb.alloc hb.size _).alloc (by have := hb.size; simp; omega) _; have hsz := hb.size)
    | ((with_reducible refine wpList_storeN (.tmp 5) (.tmp 12) w1.heap.size (by assumption) hn ?_ ?_ ?_ ?_ ?_); rfl; rfl; rfl; rfl; intro w2 ho p1; have p2 := l2.only ho (by omega); have hb2 := low_only hb1 ho hsz (Nat.le_of_lt (Nat.lt_of_le_of_lt hsz l1.lt)))
    | ((with_reducible refine wpList_storeN (.tmp 6) (.tmp 13) (w1.heap.size + 1) (by assumption) hm ?_ ?_ ?_ ?_ ?_); rfl; rfl; rfl; rfl; intro w3 ho3 q2; have q1 := p1.only ho3 (by omega); have hb3 := low_only hb2 ho3 (by omega) (Nat.le_of_lt (Nat.lt_of_le_of_lt hsz p1.lt)))
    | ((with_reducible refine wpList_loadN (.tmp 5) w1.heap.size (by assumption) ?_ ?_ ?_ ?_); rfl; rfl; rfl)
    | ((with_reducible refine wpList_loadN (.tmp 6) (w1.heap.size + 1) (by assumption) ?_ ?_ ?_ ?_); rfl; rfl; rfl)
    | (go_at_call 206; (with_reducible refine (HCM.out c d f g _ hn HX.out hm HY.out).mono ?_); rintro e w4 ⟨rfl, hb4⟩; have hb5 := low_any hb3 hb4 hb3.size))
  go_ret
  exact ⟨rfl, hb5⟩

end Go.Proofs.YtanbgdhmfjgihaaGreatDoor

/- The product of two rows of words, whose words outside 3 .. 10 are noughts. No Go stands here. -/
namespace Go.Proofs.YtanbgdhmfjgihaaGreatDoor

/-- Only the words from 3 to 10 may be other than 0. -/
def Mid (f : Nat → Nat) : Prop := ∀ j, j < 3 ∨ 11 ≤ j → j < 16 → f j = 0

theorem vN_low (f : Nat → Nat) (h : Mid f) : vN 3 f = 0 := by
  simp only [vN, h 0 (by omega) (by omega), h 1 (by omega) (by omega), h 2 (by omega) (by omega)]
  simp
theorem vN_mid (f : Nat → Nat) (h : Mid f) : vN 11 f = wval f := by
  have := vN_above f (fun _ => 0) 11 16 (by omega) (fun j a b => h j (by omega) b)
  have e : ∀ n, vN n (fun _ => 0) = 0 := by intro n; induction n with
    | zero => rfl
    | succ n ih => simp [vN, ih]
  rw [e, e] at this
  unfold wval; omega

/-- The outer loop: the words below i of f have been multiplied. -/
structure TimesI (f g p : Nat → Nat) (i : Nat) : Prop where
  val : wval p * BASE ^ 6 = vN i f * wval g
  words : Words p
  high : ∀ j, i + 5 ≤ j → j < 16 → p j = 0
/-- The inner loop: word i of f has been multiplied with the words below j of g. -/
structure TimesJ (f g p : Nat → Nat) (i j cr : Nat) : Prop where
  val : wval p * BASE ^ 6 + cr * BASE ^ (i + j) = vN i f * wval g + f i * BASE ^ i * vN j g
  words : Words p
  high : ∀ k, i + 5 ≤ k → k < 16 → p k = 0
  carry : cr < BASE

theorem wval_zero : wval (fun _ => 0) = 0 := by
  have e : ∀ n, vN n (fun _ => 0) = 0 := by intro n; induction n with
    | zero => rfl
    | succ n ih => simp [vN, ih]
  exact e 16
theorem TimesI.zero {f g : Nat → Nat} (hf : Mid f) : TimesI f g (fun _ => 0) 3 :=
  ⟨by rw [vN_low f hf, wval_zero, Nat.zero_mul, Nat.zero_mul], fun _ _ => by decide, fun _ _ _ => rfl⟩
theorem TimesI.inner {f g p : Nat → Nat} {i : Nat} (H : TimesI f g p i) (hg : Mid g) : TimesJ f g p i 3 0 :=
  ⟨by rw [vN_low g hg, H.val, Nat.zero_mul, Nat.mul_zero], H.words, H.high, by decide⟩
theorem TimesJ.outer {f g p : Nat → Nat} {i cr : Nat} (H : TimesJ f g p i 11 cr) (hg : Mid g) (hi : i < 11) : TimesI f g (upd p (i + 5) cr) (i + 1) := by
  refine ⟨?_, H.words.upd H.carry, ?_⟩
  · have hu := wval_upd p (i + 5) cr (by omega)
    rw [H.high (i + 5) (by omega) (by omega), Nat.zero_mul, Nat.add_zero] at hu
    have hv := H.val
    rw [vN_mid g hg] at hv
    have e6 : BASE ^ (i + 11) = BASE ^ (i + 5) * BASE ^ 6 := by rw [← Nat.pow_add]
    rw [hu, Nat.add_mul, Nat.mul_assoc, ← e6, hv]
    simp only [vN, Nat.add_mul]
  · intro k hk hk2
    rw [upd_other _ _ (by omega)]
    exact H.high k (by omega) hk2
theorem TimesI.done {f g p : Nat → Nat} (H : TimesI f g p 11) (hf : Mid f) : wval p * 10 ^ 54 = wval f * wval g := by
  have := H.val
  rw [vN_mid f hf, base_pow] at this
  exact this

end Go.Proofs.YtanbgdhmfjgihaaGreatDoor

/- times. -/
namespace Go.Proofs.YtanbgdhmfjgihaaGreatDoor
open Go.RowKit

theorem Lies.drewN {w : World} {g : Nat} {c : Array Value} {n : Bool} {f : Nat → Nat} (h : Lies w g c n f) (k : Nat) : Lies (w.drewN k) g c n f := h

end Go.Proofs.YtanbgdhmfjgihaaGreatDoor

/- Mul, Neg, OfInt. -/
namespace Go.Proofs.YtanbgdhmfjgihaaGreatDoor
open Go.RowKit

/-- The table of powers of ten is as the library's text lays it. -/
def Tab (w : World) : Prop := Lib.TabIs Tryz.prog w "internal/strconv.uint64pow10" .u64 Lib.pow10Tab

theorem var_below {P : Program} {w w' : World} {name : String} {cs : Array Value} (h : w.var? P name = some cs) (k : Below w.heap.size w w') : w'.var? P name = some cs := by
  unfold World.var? at *
  cases hg : P.globalNamed name with
  | none => rw [hg] at h; cases h
  | some g =>
    rw [hg] at h
    simp only [Option.bind_some] at h ⊢
    have hlt : g < w.heap.size := by
      by_cases e : g < w.heap.size
      · exact e
      · rw [Array.getElem?_eq_none (by omega)] at h; cases h
    rw [k.block g hlt]; exact h
theorem Tab.below {w w' : World} (h : Tab w) (k : Below w.heap.size w w') : Tab w' := by
  exact var_below h k

theorem ofIntAt (n : Int) (h0 : -9223372036854775808 ≤ n) (h1 : n ≤ 9223372036854775807) (w : World) (hT : Tab w) (X : ByteArray) (hX : X = bs (Lib.itoa n)) (hs : X.size ≤ 20) :
    Calls Tryz.prog 207 #[.int .i64 n] w fun e w' => e = .returned (.string (X ++ ⟨#[46, 48]⟩)) ∧ Low w.heap.size w w' := by
  have hc : ∀ W, Tab W → Calls Tryz.prog 215 #[.int .i64 n, .int .i64 10] W fun e w' => e = .returned (.string X) ∧ Low W.heap.size W w' := fun W hW => by
    refine (Tryz.strconv_FormatInt_10 n h0 h1 W hW).mono ?_
    rintro e w' ⟨rfl, k, os, rfl⟩
    refine ⟨by rw [hX], ?_⟩
    exact (low_drewN (Low.refl _ _) k).trans ⟨⟨rfl, rfl, rfl, by simp [Sort.grow], fun i hi => by simp only [Sort.grow]; rw [Array.getElem?_append_left (by exact hi)]⟩, Nat.le_refl _⟩
  have HC := Lib.hid hc
  clear hc hX
  go_enter Tryz.func207, Tryz.ntmps207
  go_wp2_with (go_at_call 215; (with_reducible refine (HC.out _ hT).mono ?_); rintro e w1 ⟨rfl, hb⟩)
  go_ret
  exact ⟨rfl, hb⟩

end Go.Proofs.YtanbgdhmfjgihaaGreatDoor

/- A whole number's text is a decimal, and says that number. No Go stands here. -/
namespace Go.Proofs.YtanbgdhmfjgihaaGreatDoor
open Go.RowKit

theorem trimL_none {l : List UInt8} (h : ∀ c r, l = c :: r → c ≠ 48) : Lib.trimLeftB l 48 = l := by
  cases l with
  | nil => rfl
  | cons c r =>
    unfold Lib.trimLeftB
    rw [List.dropWhile_cons, if_neg (by simpa using h c r rfl)]
theorem dec_all (u : Nat) : (Lib.decDigits u).all isDig = true ∧ valD (Lib.decDigits u) = u ∧ Lib.decDigits u ≠ [] ∧ (1 ≤ u → (Lib.decDigits u).headD 0 ≠ 48) := by
  induction u using Nat.strongRecOn with
  | _ u ih =>
    have hb : ∀ k, k < 10 → (UInt8.ofNat (48 + k)).toNat = 48 + k := fun k hk => by rw [UInt8.toNat_ofNat']; omega
    have hd : ∀ k, k < 10 → isDig (UInt8.ofNat (48 + k)) = true := fun k hk => by rw [isDig_iff, hb k hk]; omega
    rw [Lib.decDigits]
    by_cases h : u < 10
    · rw [dif_pos h]
      refine ⟨by rw [List.all_cons, hd u h]; rfl, by (show ((UInt8.ofNat (48 + u)).toNat - 48) * 10 ^ 0 + 0 = u; rw [hb u h]; omega), by simp, fun h1 e => ?_⟩
      have := hb u h
      have e2 : UInt8.ofNat (48 + u) = 48 := e
      rw [e2] at this
      have h48 : (48 : UInt8).toNat = 48 := rfl
      omega
    · rw [dif_neg h]
      obtain ⟨a1, a2, a3, a4⟩ := ih (u / 10) (by omega)
      have hm : u % 10 < 10 := Nat.mod_lt _ (by decide)
      refine ⟨by rw [List.all_append, a1, List.all_cons, hd _ hm]; rfl, ?_, by simp, fun _ => ?_⟩
      · rw [valD_append, a2]
        simp [valD]; omega
      · have := a4 (by omega)
        cases hl : Lib.decDigits (u / 10) with
        | nil => exact absurd hl a3
        | cons c r => rw [hl] at this; exact this
theorem dec_len (u : Nat) (h : u ≤ 9223372036854775808) : (Lib.decDigits u).length ≤ 19 := by
  obtain ⟨a1, a2, a3, a4⟩ := dec_all u
  by_cases h0 : u = 0
  · rw [h0, Lib.decDigits]; simp
  · have a5 := a4 (by omega)
    cases hl : Lib.decDigits u with
    | nil => exact absurd hl a3
    | cons c r =>
      rw [hl] at a1 a2 a5
      rw [List.all_cons, Bool.and_eq_true] at a1
      have hc := dig_le a1.1
      have hc0 : c.toNat ≠ 48 := fun e => a5 (UInt8.toNat_inj.1 e)
      rcases Nat.lt_or_ge r.length 19 with k | k
      · simp; omega
      · exfalso
        have h3 : 10 ^ 19 ≤ 10 ^ r.length := Nat.pow_le_pow_right (by decide) k
        have h4 : 1 * 10 ^ r.length ≤ (c.toNat - 48) * 10 ^ r.length := Nat.mul_le_mul_right _ (by omega)
        have h5 : (c.toNat - 48) * 10 ^ r.length + valD r = u := a2
        omega
theorem whole_text (neg : Bool) (u : Nat) (hu : neg = true → 1 ≤ u) (hl : (Lib.decDigits u).length ≤ 40) : chk ((if neg then [45] else []) ++ Lib.decDigits u ++ [46, 48]) = true := by
  obtain ⟨a1, a2, a3, a4⟩ := dec_all u
  have hw : wr neg (Lib.decDigits u) [48] = some ((if neg then [45] else []) ++ Lib.decDigits u ++ [46, 48]) := by
    unfold wr
    have t2 : Lib.trimRightB [48] 48 = [] := by decide
    by_cases h0 : u = 0
    · have e : Lib.decDigits u = [48] := by rw [h0, Lib.decDigits]; rfl
      have hn : neg = false := by
        cases neg with
        | false => rfl
        | true => exact absurd (hu rfl) (by omega)
      rw [e, hn]
      decide
    · have t1 : Lib.trimLeftB (Lib.decDigits u) 48 = Lib.decDigits u := trimL_none fun c r e => by
        have := a4 (by omega)
        rw [e] at this; exact this
      simp only [t1, t2, List.append_nil]
      rw [if_neg (by simp; omega)]
      have e2 : (Lib.decDigits u).isEmpty = false := by
        cases hx : Lib.decDigits u with
        | nil => exact absurd hx a3
        | cons c r => rfl
      have e3 : orN (Lib.decDigits u) = Lib.decDigits u := by unfold orN; rw [e2]; rfl
      rw [e2, e3]
      cases neg <;> simp [orN]
  unfold chk readP
  have hs := splitP_canon neg (Lib.decDigits u) [48] a1 a3 (by decide) (by decide)
  have e4 : (if neg then [45] else []) ++ Lib.decDigits u ++ [46, 48] = (if neg then [45] else []) ++ (Lib.decDigits u ++ 46 :: [48]) := by simp
  rw [e4] at hw ⊢
  rw [hs]
  simp only [Option.map_some]
  rw [hw]
  simp


theorem bs_size (l : List UInt8) : (bs l).size = l.length := by simp [ByteArray.size]
theorem whole_val (neg : Bool) (u : Nat) : dval ((if neg then [45] else []) ++ Lib.decDigits u ++ [46, 48]) = (if neg then -(u : Int) else u) * 10 ^ 54 := by
  obtain ⟨a1, a2, a3, a4⟩ := dec_all u
  have hs := splitP_canon neg (Lib.decDigits u) [48] a1 a3 (by decide) (by decide)
  have hl : (if neg then [45] else []) ++ Lib.decDigits u ++ [46, 48] = (if neg then [45] else []) ++ (Lib.decDigits u ++ 46 :: [48]) := by simp
  rw [hl]
  unfold dval dsign damt
  rw [hs]
  show sv neg (num54 (Lib.decDigits u) [48]) = _
  have hn : num54 (Lib.decDigits u) [48] = u * 10 ^ 54 := by
    unfold num54
    rw [a2, show valD [48] = 0 from rfl, Nat.zero_mul, Nat.add_zero]
  rw [hn]
  unfold sv
  cases neg
  · simp
  · simp [Int.neg_mul]
/-- The text of a whole number. -/
def intT (n : Int) : ByteArray := bs (Lib.itoa n) ++ ⟨#[46, 48]⟩
theorem intT_facts (n : Int) (h0 : -9223372036854775808 ≤ n) (h1 : n ≤ 9223372036854775807) : chk (intT n).data.toList = true ∧ dval (intT n).data.toList = n * 10 ^ 54 ∧ (intT n).size ≤ 100 ∧ (bs (Lib.itoa n)).size ≤ 20 := by
  have key : ∀ (neg : Bool) (u : Nat), (if neg then -(u : Int) else u) = n → (neg = true → 1 ≤ u) → Lib.itoa n = (if neg then [45] else []) ++ Lib.decDigits u → u ≤ 9223372036854775808 →
      chk (intT n).data.toList = true ∧ dval (intT n).data.toList = n * 10 ^ 54 ∧ (intT n).size ≤ 100 ∧ (bs (Lib.itoa n)).size ≤ 20 := by
    intro neg u hn hu hit hub
    have hlen := dec_len u hub
    have hT : (intT n).data.toList = (if neg then [45] else []) ++ Lib.decDigits u ++ [46, 48] := by
      unfold intT
      rw [ByteArray.data_append, Array.toList_append, hit]
    have hsz : (bs (Lib.itoa n)).size ≤ 20 := by
      rw [bs_size, hit, List.length_append]
      cases neg <;> simp <;> omega
    refine ⟨by rw [hT]; exact whole_text neg u hu (by omega), by rw [hT, whole_val, hn], ?_, hsz⟩
    have h5 : (intT n).data.toList.length = (intT n).size := Array.length_toList
    rw [← h5, hT]
    simp only [List.length_append, List.length_cons, List.length_nil]
    split <;> simp <;> omega
  by_cases hneg : n < 0
  · obtain ⟨u, hu⟩ : ∃ u : Nat, n = -(u : Int) := ⟨n.natAbs, by omega⟩
    have hit : Lib.itoa n = 45 :: Lib.decDigits u := by rw [hu]; exact Lib.itoa_neg u (by omega)
    exact key true u hu.symm (fun _ => by omega) hit (by omega)
  · obtain ⟨u, rfl⟩ := Int.eq_ofNat_of_zero_le (Int.not_lt.1 hneg)
    exact key false u rfl (fun h => by cases h) (Lib.itoa_nonneg u) (by omega)
end Go.Proofs.YtanbgdhmfjgihaaGreatDoor
