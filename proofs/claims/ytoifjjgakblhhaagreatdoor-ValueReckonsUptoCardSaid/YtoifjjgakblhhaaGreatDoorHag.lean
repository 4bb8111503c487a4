/- Texts of one kind, one behind the other: each says ahead of itself what it shows. -/
import Derived.Test.YtoifjjgakblhhaaGreatDoorHac
import Derived.Test.YtoifjjgakblhhaaGreatDoorHaf
import Derived.Deep.WholeRow
import Derived.Laws.IdiomStrings
import Derived.Test.YtoifjjgakblhhaaGreatDoorHaa
import Derived.Deep.DeepCutAuto
import Derived.Laws.StructEq
import Derived.Deep.RegionWith
/- parse: a decimal as a number. -/
namespace Go.Proofs.YtoifjjgakblhhaaGreatDoor
open Go.RowKit

theorem putStep (g : Nat) (c : Array Value) (n : Bool) (f : Nat → Nat) (M q x : Nat) (p d : Int) (w : World) (hl : Lies w g c n f) (hpq : p = q) (hp : q ≤ 143) (hd0 : d = 48 + x) (hd : x ≤ 9) (hv : wval f = M * 10 ^ (q + 1)) :
    Calls Tryz.prog 175 #[.pointer (some ⟨g, 0, none⟩), .int .i64 p, .int .u8 d] w fun e w' => e = .returned (.tuple #[]) ∧ Only g w w' ∧
      ∃ c' f', Lies w' g c' n f' ∧ wval f' = (M * 10 + x) * 10 ^ q := by
  subst hpq hd0
  have hx : ((48 : Int) + x - 48).toNat = x := by omega
  have e1 : ((q : Int) / 9).toNat = q / 9 := by omega
  have e2 : ((q : Int) % 9).toNat = q % 9 := by omega
  have hr := room f hl.num.lt M q (by omega) hv
  have hroom : (f ((q : Int) / 9).toNat : Int) + ((48 : Int) + x - 48) * ten ((q : Int) % 9).toNat < 1000000000 := by
    rw [e1, e2]
    unfold ten
    have h1 : x * 10 ^ (q % 9) ≤ 9 * 10 ^ (q % 9) := Nat.mul_le_mul_right _ (by omega)
    have h2 : ((48 : Int) + x - 48) * ((10 ^ (q % 9) : Nat) : Int) = ((x * 10 ^ (q % 9) : Nat) : Int) := by
      rw [Int.natCast_mul]; congr 1; omega
    rw [h2]
    unfold BASE at hr
    omega
  refine (putAt g c n f q _ w hl.heap hl.num (by omega) (by omega) (by omega) (by omega) hroom).mono ?_
  rintro e w' ⟨rfl, ho, c', hh, hn⟩
  refine ⟨rfl, ho, c', _, lies_mk hh hn, ?_⟩
  rw [e1, e2, hx]
  unfold ten
  rw [put_val f q _ (by omega), hv, Nat.add_mul, Nat.pow_succ]
  congr 1
  ac_rfl

theorem take_val (l : List UInt8) (k : Nat) (h : k < l.length) : valD (l.take (k + 1)) = valD (l.take k) * 10 + (l[k].toNat - 48) := by
  rw [List.take_succ_eq_append_getElem h, valD_append]
  simp [valD]
theorem byte_at (A : ByteArray) (k : Nat) (h : k < A.size) : A[k] = A.data.toList[k]'(by simpa using h) := by
  simp [ByteArray.getElem_eq_getElem_data]
theorem byte_dig (A : ByteArray) (hA : A.data.toList.all isDig = true) (k : Nat) (h : k < A.size) : 48 ≤ A[k].toNat ∧ A[k].toNat ≤ 57 := by
  rw [byte_at A k h]
  exact dig_le (List.all_eq_true.1 hA _ (List.getElem_mem _))

set_option maxHeartbeats 1600000 in
theorem parseYes (s A B : ByteArray) (n : Bool) (w : World) (hG : Gd w) (hs : s.size < 4294967281) (h : chk s.data.toList = true) (hsp : splitP s.data.toList = some (n, A.data.toList, B.data.toList))
    (hA : A.data.toList.all isDig = true) (hB : B.data.toList.all isDig = true) (lA : A.size ≤ 40) (lB : B.size ≤ 20) :
    Calls Tryz.prog 151 #[.string s] w fun e w' => ∃ c f, e = .returned (.tuple #[.agg c, .bool true]) ∧ IsNum c n f ∧ wval f = num54 A.data.toList B.data.toList ∧ Below w.heap.size w w' := by
  have hc : ∀ W, Gd W → Calls Tryz.prog 73 #[.string s] W fun e w' => e = .returned (.bool true) ∧ Below W.heap.size W w' := fun W hW => by
    have := checkAt s W hW hs
    rwa [h] at this
  have hc2 : ∀ W, Gd W → Calls Tryz.prog 147 #[.string s] W fun e w' => e = .returned (.tuple #[.bool n, .string A, .string B, .bool true]) ∧ Below W.heap.size W w' := fun W hW => by
    have := splitAt s W hW hs
    rw [hsp] at this
    exact this
  have HC := Lib.hid hc
  have HS := Lib.hid hc2
  clear hc h hc2 hsp
  have l0 := lies_zero w rfl
  have g0 := hG.alloc (.cells #[.bool false, .int .u32 0, .int .u32 0, .int .u32 0, .int .u32 0, .int .u32 0, .int .u32 0, .int .u32 0, .int .u32 0, .int .u32 0, .int .u32 0, .int .u32 0, .int .u32 0, .int .u32 0, .int .u32 0, .int .u32 0, .int .u32 0] 136)
  have b0 := (Below.refl w.heap.size w).alloc (Nat.le_refl _) (.cells #[.bool false, .int .u32 0, .int .u32 0, .int .u32 0, .int .u32 0, .int .u32 0, .int .u32 0, .int .u32 0, .int .u32 0, .int .u32 0, .int .u32 0, .int .u32 0, .int .u32 0, .int .u32 0, .int .u32 0, .int .u32 0, .int .u32 0] 136)
  go_enter Tryz.func151, Tryz.ntmps151
  go_wp2_with (first
    | (go_at_call 73; (with_reducible refine (HC.out _ g0).mono ?_); rintro e w1 ⟨rfl, hb⟩; have l1 := l0.below hb; have b1 := below_any b0 hb (Nat.le_of_lt l0.lt); have g1 := g0.below hb)
    | (go_at_call 147; (with_reducible refine (HS.out _ g1).mono ?_); rintro e w2 ⟨rfl, hb2⟩; have l2 := l1.below hb2; have b2 := below_any b1 hb2 (Nat.le_of_lt l1.lt)))
  have l3 := lies_sign w2 n rfl
  have k3 := l2.alloc (.cells #[.bool n, .int .u32 0, .int .u32 0, .int .u32 0, .int .u32 0, .int .u32 0, .int .u32 0, .int .u32 0, .int .u32 0, .int .u32 0, .int .u32 0, .int .u32 0, .int .u32 0, .int .u32 0, .int .u32 0, .int .u32 0, .int .u32 0] 136)
  have b3 := b2.alloc (Nat.le_of_lt l2.lt) (.cells #[.bool n, .int .u32 0, .int .u32 0, .int .u32 0, .int .u32 0, .int .u32 0, .int .u32 0, .int .u32 0, .int .u32 0, .int .u32 0, .int .u32 0, .int .u32 0, .int .u32 0, .int .u32 0, .int .u32 0, .int .u32 0, .int .u32 0] 136)
  have hne : w.heap.size ≠ w2.heap.size := Nat.ne_of_lt l2.lt
  have hle : w.heap.size ≤ w2.heap.size := Nat.le_of_lt l2.lt
  go_loopw [26] (fun i wr => ∃ (k : Nat) (c : Array Value) (f : Nat → Nat), k ≤ A.size ∧ i = .int .i64 k ∧ Lies wr w2.heap.size c n f ∧ Lies wr w.heap.size zero59 false (fun _ => 0) ∧ Below w.heap.size w wr ∧ wval f = valD (A.data.toList.take k) * 10 ^ (54 + A.size - k)) (fun i _ => A.size - (intOf i).toNat)
  case atStart =>
    exact ⟨0, _, _, Nat.zero_le _, rfl, l3, k3, b3, by simp [valD, wval, vN]⟩
  case round =>
    obtain ⟨k, c, f, hk, rfl, hl, hz, hbel, hv⟩ := hrel
    have HV := Lib.hid hv
    clear hv
    by_cases hlt : k < A.size
    · have hd := byte_dig A hA k hlt
      obtain ⟨x, hx⟩ : ∃ x, A[k].toNat = 48 + x := ⟨A[k].toNat - 48, by omega⟩
      have hx1 : (A[k].toNat : Int) = 48 + x := by omega
      have hx9 : x ≤ 9 := by omega
      have hd2 : (A[k].toNat : Int) ≤ 57 := by omega
      obtain ⟨q, hq⟩ : ∃ q, q = 54 + A.size - (k + 1) := ⟨_, rfl⟩
      have hq1 : q ≤ 143 := by omega
      have hnew : valD (A.data.toList.take (k + 1)) * 10 ^ (54 + A.size - (k + 1)) = (valD (A.data.toList.take k) * 10 + x) * 10 ^ q := by
        rw [take_val _ k (by simpa using hlt), ← hq, ← byte_at A k hlt]
        congr 2
        omega
      have hold : wval f = valD (A.data.toList.take k) * 10 ^ (q + 1) := by rw [HV.out]; congr 2; omega
      have HQ := Lib.hid hq
      have HN := Lib.hid hnew
      have HO := Lib.hid hold
      have HX := Lib.hid hx1
      clear hd hx hq hnew hold hx1
      go_wp2_with (go_at_call 175; (with_reducible refine (putStep _ _ _ _ (valD (A.data.toList.take k)) q x _ _ _ hl ?_ hq1 HX.out hx9 HO.out).mono ?_); (have := HQ.out; omega); rintro e w3 ⟨rfl, ho, c', f', hl', hv'⟩; have HV' := Lib.hid hv'; clear hv')
      go_roundw
      case rel => exact ⟨k + 1, c', f', by omega, by go_num, hl', hz.only ho hne, below_only hbel ho hle (Nat.le_of_lt hz.lt), by rw [HN.out]; exact HV'.out⟩
      case measure => simp [intOf]; omega
    · obtain rfl : k = A.size := by omega
      have hv0 : wval f = valD A.data.toList * 10 ^ 54 := by
        have := HV.out
        rw [List.take_of_length_le (by simp), show 54 + A.size - A.size = 54 by omega] at this
        exact this
      have HV0 := Lib.hid hv0
      clear hv0
      go_wp2_with fail
      obtain ⟨wo, rfl⟩ : ∃ wo : World, wo = wr := ⟨_, rfl⟩
      go_loopw [42] (fun i wr => ∃ (k : Nat) (c : Array Value) (f : Nat → Nat), k ≤ B.size ∧ i = .int .i64 k ∧ Lies wr w2.heap.size c n f ∧ Lies wr w.heap.size zero59 false (fun _ => 0) ∧ Below w.heap.size w wr ∧ wval f = (valD A.data.toList * 10 ^ k + valD (B.data.toList.take k)) * 10 ^ (54 - k)) (fun i _ => B.size - (intOf i).toNat)
      case atStart => exact ⟨0, c, f, Nat.zero_le _, rfl, hl, hz, hbel, by rw [HV0.out]; simp [valD]⟩
      case round =>
        clear hl hz hbel HV HV0
        obtain ⟨k, c, f, hk, rfl, hl, hz, hbel, hv⟩ := hrel
        have HV := Lib.hid hv
        clear hv
        by_cases hlt : k < B.size
        · have hd := byte_dig B hB k hlt
          obtain ⟨x, hx⟩ : ∃ x, B[k].toNat = 48 + x := ⟨B[k].toNat - 48, by omega⟩
          have hx1 : (B[k].toNat : Int) = 48 + x := by omega
          have hx9 : x ≤ 9 := by omega
          have hd2 : (B[k].toNat : Int) ≤ 57 := by omega
          obtain ⟨q, hq⟩ : ∃ q, q = 54 - (k + 1) := ⟨_, rfl⟩
          have hq1 : q ≤ 143 := by omega
          have hnew : (valD A.data.toList * 10 ^ (k + 1) + valD (B.data.toList.take (k + 1))) * 10 ^ (54 - (k + 1)) = ((valD A.data.toList * 10 ^ k + valD (B.data.toList.take k)) * 10 + x) * 10 ^ q := by
            rw [take_val _ k (by simpa using hlt), ← hq, ← byte_at B k hlt, Nat.pow_succ]
            congr 1
            have : B[k].toNat - 48 = x := by omega
            rw [this, Nat.add_mul, Nat.mul_assoc]
            omega
          have hold : wval f = (valD A.data.toList * 10 ^ k + valD (B.data.toList.take k)) * 10 ^ (q + 1) := by rw [HV.out]; congr 2; omega
          have HQ := Lib.hid hq
          have HN := Lib.hid hnew
          have HO := Lib.hid hold
          have HX := Lib.hid hx1
          clear hd hx hq hnew hold hx1
          go_wp2_with (go_at_call 175; (with_reducible refine (putStep _ _ _ _ (valD A.data.toList * 10 ^ k + valD (B.data.toList.take k)) q x _ _ _ hl ?_ hq1 HX.out hx9 HO.out).mono ?_); (have := HQ.out; omega); rintro e w3 ⟨rfl, ho, c', f', hl', hv'⟩; have HV' := Lib.hid hv'; clear hv')
          go_roundw
          case rel => exact ⟨k + 1, c', f', by omega, by go_num, hl', hz.only ho hne, below_only hbel ho hle (Nat.le_of_lt hz.lt), by rw [HN.out]; exact HV'.out⟩
          case measure => simp [intOf]; omega
        · obtain rfl : k = B.size := by omega
          have hv0 : wval f = num54 A.data.toList B.data.toList := by
            have := HV.out
            rw [List.take_of_length_le (by simp)] at this
            rw [this]
            unfold num54
            rw [Nat.add_mul, Nat.mul_assoc, ← Nat.pow_add]
            have e : B.data.toList.length = B.size := by simp
            rw [e]
            congr 3
            omega
          have HV0 := Lib.hid hv0
          clear hv0
          go_wp2_with (first
            | ((with_reducible refine wpList_loadN (.tmp 8) w2.heap.size (by assumption) ?_ ?_ ?_ ?_); rfl; rfl; rfl)
            | ((with_reducible refine wpList_storeN (.tmp 2) (.tmp 52) w.heap.size (by assumption) hl.num ?_ ?_ ?_ ?_ ?_); rfl; rfl; rfl; rfl; intro w5 ho5 m5; have b5 := below_only hbel ho5 (Nat.le_refl _) (Nat.le_of_lt hz.lt)))
          exact bodyPost_ret (v := .tuple #[.agg c, .bool true]) (results_num_tmp (p := 2) (q := 3) Tryz.results151 _ (.bool true) rfl rfl m5) rfl ⟨c, f, rfl, hl.num, HV0.out, b5⟩

end Go.Proofs.YtoifjjgakblhhaaGreatDoor

/- text: a number as a text. -/
namespace Go.Proofs.YtoifjjgakblhhaaGreatDoor
open Go.RowKit

theorem zero91 : (Tryz.prog.info? 202).map (fun i => (i.zero, i.size)) = some (some (.agg (Array.replicate 144 (.int .u8 0))), 144) := by kernel_rfl

theorem digsOf_get (N lo n j : Nat) (h : j < n) : (digsOf N lo n)[j]? = some (digAt N (lo + (n - 1 - j))) := by
  induction n generalizing j with
  | zero => omega
  | succ n ih =>
    cases j with
    | zero => simp [digsOf]
    | succ j => simp only [digsOf, List.getElem?_cons_succ]; rw [ih j (by omega)]; congr 3; omega

/-- The digits' cells, the highest digit first. -/
structure IsDigs (d : Array Value) (k N : Nat) : Prop where
  size : d.size = 144
  at_ : ∀ j, 144 - k ≤ j → j < 144 → d[j]? = some (.int .u8 ((digAt N (143 - j)).toNat : Int))

theorem IsDigs.step {d : Array Value} {k N : Nat} (h : IsDigs d k N) (hk : k < 144) : IsDigs (d.setIfInBounds (143 - k) (.int .u8 ((digAt N k).toNat : Int))) (k + 1) N := by
  refine ⟨by simp [h.size], fun j h1 h2 => ?_⟩
  by_cases e : j = 143 - k
  · subst e
    rw [Array.getElem?_setIfInBounds_self_of_lt (by rw [h.size]; omega)]
    rw [show 143 - (143 - k) = k by omega]
  · rw [Array.getElem?_setIfInBounds_ne (by omega)]
    exact h.at_ j (by omega) h2

theorem digitVal (c : Array Value) (n : Bool) (f : Nat → Nat) (k : Nat) (w : World) (hc : IsNum c n f) (hp : k < 144) (v : Int) (hv : Hid (v = (digAt (wval f) k).toNat)) :
    Calls Tryz.prog 185 #[.agg c, .int .i64 k] w fun e w' => e = .returned (.int .u8 v) ∧ Below w.heap.size w w' := by
  have := digitAt c n f k w hc (by omega) (by omega)
  refine this.mono ?_
  rintro e w' ⟨rfl, hb⟩
  refine ⟨?_, hb⟩
  rw [hv.out, digAt_toNat]
  unfold ten
  rw [Int.toNat_natCast, digit_val f hc.lt k hp]
  rfl

set_option maxHeartbeats 1600000 in
set_option maxRecDepth 20000 in
theorem textAt (c : Array Value) (n : Bool) (f : Nat → Nat) (w : World) (hc : IsNum c n f) :
    Calls Tryz.prog 180 #[.agg c] w fun e w' => e = .returned (said (wrN n (wval f))) ∧ Below w.heap.size w w' := by
  have hz := (zero_of_info zero91).1
  obtain ⟨t, e, hv0⟩ := said_form (wrN n (wval f))
  rw [hv0]
  have HV0 := Lib.hid hv0
  clear hv0
  have l1 : Lies ((w.alloc (.cells c 136)).alloc (.cells (Array.replicate 144 (.int .u8 0)) 202)) w.heap.size c n f := (lies_new w hc rfl).alloc _
  have h1 : ((w.alloc (.cells c 136)).alloc (.cells (Array.replicate 144 (.int .u8 0)) 202)).heap[w.heap.size + 1]? = some (.cells (Array.replicate 144 (.int .u8 0)) 202) := heap_new _ _ (by simp)
  have hb0 : Below w.heap.size w ((w.alloc (.cells c 136)).alloc (.cells (Array.replicate 144 (.int .u8 0)) 202)) := ((Below.refl _ _).alloc (Nat.le_refl _) _).alloc (by simp) _
  have H1 := Lib.hid h1
  clear h1
  go_enter Tryz.func180, Tryz.ntmps180
  go_wp2_with fail
  clear hz
  go_loopw [7] (fun i wr => ∃ (k : Nat) (d : Array Value), k ≤ 144 ∧ i = .int .i64 k ∧ Lies wr w.heap.size c n f ∧ wr.heap[w.heap.size + 1]? = some (.cells d 202) ∧ IsDigs d k (wval f) ∧ Below w.heap.size w wr) (fun i _ => 144 - (intOf i).toNat)
  case atStart => exact ⟨0, _, Nat.zero_le _, rfl, l1, H1.out, ⟨by simp, fun j a b => by omega⟩, hb0⟩
  case round =>
    clear l1 H1 hb0
    obtain ⟨k, d, hk, rfl, hl, hd, hds, hbel⟩ := hrel
    have HD := Lib.hid hd
    clear hd
    by_cases hlt : k < 144
    · obtain ⟨v, hv⟩ : ∃ v : Int, v = (digAt (wval f) k).toNat := ⟨_, rfl⟩
      have HV := Lib.hid hv
      clear hv
      have hsz := lt_of_heap HD.out
      obtain ⟨j, hj⟩ : ∃ j : Nat, (143 : Int) - k = j := ⟨143 - k, by omega⟩
      have hjk : j = 143 - k := by omega
      have hj1 : (j : Int) < 144 := by omega
      have HJ := Lib.hid hjk
      have hcc : ∃ u, wr.cell? ⟨w.heap.size + 1, j, none⟩ = some u := ⟨_, cell_of HD.out _ (Array.getElem?_eq_getElem (by rw [hds.size, hjk]; omega))⟩
      obtain ⟨u, hu⟩ := hcc
      clear hjk
      go_wp2_with (first
        | ((with_reducible refine wpList_loadN (.tmp 1) w.heap.size (by assumption) ?_ ?_ ?_ ?_); rfl; rfl; rfl)
        | (go_at_call 185; (with_reducible refine (digitVal c n f k _ hc hlt v HV).mono ?_); rintro e w1 ⟨rfl, hb1⟩; have hl1 := hl.below hb1; have hbel1 := below_any hbel hb1 (Nat.le_of_lt hl.lt); have hd1 := Lib.hid ((hb1.block (w.heap.size + 1) hsz).trans HD.out); have hu1 := (hb1.cell (p := ⟨w.heap.size + 1, j, none⟩) hsz).trans hu; have hf1 : w1.frozen? ⟨w.heap.size + 1, j, none⟩ = false := free_of hd1.out _))
      go_roundw
      case rel =>
        exact ⟨k + 1, _, by omega, by go_num, hl1.only ((Only.refl _ _).setCell _ _ _) (by omega), heap_set hd1.out _ _, by rw [HV.out, HJ.out]; exact hds.step hlt, below_only hbel1 ((Only.refl _ _).setCell _ _ _) (by omega) (Nat.le_of_lt hl1.lt)⟩
      case measure => simp [intOf]; omega
    · obtain rfl : k = 144 := by omega
      obtain ⟨N, hN⟩ : ∃ N, N = wval f := ⟨_, rfl⟩
      have hv := HV0.out
      rw [← hN] at hds hv
      obtain ⟨X, hX⟩ : ∃ X, X = bs (digsOf N 54 90) := ⟨_, rfl⟩
      obtain ⟨Y, hY⟩ : ∃ Y, Y = bs (digsOf N 0 54) := ⟨_, rfl⟩
      have hXs : X.size ≤ maxLen := by rw [hX]; unfold maxLen; simp [ByteArray.size, digsOf_len]
      have hYs : Y.size ≤ maxLen := by rw [hY]; unfold maxLen; simp [ByteArray.size, digsOf_len]
      have c1 : ∀ nq, (convert 40 9 (.slice (some ⟨w.heap.size + 1, 0, none⟩) 90 144)).run Tryz.prog (wr.drewN nq) = .ok (.string X) (wr.drewN nq) := by
        intro nq
        have := run_convert_bytes_back (P := Tryz.prog) (wr.drewN nq) 40 9 5 ⟨w.heap.size + 1, 0, none⟩ 144 (digsOf N 54 90) Tryz.underlying40 Tryz.underlying5 Tryz.underlying9 (fun j hj => by
          rw [digsOf_len] at hj
          rw [Addr.add_mid, Nat.zero_add]
          have h1 := hds.at_ j (by omega) (by omega)
          have h2 := digsOf_get N 54 90 j hj
          rw [List.getElem?_eq_getElem (by rw [digsOf_len]; exact hj)] at h2
          rw [Option.some.inj h2, show 54 + (90 - 1 - j) = 143 - j by omega]
          exact cell_of (show (wr.drewN nq).heap[w.heap.size + 1]? = some (.cells d 202) from HD.out) _ h1)
        rw [digsOf_len] at this
        rw [hX]
        exact this
      have c2 : ∀ nq, (convert 40 9 (.slice (some ⟨w.heap.size + 1, 90, none⟩) 54 54)).run Tryz.prog (wr.drewN nq) = .ok (.string Y) (wr.drewN nq) := by
        intro nq
        have := run_convert_bytes_back (P := Tryz.prog) (wr.drewN nq) 40 9 5 ⟨w.heap.size + 1, 90, none⟩ 54 (digsOf N 0 54) Tryz.underlying40 Tryz.underlying5 Tryz.underlying9 (fun j hj => by
          rw [digsOf_len] at hj
          rw [Addr.add_mid]
          have h1 := hds.at_ (90 + j) (by omega) (by omega)
          have h2 := digsOf_get N 0 54 j hj
          rw [List.getElem?_eq_getElem (by rw [digsOf_len]; exact hj)] at h2
          rw [Option.some.inj h2, show 0 + (54 - 1 - j) = 143 - (90 + j) by omega]
          exact cell_of (show (wr.drewN nq).heap[w.heap.size + 1]? = some (.cells d 202) from HD.out) _ h1)
        rw [digsOf_len] at this
        rw [hY]
        exact this
      have hw : ∀ W, Calls Tryz.prog 148 #[.bool n, .string X, .string Y] W fun r w' => r = .returned (.tuple #[.string t, .int .i64 e]) ∧ w' = W := fun W => by
        have h1 := writeAt n X Y W hXs hYs
        have h2 : Go.Proofs.YtoifjjgakblhhaaGreatDoor.wr n X.data.toList Y.data.toList = wrN n N := by rw [hX, hY]; rfl
        rw [h2, hv] at h1
        exact h1.mono fun _ _ ⟨a, b⟩ => ⟨a, b.symm⟩
      have HW := Lib.hid hw
      have hneg := hl.cell0
      clear hw hv hN hX hY
      go_wp2_with fail
      go_quiet ((go_at_call 148; exact Calls.quiet_of_same (HW.out _)))
      go_wp2
      go_ret2
      exact ⟨rfl, below_drewN hbel _⟩
end Go.Proofs.YtoifjjgakblhhaaGreatDoor

/- compareAmount: which of two amounts is the greater. -/
namespace Go.Proofs.YtoifjjgakblhhaaGreatDoor
open Go.RowKit

set_option maxHeartbeats 400000 in
theorem cmpAmt (c d : Array Value) (n m : Bool) (xs ys : Nat → Nat) (hc : IsNum c n xs) (hd : IsNum d m ys) (w : World) :
    Calls Tryz.prog 152 #[.agg c, .agg d] w fun e w' => e = .returned (.int .i64 (cmpI (wval xs) (wval ys))) ∧ Below w.heap.size w w' := by
  go_enter Tryz.func152, Tryz.ntmps152
  go_wp2
  go_loopw [5] (fun i wr => ∃ k : Int, -1 ≤ k ∧ k ≤ 15 ∧ i = .int .i64 k ∧ (∀ j : Nat, k < j → j < 16 → xs j = ys j) ∧ wr.heap[w.heap.size]? = some (.cells c 136) ∧ wr.heap[w.heap.size+1]? = some (.cells d 136) ∧ Below w.heap.size w wr) (fun i _ => (intOf i + 1).toNat)
  case atStart =>
    refine ⟨15, by omega, by omega, rfl, fun j a b => by omega, ?_, ?_, ?_⟩
    · rw [Below.heap_alloc _ _ _ (by simp)]; exact heap_new _ _ rfl
    · exact heap_new _ _ (by simp)
    · exact ((Below.refl _ _).alloc (Nat.le_refl _) _).alloc (by simp) _
  case round =>
    obtain ⟨k, hk1, hk2, rfl, heq, hb1, hb2, hbel⟩ := hrel
    have HE := Lib.hid heq
    clear heq
    have B1 := Lib.hid hb1
    have B2 := Lib.hid hb2
    clear hb1 hb2
    by_cases hk : 0 ≤ k
    · obtain ⟨k, rfl⟩ := Int.eq_ofNat_of_zero_le hk
      have hx : wr.cell? ⟨w.heap.size, 1 + k, none⟩ = some (.int .u32 (xs k)) := cell_of B1.out _ (hc.word k (by omega))
      have hy : wr.cell? ⟨w.heap.size + 1, 1 + k, none⟩ = some (.int .u32 (ys k)) := cell_of B2.out _ (hd.word k (by omega))
      have hkk : (k : Int) < 16 := by omega
      rcases Nat.lt_trichotomy (xs k) (ys k) with h | h | h
      · go_wp2
        go_quiet (fail)
        go_wp2
        go_ret
        refine ⟨?_, below_drewN hbel _⟩
        rw [cmpI_lt (wval_lt_of xs ys hc.lt k (by omega) (fun j a b => HE.out j (by omega) b) h)]; rfl
      · have HH := Lib.hid h
        clear h
        have h1 : decide (xs k < ys k) = false := by have := HH.out; simp; omega
        have h2 : decide (ys k < xs k) = false := by have := HH.out; simp; omega
        go_wp2
        go_quiet (fail)
        go_wp2
        go_quiet (fail)
        go_wp2
        go_roundw
        case rel => exact ⟨_, by omega, by omega, rfl, fun j a b => (if e : j = k then by rw [e]; exact HH.out else HE.out j (by omega) b), B1.out, B2.out, below_drewN hbel _⟩
        case measure => simp [intOf]
      · go_wp2
        go_quiet (fail)
        go_wp2
        go_quiet (fail)
        go_wp2
        go_ret
        refine ⟨?_, below_drewN (below_drewN hbel _) _⟩
        rw [cmpI_gt (wval_lt_of ys xs hd.lt k (by omega) (fun j a b => (HE.out j (by omega) b).symm) h)]; rfl
    · go_wp2
      go_ret
      refine ⟨?_, hbel⟩
      rw [cmpI_eq (wval_eq_of xs ys fun j hj => HE.out j (by omega) hj)]; rfl
end Go.Proofs.YtoifjjgakblhhaaGreatDoor

/- addAmount, takeAmount, push: what they do to the number behind the pointer. -/
namespace Go.Proofs.YtoifjjgakblhhaaGreatDoor
open Go.RowKit

set_option maxHeartbeats 400000 in
theorem addAmt (b : Nat) (c d : Array Value) (n m : Bool) (f g : Nat → Nat) (w : World) (hb : w.heap[b]? = some (.cells c 136)) (hc : IsNum c n f) (hd : IsNum d m g) :
    Calls Tryz.prog 181 #[.pointer (some ⟨b, 0, none⟩), .agg d] w fun e w' => e = .returned (.tuple #[]) ∧ Only b w w' ∧
      ∃ c' h cr, w'.heap[b]? = some (.cells c' 136) ∧ IsNum c' n h ∧ AddTo f g h cr 16 := by
  have hbs := lt_of_heap hb
  go_enter Tryz.func181, Tryz.ntmps181
  go_wp2
  go_loopw [4, 7] (fun cv i wr => ∃ (k cr : Nat) (c' : Array Value) (h : Nat → Nat), k ≤ 16 ∧ cr ≤ 1 ∧ i = .int .i64 k ∧ cv = .int .u32 cr ∧ wr.heap[b]? = some (.cells c' 136) ∧ wr.heap[w.heap.size]? = some (.cells d 136) ∧ IsNum c' n h ∧ AddTo f g h cr k ∧ Only b w wr) (fun _ i _ => 16 - (intOf i).toNat)
  case atStart =>
    exact ⟨0, 0, c, f, by omega, by omega, rfl, rfl, heap_old _ hb, heap_new _ _ rfl, hc, AddTo.zero hc.lt, (Only.refl _ _).alloc _⟩
  case round =>
    obtain ⟨k, cr, c', h, hk, hcr, rfl, rfl, hb1, hb2, hn, ha, ho⟩ := hrel
    have B1 := Lib.hid hb1
    have B2 := Lib.hid hb2
    have A := Lib.hid ha
    clear hb1 hb2 ha
    by_cases hlt : k < 16
    · have hx : wr.cell? ⟨b, 1 + k, none⟩ = some (.int .u32 (h k)) := cell_of B1.out _ (hn.word k hlt)
      have hy : wr.cell? ⟨w.heap.size, 1 + k, none⟩ = some (.int .u32 (g k)) := cell_of B2.out _ (hd.word k hlt)
      have hfr : wr.frozen? ⟨b, 1 + k, none⟩ = false := free_of B1.out _
      have h1 : h k < 1000000000 := hn.lt k hlt
      have h2 : g k < 1000000000 := hd.lt k hlt
      go_wp2
      go_quiet (fail)
      go_wp2
      have e1 : ((h k : Int) + g k + cr) % 1000000000 = (((h k + g k + cr) % BASE : Nat) : Int) := by unfold BASE; omega
      have e2 : ((h k : Int) + g k + cr) / 1000000000 = (((h k + g k + cr) / BASE : Nat) : Int) := by unfold BASE; omega
      go_roundw
      case rel =>
        have st := A.out.step hc.lt hd.lt hlt
        exact ⟨k + 1, _, _, _, by omega, st.one, by go_num, by rw [e2], by rw [e1]; exact heap_set B1.out _ _, (Below.heap_setCell _ _ _ _ (by show w.heap.size ≠ b; omega)).trans B2.out, hn.set hlt (Nat.mod_lt _ (by decide)), st, (ho.drewN _).setCell _ _ _⟩
      case measure => simp [intOf]; omega
    · obtain rfl : k = 16 := by omega
      go_wp2
      go_end0
      exact ⟨rfl, ho, c', h, cr, B1.out, hn, A.out⟩
set_option maxHeartbeats 400000 in
theorem takeAmt (b : Nat) (c d : Array Value) (n m : Bool) (f g : Nat → Nat) (w : World) (hb : w.heap[b]? = some (.cells c 136)) (hc : IsNum c n f) (hd : IsNum d m g) :
    Calls Tryz.prog 182 #[.pointer (some ⟨b, 0, none⟩), .agg d] w fun e w' => e = .returned (.tuple #[]) ∧ Only b w w' ∧
      ∃ c' h cr, w'.heap[b]? = some (.cells c' 136) ∧ IsNum c' n h ∧ TakeFrom f g h cr 16 := by
  have hbs := lt_of_heap hb
  go_enter Tryz.func182, Tryz.ntmps182
  go_wp2
  go_loopw [4, 7] (fun cv i wr => ∃ (k cr : Nat) (c' : Array Value) (h : Nat → Nat), k ≤ 16 ∧ cr ≤ 1 ∧ i = .int .i64 k ∧ cv = .int .u32 cr ∧ wr.heap[b]? = some (.cells c' 136) ∧ wr.heap[w.heap.size]? = some (.cells d 136) ∧ IsNum c' n h ∧ TakeFrom f g h cr k ∧ Only b w wr) (fun _ i _ => 16 - (intOf i).toNat)
  case atStart =>
    exact ⟨0, 0, c, f, by omega, by omega, rfl, rfl, heap_old _ hb, heap_new _ _ rfl, hc, TakeFrom.zero hc.lt, (Only.refl _ _).alloc _⟩
  case round =>
    obtain ⟨k, cr, c', h, hk, hcr, rfl, rfl, hb1, hb2, hn, ha, ho⟩ := hrel
    have B1 := Lib.hid hb1
    have B2 := Lib.hid hb2
    have A := Lib.hid ha
    clear hb1 hb2 ha
    by_cases hlt : k < 16
    · have hx : wr.cell? ⟨b, 1 + k, none⟩ = some (.int .u32 (h k)) := cell_of B1.out _ (hn.word k hlt)
      have hy : wr.cell? ⟨w.heap.size, 1 + k, none⟩ = some (.int .u32 (g k)) := cell_of B2.out _ (hd.word k hlt)
      have hfr : wr.frozen? ⟨b, 1 + k, none⟩ = false := free_of B1.out _
      have h1 : h k < 1000000000 := hn.lt k hlt
      have h2 : g k < 1000000000 := hd.lt k hlt
      go_wp2
      go_quiet (fail)
      go_wp2
      have e1 : (1000000000 + (h k : Int) - g k - cr) % 1000000000 = (((BASE + h k - g k - cr) % BASE : Nat) : Int) := by unfold BASE; omega
      have e2 : 1 - (1000000000 + (h k : Int) - g k - cr) / 1000000000 = ((1 - (BASE + h k - g k - cr) / BASE : Nat) : Int) := by unfold BASE; omega
      go_roundw
      case rel =>
        have st := A.out.step hc.lt hd.lt hlt
        exact ⟨k + 1, _, _, _, by omega, st.one, by go_num, by rw [e2], by rw [e1]; exact heap_set B1.out _ _, (Below.heap_setCell _ _ _ _ (by show w.heap.size ≠ b; omega)).trans B2.out, hn.set hlt (Nat.mod_lt _ (by decide)), st, (ho.drewN _).setCell _ _ _⟩
      case measure => simp [intOf]; omega
    · obtain rfl : k = 16 := by omega
      go_wp2
      go_end0
      exact ⟨rfl, ho, c', h, cr, B1.out, hn, A.out⟩
set_option maxHeartbeats 400000 in
theorem pushAt (b : Nat) (c : Array Value) (n : Bool) (f : Nat → Nat) (x : Int) (w : World) (hb : w.heap[b]? = some (.cells c 136)) (hc : IsNum c n f) (hx0 : 48 ≤ x) (hx9 : x ≤ 57) :
    Calls Tryz.prog 184 #[.pointer (some ⟨b, 0, none⟩), .int .u8 x] w fun e w' => e = .returned (.tuple #[]) ∧ Only b w w' ∧
      ∃ c' h cr, w'.heap[b]? = some (.cells c' 136) ∧ IsNum c' n h ∧ PushTo f (x - 48).toNat h cr 16 := by
  have hbs := lt_of_heap hb
  obtain ⟨d, hd⟩ : ∃ d : Nat, x = 48 + d := ⟨(x - 48).toNat, by omega⟩
  subst hd
  have hd9 : d ≤ 9 := by omega
  have ed : (48 + (d : Int) - 48).toNat = d := by omega
  rw [ed]
  clear ed
  go_enter Tryz.func184, Tryz.ntmps184
  go_wp2
  go_loopw [4, 10] (fun cv i wr => ∃ (k cr : Nat) (c' : Array Value) (h : Nat → Nat), k ≤ 16 ∧ cr ≤ 9 ∧ i = .int .i64 k ∧ cv = .int .u64 cr ∧ wr.heap[b]? = some (.cells c' 136) ∧ IsNum c' n h ∧ PushTo f d h cr k ∧ Only b w wr) (fun _ i _ => 16 - (intOf i).toNat)
  case atStart =>
    exact ⟨0, d, c, f, by omega, by omega, rfl, by go_num, hb, hc, PushTo.zero hc.lt hd9, Only.refl _ _⟩
  case round =>
    obtain ⟨k, cr, c', h, hk, hcr, rfl, rfl, hb1, hn, ha, ho⟩ := hrel
    have B1 := Lib.hid hb1
    have A := Lib.hid ha
    clear hb1 ha
    by_cases hlt : k < 16
    · have hx : wr.cell? ⟨b, 1 + k, none⟩ = some (.int .u32 (h k)) := cell_of B1.out _ (hn.word k hlt)
      have hfr : wr.frozen? ⟨b, 1 + k, none⟩ = false := free_of B1.out _
      have h1 : h k < 1000000000 := hn.lt k hlt
      go_wp2
      have e1 : ((h k : Int) * 10 + cr) % 1000000000 = (((h k * 10 + cr) % BASE : Nat) : Int) := by unfold BASE; omega
      have e2 : ((h k : Int) * 10 + cr) / 1000000000 = (((h k * 10 + cr) / BASE : Nat) : Int) := by unfold BASE; omega
      go_roundw
      case rel =>
        have st := A.out.step hc.lt hlt
        exact ⟨k + 1, _, _, _, by omega, st.one, by go_num, by rw [e2], by rw [e1]; exact heap_set B1.out _ _, hn.set hlt (Nat.mod_lt _ (by decide)), st, ho.setCell _ _ _⟩
      case measure => simp [intOf]; omega
    · obtain rfl : k = 16 := by omega
      go_wp2
      go_end0
      exact ⟨rfl, ho, c', h, cr, B1.out, hn, A.out⟩
end Go.Proofs.YtoifjjgakblhhaaGreatDoor

/- isZero, opposite, compare. -/
namespace Go.Proofs.YtoifjjgakblhhaaGreatDoor
open Go.RowKit

theorem IsNum.neg' {c : Array Value} {n m : Bool} {f : Nat → Nat} (h : IsNum c n f) : IsNum (c.setIfInBounds 0 (.bool m)) m f :=
  ⟨by rw [Array.getElem?_setIfInBounds_self_of_lt (by rw [h.size]; omega)], fun j hj => by rw [Array.getElem?_setIfInBounds_ne (by omega)]; exact h.word j hj, by simp [h.size], h.lt⟩

set_option maxHeartbeats 400000 in
theorem opp (c : Array Value) (n : Bool) (f : Nat → Nat) (w : World) (hc : IsNum c n f) :
    Calls Tryz.prog 183 #[.agg c] w fun e w' => ∃ c', e = .returned (.agg c') ∧ IsNum c' (!n) f ∧ Below w.heap.size w w' := by
  have h0 : ∀ o, ((w.alloc (.cells c 136)).alloc o).cell? ⟨w.heap.size, 0, none⟩ = some (.bool n) := fun o => cell_of (heap_old _ (heap_new _ _ rfl)) _ hc.neg
  have h1 : ∀ o, ((w.alloc (.cells c 136)).alloc o).frozen? ⟨w.heap.size, 0, none⟩ = false := fun o => free_of (heap_old _ (heap_new _ _ rfl)) _
  go_enter Tryz.func183, Tryz.ntmps183
  go_wp2_with (first
    | (refine wpList_load_num w.heap.size (c.setIfInBounds 0 (.bool !n)) ?_ ?_ (.tmp 1) rfl rfl rfl ?_; exact heap_old _ (heap_new _ _ rfl); exact (hc.neg' (m := !n)).size)
    | (refine wpList_store_num (w.heap.size + 1) zero59 (c.setIfInBounds 0 (.bool !n)) ?_ ?_ ?_ ?_ (.tmp 2) (.tmp 7) rfl rfl rfl rfl ?_; exact heap_new _ _ (by simp); rfl; exact (hc.neg' (m := !n)).size; exact (hc.neg' (m := !n)).one; intro w1 ho1 hh1))
  have hz := (hc.neg' (m := !n))
  refine bodyPost_ret (v := .agg (c.setIfInBounds 0 (.bool !n))) (results_cell_row (p := 2) (ty := 136) Tryz.results183 _ _ (w.heap.size + 1) 136 _ (0, 0) _ rfl hh1 Tryz.underlying136 rfl (by rw [hz.size]; exact info59)) rfl ⟨_, rfl, hz, ?_⟩
  exact below_only (((Below.refl _ _).alloc (Nat.le_refl _) _).alloc (by simp) _) ho1 (by simp) (by simp; omega)

theorem vN_zero (n : Nat) (f : Nat → Nat) : vN n f = 0 ↔ ∀ j, j < n → f j = 0 := by
  induction n with
  | zero => simp [vN]
  | succ n ih =>
    have hb : 0 < BASE ^ n := Nat.pow_pos (by decide)
    simp only [vN, Nat.add_eq_zero_iff, ih, Nat.mul_eq_zero]
    constructor
    · rintro ⟨h, h' | h'⟩ j hj
      · by_cases e : j = n
        · rw [e]; exact h'
        · exact h j (by omega)
      · omega
    · intro h
      exact ⟨fun j hj => h j (by omega), .inl (h n (by omega))⟩

theorem size56 (w : World) : (sizeOf 133).run Tryz.prog w = .ok 1 w := by kernel_rfl
theorem agg56 (w : World) : (isAgg 133).run Tryz.prog w = .ok false w := by kernel_rfl
theorem run_eq16 (d : Nat) (xs ys : Array Value) (f g : Nat → Nat) (w : World) (hx : ∀ j, j < 16 → xs[j]? = some (.int .u32 (f j))) (hy : ∀ j, j < 16 → ys[j]? = some (.int .u32 (g j))) :
    (Op.equalIn (d + 2) 134 (.agg xs) (.agg ys)).run Tryz.prog w = .ok ((List.range 16).all fun j => f j == g j) w := by
  rw [Op.equalIn]
  simp only [Sem.run_bind, run_underlying Tryz.underlying134, Result.andThen_ok, size56]
  rw [Std.Legacy.Range.forIn_eq_forIn_range']
  have key : ∀ (n s : Nat), s + n ≤ 16 →
      Sem.run Tryz.prog (forIn (List.range' s n 1) ((none, ()) : Option Bool × Unit) fun i __s => do
              let __do_lift ← part 133 xs (i * 1)
              let __do_lift_1 ← part 133 ys (i * 1)
              let __do_lift ← Op.equalIn (d + 1) 133 __do_lift __do_lift_1
              if (!__do_lift) = true then pure (ForInStep.done (some false, ()))
                else pure (ForInStep.yield (none, ()))) w =
      .ok (if ((List.range' s n 1).all fun j => f j == g j) = true then (none, ()) else (some false, ())) w := by
    intro n
    induction n with
    | zero => intro s _; simp
    | succ n ih =>
      intro s hs
      have ih' := ih (s + 1) (by omega)
      simp only [List.range'_succ, List.forIn_cons, Sem.run_bind, part, agg56, Result.andThen_ok, Bool.false_eq_true, if_false, Nat.mul_one, hx s (by omega), hy s (by omega), Sem.run_ite, Sem.run_pure, run_equalIn_int w d 133 .u32 .u32 _ _ Tryz.underlying133, List.all_cons]
      by_cases e : f s = g s
      · simp only [e, beq_self_eq_true, Bool.not_true, Bool.false_eq_true, if_false, Result.andThen_ok, Bool.true_and]
        simpa [part, Sem.run_bind] using ih'
      · have e' : ((f s : Int) == (g s : Int)) = false := by simp; omega
        have e'' : (f s == g s) = false := by simp; omega
        simp [e', e'']
  have k0 := key 16 0 (by omega)
  rw [← List.range_eq_range'] at k0
  have e : List.range' [:16].start [:16].size [:16].step = List.range 16 := by decide
  rw [e, k0]
  generalize ((List.range 16).all fun j => f j == g j) = b
  cases b <;> simp
theorem word_extract {c : Array Value} {n : Bool} {f : Nat → Nat} (hc : IsNum c n f) (j : Nat) (hj : j < 16) : (c.extract 1 17)[j]? = some (.int .u32 (f j)) := by
  rw [Array.getElem?_extract, if_pos (by have := hc.size; omega)]
  exact hc.word j hj
theorem info57 : (Tryz.prog.info? 134).map (·.size) = some 16 := by kernel_rfl
theorem wpList_load_words {ops : Array Oper} {rest : List Oper} {o : Oper} {a : Act} {w : World} {Q : Exit → Act → World → Prop} (g : Nat) (c : Array Value) (hg : w.heap[g]? = some (.cells c 136)) (hs : c.size = 17)
    (x : Operand) (hgd : o.guard = none) (ho : o.op = .load 134 x) (hx : a.eval x = .pointer (some ⟨g, 1, none⟩))
    (h : wpList Tryz.prog ops Q rest (a.put o.dst (.agg (c.extract 1 17))) w) : wpList Tryz.prog ops Q (o :: rest) a w :=
  wpList_load_mid hgd 134 x ho g 1 hx (c.extract 1 17).toList _ (World.rangeAt_of_block hg 1 16) Tryz.underlying134 rfl (by rw [info57]; simp [hs]) (by rw [Array.toArray_toList]; exact h)

def zero57 : Array Value := #[.int .u32 0, .int .u32 0, .int .u32 0, .int .u32 0, .int .u32 0, .int .u32 0, .int .u32 0, .int .u32 0, .int .u32 0, .int .u32 0, .int .u32 0, .int .u32 0, .int .u32 0, .int .u32 0, .int .u32 0, .int .u32 0]
theorem zero57_at (j : Nat) (hj : j < 16) : zero57[j]? = some (.int .u32 ((0 : Nat) : Int)) := by
  match j, hj with
  | 0, _ => rfl
  | 1, _ => rfl
  | 2, _ => rfl
  | 3, _ => rfl
  | 4, _ => rfl
  | 5, _ => rfl
  | 6, _ => rfl
  | 7, _ => rfl
  | 8, _ => rfl
  | 9, _ => rfl
  | 10, _ => rfl
  | 11, _ => rfl
  | 12, _ => rfl
  | 13, _ => rfl
  | 14, _ => rfl
  | 15, _ => rfl
  | k + 16, h => exact absurd h (by omega)

theorem wpList_eql_words {ops : Array Oper} {rest : List Oper} {o : Oper} {a : Act} {w : World} {Q : Exit → Act → World → Prop} (xs ys : Array Value) (r : Bool)
    (he : (binOp .eql 134 (.agg xs) (.agg ys)).run Tryz.prog w = .ok (.bool r) w)
    (x y : Operand) (hgd : o.guard = none) (ho : o.op = .binOp .eql 134 x y 134) (hx : a.eval x = .agg xs) (hy : a.eval y = .agg ys)
    (h : wpList Tryz.prog ops Q rest (a.put o.dst (.bool r)) w) : wpList Tryz.prog ops Q (o :: rest) a w :=
  wpList_plain hgd fun _ hK => by
    unfold Oper.wp execOp
    simp only [ho, hx, hy]
    have hm : Tryz.prog.eqGuardType Tryz.prog.depth 134 = false := by kernel_rfl
    rw [Sem.run_bind, Sem.run_bind, run_eqGuard_agg w .eql 134 x y xs ys hm, Result.andThen_ok, he, Result.andThen_ok]
    exact hK _ _ h

/-- Compare of two signs and amounts, as the text has it. -/
def cmpS (n : Bool) (x : Nat) (m : Bool) (y : Nat) : Int :=
  if n && !m then -1 else if m && !n then 1 else if n then cmpI y x else cmpI x y

end Go.Proofs.YtoifjjgakblhhaaGreatDoor

/- Decimals as whole numbers scaled by 10 ^ 54, and back. No Go stands here. -/
namespace Go.Proofs.YtoifjjgakblhhaaGreatDoor

/-- A signed amount. -/
def sv (n : Bool) (x : Nat) : Int := if n then -(x : Int) else x
/-- What a decimal is as a number: its sign, its amount scaled by 10 ^ 54. -/
def dsign (l : List UInt8) : Bool := ((splitP l).getD (false, [], [])).1
def damt (l : List UInt8) : Nat := num54 ((splitP l).getD (false, [], [])).2.1 ((splitP l).getD (false, [], [])).2.2
def dval (l : List UInt8) : Int := sv (dsign l) (damt l)
/-- The text of a number scaled by 10 ^ 54, if it may be. -/
def txt (z : Int) : Option (List UInt8) := wrN (decide (z < 0)) z.natAbs

theorem wr_zero (n m : Bool) (a b : List UInt8) (ha : a.all isDig = true) (hb : b.all isDig = true) (h1 : valD a = 0) (h2 : valD b = 0) : wr n a b = wr m a b := by
  unfold wr
  simp only [(trimL_nil ha).2 h1, (trimR_nil hb).2 h2, List.append_nil, List.isEmpty_nil, Bool.not_true, Bool.and_false]

theorem wrN_sv (r : Bool) (x : Nat) : wrN r x = txt (sv r x) := by
  unfold txt sv
  cases r
  · simp only [Bool.false_eq_true, if_false]
    rw [Int.natAbs_natCast, decide_eq_false (by omega)]
  · simp only [if_true]
    rw [Int.natAbs_neg, Int.natAbs_natCast]
    by_cases h : x = 0
    · subst h
      exact wr_zero _ _ _ _ (digsOf_dig _ _ _) (digsOf_dig _ _ _) (by simp [digsOf_val]) (by simp [digsOf_val])
    · rw [decide_eq_true (by omega)]

theorem num54_facts (a b : List UInt8) (ha : a.all isDig = true) (hb : b.all isDig = true) (la : a.length ≤ 40) (lb : b.length ≤ 20) : num54 a b < 10 ^ 94 ∧ num54 a b % 10 ^ 34 = 0 := by
  have h1 := valD_lt a ha
  have h2 := valD_lt b hb
  have h3 : 10 ^ a.length ≤ 10 ^ 40 := Nat.pow_le_pow_right (by omega) la
  have h4 : valD b * 10 ^ (54 - b.length) < 10 ^ b.length * 10 ^ (54 - b.length) := Nat.mul_lt_mul_of_pos_right h2 (Nat.pow_pos (by omega))
  rw [← Nat.pow_add, show b.length + (54 - b.length) = 54 by omega] at h4
  unfold num54
  constructor
  · have h5 : (valD a + 1) * 10 ^ 54 ≤ 10 ^ 40 * 10 ^ 54 := Nat.mul_le_mul_right _ (by omega)
    rw [← Nat.pow_add, Nat.add_mul] at h5
    omega
  · have e1 : 10 ^ 54 = 10 ^ 20 * 10 ^ 34 := by rw [← Nat.pow_add]
    have e2 : 10 ^ (54 - b.length) = 10 ^ (20 - b.length) * 10 ^ 34 := by rw [← Nat.pow_add]; congr 1; omega
    rw [e1, e2, ← Nat.mul_assoc, ← Nat.mul_assoc, ← Nat.add_mul, Nat.mul_mod_left]

/-- What a decimal is. -/
theorem chk_dec (l : List UInt8) (h : chk l = true) : txt (dval l) = some l ∧ damt l < 10 ^ 94 ∧ damt l % 10 ^ 34 = 0 ∧ (dsign l = true → damt l ≠ 0) ∧
    ∃ a b, splitP l = some (dsign l, a, b) ∧ a.all isDig = true ∧ b.all isDig = true ∧ a.length ≤ 40 ∧ b.length ≤ 20 ∧ damt l = num54 a b := by
  obtain ⟨n, a, b, hsp, ha, hb, la, lb, hw, hz⟩ := chk_parts l h
  have e1 : dsign l = n := by unfold dsign; rw [hsp]; rfl
  have e2 : damt l = num54 a b := by unfold damt; rw [hsp]; rfl
  obtain ⟨f1, f2⟩ := num54_facts a b ha hb la lb
  have hlt := valD_lt a ha
  have h90 : 10 ^ a.length ≤ 10 ^ 90 := Nat.pow_le_pow_right (by omega) (by omega)
  refine ⟨?_, by rw [e2]; exact f1, by rw [e2]; exact f2, ?_, a, b, by rw [e1]; exact hsp, ha, hb, la, lb, e2⟩
  · unfold dval
    rw [← wrN_sv, e1, e2, ← hw, wr_wrN n a b ha hb (by omega) (by omega)]
    rfl
  · rw [e1, e2]
    intro hn h0
    apply hz hn
    unfold num54 at h0
    have p1 : 0 < 10 ^ (54 - b.length) := Nat.pow_pos (by omega)
    rcases Nat.add_eq_zero_iff.1 h0 with ⟨q1, q2⟩
    rw [Nat.mul_eq_zero] at q1 q2
    exact ⟨by omega, by omega⟩

end Go.Proofs.YtoifjjgakblhhaaGreatDoor
