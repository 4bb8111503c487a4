/- Whole numbers as texts, the document's way. -/
import Derived.Test.YtabgilmehehbjaaDoorGx
import Derived.Test.YtabgilmehehbjaaDoorGv
import Derived.Lib.ItoaLen
namespace Go.Proofs.YtabgilmehehbjaaDoor
open Go.RowKit

/-- One step of writing a whole number: the last digit goes ahead of what is written. -/
theorem num_step {u : Nat} {X : ByteArray} {full : List UInt8} (h : Lib.decDigits u ++ X.data.toList = full) (hu : 10 ≤ u) :
    Lib.decDigits (u / 10) ++ (bs [UInt8.ofNat (48 + u % 10)] ++ X).data.toList = full := by
  have e : (bs [UInt8.ofNat (48 + u % 10)] ++ X).data.toList = UInt8.ofNat (48 + u % 10) :: X.data.toList := by
    rw [ByteArray.data_append, Array.toList_append]; rfl
  have := dec_tail u X.data.toList
  rw [if_neg (by omega)] at this
  rw [e, this, h]
theorem num_last {u : Nat} {X : ByteArray} {full : List UInt8} (h : Lib.decDigits u ++ X.data.toList = full) (hu : u < 10) :
    bs [UInt8.ofNat (48 + u % 10)] ++ X = bs full := by
  apply bytes_ext
  have e : (bs [UInt8.ofNat (48 + u % 10)] ++ X).data.toList = UInt8.ofNat (48 + u % 10) :: X.data.toList := by
    rw [ByteArray.data_append, Array.toList_append]; rfl
  have := dec_tail u X.data.toList
  rw [if_pos hu] at this
  rw [e]
  show _ = full
  rw [← h, ← this]; rfl
theorem one_byte (W : World) (d : Nat) (hd : d ≤ 9) : (convert 55 9 (.slice (some ⟨W.heap.size, 0, none⟩) 1 1)).run Tryd.prog (W.alloc (.cells #[.int .u8 (48 + (d : Int))] 5)) = .ok (.string (bs [UInt8.ofNat (48 + d)])) (W.alloc (.cells #[.int .u8 (48 + (d : Int))] 5)) := by
  have := run_convert_bytes_back (P := Tryd.prog) (W.alloc (.cells #[.int .u8 (48 + (d : Int))] 5)) 55 9 5 ⟨W.heap.size, 0, none⟩ 1 [UInt8.ofNat (48 + d)] Tryd.underlying55 Tryd.underlying5 Tryd.underlying9 (fun j hj => by
    have : j = 0 := by simp at hj; exact hj
    subst this
    rw [Addr.add_mid, Nat.zero_add]
    refine (cell_of (heap_new W _ rfl) 0 rfl).trans ?_
    have e8 : (UInt8.ofNat (48 + d)).toNat = 48 + d := by rw [UInt8.toNat_ofNat']; omega
    show some (Value.int .u8 (48 + (d : Int))) = some (Value.int .u8 (((UInt8.ofNat (48 + d)).toNat : Nat) : Int))
    rw [e8, Int.natCast_add]; rfl)
  exact this
theorem bs_one (c : UInt8) : (bs [c]).size = 1 := rfl

set_option maxRecDepth 20000 in
set_option maxHeartbeats 1600000 in
theorem refOfIntNat (n : Nat) (h1 : n < 9223372036854775808) (w : World) (F : ByteArray) (hF : Hid (F = bs (Lib.decDigits n))) :
    Calls Tryd.prog 18 #[.int .i64 n] w fun e w' => e = .returned (.string (F ++ ⟨#[46, 48]⟩)) ∧ Below w.heap.size w w' := by
  have hlen : (Lib.decDigits n).length ≤ 21 := by
    have := Lib.itoa_length_le n (by omega) (by omega)
    rwa [Lib.itoa_nonneg] at this
  have HL := Lib.hid hlen
  have HFS : F.size ≤ 21 := by rw [hF.out]; simpa [ByteArray.size] using hlen
  clear hlen
  go_enter Tryd.func18, Tryd.ntmps18
  go_wp2_with fail
  go_loopg [3, 4] n (fun gg s3 s4 wr => ∃ (u : Nat) (X : ByteArray), u ≤ gg ∧ u ≤ 9223372036854775807 ∧ s4 = .int .i64 u ∧ s3 = .string X ∧ X.size ≤ 21 ∧ Hid (Lib.decDigits u ++ X.data.toList = Lib.decDigits n) ∧ Below w.heap.size w wr)
  case atStart => exact ⟨n, ⟨#[]⟩, Nat.le_refl _, by omega, rfl, rfl, by decide, Lib.hid (List.append_nil _), Below.refl _ _⟩
  case round =>
    obtain ⟨u, X, hug, hub, rfl, rfl, hxs, HX, hb⟩ := hrel
    obtain ⟨d, hd⟩ : ∃ d, d = u % 10 := ⟨_, rfl⟩
    have hd9 : d ≤ 9 := by omega
    have e1 : (u : Int) % 10 = d := by omega
    have hw1 : IntKind.u8.wrap (48 + (d : Int)) = 48 + d := by unfold IntKind.wrap; simp [IntKind.bits, IntKind.signed]; omega
    obtain ⟨C, hC⟩ : ∃ C, C = bs [UInt8.ofNat (48 + d)] := ⟨_, rfl⟩
    have hcv := one_byte wr d hd9
    rw [← hC] at hcv
    have hcs : C.size = 1 := by rw [hC]; rfl
    have hcs2 : C.size ≤ 1 := by omega
    have HC := Lib.hid hC
    have HD := Lib.hid hd
    have hbn := hb.alloc hb.size (.cells #[.int .u8 (48 + (d : Int))] 5)
    clear hC hd hcs
    by_cases h10 : u < 10
    · have e2 : (u : Int) / 10 = 0 := by omega
      have hl := num_last HX.out h10
      rw [← HD.out, ← HC.out] at hl
      have HLL : Hid (C ++ X = F) := Lib.hid (by rw [hl, hF.out])
      clear hl
      go_wp2_with fail
      go_ret
      exact ⟨by rw [← HLL.out]; rfl, hbn⟩
    · obtain ⟨q, hq⟩ : ∃ q, q = u / 10 := ⟨_, rfl⟩
      have e2 : (u : Int) / 10 = q := by omega
      have hq0 : ¬ (q : Int) = 0 := by omega
      have hq0b : ((q : Int) == 0) = false := by simpa using hq0
      have hs := num_step HX.out (by omega)
      rw [← HD.out, ← HC.out, ← hq] at hs
      have HSS := Lib.hid hs
      clear hs hq
      have hsz : (C ++ X).size ≤ 21 := by
        have h1 := congrArg List.length HSS.out
        have h2 := HL.out
        rw [List.length_append] at h1
        have h3 : (C ++ X).data.toList.length = (C ++ X).size := Array.length_toList
        omega
      have HSZ := Lib.hid hsz
      clear hsz
      go_wp2_with fail
      go_roundg q
      case measure => omega
      case rel => exact ⟨q, C ++ X, Nat.le_refl _, by omega, rfl, rfl, HSZ.out, HSS, hbn⟩
theorem neg_tdiv (u : Nat) : (-(u : Int)).tdiv 10 = -((u / 10 : Nat) : Int) := by
  rw [Int.neg_tdiv, show (10 : Int) = ((10 : Nat) : Int) from rfl, ← Int.ofNat_tdiv]
theorem neg_tmod (u : Nat) : (-(u : Int)).tmod 10 = -((u % 10 : Nat) : Int) := by
  rw [Int.neg_tmod, show (10 : Int) = ((10 : Nat) : Int) from rfl, ← Int.ofNat_tmod]

set_option maxRecDepth 20000 in
set_option maxHeartbeats 1600000 in
theorem refOfIntNeg (n : Nat) (h0 : 1 ≤ n) (h1 : n ≤ 9223372036854775808) (w : World) (F : ByteArray) (hF : Hid (F = bs (Lib.decDigits n))) :
    Calls Tryd.prog 18 #[.int .i64 (-(n : Int))] w fun e w' => e = .returned (.string (⟨#[45]⟩ ++ F ++ ⟨#[46, 48]⟩)) ∧ Below w.heap.size w w' := by
  have hlen : (Lib.decDigits n).length ≤ 21 := by
    have := Lib.itoa_length_le (-(n : Int)) (by omega) (by omega)
    rw [Lib.itoa_neg n h0] at this
    simp at this; omega
  have HL := Lib.hid hlen
  have HFS : F.size ≤ 21 := by rw [hF.out]; simpa [ByteArray.size] using hlen
  clear hlen
  go_enter Tryd.func18, Tryd.ntmps18
  go_wp2_with fail
  go_loopg [3, 4] n (fun gg s3 s4 wr => ∃ (u : Nat) (X : ByteArray) (m : Int), u ≤ gg ∧ u ≤ 9223372036854775808 ∧ s4 = .int .i64 m ∧ Hid (m = -(u : Int)) ∧ m ≤ 0 ∧ -9223372036854775808 ≤ m ∧ s3 = .string X ∧ X.size ≤ 21 ∧ Hid (Lib.decDigits u ++ X.data.toList = Lib.decDigits n) ∧ Below w.heap.size w wr)
  case atStart => exact ⟨n, ⟨#[]⟩, _, Nat.le_refl _, h1, rfl, Lib.hid rfl, by omega, by omega, rfl, by decide, Lib.hid (List.append_nil _), Below.refl _ _⟩
  case round =>
    obtain ⟨u, X, m, hug, hub, rfl, HM, hm0, hm1, rfl, hxs, HX, hb⟩ := hrel
    obtain ⟨d, hd⟩ : ∃ d, d = u % 10 := ⟨_, rfl⟩
    have hd9 : d ≤ 9 := by omega
    have e1 : m.tmod 10 = -(d : Int) := by rw [HM.out, neg_tmod, hd]
    have hw1 : IntKind.u8.wrap (48 + (d : Int)) = 48 + d := by unfold IntKind.wrap; simp [IntKind.bits, IntKind.signed]; omega
    obtain ⟨C, hC⟩ : ∃ C, C = bs [UInt8.ofNat (48 + d)] := ⟨_, rfl⟩
    have hcv := one_byte wr d hd9
    rw [← hC] at hcv
    have hcs : C.size = 1 := by rw [hC]; rfl
    have hcs2 : C.size ≤ 1 := by omega
    have HC := Lib.hid hC
    have HD := Lib.hid hd
    have hbn := hb.alloc hb.size (.cells #[.int .u8 (48 + (d : Int))] 5)
    clear hC hd hcs
    by_cases hd0 : d = 0
    · have e3 : m.tmod 10 = 0 := by rw [e1, hd0]; rfl
      subst hd0
      have hcv0 : (convert 55 9 (.slice (some ⟨wr.heap.size, 0, none⟩) 1 1)).run Tryd.prog (wr.alloc (.cells #[.int .u8 48] 5)) = .ok (.string C) (wr.alloc (.cells #[.int .u8 48] 5)) := hcv
      have hbn0 : Below w.heap.size w (wr.alloc (.cells #[.int .u8 48] 5)) := hbn
      clear e1 hcv hbn hw1
      have hbn := hbn0
      clear hbn0
      by_cases h10 : u < 10
      · have e2 : m.tdiv 10 = 0 := by rw [HM.out, neg_tdiv, Nat.div_eq_of_lt h10]; rfl
        have hl := num_last HX.out h10
        rw [← HD.out, ← HC.out] at hl
        have HLL : Hid (C ++ X = F) := Lib.hid (by rw [hl, hF.out])
        have hn0 : -(n : Int) < 0 := by omega
        have hsx : (C ++ X).size ≤ 21 := by rw [HLL.out]; exact HFS
        have HSX := Lib.hid hsx
        clear hl hsx
        go_wp2_with fail
        go_ret
        exact ⟨by rw [← HLL.out]; rfl, hbn⟩
      · obtain ⟨q, hq⟩ : ∃ q, q = u / 10 := ⟨_, rfl⟩
        obtain ⟨m2, hm2⟩ : ∃ m2 : Int, m2 = -(q : Int) := ⟨_, rfl⟩
        have e2 : m.tdiv 10 = m2 := by rw [HM.out, neg_tdiv, hm2, hq]
        have hq0 : ¬ m2 = 0 := by omega
        have hq0b : (m2 == 0) = false := by simpa using hq0
        have hs := num_step HX.out (by omega)
        rw [← HD.out, ← HC.out, ← hq] at hs
        have HSS := Lib.hid hs
        have HM2 := Lib.hid hm2
        have hr1 : m2 ≤ 0 := by omega
        have hr2 : -9223372036854775808 ≤ m2 := by omega
        have hqu : q < u := by omega
        have hsz : (C ++ X).size ≤ 21 := by
          have h1 := congrArg List.length HSS.out
          have h2 := HL.out
          rw [List.length_append] at h1
          have h3 : (C ++ X).data.toList.length = (C ++ X).size := Array.length_toList
          omega
        have HSZ := Lib.hid hsz
        clear hsz hs hm2 hq
        go_wp2_with fail
        go_roundg q
        case measure => omega
        case rel => exact ⟨q, C ++ X, m2, Nat.le_refl _, by omega, rfl, HM2, hr1, hr2, rfl, HSZ.out, HSS, hbn⟩
    · have hdn : -(d : Int) < 0 := by omega
      by_cases h10 : u < 10
      · have e2 : m.tdiv 10 = 0 := by rw [HM.out, neg_tdiv, Nat.div_eq_of_lt h10]; rfl
        have hl := num_last HX.out h10
        rw [← HD.out, ← HC.out] at hl
        have HLL : Hid (C ++ X = F) := Lib.hid (by rw [hl, hF.out])
        have hn0 : -(n : Int) < 0 := by omega
        have hsx : (C ++ X).size ≤ 21 := by rw [HLL.out]; exact HFS
        have HSX := Lib.hid hsx
        clear hl hsx
        go_wp2_with fail
        go_ret
        exact ⟨by rw [← HLL.out]; rfl, hbn⟩
      · obtain ⟨q, hq⟩ : ∃ q, q = u / 10 := ⟨_, rfl⟩
        obtain ⟨m2, hm2⟩ : ∃ m2 : Int, m2 = -(q : Int) := ⟨_, rfl⟩
        have e2 : m.tdiv 10 = m2 := by rw [HM.out, neg_tdiv, hm2, hq]
        have hq0 : ¬ m2 = 0 := by omega
        have hq0b : (m2 == 0) = false := by simpa using hq0
        have hs := num_step HX.out (by omega)
        rw [← HD.out, ← HC.out, ← hq] at hs
        have HSS := Lib.hid hs
        have HM2 := Lib.hid hm2
        have hr1 : m2 ≤ 0 := by omega
        have hr2 : -9223372036854775808 ≤ m2 := by omega
        have hqu : q < u := by omega
        have hsz : (C ++ X).size ≤ 21 := by
          have h1 := congrArg List.length HSS.out
          have h2 := HL.out
          rw [List.length_append] at h1
          have h3 : (C ++ X).data.toList.length = (C ++ X).size := Array.length_toList
          omega
        have HSZ := Lib.hid hsz
        clear hsz hs hm2 hq
        go_wp2_with fail
        go_roundg q
        case measure => omega
        case rel => exact ⟨q, C ++ X, m2, Nat.le_refl _, by omega, rfl, HM2, hr1, hr2, rfl, HSZ.out, HSS, hbn⟩
end Go.Proofs.YtabgilmehehbjaaDoor
