/- Texts of one kind, one behind the other: each says ahead of itself what it shows. -/
import Derived.Test.YtanbgdhmfjgihaaGreatDoorJaq
import Derived.Lib.ItoaLen
import Derived.Test.YtanbgdhmfjgihaaGreatDoorJap
import Derived.Test.YtanbgdhmfjgihaaGreatDoorJai
import Derived.Test.YtanbgdhmfjgihaaGreatDoorJal
import Derived.Laws.Cover1
/- Whole numbers as texts, the document's way. -/
namespace Go.Proofs.YtanbgdhmfjgihaaGreatDoor
open Go.RowKit

/-- One step of writing a whole number: the last digit goes ahead of what is written. -/
theorem num_step {u : Nat} {X : ByteArray} {full : List UInt8} (h : Lib.decDigits u ++ X.data.toList = full) (hu : 10 ≤ u) :
    Lib.decDigits (u / 10) ++ (bs [UInt8.ofNat (48 + u % 10)] ++ X).data.toList = full := by
  have e : (bs [UInt8.ofNat (48 + u % 10)] ++ X).data.toList = UInt8.ofNat (48 + u % 10) :: X.data.toList := by
    rw [ByteArray.data_append, Array.toList_append]; rfl
  have := dec_tail u X.data.toList
  rw [if_neg (by omega)] at this
  rw [e, this, h]
theorem num_last {u : Nat} {X : ByteArray} {full : List UInt8} (h : Lib.decDigits u ++ X.data.toList = full) (hu : u < 10) :
    bs [UInt8.ofNat (48 + u % 10)] ++ X = bs full := by
  apply bytes_ext
  have e : (bs [UInt8.ofNat (48 + u % 10)] ++ X).data.toList = UInt8.ofNat (48 + u % 10) :: X.data.toList := by
    rw [ByteArray.data_append, Array.toList_append]; rfl
  have := dec_tail u X.data.toList
  rw [if_pos hu] at this
  rw [e]
  show _ = full
  rw [← h, ← this]; rfl
theorem one_byte (W : World) (d : Nat) (hd : d ≤ 9) : (convert 163 9 (.slice (some ⟨W.heap.size, 0, none⟩) 1 1)).run Tryz.prog (W.alloc (.cells #[.int .u8 (48 + (d : Int))] 5)) = .ok (.string (bs [UInt8.ofNat (48 + d)])) (W.alloc (.cells #[.int .u8 (48 + (d : Int))] 5)) := by
  have := run_convert_bytes_back (P := Tryz.prog) (W.alloc (.cells #[.int .u8 (48 + (d : Int))] 5)) 163 9 5 ⟨W.heap.size, 0, none⟩ 1 [UInt8.ofNat (48 + d)] Tryz.underlying163 Tryz.underlying5 Tryz.underlying9 (fun j hj => by
    have : j = 0 := by simp at hj; exact hj
    subst this
    rw [Addr.add_mid, Nat.zero_add]
    refine (cell_of (heap_new W _ rfl) 0 rfl).trans ?_
    have e8 : (UInt8.ofNat (48 + d)).toNat = 48 + d := by rw [UInt8.toNat_ofNat']; omega
    show some (Value.int .u8 (48 + (d : Int))) = some (Value.int .u8 (((UInt8.ofNat (48 + d)).toNat : Nat) : Int))
    rw [e8, Int.natCast_add]; rfl)
  exact this
set_option maxRecDepth 20000 in
set_option maxHeartbeats 1600000 in
theorem refOfIntNat (n : Nat) (h1 : n < 9223372036854775808) (w : World) (F : ByteArray) (hF : Hid (F = bs (Lib.decDigits n))) :
    Calls Tryz.prog 98 #[.int .i64 n] w fun e w' => e = .returned (.string (F ++ ⟨#[46, 48]⟩)) ∧ Below w.heap.size w w' := by
  have hlen : (Lib.decDigits n).length ≤ 21 := by
    have := Lib.itoa_length_le n (by omega) (by omega)
    rwa [Lib.itoa_nonneg] at this
  have HL := Lib.hid hlen
  have HFS : F.size ≤ 21 := by rw [hF.out]; simpa [ByteArray.size] using hlen
  clear hlen
  go_enter Tryz.func98, Tryz.ntmps98
  go_wp2_with fail
  go_loopg [3, 4] n (fun gg s3 s4 wr => ∃ (u : Nat) (X : ByteArray), u ≤ gg ∧ u ≤ 9223372036854775807 ∧ s4 = .int .i64 u ∧ s3 = .string X ∧ X.size ≤ 21 ∧ Hid (Lib.decDigits u ++ X.data.toList = Lib.decDigits n) ∧ Below w.heap.size w wr)
  case atStart => exact ⟨n, ⟨#[]⟩, Nat.le_refl _, by omega, rfl, rfl, by decide, Lib.hid (List.append_nil _), Below.refl _ _⟩
  case round =>
    obtain ⟨u, X, hug, hub, rfl, rfl, hxs, HX, hb⟩ := hrel
    obtain ⟨d, hd⟩ : ∃ d, d = u % 10 := ⟨_, rfl⟩
    have hd9 : d ≤ 9 := by omega
    have e1 : (u : Int) % 10 = d := by omega
    have hw1 : IntKind.u8.wrap (48 + (d : Int)) = 48 + d := by unfold IntKind.wrap; simp [IntKind.bits, IntKind.signed]; omega
    obtain ⟨C, hC⟩ : ∃ C, C = bs [UInt8.ofNat (48 + d)] := ⟨_, rfl⟩
    have hcv := one_byte wr d hd9
    rw [← hC] at hcv
    have hcs : C.size = 1 := by rw [hC]; rfl
    have hcs2 : C.size ≤ 1 := by omega
    have HC := Lib.hid hC
    have HD := Lib.hid hd
    have hbn := hb.alloc hb.size (.cells #[.int .u8 (48 + (d : Int))] 5)
    clear hC hd hcs
    by_cases h10 : u < 10
    · have e2 : (u : Int) / 10 = 0 := by omega
      have hl := num_last HX.out h10
      rw [← HD.out, ← HC.out] at hl
      have HLL : Hid (C ++ X = F) := Lib.hid (by rw [hl, hF.out])
      clear hl
      go_wp2_with fail
      go_ret
      exact ⟨by rw [← HLL.out]; rfl, hbn⟩
    · obtain ⟨q, hq⟩ : ∃ q, q = u / 10 := ⟨_, rfl⟩
      have e2 : (u : Int) / 10 = q := by omega
      have hq0 : ¬ (q : Int) = 0 := by omega
      have hq0b : ((q : Int) == 0) = false := by simpa using hq0
      have hs := num_step HX.out (by omega)
      rw [← HD.out, ← HC.out, ← hq] at hs
      have HSS := Lib.hid hs
      clear hs hq
      have hsz : (C ++ X).size ≤ 21 := by
        have h1 := congrArg List.length HSS.out
        have h2 := HL.out
        rw [List.length_append] at h1
        have h3 : (C ++ X).data.toList.length = (C ++ X).size := Array.length_toList
        omega
      have HSZ := Lib.hid hsz
      clear hsz
      go_wp2_with fail
      go_roundg q
      case measure => omega
      case rel => exact ⟨q, C ++ X, Nat.le_refl _, by omega, rfl, rfl, HSZ.out, HSS, hbn⟩
theorem neg_tdiv (u : Nat) : (-(u : Int)).tdiv 10 = -((u / 10 : Nat) : Int) := by
  rw [Int.neg_tdiv, show (10 : Int) = ((10 : Nat) : Int) from rfl, ← Int.ofNat_tdiv]
theorem neg_tmod (u : Nat) : (-(u : Int)).tmod 10 = -((u % 10 : Nat) : Int) := by
  rw [Int.neg_tmod, show (10 : Int) = ((10 : Nat) : Int) from rfl, ← Int.ofNat_tmod]

set_option maxRecDepth 20000 in
set_option maxHeartbeats 1600000 in
theorem refOfIntNeg (n : Nat) (h0 : 1 ≤ n) (h1 : n ≤ 9223372036854775808) (w : World) (F : ByteArray) (hF : Hid (F = bs (Lib.decDigits n))) :
    Calls Tryz.prog 98 #[.int .i64 (-(n : Int))] w fun e w' => e = .returned (.string (⟨#[45]⟩ ++ F ++ ⟨#[46, 48]⟩)) ∧ Below w.heap.size w w' := by
  have hlen : (Lib.decDigits n).length ≤ 21 := by
    have := Lib.itoa_length_le (-(n : Int)) (by omega) (by omega)
    rw [Lib.itoa_neg n h0] at this
    simp at this; omega
  have HL := Lib.hid hlen
  have HFS : F.size ≤ 21 := by rw [hF.out]; simpa [ByteArray.size] using hlen
  clear hlen
  go_enter Tryz.func98, Tryz.ntmps98
  go_wp2_with fail
  go_loopg [3, 4] n (fun gg s3 s4 wr => ∃ (u : Nat) (X : ByteArray) (m : Int), u ≤ gg ∧ u ≤ 9223372036854775808 ∧ s4 = .int .i64 m ∧ Hid (m = -(u : Int)) ∧ m ≤ 0 ∧ -9223372036854775808 ≤ m ∧ s3 = .string X ∧ X.size ≤ 21 ∧ Hid (Lib.decDigits u ++ X.data.toList = Lib.decDigits n) ∧ Below w.heap.size w wr)
  case atStart => exact ⟨n, ⟨#[]⟩, _, Nat.le_refl _, h1, rfl, Lib.hid rfl, by omega, by omega, rfl, by decide, Lib.hid (List.append_nil _), Below.refl _ _⟩
  case round =>
    obtain ⟨u, X, m, hug, hub, rfl, HM, hm0, hm1, rfl, hxs, HX, hb⟩ := hrel
    obtain ⟨d, hd⟩ : ∃ d, d = u % 10 := ⟨_, rfl⟩
    have hd9 : d ≤ 9 := by omega
    have e1 : m.tmod 10 = -(d : Int) := by rw [HM.out, neg_tmod, hd]
    have hw1 : IntKind.u8.wrap (48 + (d : Int)) = 48 + d := by unfold IntKind.wrap; simp [IntKind.bits, IntKind.signed]; omega
    obtain ⟨C, hC⟩ : ∃ C, C = bs [UInt8.ofNat (48 + d)] := ⟨_, rfl⟩
    have hcv := one_byte wr d hd9
    rw [← hC] at hcv
    have hcs : C.size = 1 := by rw [hC]; rfl
    have hcs2 : C.size ≤ 1 := by omega
    have HC := Lib.hid hC
    have HD := Lib.hid hd
    have hbn := hb.alloc hb.size (.cells #[.int .u8 (48 + (d : Int))] 5)
    clear hC hd hcs
    by_cases hd0 : d = 0
    · have e3 : m.tmod 10 = 0 := by rw [e1, hd0]; rfl
      subst hd0
      have hcv0 : (convert 163 9 (.slice (some ⟨wr.heap.size, 0, none⟩) 1 1)).run Tryz.prog (wr.alloc (.cells #[.int .u8 48] 5)) = .ok (.string C) (wr.alloc (.cells #[.int .u8 48] 5)) := hcv
      have hbn0 : Below w.heap.size w (wr.alloc (.cells #[.int .u8 48] 5)) := hbn
      clear e1 hcv hbn hw1
      have hbn := hbn0
      clear hbn0
      by_cases h10 : u < 10
      · have e2 : m.tdiv 10 = 0 := by rw [HM.out, neg_tdiv, Nat.div_eq_of_lt h10]; rfl
        have hl := num_last HX.out h10
        rw [← HD.out, ← HC.out] at hl
        have HLL : Hid (C ++ X = F) := Lib.hid (by rw [hl, hF.out])
        have hn0 : -(n : Int) < 0 := by omega
        have hsx : (C ++ X).size ≤ 21 := by rw [HLL.out]; exact HFS
        have HSX := Lib.hid hsx
        clear hl hsx
        go_wp2_with fail
        go_ret
        exact ⟨by rw [← HLL.out]; rfl, hbn⟩
      · obtain ⟨q, hq⟩ : ∃ q, q = u / 10 := ⟨_, rfl⟩
        obtain ⟨m2, hm2⟩ : ∃ m2 : Int, m2 = -(q : Int) := ⟨_, rfl⟩
        have e2 : m.tdiv 10 = m2 := by rw [HM.out, neg_tdiv, hm2, hq]
        have hq0 : ¬ m2 = 0 := by omega
        have hq0b : (m2 == 0) = false := by simpa using hq0
        have hs := num_step HX.out (by omega)
        rw [← HD.out, ← HC.out, ← hq] at hs
        have HSS := Lib.hid hs
        have HM2 := Lib.hid hm2
        have hr1 : m2 ≤ 0 := by omega
        have hr2 : -9223372036854775808 ≤ m2 := by omega
        have hqu : q < u := by omega
        have hsz : (C ++ X).size ≤ 21 := by
          have h1 := congrArg List.length HSS.out
          have h2 := HL.out
          rw [List.length_append] at h1
          have h3 : (C ++ X).data.toList.length = (C ++ X).size := Array.length_toList
          omega
        have HSZ := Lib.hid hsz
        clear hsz hs hm2 hq
        go_wp2_with fail
        go_roundg q
        case measure => omega
        case rel => exact ⟨q, C ++ X, m2, Nat.le_refl _, by omega, rfl, HM2, hr1, hr2, rfl, HSZ.out, HSS, hbn⟩
    · have hdn : -(d : Int) < 0 := by omega
      by_cases h10 : u < 10
      · have e2 : m.tdiv 10 = 0 := by rw [HM.out, neg_tdiv, Nat.div_eq_of_lt h10]; rfl
        have hl := num_last HX.out h10
        rw [← HD.out, ← HC.out] at hl
        have HLL : Hid (C ++ X = F) := Lib.hid (by rw [hl, hF.out])
        have hn0 : -(n : Int) < 0 := by omega
        have hsx : (C ++ X).size ≤ 21 := by rw [HLL.out]; exact HFS
        have HSX := Lib.hid hsx
        clear hl hsx
        go_wp2_with fail
        go_ret
        exact ⟨by rw [← HLL.out]; rfl, hbn⟩
      · obtain ⟨q, hq⟩ : ∃ q, q = u / 10 := ⟨_, rfl⟩
        obtain ⟨m2, hm2⟩ : ∃ m2 : Int, m2 = -(q : Int) := ⟨_, rfl⟩
        have e2 : m.tdiv 10 = m2 := by rw [HM.out, neg_tdiv, hm2, hq]
        have hq0 : ¬ m2 = 0 := by omega
        have hq0b : (m2 == 0) = false := by simpa using hq0
        have hs := num_step HX.out (by omega)
        rw [← HD.out, ← HC.out, ← hq] at hs
        have HSS := Lib.hid hs
        have HM2 := Lib.hid hm2
        have hr1 : m2 ≤ 0 := by omega
        have hr2 : -9223372036854775808 ≤ m2 := by omega
        have hqu : q < u := by omega
        have hsz : (C ++ X).size ≤ 21 := by
          have h1 := congrArg List.length HSS.out
          have h2 := HL.out
          rw [List.length_append] at h1
          have h3 : (C ++ X).data.toList.length = (C ++ X).size := Array.length_toList
          omega
        have HSZ := Lib.hid hsz
        clear hsz hs hm2 hq
        go_wp2_with fail
        go_roundg q
        case measure => omega
        case rel => exact ⟨q, C ++ X, m2, Nat.le_refl _, by omega, rfl, HM2, hr1, hr2, rfl, HSZ.out, HSS, hbn⟩
end Go.Proofs.YtanbgdhmfjgihaaGreatDoor

/- The document's own answer: a number as a decimal; two numbers held against each other. -/
namespace Go.Proofs.YtanbgdhmfjgihaaGreatDoor
open Go.RowKit

/-- A decimal text that says z, short enough for the document's own. -/
def SaysR (z : Int) (s : ByteArray) : Prop := chk s.data.toList = true ∧ dval s.data.toList = z ∧ s.size ≤ 1000000000
theorem refOfIntSays (n : Int) (h0 : -9223372036854775808 ≤ n) (h1 : n ≤ 9223372036854775807) (w : World) :
    Calls Tryz.prog 98 #[.int .i64 n] w fun e w' => ∃ s, e = .returned (.string s) ∧ SaysR (n * 10 ^ 54) s ∧ Below w.heap.size w w' := by
  obtain ⟨f1, f2, f3, f4⟩ := intT_facts n h0 h1
  have hS : SaysR (n * 10 ^ 54) (intT n) := ⟨f1, f2, by omega⟩
  by_cases hneg : n < 0
  · obtain ⟨u, rfl⟩ : ∃ u : Nat, n = -(u : Int) := ⟨n.natAbs, by omega⟩
    have hit : Lib.itoa (-(u : Int)) = 45 :: Lib.decDigits u := Lib.itoa_neg u (by omega)
    have e : intT (-(u : Int)) = ⟨#[45]⟩ ++ bs (Lib.decDigits u) ++ ⟨#[46, 48]⟩ := by
      apply ByteArray.ext
      apply Array.ext'
      unfold intT
      simp [ByteArray.data_append, hit]
    refine (refOfIntNeg u (by omega) (by omega) w _ (Lib.hid rfl)).mono ?_
    rintro e1 w' ⟨rfl, hb⟩
    exact ⟨_, rfl, e ▸ hS, hb⟩
  · obtain ⟨u, rfl⟩ := Int.eq_ofNat_of_zero_le (Int.not_lt.1 hneg)
    have hit : Lib.itoa (u : Int) = Lib.decDigits u := Lib.itoa_nonneg u
    have e : intT (u : Int) = bs (Lib.decDigits u) ++ ⟨#[46, 48]⟩ := by
      unfold intT
      rw [hit]
    refine (refOfIntNat u (by omega) w _ (Lib.hid rfl)).mono ?_
    rintro e1 w' ⟨rfl, hb⟩
    exact ⟨_, rfl, e ▸ hS, hb⟩
theorem zeroSays : SaysR 0 ⟨#[48, 46, 48]⟩ := by
  refine ⟨by decide, by decide, by decide⟩
set_option maxRecDepth 20000 in
set_option maxHeartbeats 1600000 in
theorem refDecAt (k : Int) (b : Bool) (n : Int) (t x : ByteArray) (p : Option Addr) (len cap : Nat) (w : World) (hf : Fine n t x len) :
    Calls Tryz.prog 70 #[.agg #[.int .i64 k, .bool b, .int .i64 n, .string t, .string x, .slice p len cap]] w fun e w' => ∃ s, e = .returned (.string s) ∧ SaysR (numV k n t) s ∧ Below w.heap.size w w' := by
  have S := six_new (k := k) (b := b) (n := n) (t := t) (x := x) (p := p) (len := len) (cap := cap) w rfl
  have b0 := below1 w (.cells #[.int .i64 k, .bool b, .int .i64 n, .string t, .string x, .slice p len cap] 39)
  have f0 := S.c0
  have f2 := S.c2
  have f3 := S.c3
  have HF := Lib.hid hf
  obtain ⟨z, hz⟩ : ∃ z, z = numV k n t := ⟨_, rfl⟩
  rw [← hz]
  by_cases h2 : k = 2
  · subst h2
    have hc := fun W => refOfIntSays n HF.out.lo HF.out.hi W
    have e : numV 2 n t = n * 10 ^ 54 := by unfold numV; rw [if_pos rfl]
    rw [← e, ← hz] at hc
    have HC := Lib.hid hc
    clear hc hz e hf
    go_enter Tryz.func70, Tryz.ntmps70
    go_wp2_with (go_at_call 98; (with_reducible refine (HC.out _).mono ?_); rintro e w1 ⟨s, rfl, hs, hb⟩; have HS := Lib.hid hs; clear hs; replace b0 := below_any b0 hb b0.size)
    go_ret
    exact ⟨s, rfl, HS.out, b0⟩
  · have e2 : (k == 2) = false := by simpa using h2
    have hc := fun W => refCheck t W (by have := hf.ht; omega)
    cases hk : chk t.data.toList with
    | true =>
      have hsay : Hid (SaysR z t) := Lib.hid (by rw [hz]; unfold numV; rw [if_neg h2, if_pos hk]; exact ⟨hk, rfl, by have := hf.ht; omega⟩)
      rw [hk] at hc
      clear h2 hk hf hz
      go_enter Tryz.func70, Tryz.ntmps70
      go_wp2_with (go_at_call 99; (with_reducible refine (hc _).mono ?_); rintro e w1 ⟨rfl, hb⟩; have S1 := S.below hb; have g3 := S1.c3; replace b0 := below_any b0 hb b0.size)
      go_ret
      exact ⟨t, rfl, hsay.out, b0⟩
    | false =>
      have hsay : Hid (SaysR z ⟨#[48, 46, 48]⟩) := Lib.hid (by rw [hz]; unfold numV; rw [if_neg h2, if_neg (by simp [hk])]; exact zeroSays)
      rw [hk] at hc
      clear h2 hk hf hz
      go_enter Tryz.func70, Tryz.ntmps70
      go_wp2_with (go_at_call 99; (with_reducible refine (hc _).mono ?_); rintro e w1 ⟨rfl, hb⟩; have S1 := S.below hb; have g3 := S1.c3; replace b0 := below_any b0 hb b0.size)
      go_ret
      exact ⟨_, rfl, hsay.out, b0⟩
theorem refCmpSays {z z2 : Int} {s s2 : ByteArray} (h : SaysR z s) (h2 : SaysR z2 s2) (w : World) :
    Calls Tryz.prog 69 #[.string s, .string s2] w fun e w' => e = .returned (.int .i64 (cmpZ z z2)) ∧ Below w.heap.size w w' := by
  have := refCmpYes s s2 w h.2.2 h2.2.2 h.1 h2.1
  rwa [h.2.1, h2.2.1] at this
end Go.Proofs.YtanbgdhmfjgihaaGreatDoor

/- The document's own Order. -/
namespace Go.Proofs.YtanbgdhmfjgihaaGreatDoor
open Go.RowKit

theorem bytesI_by (l m : List UInt8) : bytesI l m = if Op.bytesLess l m then -1 else if l == m then 0 else 1 := by
  unfold bytesI
  cases h1 : Op.bytesLess l m with
  | true => rfl
  | false =>
    cases h3 : (l == m) with
    | true =>
      have e : l = m := by simpa using h3
      subst e
      rw [h1]
      rfl
    | false =>
      cases h2 : Op.bytesLess m l with
      | true => rfl
      | false =>
        rw [less_total l m h1 h2] at h3
        simp at h3
set_option maxRecDepth 20000 in
set_option maxHeartbeats 12800000 in
theorem ordRef_step (v : Val) (k : Int) (b : Bool) (n : Int) (t x : ByteArray) (q : List Val) (ev : v = .mk k b n t x q) (each : ∀ u ∈ q, OrdRef u) : OrdRef v := by
  subst ev
  intro lang w k1 b1 n1 t1 x1 q1 p cap v2 k2 b2 n2 t2 x2 q2 p2 cap2 e1 e2 hf hf2 hl hl2
  cases e1
  subst e2
  obtain ⟨W0, hW0⟩ : ∃ W0, W0 = (w.alloc (.cells #[.int .i64 k, .bool b, .int .i64 n, .string t, .string x, .slice p q.length cap] 39)).alloc (.cells #[.int .i64 k2, .bool b2, .int .i64 n2, .string t2, .string x2, .slice p2 q2.length cap2] 39) := ⟨_, rfl⟩
  have S4 : Six W0 w.heap.size k b n t x p q.length cap := by rw [hW0]; exact (six_new _ rfl).alloc _
  have S5 : Six W0 (w.heap.size + 1) k2 b2 n2 t2 x2 p2 q2.length cap2 := by rw [hW0]; exact six_new _ (by simp)
  have b0 : Below w.heap.size w W0 := by rw [hW0]; exact below2 _ _ _
  have hrows := fun W (h : Below w.heap.size w W) => rowsAt lang q q2 p p2 cap cap2 W (Held.below q hl h) (Held.below q2 hl2 h) hf.hn hf2.hn each
  have HD1 := Lib.hid (fun W => refDecAt k b n t x p q.length cap W hf)
  have HD2 := Lib.hid (fun W => refDecAt k2 b2 n2 t2 x2 p2 q2.length cap2 W hf2)
  have HCMP : Hid (∀ (s s2 : ByteArray), SaysR (numV k n t) s → SaysR (numV k2 n2 t2) s2 → ∀ W, Calls Tryz.prog 69 #[.string s, .string s2] W fun e w' => e = .returned (.int .i64 (cmpZ (numV k n t) (numV k2 n2 t2))) ∧ Below W.heap.size W w') := Lib.hid fun s s2 h h2 W => refCmpSays h h2 W
  have hr1 := fun W => refRankAt lang k W
  have hr2 := fun W => refRankAt lang k2 W
  have f0 := S4.c0
  have f1 := S4.c1
  have f2 := S4.c2
  have f3 := S4.c3
  have f4 := S4.c4
  have f5 := S4.c5
  have g0 := S5.c0
  have g1 := S5.c1
  have g2 := S5.c2
  have g3 := S5.c3
  have g4 := S5.c4
  have g5 := S5.c5
  have H0 := Lib.hid hW0
  clear hf hf2 hl hl2 hW0 each
  rw [orderI_mk, ← withinI_mk]
  obtain ⟨z, hz⟩ : ∃ z, z = lexI (cmpZ (rankI lang k) (rankI lang k2)) (withinI lang (.mk k b n t x q) (.mk k2 b2 n2 t2 x2 q2)) := ⟨_, rfl⟩
  rw [← hz]
  by_cases hr : rankI lang k = rankI lang k2
  rotate_left
  · have hne : (rankI lang k != rankI lang k2) = true := by simpa using hr
    by_cases hlt : rankI lang k < rankI lang k2
    · have HZ := Lib.hid (show z = -1 by rw [hz]; unfold cmpZ; rw [if_pos hlt]; rfl)
      clear hz hr hrows HD1 HD2 HCMP
      generalize rankI lang k = ra at hr1 hne hlt
      generalize rankI lang k2 = rb at hr2 hne hlt
      go_enter Tryz.func34, Tryz.ntmps34
      go_upto_region 1 with fail
      rw [← H0.out]
      go_wp2_with (first
        | (go_at_call 67; (with_reducible refine (hr1 _).mono ?_); rintro e w' ⟨rfl, rfl⟩)
        | (go_at_call 67; (with_reducible refine (hr2 _).mono ?_); rintro e w' ⟨rfl, rfl⟩)
        | (go_at_call 68; (with_reducible refine (signAt _ _ _).mono ?_); rintro e w' ⟨rfl, rfl⟩))
      all_goals
        go_ret
        exact ⟨by rw [HZ.out]; simp [], b0⟩
    · have HZ := Lib.hid (show z = 1 by rw [hz]; unfold cmpZ; rw [if_neg hlt, if_pos (by omega)]; rfl)
      clear hz hr hrows HD1 HD2 HCMP
      generalize rankI lang k = ra at hr1 hne hlt
      generalize rankI lang k2 = rb at hr2 hne hlt
      go_enter Tryz.func34, Tryz.ntmps34
      go_upto_region 1 with fail
      rw [← H0.out]
      go_wp2_with (first
        | (go_at_call 67; (with_reducible refine (hr1 _).mono ?_); rintro e w' ⟨rfl, rfl⟩)
        | (go_at_call 67; (with_reducible refine (hr2 _).mono ?_); rintro e w' ⟨rfl, rfl⟩)
        | (go_at_call 68; (with_reducible refine (signAt _ _ _).mono ?_); rintro e w' ⟨rfl, rfl⟩))
      all_goals
        go_ret
        exact ⟨by rw [HZ.out]; simp [], b0⟩
  have hcat := rank_cat hr
  rw [hr, cmpZ_same, lexI_zero, withinI_mk] at hz
  rw [← hr] at hr2
  by_cases h5 : k = 5
  · subst h5
    rw [if_pos rfl] at hz
    rw [show rankI lang 5 = 1 from rfl] at hr1 hr2
    have HZ := Lib.hid hz
    clear hz hr hcat HD1 HD2 HCMP
    go_enter Tryz.func34, Tryz.ntmps34
    go_upto_region 1 with fail
    rw [← H0.out]
    go_wp2_with (first
      | (go_at_call 67; (with_reducible refine (hr1 _).mono ?_); rintro e w' ⟨rfl, rfl⟩)
      | (go_at_call 67; (with_reducible refine (hr2 _).mono ?_); rintro e w' ⟨rfl, rfl⟩)
      | (go_at_call 68; (with_reducible refine (signAt _ _ _).mono ?_); rintro e w' ⟨rfl, rfl⟩)
      | (go_at_call 71; (with_reducible refine (hrows _ b0).mono ?_); rintro e w' ⟨rfl, hb⟩; replace b0 := below_any b0 hb b0.size; clear hb))
    all_goals
      go_ret
      exact ⟨by rw [HZ.out]; rfl, b0⟩
  rw [if_neg h5] at hz
  clear hrows
  by_cases h23 : k = 2 ∨ k = 3
  · have hk := h23
    have hk2 := hcat.2.2.2.1 h23
    rw [(rank23 lang k).2 h23] at hr1 hr2
    obtain ⟨c, hc⟩ : ∃ c, c = cmpZ (numV k n t) (numV k2 n2 t2) := ⟨_, rfl⟩
    rw [show innerI k n b t x k2 n2 b2 t2 x2 = lexI (cmpZ (numV k n t) (numV k2 n2 t2)) (lexI (cmpZ k k2) (if k = 3 then bytesI t.toList t2.toList else 0)) by unfold innerI; rw [if_neg (by omega), if_neg (by omega), if_pos h23], ← hc] at hz
    rw [← hc] at HCMP
    have HZ := Lib.hid hz
    clear hz hc hr hcat h5 h23
    · skip
      go_enter Tryz.func34, Tryz.ntmps34
      go_upto_region 1 with fail
      rw [← H0.out]
      go_upto_region 7 with (first
        | (go_at_call 67; (with_reducible refine (hr1 _).mono ?_); rintro e w' ⟨rfl, rfl⟩)
        | (go_at_call 67; (with_reducible refine (hr2 _).mono ?_); rintro e w' ⟨rfl, rfl⟩)
        | (go_at_call 68; (with_reducible refine (signAt _ _ _).mono ?_); rintro e w' ⟨rfl, rfl⟩))
      clear f0 g0 f1 g1 f2 g2 f3 g3 f4 g4 f5 g5
      refine wp_region_held_drew (S := fun w' => Six w' w.heap.size k b n t x p q.length cap ∧ Six w' (w.heap.size + 1) k2 b2 n2 t2 x2 p2 q2.length cap2 ∧ Below w.heap.size w w') (by kernel_rfl) ⟨S4, S5, b0.drew⟩ (fun hHeld => ?_)
      refine wpAnyH_take (i := 0) rfl (by kernel_rfl) (by kernel_rfl) (by kernel_rfl) (fun _ _ _ h => h) (yields6 (by rfl) (.tmp 4) rfl w.heap.size rfl (fun _ h => h.1)) hHeld ?_
      try simp only [Act.put, List.getElem_toArray, List.getElem_cons_zero, List.setIfInBounds_toArray, List.set_cons_zero, List.set_cons_succ]
      refine wpAnyH_take (i := 2) rfl (by kernel_rfl) (by kernel_rfl) (by kernel_rfl) (fun _ _ _ h => h) (yields6 (by rfl) (.tmp 5) rfl (w.heap.size + 1) rfl (fun _ h => h.2.1)) hHeld ?_
      try simp only [Act.put, List.getElem_toArray, List.getElem_cons_succ, List.getElem_cons_zero, List.setIfInBounds_toArray, List.set_cons_zero, List.set_cons_succ]
      obtain ⟨u1, u2, u3⟩ := hHeld
      refine wpAnyH_ready (rs := [1]) (by kernel_rfl) (by simp) ?_
      refine AllReadyH.cons rfl (fun K hK => ?_) AllReadyH.nil
      rw [if_pos (by rfl)]
      go_simp
      refine (HD1.out _).mono ?_
      rintro e w3 ⟨s1, rfl, hs1, hb⟩
      refine hK.out _ _ ⟨u1.below hb, u2.below hb, below_any u3 hb u3.size⟩ (fun hHeld => ?_)
      clear hK K u1 u2 u3
      try simp only [Act.put, List.getElem_toArray, List.getElem_cons_succ, List.getElem_cons_zero, List.setIfInBounds_toArray, List.set_cons_zero, List.set_cons_succ]
      have HS1 := Lib.hid hs1
      clear hs1 hb
      obtain ⟨u1, u2, u3⟩ := hHeld
      refine wpAnyH_ready (rs := [3]) (by kernel_rfl) (by simp) ?_
      refine AllReadyH.cons rfl (fun K hK => ?_) AllReadyH.nil
      rw [if_pos (by rfl)]
      go_simp
      refine (HD2.out _).mono ?_
      rintro e w3 ⟨s2, rfl, hs2, hb⟩
      refine hK.out _ _ ⟨u1.below hb, u2.below hb, below_any u3 hb u3.size⟩ (fun hHeld => ?_)
      clear hK K u1 u2 u3
      try simp only [Act.put, List.getElem_toArray, List.getElem_cons_succ, List.getElem_cons_zero, List.setIfInBounds_toArray, List.set_cons_zero, List.set_cons_succ]
      have HS2 := Lib.hid hs2
      clear hs2 hb
      obtain ⟨u1, u2, u3⟩ := hHeld
      refine wpAnyH_ready (rs := [4]) (by kernel_rfl) (by simp) ?_
      refine AllReadyH.cons rfl (fun K hK => ?_) AllReadyH.nil
      rw [if_pos (by rfl)]
      go_simp
      refine (HCMP.out _ _ HS1.out HS2.out _).mono ?_
      rintro e w3 ⟨rfl, hb⟩
      refine hK.out _ _ ⟨u1.below hb, u2.below hb, below_any u3 hb u3.size⟩ (fun hHeld => ?_)
      clear hK K u1 u2 u3
      try simp only [Act.put, List.getElem_toArray, List.getElem_cons_succ, List.getElem_cons_zero, List.setIfInBounds_toArray, List.set_cons_zero, List.set_cons_succ]
      clear hb
      refine wpAnyH_take (i := 5) (v := .int .i64 c) rfl (by kernel_rfl) (by kernel_rfl) (by kernel_rfl) (fun _ _ _ h => h) (Or.inl ⟨by rfl, fun W _ => by go_simp⟩) hHeld ?_
      try simp only [Act.put, List.getElem_toArray, List.getElem_cons_succ, List.getElem_cons_zero, List.setIfInBounds_toArray, List.set_cons_zero, List.set_cons_succ]
      refine wpAnyH_done (by kernel_rfl) ?_ _
      obtain ⟨u1, u2, u3⟩ := hHeld
      have f0 := u1.c0
      have f3 := u1.c3
      have g0 := u2.c0
      have g3 := u2.c3
      by_cases hc0 : c = 0
      · subst hc0
        rcases hk with rfl | rfl <;> rcases hk2 with rfl | rfl
        · skip
          go_wp2_with (first
            | (go_at_call 67; (with_reducible refine (hr1 _).mono ?_); rintro e w' ⟨rfl, rfl⟩)
            | (go_at_call 67; (with_reducible refine (hr2 _).mono ?_); rintro e w' ⟨rfl, rfl⟩)
            | (go_at_call 68; (with_reducible refine (signAt _ _ _).mono ?_); rintro e w' ⟨rfl, rfl⟩))
          all_goals
              go_ret
              exact ⟨by rw [HZ.out]; rfl, u3⟩
        · skip
          go_wp2_with (first
            | (go_at_call 67; (with_reducible refine (hr1 _).mono ?_); rintro e w' ⟨rfl, rfl⟩)
            | (go_at_call 67; (with_reducible refine (hr2 _).mono ?_); rintro e w' ⟨rfl, rfl⟩)
            | (go_at_call 68; (with_reducible refine (signAt _ _ _).mono ?_); rintro e w' ⟨rfl, rfl⟩))
          all_goals
              go_ret
              exact ⟨by rw [HZ.out]; rfl, u3⟩
        · skip
          go_wp2_with (first
            | (go_at_call 67; (with_reducible refine (hr1 _).mono ?_); rintro e w' ⟨rfl, rfl⟩)
            | (go_at_call 67; (with_reducible refine (hr2 _).mono ?_); rintro e w' ⟨rfl, rfl⟩)
            | (go_at_call 68; (with_reducible refine (signAt _ _ _).mono ?_); rintro e w' ⟨rfl, rfl⟩))
          all_goals
              go_ret
              exact ⟨by rw [HZ.out]; rfl, u3⟩
        · cases hxl : Op.bytesLess t.toList t2.toList <;> cases hxe : (t.toList == t2.toList)
          all_goals
            go_wp2_with (first
              | (go_at_call 67; (with_reducible refine (hr1 _).mono ?_); rintro e w' ⟨rfl, rfl⟩)
              | (go_at_call 67; (with_reducible refine (hr2 _).mono ?_); rintro e w' ⟨rfl, rfl⟩)
              | (go_at_call 68; (with_reducible refine (signAt _ _ _).mono ?_); rintro e w' ⟨rfl, rfl⟩))
            all_goals
              go_ret
              exact ⟨by rw [HZ.out]; show _ = Ending.returned (Value.int .i64 (bytesI t.toList t2.toList)); rw [bytesI_by, hxl, hxe]; rfl, u3⟩
      · have e0 : (c == 0) = false := by simpa using hc0
        have HZ2 := Lib.hid (show z = c by rw [HZ.out]; exact if_neg hc0)
        go_wp2_with (first
          | (go_at_call 67; (with_reducible refine (hr1 _).mono ?_); rintro e w' ⟨rfl, rfl⟩)
          | (go_at_call 67; (with_reducible refine (hr2 _).mono ?_); rintro e w' ⟨rfl, rfl⟩)
          | (go_at_call 68; (with_reducible refine (signAt _ _ _).mono ?_); rintro e w' ⟨rfl, rfl⟩))
        go_ret
        exact ⟨by rw [HZ2.out]; rfl, u3⟩
  clear HD1 HD2 HCMP
  by_cases h6 : k = 6
  · subst h6
    rw [show rankI lang 6 = 2 from rfl] at hr1 hr2
    have HZ := Lib.hid (show z = cmpZ n n2 from hz)
    clear hz hr hcat h5 h23
    go_enter Tryz.func34, Tryz.ntmps34
    go_upto_region 1 with fail
    rw [← H0.out]
    go_wp2_with (first
      | (go_at_call 67; (with_reducible refine (hr1 _).mono ?_); rintro e w' ⟨rfl, rfl⟩)
      | (go_at_call 67; (with_reducible refine (hr2 _).mono ?_); rintro e w' ⟨rfl, rfl⟩)
      | (go_at_call 68; (with_reducible refine (signAt _ _ _).mono ?_); rintro e w' ⟨rfl, rfl⟩))
    all_goals
      go_ret
      exact ⟨by rw [HZ.out]; unfold cmpZ; (repeat' split) <;> first | rfl | omega | (simp; omega), b0⟩
  by_cases h7 : k = 7
  · subst h7
    rw [show rankI lang 7 = 3 from rfl] at hr1 hr2
    have HZ := Lib.hid (show z = cmpZ n n2 from hz)
    clear hz hr hcat h5 h6 h23
    go_enter Tryz.func34, Tryz.ntmps34
    go_upto_region 1 with fail
    rw [← H0.out]
    go_wp2_with (first
      | (go_at_call 67; (with_reducible refine (hr1 _).mono ?_); rintro e w' ⟨rfl, rfl⟩)
      | (go_at_call 67; (with_reducible refine (hr2 _).mono ?_); rintro e w' ⟨rfl, rfl⟩)
      | (go_at_call 68; (with_reducible refine (signAt _ _ _).mono ?_); rintro e w' ⟨rfl, rfl⟩))
    all_goals
      go_ret
      exact ⟨by rw [HZ.out]; unfold cmpZ; (repeat' split) <;> first | rfl | omega | (simp; omega), b0⟩
  by_cases h1 : k = 1
  · subst h1
    rw [show rankI lang 1 = 8 from rfl] at hr1 hr2
    have HZ := Lib.hid (show z = boolI b b2 from hz)
    clear hz hr hcat h5 h6 h7 h23
    cases b <;> cases b2
    all_goals
      go_enter Tryz.func34, Tryz.ntmps34
      go_upto_region 1 with fail
      rw [← H0.out]
      go_wp2_with (first
        | (go_at_call 67; (with_reducible refine (hr1 _).mono ?_); rintro e w' ⟨rfl, rfl⟩)
        | (go_at_call 67; (with_reducible refine (hr2 _).mono ?_); rintro e w' ⟨rfl, rfl⟩)
        | (go_at_call 68; (with_reducible refine (signAt _ _ _).mono ?_); rintro e w' ⟨rfl, rfl⟩))
      all_goals
        go_ret
        exact ⟨by rw [HZ.out]; rfl, b0⟩
  rw [innerT k n b t x k2 n2 b2 t2 x2 h6 h7 h1 (by omega) (by omega)] at hz
  have d1 : (rankI lang k == 1) = false := by simpa using fun h => h5 ((rank5 lang k).1 h)
  have d9 : (rankI lang k == 9) = false := by simpa using fun h => h23 ((rank23 lang k).1 h)
  have d8 : (rankI lang k == 8) = false := by simpa using fun h => h1 ((rank1 lang k).1 h)
  have d2 : (rankI lang k == 2) = false := by simpa using fun h => (by have := (rank67 lang k).1 (.inl h); omega : False)
  have d3 : (rankI lang k == 3) = false := by simpa using fun h => (by have := (rank67 lang k).1 (.inr h); omega : False)
  generalize rankI lang k = ra at hr1 hr2 d1 d2 d3 d8 d9
  clear hr hcat h5 h6 h7 h1 h23
  by_cases ht : t.toList = t2.toList
  · have hte : (t.toList == t2.toList) = true := by simpa using ht
    have HZ := Lib.hid (show z = bytesI x.toList x2.toList by rw [hz, ht, bytesI_same, lexI_zero])
    clear hz ht
    cases hxl : Op.bytesLess x.toList x2.toList <;> cases hxe : (x.toList == x2.toList)
    all_goals
      go_enter Tryz.func34, Tryz.ntmps34
      go_upto_region 1 with fail
      rw [← H0.out]
      go_wp2_with (first
        | (go_at_call 67; (with_reducible refine (hr1 _).mono ?_); rintro e w' ⟨rfl, rfl⟩)
        | (go_at_call 67; (with_reducible refine (hr2 _).mono ?_); rintro e w' ⟨rfl, rfl⟩)
        | (go_at_call 68; (with_reducible refine (signAt _ _ _).mono ?_); rintro e w' ⟨rfl, rfl⟩))
      all_goals
        go_ret
        exact ⟨by rw [HZ.out, bytesI_by, hxl, hxe]; rfl, b0⟩
  · have hte : (t.toList == t2.toList) = false := by simpa using ht
    have hne : bytesI t.toList t2.toList ≠ 0 := fun h => ht (bytesI_none h)
    have HZ := Lib.hid (show z = bytesI t.toList t2.toList by rw [hz]; exact if_neg hne)
    have HN := Lib.hid ht
    clear hz ht hne
    cases hxl : Op.bytesLess t.toList t2.toList
    all_goals
      go_enter Tryz.func34, Tryz.ntmps34
      go_upto_region 1 with fail
      rw [← H0.out]
      go_wp2_with (first
        | (go_at_call 67; (with_reducible refine (hr1 _).mono ?_); rintro e w' ⟨rfl, rfl⟩)
        | (go_at_call 67; (with_reducible refine (hr2 _).mono ?_); rintro e w' ⟨rfl, rfl⟩)
        | (go_at_call 68; (with_reducible refine (signAt _ _ _).mono ?_); rintro e w' ⟨rfl, rfl⟩))
      all_goals
        go_ret
        exact ⟨by rw [HZ.out, bytesI_by, hxl, hte]; rfl, b0⟩

mutual
theorem ordRefAll : (v : Val) → OrdRef v
  | .mk k b n t x q => ordRef_step _ k b n t x q rfl (ordRefEach q)
theorem ordRefEach : (q : List Val) → ∀ u ∈ q, OrdRef u
  | [], _, h => absurd h (by simp)
  | v :: r, u, h => by
    rcases List.mem_cons.1 h with h | h
    · rw [h]; exact ordRefAll v
    · exact ordRefEach r u h
end
end Go.Proofs.YtanbgdhmfjgihaaGreatDoor

/- The document's own order of triples. -/
namespace Go.Proofs.YtanbgdhmfjgihaaGreatDoor
open Go.RowKit

theorem ordRefIs (v v2 : V6) (u u2 : Val) (q q2 : List Val) (W : World) (h : Is W v u q) (h2 : Is W v2 u2 q2) :
    Calls Tryz.prog 34 #[.int .i64 1, .agg #[.int .i64 v.k, .bool v.b, .int .i64 v.n, .string v.t, .string v.x, .slice v.p v.len v.cap], .agg #[.int .i64 v2.k, .bool v2.b, .int .i64 v2.n, .string v2.t, .string v2.x, .slice v2.p v2.len v2.cap]] W fun e w' => e = .returned (.int .i64 (orderI 1 u u2)) ∧ Below W.heap.size W w' := by
  obtain ⟨k, b, n, t, x, p, len, cap⟩ := v
  obtain ⟨k2, b2, n2, t2, x2, p2, len2, cap2⟩ := v2
  obtain ⟨e, hq, hf, hl⟩ := h
  obtain ⟨e2, hq2, hf2, hl2⟩ := h2
  simp only at e hq hf hl e2 hq2 hf2 hl2
  subst hq hq2
  exact ordRefAll u 1 W k b n t x q p cap u2 k2 b2 n2 t2 x2 q2 p2 cap2 e e2 hf hf2 hl hl2

end Go.Proofs.YtanbgdhmfjgihaaGreatDoor

/- The document's own answer to whether a triple may be. -/
namespace Go.Proofs.YtanbgdhmfjgihaaGreatDoor
open Go.RowKit

end Go.Proofs.YtanbgdhmfjgihaaGreatDoor

/- The document's own Same, for values in one another. -/
namespace Go.Proofs.YtanbgdhmfjgihaaGreatDoor
open Go.RowKit

/-- The document's own Same's contract at a value. -/
def SameZ (v : Val) : Prop := ∀ (W : World) (k : Int) (b : Bool) (n : Int) (t x : ByteArray) (q : List Val) (p : Option Addr) (cap : Nat) (v2 : Val) (k2 : Int) (b2 : Bool) (n2 : Int) (t2 x2 : ByteArray) (q2 : List Val) (p2 : Option Addr) (cap2 : Nat),
  v = .mk k b n t x q → v2 = .mk k2 b2 n2 t2 x2 q2 → q.length ≤ 2097152 → Held W (.slice p q.length cap) q → Held W (.slice p2 q2.length cap2) q2 →
  Calls Tryz.prog 32 #[.agg #[.int .i64 k, .bool b, .int .i64 n, .string t, .string x, .slice p q.length cap], .agg #[.int .i64 k2, .bool b2, .int .i64 n2, .string t2, .string x2, .slice p2 q2.length cap2]] W
    fun e w' => e = .returned (.bool (sameP v v2)) ∧ Below W.heap.size W w'

theorem eqRowLen (p p2 : Option Addr) (n n2 cap cap2 : Nat) (w : World) (h : ¬ n = n2) :
    Calls Tryz.prog 66 #[.slice p n cap, .slice p2 n2 cap2] w fun e w' => e = .returned (.bool false) ∧ Below w.heap.size w w' := by
  have h1 : ((n : Int) != n2) = true := by simp; omega
  clear h
  go_enter Tryz.func66, Tryz.ntmps66
  go_wp2_with fail
  go_ret
  exact ⟨rfl, Below.refl _ _⟩
theorem eqRowNone (p p2 : Option Addr) (cap cap2 : Nat) (w : World) :
    Calls Tryz.prog 66 #[.slice p 0 cap, .slice p2 0 cap2] w fun e w' => e = .returned (.bool true) ∧ Below w.heap.size w w' := by
  go_enter Tryz.func66, Tryz.ntmps66
  go_wp2_with fail
  go_loopw [5] (fun i wr => i = .int .i64 0 ∧ wr = w) (fun _ _ => 0)
  case atStart => exact ⟨rfl, rfl⟩
  case round =>
    obtain ⟨rfl, rfl⟩ := hrel
    go_wp2_with fail
    go_ret
    exact ⟨rfl, Below.refl _ _⟩

set_option maxRecDepth 20000 in
set_option maxHeartbeats 3200000 in
theorem eqRowSome (l l2 : List Val) (g off cap g2 off2 cap2 : Nat) (w : World) (hl : Holds w g off l) (hl2 : Holds w g2 off2 l2) (hlen : l2.length = l.length) (hn : l.length ≤ 2097152) (each : ∀ v ∈ l, SameZ v) :
    Calls Tryz.prog 66 #[.slice (some ⟨g, off, none⟩) l.length cap, .slice (some ⟨g2, off2, none⟩) l.length cap2] w fun e w' => e = .returned (.bool (eachSame l l2)) ∧ Below w.heap.size w w' := by
  have HH := Lib.hid hl
  have HH2 := Lib.hid hl2
  have HE := Lib.hid each
  have HL := Lib.hid hlen
  clear hl hl2 each hlen
  go_enter Tryz.func66, Tryz.ntmps66
  go_wp2_with fail
  go_loopw [5] (fun i wr => ∃ j : Nat, j ≤ l.length ∧ i = .int .i64 j ∧ Below w.heap.size w wr ∧ ∀ (i : Nat) (h : i < l.length) (h2 : i < l2.length), i < j → sameP l[i] l2[i] = true) (fun i _ => l.length - (intOf i).toNat)
  case atStart => exact ⟨0, Nat.zero_le _, rfl, Below.refl _ _, fun _ _ _ h => absurd h (by omega)⟩
  case round =>
    obtain ⟨j, hj, rfl, hb, hall⟩ := hrel
    have HA := Lib.hid hall
    clear hall
    by_cases hlt : j < l.length
    · have hlt2 : j < l2.length := by have := HL.out; omega
      obtain ⟨k, b, n, t, x, q, p, cp, o1⟩ := (Holds.at_ l off HH.out j hlt).opens
      obtain ⟨k2, b2, n2, t2, x2, q2, p2, cp2, o2⟩ := (Holds.at_ l2 off2 HH2.out j hlt2).opens
      have hc := fun W (hb : Below w.heap.size w W) => HE.out l[j] (List.getElem_mem hlt) W k b n t x q p cp l2[j] k2 b2 n2 t2 x2 q2 p2 cp2 o1.e o2.e o1.hf.hn (Held.below q o1.hl hb) (Held.below q2 o2.hl hb)
      obtain ⟨r, hr⟩ : ∃ r, r = sameP l[j] l2[j] := ⟨_, rfl⟩
      rw [← hr] at hc
      have R1 : ∀ w', Below w.heap.size w w' → w'.rangeAt g (off + j * 6) [.int .i64 k, .bool b, .int .i64 n, .string t, .string x, .slice p q.length cp] := fun w' h => (o1.below h).range
      have R2 : ∀ w', Below w.heap.size w w' → w'.rangeAt g2 (off2 + j * 6) [.int .i64 k2, .bool b2, .int .i64 n2, .string t2, .string x2, .slice p2 q2.length cp2] := fun w' h => (o2.below h).range
      have HC := Lib.hid hc
      have HR := Lib.hid hr
      have HR1 := Lib.hid R1
      have HR2 := Lib.hid R2
      clear o1 o2 hr hc R1 R2
      have hlti : (j : Int) < l.length := by omega
      go_wp2_with fail
      refine wp_region_held_drew (S := fun w' => Below w.heap.size w w') (by kernel_rfl) hb.drew (fun hHeld => ?_)
      refine wpAnyH_take (i := 0) (v := .slice (some ⟨g, off, none⟩) l.length cap) rfl (by kernel_rfl) (by kernel_rfl) (by kernel_rfl) (fun _ _ _ h => h) (Or.inl ⟨by rfl, fun W _ => by go_simp⟩) hHeld ?_
      try simp only [Act.put, List.getElem_toArray, List.getElem_cons_zero, List.setIfInBounds_toArray, List.set_cons_zero, List.set_cons_succ]
      refine wpAnyH_take (i := 1) (v := .int .i64 j) rfl (by kernel_rfl) (by kernel_rfl) (by kernel_rfl) (fun _ _ _ h => h) (Or.inl ⟨by rfl, fun W _ => by go_simp⟩) hHeld ?_
      try simp only [Act.put, List.getElem_toArray, List.getElem_cons_succ, List.getElem_cons_zero, List.setIfInBounds_toArray, List.set_cons_zero, List.set_cons_succ]
      refine wpAnyH_take (i := 2) (v := .pointer (some ⟨g, off + j * 6, none⟩)) rfl (by kernel_rfl) (by kernel_rfl) (by kernel_rfl) (fun _ _ _ h => h) (Or.inl ⟨by rfl, fun W _ => by go_simp⟩) hHeld ?_
      try simp only [Act.put, List.getElem_toArray, List.getElem_cons_succ, List.getElem_cons_zero, List.setIfInBounds_toArray, List.set_cons_zero, List.set_cons_succ]
      refine wpAnyH_take (i := 3) rfl (by kernel_rfl) (by kernel_rfl) (by kernel_rfl) (fun _ _ _ h => h) (yieldsIf_load_mid (by rfl) 39 (.tmp 19) rfl g (off + j * 6) rfl _ _ (fun w h => HR1.out w h) Tryz.underlying39 rfl info28) hHeld ?_
      try simp only [Act.put, List.getElem_toArray, List.getElem_cons_succ, List.getElem_cons_zero, List.setIfInBounds_toArray, List.set_cons_zero, List.set_cons_succ]
      refine wpAnyH_take (i := 4) (v := .slice (some ⟨g2, off2, none⟩) l.length cap2) rfl (by kernel_rfl) (by kernel_rfl) (by kernel_rfl) (fun _ _ _ h => h) (Or.inl ⟨by rfl, fun W _ => by go_simp⟩) hHeld ?_
      try simp only [Act.put, List.getElem_toArray, List.getElem_cons_succ, List.getElem_cons_zero, List.setIfInBounds_toArray, List.set_cons_zero, List.set_cons_succ]
      refine wpAnyH_take (i := 5) (v := .int .i64 j) rfl (by kernel_rfl) (by kernel_rfl) (by kernel_rfl) (fun _ _ _ h => h) (Or.inl ⟨by rfl, fun W _ => by go_simp⟩) hHeld ?_
      try simp only [Act.put, List.getElem_toArray, List.getElem_cons_succ, List.getElem_cons_zero, List.setIfInBounds_toArray, List.set_cons_zero, List.set_cons_succ]
      refine wpAnyH_take (i := 6) (v := .pointer (some ⟨g2, off2 + j * 6, none⟩)) rfl (by kernel_rfl) (by kernel_rfl) (by kernel_rfl) (fun _ _ _ h => h) (Or.inl ⟨by rfl, fun W _ => by go_simp⟩) hHeld ?_
      try simp only [Act.put, List.getElem_toArray, List.getElem_cons_succ, List.getElem_cons_zero, List.setIfInBounds_toArray, List.set_cons_zero, List.set_cons_succ]
      refine wpAnyH_take (i := 7) rfl (by kernel_rfl) (by kernel_rfl) (by kernel_rfl) (fun _ _ _ h => h) (yieldsIf_load_mid (by rfl) 39 (.tmp 23) rfl g2 (off2 + j * 6) rfl _ _ (fun w h => HR2.out w h) Tryz.underlying39 rfl info28) hHeld ?_
      try simp only [Act.put, List.getElem_toArray, List.getElem_cons_succ, List.getElem_cons_zero, List.setIfInBounds_toArray, List.set_cons_zero, List.set_cons_succ]
      refine wpAnyH_ready (rs := [8]) (by kernel_rfl) (by simp) ?_
      refine AllReadyH.cons rfl (fun K hK => ?_) AllReadyH.nil
      rw [if_pos (by rfl)]
      go_simp
      refine (HC.out _ hHeld).mono ?_
      rintro e w3 ⟨rfl, hb3⟩
      refine hK.out _ _ (below_any hHeld hb3 hHeld.size) (fun hHeld2 => ?_)
      clear hK K hb3 hHeld
      try simp only [Act.put, List.getElem_toArray, List.getElem_cons_succ, List.getElem_cons_zero, List.setIfInBounds_toArray, List.set_cons_zero, List.set_cons_succ]
      refine wpAnyH_take (i := 9) (v := .bool (!r)) rfl (by kernel_rfl) (by kernel_rfl) (by kernel_rfl) (fun _ _ _ h => h) (Or.inl ⟨by rfl, fun W _ => by go_simp⟩) hHeld2 ?_
      try simp only [Act.put, List.getElem_toArray, List.getElem_cons_succ, List.getElem_cons_zero, List.setIfInBounds_toArray, List.set_cons_zero, List.set_cons_succ]
      refine wpAnyH_done (by kernel_rfl) ?_ _
      cases r with
      | true =>
        go_wp2_with fail
        go_roundw
        case rel =>
          refine ⟨j + 1, by omega, by go_num, hHeld2, fun i hi hi2 hlt' => ?_⟩
          by_cases e : i = j
          · subst e; exact HR.out.symm
          · exact HA.out i hi hi2 (by omega)
        case measure => simp [intOf]; omega
      | false =>
        go_wp2_with fail
        go_ret
        exact ⟨by rw [eachSame_no l l2 j hlt hlt2 HR.out.symm]; rfl, hHeld2⟩
    · go_wp2_with fail
      go_ret
      exact ⟨by rw [eachSame_yes l l2 fun i h h2 => HA.out i h h2 (by omega)]; rfl, hb⟩

theorem eqRowAt (l l2 : List Val) (p p2 : Option Addr) (cap cap2 : Nat) (w : World) (hl : Held w (.slice p l.length cap) l) (hl2 : Held w (.slice p2 l2.length cap2) l2) (hn : l.length ≤ 2097152) (each : ∀ v ∈ l, SameZ v) :
    Calls Tryz.prog 66 #[.slice p l.length cap, .slice p2 l2.length cap2] w fun e w' => e = .returned (.bool ((l.length == l2.length) && eachSame l l2)) ∧ Below w.heap.size w w' := by
  by_cases h : l.length = l2.length
  · rw [show (l.length == l2.length) = true by simpa using h, Bool.true_and, ← h]
    cases l with
    | nil =>
      unfold eachSame
      exact eqRowNone _ _ _ _ _
    | cons v r =>
      cases l2 with
      | nil => simp at h
      | cons v2 r2 =>
        obtain ⟨g, off, rfl, hh⟩ := hl.form
        obtain ⟨g2, off2, rfl, hh2⟩ := hl2.form
        exact eqRowSome (v :: r) (v2 :: r2) g off cap g2 off2 cap2 w hh hh2 h.symm hn each
  · rw [show (l.length == l2.length) = false by simpa using h, Bool.false_and]
    exact eqRowLen p p2 _ _ cap cap2 w h

set_option maxHeartbeats 1600000 in
theorem sameZ_step (v : Val) (k : Int) (b : Bool) (n : Int) (t x : ByteArray) (q : List Val) (ev : v = .mk k b n t x q) (each : ∀ u ∈ q, SameZ u) : SameZ v := by
  subst ev
  intro W k1 b1 n1 t1 x1 q1 p cap v2 k2 b2 n2 t2 x2 q2 p2 cap2 e1 e2 hn hl hl2
  cases e1
  subst e2
  unfold sameP
  obtain ⟨c1, hc1⟩ : ∃ c1, c1 = Obj.cells #[.int .i64 k, .bool b, .int .i64 n, .string t, .string x, .slice p q.length cap] 39 := ⟨_, rfl⟩
  obtain ⟨c2, hc2⟩ : ∃ c2, c2 = Obj.cells #[.int .i64 k2, .bool b2, .int .i64 n2, .string t2, .string x2, .slice p2 q2.length cap2] 39 := ⟨_, rfl⟩
  have b0 := below2 W c1 c2
  have hc := eqRowAt q q2 p p2 cap cap2 ((W.alloc c1).alloc c2) (Held.below q hl b0) (Held.below q2 hl2 b0) hn each
  have l0 : Six ((W.alloc c1).alloc c2) W.heap.size k b n t x p q.length cap := by rw [hc1]; exact (six_new _ rfl).alloc _
  have l1 : Six ((W.alloc c1).alloc c2) (W.heap.size + 1) k2 b2 n2 t2 x2 p2 q2.length cap2 := by rw [hc2]; exact six_new _ (by simp)
  have z0 := b0.size
  have f0 := l0.c0
  have f1 := l0.c1
  have f2 := l0.c2
  have f3 := l0.c3
  have f4 := l0.c4
  have f5 := l0.c5
  have g0 := l1.c0
  have g1 := l1.c1
  have g2 := l1.c2
  have g3 := l1.c3
  have g4 := l1.c4
  have g5 := l1.c5
  clear l0 l1 hl hl2 each hn
  subst hc1 hc2
  cases a0 : (k == k2) with
  | false =>
    rw [Bool.false_and]
    go_enter Tryz.func32, Tryz.ntmps32
    go_wp2_with fail
    go_ret
    exact ⟨rfl, b0⟩
  | true =>
    rw [Bool.true_and]
    cases a1 : (b == b2) with
    | false =>
      rw [Bool.false_and]
      go_enter Tryz.func32, Tryz.ntmps32
      go_wp2_with fail
      go_ret
      exact ⟨rfl, b0⟩
    | true =>
      rw [Bool.true_and]
      cases a2 : (n == n2) with
      | false =>
        rw [Bool.false_and]
        go_enter Tryz.func32, Tryz.ntmps32
        go_wp2_with fail
        go_ret
        exact ⟨rfl, b0⟩
      | true =>
        rw [Bool.true_and]
        cases a3 : (t.toList == t2.toList) with
        | false =>
          rw [Bool.false_and]
          go_enter Tryz.func32, Tryz.ntmps32
          go_wp2_with fail
          go_ret
          exact ⟨rfl, b0⟩
        | true =>
          rw [Bool.true_and]
          cases a4 : (x.toList == x2.toList) with
          | false =>
            rw [Bool.false_and]
            go_enter Tryz.func32, Tryz.ntmps32
            go_wp2_with fail
            go_ret
            exact ⟨rfl, b0⟩
          | true =>
            rw [Bool.true_and]
            generalize (q.length == q2.length && eachSame q q2) = r at hc ⊢
            go_enter Tryz.func32, Tryz.ntmps32
            go_wp2_with (go_at_call 66; (with_reducible refine hc.mono ?_); rintro e w3 ⟨rfl, hb3⟩; replace b0 := below_any b0 hb3 z0)
            go_ret
            exact ⟨rfl, b0⟩

mutual
theorem sameZAll : (v : Val) → SameZ v
  | .mk k b n t x q => sameZ_step _ k b n t x q rfl (sameZEach q)
theorem sameZEach : (q : List Val) → ∀ u ∈ q, SameZ u
  | [], _, h => absurd h (by simp)
  | v :: r, u, h => by
    rcases List.mem_cons.1 h with h | h
    · rw [h]; exact sameZAll v
    · exact sameZEach r u h
end
end Go.Proofs.YtanbgdhmfjgihaaGreatDoor
