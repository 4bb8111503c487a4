/- Texts of one kind, one behind the other: each says ahead of itself what it shows. -/
import Derived.Test.YtoifjjgakblhhaaGreatDoorHam
import Derived.Lib.ItoaMem
import Derived.Lib.ParseIntB
import Derived.Lib.Strings
import Derived.Lib.ItoaLen
import Derived.Test.YtoifjjgakblhhaaGreatDoorHaj
import Derived.Test.YtoifjjgakblhhaaGreatDoorHai
import Derived.Deep.LoopGhost
import Derived.Test.YtoifjjgakblhhaaGreatDoorHag
import Derived.WalkKit
import Derived.OwnWalk
import Derived.Maps.AppendAt
import Derived.Lib.AppendStr
import Derived.Shelf.Strconv.AppendIntPublic10
import Derived.Test.YtoifjjgakblhhaaGreatDoorHah
/- Two texts as the document takes them; sums, differences, order of them. -/
namespace Go.Proofs.YtoifjjgakblhhaaGreatDoor
open Go.RowKit

theorem parsedYes (s : ByteArray) (hs : s.size ≤ 1000000000) (h : chk s.data.toList = true) : ∃ (N : Bool) (sc : Nat) (ds : List Nat), Dec s.data.toList N ds sc ∧ ParsedAs s N sc ds true := by
  obtain ⟨h1, h2⟩ := split_chk h
  exact ⟨_, _, _, h2, fun W => refParsedYes s W hs h1 _ _ _ (Lib.hid rfl) (Lib.hid rfl) (Lib.hid rfl)⟩
theorem checkedAs (s : ByteArray) (hs : s.size ≤ 1000000000) (c : Bool) (h : c = chk s.data.toList) : CheckedAs s c := fun W => refCheckB s c W hs (Lib.hid h)
/-- 'two' of two decimals. -/
def TwoAs (s t : ByteArray) (N1 : Bool) (s1 : Int) (d1 : List Nat) (N2 : Bool) (s2 : Int) (d2 : List Nat) (r : Bool) : Prop :=
  ∀ w, Calls Tryz.prog 87 #[.string s, .string t] w fun e w' => ∃ u v, e = .returned (.tuple #[.agg #[.bool N1, u, .int .i64 s1], .agg #[.bool N2, v, .int .i64 s2], .bool r]) ∧ Ints w' u d1 ∧ Ints w' v d2 ∧ Below w.heap.size w w'
theorem TwoAs.at {s t : ByteArray} {N1 N2 r : Bool} {s1 s2 : Int} {d1 d2 : List Nat} (h : TwoAs s t N1 s1 d1 N2 s2 d2 r) (w : World) : Calls Tryz.prog 87 #[.string s, .string t] w fun e w' => ∃ u v, e = .returned (.tuple #[.agg #[.bool N1, u, .int .i64 s1], .agg #[.bool N2, v, .int .i64 s2], .bool r]) ∧ Ints w' u d1 ∧ Ints w' v d2 ∧ Below w.heap.size w w' := h w
theorem twoYes (s t : ByteArray) (hs : s.size ≤ 1000000000) (ht : t.size ≤ 1000000000) (h : chk s.data.toList = true) (h2 : chk t.data.toList = true) :
    ∃ (N1 : Bool) (s1 : Nat) (d1 : List Nat) (N2 : Bool) (s2 : Nat) (d2 : List Nat), Dec s.data.toList N1 d1 s1 ∧ Dec t.data.toList N2 d2 s2 ∧ TwoAs s t N1 s1 d1 N2 s2 d2 true := by
  obtain ⟨N1, s1, d1, a1, p1⟩ := parsedYes s hs h
  obtain ⟨N2, s2, d2, a2, p2⟩ := parsedYes t ht h2
  exact ⟨N1, s1, d1, N2, s2, d2, a1, a2, fun w => two_ttt s t N1 N2 s1 s2 d1 d2 true w (Lib.hid p1) (Lib.hid p2) (Lib.hid (checkedAs s hs true h.symm)) (Lib.hid (checkedAs t ht true h2.symm))⟩
theorem two_size (W : World) : Below W.heap.size W ((W.alloc (.cells #[.bool false, .slice none 0 0, .int .i64 0] 97)).alloc (.cells #[.bool false, .slice none 0 0, .int .i64 0] 97)) := ((Below.refl _ _).alloc (Nat.le_refl _) _).alloc (by simp) _
theorem Rec.drew {w : World} {g : Nat} {n : Bool} {v : Value} {sc : Int} (h : Rec w g n v sc) : Rec w.drew g n v sc := h

end Go.Proofs.YtoifjjgakblhhaaGreatDoor

/- Differences and the order, as the document takes them. -/
namespace Go.Proofs.YtoifjjgakblhhaaGreatDoor
open Go.RowKit

/-- The order from the sign of the difference. -/
theorem cmp_sign {l r : List UInt8} {N1 N2 n : Bool} {d1 d2 zs : List Nat} {s1 s2 S : Nat} (a : Dec l N1 d1 s1) (b : Dec r N2 d2 s2) (e1 : s1 ≤ S) (e2 : s2 ≤ S) (eS : S ≤ 20)
    (hv : sv n (val10 zs) = sv N1 (val10 d1 * 10 ^ (S - s1)) + sv (!N2) (val10 d2 * 10 ^ (S - s2))) : cmpZ (dval l) (dval r) = if val10 zs = 0 then 0 else if n = true then -1 else 1 := by
  have e : nval n zs S = dval l - dval r := by
    rw [nval_plus e1 e2 (by omega) hv, a.val, ← b.val]
    unfold nval
    rw [sv_not]; omega
  have hp : 0 < 10 ^ (54 - S) := Nat.pow_pos (by decide)
  unfold nval at e
  by_cases h0 : val10 zs = 0
  · rw [if_pos h0]
    rw [h0, Nat.zero_mul, sv_zero] at e
    rw [cmpZ_zero]; omega
  · rw [if_neg h0]
    have hq : 0 < val10 zs * 10 ^ (54 - S) := Nat.mul_pos (by omega) hp
    generalize val10 zs * 10 ^ (54 - S) = q at *
    unfold cmpZ
    cases n with
    | true =>
      have : sv true q = -(q : Int) := rfl
      rw [if_pos (by omega : dval l < dval r)]; rfl
    | false =>
      have : sv false q = (q : Int) := rfl
      rw [if_neg (by omega : ¬ dval l < dval r), if_pos (by omega : dval r < dval l)]; rfl

set_option maxRecDepth 20000 in
set_option maxHeartbeats 1600000 in
theorem refCmpYes (s t : ByteArray) (w : World) (hs : s.size ≤ 1000000000) (ht : t.size ≤ 1000000000) (h : chk s.data.toList = true) (h2 : chk t.data.toList = true) :
    Calls Tryz.prog 47 #[.string s, .string t] w fun e w' => e = .returned (.int .i64 (cmpZ (dval s.data.toList) (dval t.data.toList))) ∧ Below w.heap.size w w' := by
  obtain ⟨N1, s1, d1, N2, s2, d2, a1, a2, HT⟩ := twoYes s t hs ht h h2
  obtain ⟨S, e1, e2, e3⟩ : ∃ S, s1 ≤ S ∧ s2 ≤ S ∧ (S = s1 ∨ S = s2) := ⟨max s1 s2, by omega, by omega, by omega⟩
  have eS : S ≤ 20 := by have := a1.sc; have := a2.sc; omega
  have A := Lib.hid (And.intro a1 (And.intro a2 (And.intro e1 (And.intro e2 (And.intro e3 eS)))))
  have HC := Lib.hid HT
  have HH := Lib.hid (And.intro h h2)
  obtain ⟨r, hr⟩ : ∃ r, r = cmpZ (dval s.data.toList) (dval t.data.toList) := ⟨_, rfl⟩
  rw [← hr]
  have HR := Lib.hid hr
  clear a1 a2 e1 e2 e3 eS HT h h2 hr
  go_enter Tryz.func47, Tryz.ntmps47
  go_upto_region 5 with (first
    | (go_at_call 87; (with_reducible refine (HC.out.at _).mono ?_); rintro e w1 ⟨u, v, rfl, hu, hv, hb⟩; have q6 : Rec ((w1.alloc (.cells #[.bool false, .slice none 0 0, .int .i64 0] 97)).alloc (.cells #[.bool false, .slice none 0 0, .int .i64 0] 97)) w1.heap.size false (.slice none 0 0) 0 := (rec_new w1 rfl).alloc _; have q7 : Rec ((w1.alloc (.cells #[.bool false, .slice none 0 0, .int .i64 0] 97)).alloc (.cells #[.bool false, .slice none 0 0, .int .i64 0] 97)) (w1.heap.size + 1) false (.slice none 0 0) 0 := rec_new _ (by simp)
       have UO := Lib.hid (And.intro (ints_one hu) (ints_one hv)); have UV := Lib.hid (And.intro (hu.below (two_size w1)) (And.intro (hv.below (two_size w1)) (below_any hb (two_size w1) hb.size))); have hw1 := hb.size; clear hu hv hb)
    | ((with_reducible refine wpList_store44 (m := N1) (u := u) (sd := s1) (.tmp 5) (.tmp 13) w1.heap.size q6 UO.out.1 ?_ ?_ ?_ ?_ ?_); rfl; rfl; rfl; rfl; intro w2 ho p6; have Q7 := Lib.hid (q7.only ho (by omega)); have UV2 := Lib.hid (And.intro (UV.out.1.rec ho q6) (And.intro (UV.out.2.1.rec ho q6) (below_only UV.out.2.2 ho (by omega) (Nat.le_of_lt (Nat.lt_of_le_of_lt hw1 q6.lt))))); clear ho UV q6 q7; have q7 := Q7.out; clear Q7)
    | ((with_reducible refine wpList_store44 (m := N2) (u := v) (sd := s2) (.tmp 6) (.tmp 14) (w1.heap.size + 1) q7 UO.out.2 ?_ ?_ ?_ ?_ ?_); rfl; rfl; rfl; rfl; intro w3 ho p7; have P6 := Lib.hid (p6.only ho (by omega)); have UV3 := Lib.hid (And.intro (UV2.out.1.rec ho q7) (And.intro (UV2.out.2.1.rec ho q7) (below_only UV2.out.2.2 ho (by omega) (Nat.le_of_lt (Nat.lt_of_le_of_lt (Nat.le_succ_of_le hw1) q7.lt))))); clear ho UV2 q7 p6; have p6 := P6.out; clear P6; have c0 := p7.c0; have f0 : w3.frozen? ⟨w1.heap.size + 1, 0, none⟩ = false := free_of p7 0))
  have ho4 : Only (w1.heap.size + 1) w3 (w3.setCell ⟨w1.heap.size + 1, 0, none⟩ (.bool (!N2))) := (Only.refl _ _).setCell _ _ _
  have p7s := p7.set0 (!N2)
  have P6 := Lib.hid (p6.only ho4 (by omega))
  have UV4 := Lib.hid (And.intro (UV3.out.1.rec ho4 p7) (And.intro (UV3.out.2.1.rec ho4 p7) (below_only UV3.out.2.2 ho4 (by omega) (Nat.le_of_lt (Nat.lt_of_le_of_lt (Nat.le_succ_of_le hw1) p7.lt)))))
  have P7 := Lib.hid p7s
  clear ho4 p7s p7 p6 c0 f0 UV3
  generalize w3.setCell ⟨w1.heap.size + 1, 0, none⟩ (.bool (!N2)) = w3s at *
  have p6 := P6.out
  have p7 := P7.out
  clear P6 P7
  go_upto_region 6 with (first
    | ((with_reducible refine wpList_load44 (.tmp 5) w1.heap.size p6 ?_ ?_ ?_ ?_); rfl; rfl; rfl)
    | ((with_reducible refine wpList_load44 (.tmp 6) (w1.heap.size + 1) p7 ?_ ?_ ?_ ?_); rfl; rfl; rfl)
    | (go_at_call 88; (with_reducible refine (refPlus N1 (!N2) u v d1 d2 s1 s2 S _ UV4.out.1 UV4.out.2.1 A.out.1.small A.out.2.1.small A.out.2.2.1 A.out.2.2.2.1 A.out.2.2.2.2.1 (by have := A.out.2.2.2.2.2; omega) (by have := A.out.1.len; omega) (by have := A.out.2.1.len; omega)).mono ?_); rintro e w4 ⟨n, z, zs, rfl, hz, hzs, hval, hlen, hb4⟩
       have HCS := Lib.hid (cmp_sign A.out.1 A.out.2.1 A.out.2.2.1 A.out.2.2.2.1 A.out.2.2.2.2.2 hval); have z8 := rec_new w4 rfl; have HO8 := Lib.hid (ints_one hz)
       have HZ := Lib.hid (And.intro (hz.below ((Below.refl w4.heap.size w4).alloc (Nat.le_refl _) (.cells #[.bool false, .slice none 0 0, .int .i64 0] 97))) (And.intro (show zs.length ≤ 9223372036854775807 by have := A.out.1.len; have := A.out.2.1.len; have := A.out.2.2.2.2.2; omega) ((below_any UV4.out.2.2 hb4 UV4.out.2.2.size).alloc (Nat.le_trans UV4.out.2.2.size hb4.size) (.cells #[.bool false, .slice none 0 0, .int .i64 0] 97)))); have hw4 := Nat.le_trans UV4.out.2.2.size hb4.size; clear hz hzs hval hlen hb4)
    | ((with_reducible refine wpList_store44 (m := n) (u := z) (sd := S) (.tmp 8) (.tmp 24) w4.heap.size z8 HO8.out ?_ ?_ ?_ ?_ ?_); rfl; rfl; rfl; rfl; intro w5 ho p8; have HY := Lib.hid (And.intro (HZ.out.1.rec ho z8) (below_only HZ.out.2.2 ho hw4 (Nat.le_of_lt (Nat.lt_of_le_of_lt hw4 z8.lt)))); clear ho z8))
  have c0 := p8.c0
  have c1 := p8.c1
  by_cases h0 : val10 zs = 0
  · obtain rfl : r = 0 := by rw [HR.out, HCS.out, if_pos h0]
    have HD0 : Hid (true = decide (val10 zs = 0)) := Lib.hid (by simp [h0])
    clear h0 HR HCS p6 p7
    go_wp2_with (go_at_call 89; (with_reducible refine (refZero _ zs _ HY.out.1 HZ.out.2.1 true HD0.out).mono ?_); rintro e w' ⟨rfl, rfl⟩)
    go_ret
    exact ⟨rfl, HY.out.2⟩
  · have HD0 : Hid (false = decide (val10 zs = 0)) := Lib.hid (by simp [h0])
    have hrn : r = if n = true then -1 else 1 := by rw [HR.out, HCS.out, if_neg h0]
    cases n with
    | true =>
      obtain rfl : r = -1 := by rw [hrn, if_pos rfl]
      clear h0 HR HCS hrn p6 p7
      go_wp2_with (go_at_call 89; (with_reducible refine (refZero _ zs _ HY.out.1 HZ.out.2.1 false HD0.out).mono ?_); rintro e w' ⟨rfl, rfl⟩)
      go_ret
      exact ⟨rfl, HY.out.2⟩
    | false =>
      obtain rfl : r = 1 := by rw [hrn, if_neg (by decide)]
      clear h0 HR HCS hrn p6 p7
      go_wp2_with (go_at_call 89; (with_reducible refine (refZero _ zs _ HY.out.1 HZ.out.2.1 false HD0.out).mono ?_); rintro e w' ⟨rfl, rfl⟩)
      go_ret
      exact ⟨rfl, HY.out.2⟩

end Go.Proofs.YtoifjjgakblhhaaGreatDoor

/- Which whole number a decimal is; the document's ways of telling a whole number. No Go stands here. -/
namespace Go.Proofs.YtoifjjgakblhhaaGreatDoor

/-- A whole number's text: a sign, digits without noughts ahead, '.0'. -/
structure Whole (l : List UInt8) (neg : Bool) (x : List UInt8) : Prop where
  eq : l = (if neg then [45] else []) ++ x ++ [46, 48]
  all : x.all isDig = true
  ne : x ≠ []
  len : x.length ≤ 40
  lead : 2 ≤ x.length → x.headD 0 ≠ 48
/-- A numeral, the last digit first. -/
theorem dec_tail (u : Nat) (t : List UInt8) : (if u < 10 then [] else Lib.decDigits (u / 10)) ++ UInt8.ofNat (48 + u % 10) :: t = Lib.decDigits u ++ t := by
  conv => rhs; rw [Lib.decDigits]
  by_cases h : u < 10
  · rw [if_pos h, dif_pos h, Nat.mod_eq_of_lt h]; rfl
  · rw [if_neg h, dif_neg h]; simp
end Go.Proofs.YtoifjjgakblhhaaGreatDoor

/- Whole numbers as texts, the document's way. -/
namespace Go.Proofs.YtoifjjgakblhhaaGreatDoor
open Go.RowKit

/-- One step of writing a whole number: the last digit goes ahead of what is written. -/
theorem num_step {u : Nat} {X : ByteArray} {full : List UInt8} (h : Lib.decDigits u ++ X.data.toList = full) (hu : 10 ≤ u) :
    Lib.decDigits (u / 10) ++ (bs [UInt8.ofNat (48 + u % 10)] ++ X).data.toList = full := by
  have e : (bs [UInt8.ofNat (48 + u % 10)] ++ X).data.toList = UInt8.ofNat (48 + u % 10) :: X.data.toList := by
    rw [ByteArray.data_append, Array.toList_append]; rfl
  have := dec_tail u X.data.toList
  rw [if_neg (by omega)] at this
  rw [e, this, h]
theorem num_last {u : Nat} {X : ByteArray} {full : List UInt8} (h : Lib.decDigits u ++ X.data.toList = full) (hu : u < 10) :
    bs [UInt8.ofNat (48 + u % 10)] ++ X = bs full := by
  apply bytes_ext
  have e : (bs [UInt8.ofNat (48 + u % 10)] ++ X).data.toList = UInt8.ofNat (48 + u % 10) :: X.data.toList := by
    rw [ByteArray.data_append, Array.toList_append]; rfl
  have := dec_tail u X.data.toList
  rw [if_pos hu] at this
  rw [e]
  show _ = full
  rw [← h, ← this]; rfl
theorem one_byte (W : World) (d : Nat) (hd : d ≤ 9) : (convert 40 9 (.slice (some ⟨W.heap.size, 0, none⟩) 1 1)).run Tryz.prog (W.alloc (.cells #[.int .u8 (48 + (d : Int))] 5)) = .ok (.string (bs [UInt8.ofNat (48 + d)])) (W.alloc (.cells #[.int .u8 (48 + (d : Int))] 5)) := by
  have := run_convert_bytes_back (P := Tryz.prog) (W.alloc (.cells #[.int .u8 (48 + (d : Int))] 5)) 40 9 5 ⟨W.heap.size, 0, none⟩ 1 [UInt8.ofNat (48 + d)] Tryz.underlying40 Tryz.underlying5 Tryz.underlying9 (fun j hj => by
    have : j = 0 := by simp at hj; exact hj
    subst this
    rw [Addr.add_mid, Nat.zero_add]
    refine (cell_of (heap_new W _ rfl) 0 rfl).trans ?_
    have e8 : (UInt8.ofNat (48 + d)).toNat = 48 + d := by rw [UInt8.toNat_ofNat']; omega
    show some (Value.int .u8 (48 + (d : Int))) = some (Value.int .u8 (((UInt8.ofNat (48 + d)).toNat : Nat) : Int))
    rw [e8, Int.natCast_add]; rfl)
  exact this
set_option maxRecDepth 20000 in
set_option maxHeartbeats 1600000 in
theorem refOfIntNat (n : Nat) (h1 : n < 9223372036854775808) (w : World) (F : ByteArray) (hF : Hid (F = bs (Lib.decDigits n))) :
    Calls Tryz.prog 41 #[.int .i64 n] w fun e w' => e = .returned (.string (F ++ ⟨#[46, 48]⟩)) ∧ Below w.heap.size w w' := by
  have hlen : (Lib.decDigits n).length ≤ 21 := by
    have := Lib.itoa_length_le n (by omega) (by omega)
    rwa [Lib.itoa_nonneg] at this
  have HL := Lib.hid hlen
  have HFS : F.size ≤ 21 := by rw [hF.out]; simpa [ByteArray.size] using hlen
  clear hlen
  go_enter Tryz.func41, Tryz.ntmps41
  go_wp2_with fail
  go_loopg [3, 4] n (fun gg s3 s4 wr => ∃ (u : Nat) (X : ByteArray), u ≤ gg ∧ u ≤ 9223372036854775807 ∧ s4 = .int .i64 u ∧ s3 = .string X ∧ X.size ≤ 21 ∧ Hid (Lib.decDigits u ++ X.data.toList = Lib.decDigits n) ∧ Below w.heap.size w wr)
  case atStart => exact ⟨n, ⟨#[]⟩, Nat.le_refl _, by omega, rfl, rfl, by decide, Lib.hid (List.append_nil _), Below.refl _ _⟩
  case round =>
    obtain ⟨u, X, hug, hub, rfl, rfl, hxs, HX, hb⟩ := hrel
    obtain ⟨d, hd⟩ : ∃ d, d = u % 10 := ⟨_, rfl⟩
    have hd9 : d ≤ 9 := by omega
    have e1 : (u : Int) % 10 = d := by omega
    have hw1 : IntKind.u8.wrap (48 + (d : Int)) = 48 + d := by unfold IntKind.wrap; simp [IntKind.bits, IntKind.signed]; omega
    obtain ⟨C, hC⟩ : ∃ C, C = bs [UInt8.ofNat (48 + d)] := ⟨_, rfl⟩
    have hcv := one_byte wr d hd9
    rw [← hC] at hcv
    have hcs : C.size = 1 := by rw [hC]; rfl
    have hcs2 : C.size ≤ 1 := by omega
    have HC := Lib.hid hC
    have HD := Lib.hid hd
    have hbn := hb.alloc hb.size (.cells #[.int .u8 (48 + (d : Int))] 5)
    clear hC hd hcs
    by_cases h10 : u < 10
    · have e2 : (u : Int) / 10 = 0 := by omega
      have hl := num_last HX.out h10
      rw [← HD.out, ← HC.out] at hl
      have HLL : Hid (C ++ X = F) := Lib.hid (by rw [hl, hF.out])
      clear hl
      go_wp2_with fail
      go_ret
      exact ⟨by rw [← HLL.out]; rfl, hbn⟩
    · obtain ⟨q, hq⟩ : ∃ q, q = u / 10 := ⟨_, rfl⟩
      have e2 : (u : Int) / 10 = q := by omega
      have hq0 : ¬ (q : Int) = 0 := by omega
      have hq0b : ((q : Int) == 0) = false := by simpa using hq0
      have hs := num_step HX.out (by omega)
      rw [← HD.out, ← HC.out, ← hq] at hs
      have HSS := Lib.hid hs
      clear hs hq
      have hsz : (C ++ X).size ≤ 21 := by
        have h1 := congrArg List.length HSS.out
        have h2 := HL.out
        rw [List.length_append] at h1
        have h3 : (C ++ X).data.toList.length = (C ++ X).size := Array.length_toList
        omega
      have HSZ := Lib.hid hsz
      clear hsz
      go_wp2_with fail
      go_roundg q
      case measure => omega
      case rel => exact ⟨q, C ++ X, Nat.le_refl _, by omega, rfl, rfl, HSZ.out, HSS, hbn⟩
theorem neg_tdiv (u : Nat) : (-(u : Int)).tdiv 10 = -((u / 10 : Nat) : Int) := by
  rw [Int.neg_tdiv, show (10 : Int) = ((10 : Nat) : Int) from rfl, ← Int.ofNat_tdiv]
theorem neg_tmod (u : Nat) : (-(u : Int)).tmod 10 = -((u % 10 : Nat) : Int) := by
  rw [Int.neg_tmod, show (10 : Int) = ((10 : Nat) : Int) from rfl, ← Int.ofNat_tmod]

set_option maxRecDepth 20000 in
set_option maxHeartbeats 1600000 in
theorem refOfIntNeg (n : Nat) (h0 : 1 ≤ n) (h1 : n ≤ 9223372036854775808) (w : World) (F : ByteArray) (hF : Hid (F = bs (Lib.decDigits n))) :
    Calls Tryz.prog 41 #[.int .i64 (-(n : Int))] w fun e w' => e = .returned (.string (⟨#[45]⟩ ++ F ++ ⟨#[46, 48]⟩)) ∧ Below w.heap.size w w' := by
  have hlen : (Lib.decDigits n).length ≤ 21 := by
    have := Lib.itoa_length_le (-(n : Int)) (by omega) (by omega)
    rw [Lib.itoa_neg n h0] at this
    simp at this; omega
  have HL := Lib.hid hlen
  have HFS : F.size ≤ 21 := by rw [hF.out]; simpa [ByteArray.size] using hlen
  clear hlen
  go_enter Tryz.func41, Tryz.ntmps41
  go_wp2_with fail
  go_loopg [3, 4] n (fun gg s3 s4 wr => ∃ (u : Nat) (X : ByteArray) (m : Int), u ≤ gg ∧ u ≤ 9223372036854775808 ∧ s4 = .int .i64 m ∧ Hid (m = -(u : Int)) ∧ m ≤ 0 ∧ -9223372036854775808 ≤ m ∧ s3 = .string X ∧ X.size ≤ 21 ∧ Hid (Lib.decDigits u ++ X.data.toList = Lib.decDigits n) ∧ Below w.heap.size w wr)
  case atStart => exact ⟨n, ⟨#[]⟩, _, Nat.le_refl _, h1, rfl, Lib.hid rfl, by omega, by omega, rfl, by decide, Lib.hid (List.append_nil _), Below.refl _ _⟩
  case round =>
    obtain ⟨u, X, m, hug, hub, rfl, HM, hm0, hm1, rfl, hxs, HX, hb⟩ := hrel
    obtain ⟨d, hd⟩ : ∃ d, d = u % 10 := ⟨_, rfl⟩
    have hd9 : d ≤ 9 := by omega
    have e1 : m.tmod 10 = -(d : Int) := by rw [HM.out, neg_tmod, hd]
    have hw1 : IntKind.u8.wrap (48 + (d : Int)) = 48 + d := by unfold IntKind.wrap; simp [IntKind.bits, IntKind.signed]; omega
    obtain ⟨C, hC⟩ : ∃ C, C = bs [UInt8.ofNat (48 + d)] := ⟨_, rfl⟩
    have hcv := one_byte wr d hd9
    rw [← hC] at hcv
    have hcs : C.size = 1 := by rw [hC]; rfl
    have hcs2 : C.size ≤ 1 := by omega
    have HC := Lib.hid hC
    have HD := Lib.hid hd
    have hbn := hb.alloc hb.size (.cells #[.int .u8 (48 + (d : Int))] 5)
    clear hC hd hcs
    by_cases hd0 : d = 0
    · have e3 : m.tmod 10 = 0 := by rw [e1, hd0]; rfl
      subst hd0
      have hcv0 : (convert 40 9 (.slice (some ⟨wr.heap.size, 0, none⟩) 1 1)).run Tryz.prog (wr.alloc (.cells #[.int .u8 48] 5)) = .ok (.string C) (wr.alloc (.cells #[.int .u8 48] 5)) := hcv
      have hbn0 : Below w.heap.size w (wr.alloc (.cells #[.int .u8 48] 5)) := hbn
      clear e1 hcv hbn hw1
      have hbn := hbn0
      clear hbn0
      by_cases h10 : u < 10
      · have e2 : m.tdiv 10 = 0 := by rw [HM.out, neg_tdiv, Nat.div_eq_of_lt h10]; rfl
        have hl := num_last HX.out h10
        rw [← HD.out, ← HC.out] at hl
        have HLL : Hid (C ++ X = F) := Lib.hid (by rw [hl, hF.out])
        have hn0 : -(n : Int) < 0 := by omega
        have hsx : (C ++ X).size ≤ 21 := by rw [HLL.out]; exact HFS
        have HSX := Lib.hid hsx
        clear hl hsx
        go_wp2_with fail
        go_ret
        exact ⟨by rw [← HLL.out]; rfl, hbn⟩
      · obtain ⟨q, hq⟩ : ∃ q, q = u / 10 := ⟨_, rfl⟩
        obtain ⟨m2, hm2⟩ : ∃ m2 : Int, m2 = -(q : Int) := ⟨_, rfl⟩
        have e2 : m.tdiv 10 = m2 := by rw [HM.out, neg_tdiv, hm2, hq]
        have hq0 : ¬ m2 = 0 := by omega
        have hq0b : (m2 == 0) = false := by simpa using hq0
        have hs := num_step HX.out (by omega)
        rw [← HD.out, ← HC.out, ← hq] at hs
        have HSS := Lib.hid hs
        have HM2 := Lib.hid hm2
        have hr1 : m2 ≤ 0 := by omega
        have hr2 : -9223372036854775808 ≤ m2 := by omega
        have hqu : q < u := by omega
        have hsz : (C ++ X).size ≤ 21 := by
          have h1 := congrArg List.length HSS.out
          have h2 := HL.out
          rw [List.length_append] at h1
          have h3 : (C ++ X).data.toList.length = (C ++ X).size := Array.length_toList
          omega
        have HSZ := Lib.hid hsz
        clear hsz hs hm2 hq
        go_wp2_with fail
        go_roundg q
        case measure => omega
        case rel => exact ⟨q, C ++ X, m2, Nat.le_refl _, by omega, rfl, HM2, hr1, hr2, rfl, HSZ.out, HSS, hbn⟩
    · have hdn : -(d : Int) < 0 := by omega
      by_cases h10 : u < 10
      · have e2 : m.tdiv 10 = 0 := by rw [HM.out, neg_tdiv, Nat.div_eq_of_lt h10]; rfl
        have hl := num_last HX.out h10
        rw [← HD.out, ← HC.out] at hl
        have HLL : Hid (C ++ X = F) := Lib.hid (by rw [hl, hF.out])
        have hn0 : -(n : Int) < 0 := by omega
        have hsx : (C ++ X).size ≤ 21 := by rw [HLL.out]; exact HFS
        have HSX := Lib.hid hsx
        clear hl hsx
        go_wp2_with fail
        go_ret
        exact ⟨by rw [← HLL.out]; rfl, hbn⟩
      · obtain ⟨q, hq⟩ : ∃ q, q = u / 10 := ⟨_, rfl⟩
        obtain ⟨m2, hm2⟩ : ∃ m2 : Int, m2 = -(q : Int) := ⟨_, rfl⟩
        have e2 : m.tdiv 10 = m2 := by rw [HM.out, neg_tdiv, hm2, hq]
        have hq0 : ¬ m2 = 0 := by omega
        have hq0b : (m2 == 0) = false := by simpa using hq0
        have hs := num_step HX.out (by omega)
        rw [← HD.out, ← HC.out, ← hq] at hs
        have HSS := Lib.hid hs
        have HM2 := Lib.hid hm2
        have hr1 : m2 ≤ 0 := by omega
        have hr2 : -9223372036854775808 ≤ m2 := by omega
        have hqu : q < u := by omega
        have hsz : (C ++ X).size ≤ 21 := by
          have h1 := congrArg List.length HSS.out
          have h2 := HL.out
          rw [List.length_append] at h1
          have h3 : (C ++ X).data.toList.length = (C ++ X).size := Array.length_toList
          omega
        have HSZ := Lib.hid hsz
        clear hsz hs hm2 hq
        go_wp2_with fail
        go_roundg q
        case measure => omega
        case rel => exact ⟨q, C ++ X, m2, Nat.le_refl _, by omega, rfl, HM2, hr1, hr2, rfl, HSZ.out, HSS, hbn⟩
end Go.Proofs.YtoifjjgakblhhaaGreatDoor

/- The document's own answer: a number as a decimal; two numbers held against each other. -/
namespace Go.Proofs.YtoifjjgakblhhaaGreatDoor
open Go.RowKit

/-- A decimal text that says z, short enough for the document's own. -/
def SaysR (z : Int) (s : ByteArray) : Prop := chk s.data.toList = true ∧ dval s.data.toList = z ∧ s.size ≤ 1000000000
theorem refOfIntSays (n : Int) (h0 : -9223372036854775808 ≤ n) (h1 : n ≤ 9223372036854775807) (w : World) :
    Calls Tryz.prog 41 #[.int .i64 n] w fun e w' => ∃ s, e = .returned (.string s) ∧ SaysR (n * 10 ^ 54) s ∧ Below w.heap.size w w' := by
  obtain ⟨f1, f2, f3, f4⟩ := intT_facts n h0 h1
  have hS : SaysR (n * 10 ^ 54) (intT n) := ⟨f1, f2, by omega⟩
  by_cases hneg : n < 0
  · obtain ⟨u, rfl⟩ : ∃ u : Nat, n = -(u : Int) := ⟨n.natAbs, by omega⟩
    have hit : Lib.itoa (-(u : Int)) = 45 :: Lib.decDigits u := Lib.itoa_neg u (by omega)
    have e : intT (-(u : Int)) = ⟨#[45]⟩ ++ bs (Lib.decDigits u) ++ ⟨#[46, 48]⟩ := by
      apply ByteArray.ext
      apply Array.ext'
      unfold intT
      simp [ByteArray.data_append, hit]
    refine (refOfIntNeg u (by omega) (by omega) w _ (Lib.hid rfl)).mono ?_
    rintro e1 w' ⟨rfl, hb⟩
    exact ⟨_, rfl, e ▸ hS, hb⟩
  · obtain ⟨u, rfl⟩ := Int.eq_ofNat_of_zero_le (Int.not_lt.1 hneg)
    have hit : Lib.itoa (u : Int) = Lib.decDigits u := Lib.itoa_nonneg u
    have e : intT (u : Int) = bs (Lib.decDigits u) ++ ⟨#[46, 48]⟩ := by
      unfold intT
      rw [hit]
    refine (refOfIntNat u (by omega) w _ (Lib.hid rfl)).mono ?_
    rintro e1 w' ⟨rfl, hb⟩
    exact ⟨_, rfl, e ▸ hS, hb⟩
theorem zeroSays : SaysR 0 ⟨#[48, 46, 48]⟩ := by
  refine ⟨by decide, by decide, by decide⟩
set_option maxRecDepth 20000 in
set_option maxHeartbeats 1600000 in
theorem refDecAt (k : Int) (b : Bool) (n : Int) (t x : ByteArray) (p : Option Addr) (len cap : Nat) (w : World) (hf : Fine n t x len) :
    Calls Tryz.prog 48 #[.agg #[.int .i64 k, .bool b, .int .i64 n, .string t, .string x, .slice p len cap]] w fun e w' => ∃ s, e = .returned (.string s) ∧ SaysR (numV k n t) s ∧ Below w.heap.size w w' := by
  have S := six_new (k := k) (b := b) (n := n) (t := t) (x := x) (p := p) (len := len) (cap := cap) w rfl
  have b0 := below1 w (.cells #[.int .i64 k, .bool b, .int .i64 n, .string t, .string x, .slice p len cap] 28)
  have f0 := S.c0
  have f2 := S.c2
  have f3 := S.c3
  have HF := Lib.hid hf
  obtain ⟨z, hz⟩ : ∃ z, z = numV k n t := ⟨_, rfl⟩
  rw [← hz]
  by_cases h2 : k = 2
  · subst h2
    have hc := fun W => refOfIntSays n HF.out.lo HF.out.hi W
    have e : numV 2 n t = n * 10 ^ 54 := by unfold numV; rw [if_pos rfl]
    rw [← e, ← hz] at hc
    have HC := Lib.hid hc
    clear hc hz e hf
    go_enter Tryz.func48, Tryz.ntmps48
    go_wp2_with (go_at_call 41; (with_reducible refine (HC.out _).mono ?_); rintro e w1 ⟨s, rfl, hs, hb⟩; have HS := Lib.hid hs; clear hs; replace b0 := below_any b0 hb b0.size)
    go_ret
    exact ⟨s, rfl, HS.out, b0⟩
  · have e2 : (k == 2) = false := by simpa using h2
    have hc := fun W => refCheck t W (by have := hf.ht; omega)
    cases hk : chk t.data.toList with
    | true =>
      have hsay : Hid (SaysR z t) := Lib.hid (by rw [hz]; unfold numV; rw [if_neg h2, if_pos hk]; exact ⟨hk, rfl, by have := hf.ht; omega⟩)
      rw [hk] at hc
      clear h2 hk hf hz
      go_enter Tryz.func48, Tryz.ntmps48
      go_wp2_with (go_at_call 78; (with_reducible refine (hc _).mono ?_); rintro e w1 ⟨rfl, hb⟩; have S1 := S.below hb; have g3 := S1.c3; replace b0 := below_any b0 hb b0.size)
      go_ret
      exact ⟨t, rfl, hsay.out, b0⟩
    | false =>
      have hsay : Hid (SaysR z ⟨#[48, 46, 48]⟩) := Lib.hid (by rw [hz]; unfold numV; rw [if_neg h2, if_neg (by simp [hk])]; exact zeroSays)
      rw [hk] at hc
      clear h2 hk hf hz
      go_enter Tryz.func48, Tryz.ntmps48
      go_wp2_with (go_at_call 78; (with_reducible refine (hc _).mono ?_); rintro e w1 ⟨rfl, hb⟩; have S1 := S.below hb; have g3 := S1.c3; replace b0 := below_any b0 hb b0.size)
      go_ret
      exact ⟨_, rfl, hsay.out, b0⟩
theorem refCmpSays {z z2 : Int} {s s2 : ByteArray} (h : SaysR z s) (h2 : SaysR z2 s2) (w : World) :
    Calls Tryz.prog 47 #[.string s, .string s2] w fun e w' => e = .returned (.int .i64 (cmpZ z z2)) ∧ Below w.heap.size w w' := by
  have := refCmpYes s s2 w h.2.2 h2.2.2 h.1 h2.1
  rwa [h.2.1, h2.2.1] at this
end Go.Proofs.YtoifjjgakblhhaaGreatDoor

/- The document's own equality in S. -/
namespace Go.Proofs.YtoifjjgakblhhaaGreatDoor
open Go.RowKit

/-- What equalS tells, where 'r' says whether the two are the same. -/
def esP (k k2 : Int) (r : Bool) : Int := if graphB k || graphB k2 then 2 else if r then 1 else if (k == 10 || k2 == 10) && !(k == 8 || k == 9 || k2 == 8 || k2 == 9) then 2 else 0
theorem graph_cases {k : Int} : graphB k = false ↔ k ≠ 5 ∧ k ≠ 6 ∧ k ≠ 7 := by unfold graphB; simp [and_assoc]
set_option maxRecDepth 20000 in
set_option maxHeartbeats 12800000 in
theorem equalSTail (k : Int) (b : Bool) (n : Int) (t x : ByteArray) (q : List Val) (p : Option Addr) (cap : Nat) (k2 : Int) (b2 : Bool) (n2 : Int) (t2 x2 : ByteArray) (q2 : List Val) (p2 : Option Addr) (cap2 : Nat) (w : World) (z : Int) (c1 c2 c3 d1 d2 d3 : Bool)
    (e10 : (k == 10) = c1) (e8 : (k == 8) = c2) (e9 : (k == 9) = c3) (g10 : (k2 == 10) = d1) (g8 : (k2 == 8) = d2) (g9 : (k2 == 9) = d3) (e5 : (k == 5) = false) (e6 : (k == 6) = false) (e7 : (k == 7) = false) (g5 : (k2 == 5) = false) (g6 : (k2 == 6) = false) (g7 : (k2 == 7) = false)
    (hs : ∀ W, Below w.heap.size w W → Calls Tryz.prog 18 #[.agg #[.int .i64 k, .bool b, .int .i64 n, .string t, .string x, .slice p q.length cap], .agg #[.int .i64 k2, .bool b2, .int .i64 n2, .string t2, .string x2, .slice p2 q2.length cap2]] W fun e w' => e = .returned (.bool false) ∧ Below W.heap.size W w')
    (hz : z = if (c1 || d1) && !(c2 || c3 || d2 || d3) then 2 else 0) :
    Calls Tryz.prog 49 #[.agg #[.int .i64 k, .bool b, .int .i64 n, .string t, .string x, .slice p q.length cap], .agg #[.int .i64 k2, .bool b2, .int .i64 n2, .string t2, .string x2, .slice p2 q2.length cap2]] w fun e w' => e = .returned (.int .i64 z) ∧ Below w.heap.size w w' := by
  obtain ⟨W0, hW0⟩ : ∃ W0, W0 = (w.alloc (.cells #[.int .i64 k, .bool b, .int .i64 n, .string t, .string x, .slice p q.length cap] 28)).alloc (.cells #[.int .i64 k2, .bool b2, .int .i64 n2, .string t2, .string x2, .slice p2 q2.length cap2] 28) := ⟨_, rfl⟩
  have S4 : Six W0 w.heap.size k b n t x p q.length cap := by rw [hW0]; exact (six_new _ rfl).alloc _
  have S5 : Six W0 (w.heap.size + 1) k2 b2 n2 t2 x2 p2 q2.length cap2 := by rw [hW0]; exact six_new _ (by simp)
  have b0 : Below w.heap.size w W0 := by rw [hW0]; exact below2 _ _ _
  have hz0 : W0.heap.size = w.heap.size + 1 + 1 := by rw [hW0]; simp
  have H0 := Lib.hid hW0
  have HZ := Lib.hid hz0
  have HS := Lib.hid hs
  clear hW0 hs hz0
  go_enter Tryz.func49, Tryz.ntmps49
  go_wp2_with fail
  rw [← H0.out]
  have T4 := S4.alloc (.cells #[.int .i64 5, .int .i64 6, .int .i64 7] 3)
  have T5 := S5.alloc (.cells #[.int .i64 5, .int .i64 6, .int .i64 7] 3)
  have bT := b0.alloc b0.size (.cells #[.int .i64 5, .int .i64 6, .int .i64 7] 3)
  go_loopg [11] 3 (fun gg s11 wr => ∃ j : Nat, j + gg = 3 ∧ s11 = .int .i64 j ∧ Six wr w.heap.size k b n t x p q.length cap ∧ Six wr (w.heap.size + 1) k2 b2 n2 t2 x2 p2 q2.length cap2 ∧ Below w.heap.size w wr ∧ wr.cell? ⟨w.heap.size + 1 + 1, 0, none⟩ = some (.int .i64 5) ∧ wr.cell? ⟨w.heap.size + 1 + 1, 1, none⟩ = some (.int .i64 6) ∧ wr.cell? ⟨w.heap.size + 1 + 1, 2, none⟩ = some (.int .i64 7))
  case atStart => exact ⟨0, by omega, rfl, T4, T5, bT, by rw [← HZ.out]; simp, by rw [← HZ.out]; simp, by rw [← HZ.out]; simp⟩
  case round =>
    obtain ⟨j, hjg, rfl, S4, S5, b0, h0, h1, h2⟩ := hrel
    have f0 := S4.c0
    have g0 := S5.c0
    rcases (show j = 0 ∨ j = 1 ∨ j = 2 ∨ j = 3 by omega) with rfl | rfl | rfl | rfl
    · go_wp2_with fail
      go_roundg (gk - 1)
      case measure => omega
      case rel => exact ⟨1, by omega, by go_num, S4, S5, b0, h0, h1, h2⟩
    · go_wp2_with fail
      go_roundg (gk - 1)
      case measure => omega
      case rel => exact ⟨2, by omega, by go_num, S4, S5, b0, h0, h1, h2⟩
    · go_wp2_with fail
      go_roundg (gk - 1)
      case measure => omega
      case rel => exact ⟨3, by omega, by go_num, S4, S5, b0, h0, h1, h2⟩
    · clear T4 T5 bT h0 h1 h2
      subst hz
      cases c1 <;> cases d1 <;> cases c2 <;> cases c3 <;> cases d2 <;> cases d3 <;>
        (go_wp2_with (first | ((with_reducible refine wpList_load6 (.tmp 2) w.heap.size S4 ?_ ?_ ?_ ?_); rfl; rfl; rfl) | ((with_reducible refine wpList_load6 (.tmp 3) (w.heap.size + 1) S5 ?_ ?_ ?_ ?_); rfl; rfl; rfl) | (go_at_call 18; (with_reducible refine (HS.out _ b0).mono ?_); rintro e w' ⟨rfl, hb⟩; replace S4 := S4.below hb; replace S5 := S5.below hb; replace b0 := below_any b0 hb b0.size; have f0 := S4.c0; have g0 := S5.c0; clear hb))
         go_ret
         exact ⟨rfl, b0⟩)
end Go.Proofs.YtoifjjgakblhhaaGreatDoor

/- What bytes are decoded as: the pure half: what was encoded is read again; a byte more or less is refused. -/
namespace Go.Proofs.YtoifjjgakblhhaaGreatDoor

def E0 : ByteArray := ⟨#[]⟩
end Go.Proofs.YtoifjjgakblhhaaGreatDoor

/- The order of all values: 0 just of values that are the same, of those that may be; where none stands; how it goes with Less. No Go stands here. -/
namespace Go.Proofs.YtoifjjgakblhhaaGreatDoor

theorem bytesI_none {l m : List UInt8} (h : bytesI l m = 0) : l = m := by
  unfold bytesI at h
  cases h1 : Op.bytesLess l m
  · cases h2 : Op.bytesLess m l
    · exact less_total l m h1 h2
    · rw [h1, h2] at h; simp at h
  · rw [h1] at h; simp at h
end Go.Proofs.YtoifjjgakblhhaaGreatDoor

/- The order of all values: what is the same stands with it. No Go stands here. -/
namespace Go.Proofs.YtoifjjgakblhhaaGreatDoor

theorem loop_eq (t : ByteArray) : (n i : Nat) → (r : List UInt8) → n = t.size - i → ByteArray.toList.loop t i r = r.reverse ++ t.data.toList.drop i
  | 0, i, r, h => by
    unfold ByteArray.toList.loop
    rw [if_neg (by omega)]
    have : t.data.toList.length ≤ i := by rw [Array.length_toList]; show t.size ≤ i; omega
    rw [List.drop_eq_nil_of_le this, List.append_nil]
  | n + 1, i, r, h => by
    have hi : i < t.size := by omega
    unfold ByteArray.toList.loop
    rw [if_pos hi, loop_eq t n (i + 1) _ (by omega)]
    have hl : i < t.data.toList.length := by rw [Array.length_toList]; exact hi
    rw [List.drop_eq_getElem_cons hl, List.reverse_cons, List.append_assoc]
    have e : t.get! i = t.data.toList[i] := by
      obtain ⟨d⟩ := t
      have h2 : i < d.size := hi
      show d[i]! = d.toList[i]
      rw [getElem!_pos d i h2]
      simp
    rw [e]
    rfl
theorem toList_eq (t : ByteArray) : t.toList = t.data.toList := by
  unfold ByteArray.toList
  rw [loop_eq t _ 0 [] rfl]
  simp
theorem bytesI_same (l : List UInt8) : bytesI l l = 0 := by unfold bytesI; rw [less_irrefl]; rfl
end Go.Proofs.YtoifjjgakblhhaaGreatDoor

/- What was encoded is decoded as it was: the pure half. -/
namespace Go.Proofs.YtoifjjgakblhhaaGreatDoor

mutual
/-- Each number fits, in all that lies in a value. -/
def fineV : Val → Prop
  | .mk _ _ n t x l => Fine n t x l.length ∧ fineAll l
def fineAll : List Val → Prop
  | [] => True
  | v :: r => fineV v ∧ fineAll r
end
mutual
theorem HoldsOne.fine {w : World} {g off : Nat} : (v : Val) → HoldsOne w g off v → fineV v
  | .mk k b n t x l, h => by
    unfold HoldsOne at h
    obtain ⟨_, _, _, _, _, hf, L, _, hl⟩ := h
    unfold fineV
    exact ⟨hf, Held.fine l hl⟩
theorem Held.fine {w : World} {L : Value} : (l : List Val) → Held w L l → fineAll l
  | [], _ => by unfold fineAll; trivial
  | v :: r, h => by
    unfold Held at h
    obtain ⟨g, off, cap, e, hv, hr⟩ := h
    unfold fineAll
    exact ⟨HoldsOne.fine v hv, Holds.fine r hr⟩
theorem Holds.fine {w : World} {g off : Nat} : (l : List Val) → Holds w g off l → fineAll l
  | [], _ => by unfold fineAll; trivial
  | v :: r, h => by
    unfold Holds at h
    unfold fineAll
    exact ⟨HoldsOne.fine v h.1, Holds.fine r h.2⟩
end
theorem fine_mem : {l : List Val} → {v : Val} → fineAll l → v ∈ l → fineV v
  | [], _, _, h => absurd h (by simp)
  | u :: r, v, hf, h => by
    unfold fineAll at hf
    rcases List.mem_cons.1 h with h | h
    · rw [h]; exact hf.1
    · exact fine_mem hf.2 h
theorem e0 {t : ByteArray} (h : t.size = 0) : t = E0 := by
  have : t.data = #[] := Array.size_eq_zero_iff.1 h
  cases t
  simp only at this
  subst this
  rfl
end Go.Proofs.YtoifjjgakblhhaaGreatDoor

/- The text of a value. -/
namespace Go.Proofs.YtoifjjgakblhhaaGreatDoor
open Go.RowKit

/-- The texts of some kinds. -/
def nullB : List UInt8 := [110, 117, 108, 108]
def boolB (b : Bool) : List UInt8 := if b then [116, 114, 117, 101] else [102, 97, 108, 115, 101]
mutual
/-- How a value that may be is shown. -/
def showP : Val → List UInt8
  | .mk k b n t _ l => if k = 0 then nullB else if k = 1 then boolB b else if k = 2 then Lib.itoa n else if k = 3 ∨ k = 4 ∨ k = 10 then txtB t
      else if k = 8 then [60] ++ txtB t ++ [62] else if k = 9 then [95, 58] ++ txtB t else if k = 6 then [40] ++ Lib.itoa n ++ [41] else if k = 7 then [91] ++ Lib.itoa n ++ [93]
      else if k = 5 then [91] ++ showAll l true ++ [93] else []
def showAll : List Val → Bool → List UInt8
  | [], _ => []
  | v :: r, f => (if f then [] else [44, 32]) ++ showP v ++ showAll r false
end
theorem showAll_take : (l : List Val) → (f : Bool) → (j : Nat) → (h : j < l.length) → showAll (l.take (j + 1)) f = showAll (l.take j) f ++ ((if f && j == 0 then [] else [44, 32]) ++ showP (l[j]'h))
  | [], _, _, h => absurd h (by simp)
  | v :: r, f, 0, _ => by
    cases f <;> simp [showAll]
  | v :: r, f, j + 1, h => by
    have ih := showAll_take r false j (by simpa using h)
    show showAll (v :: r.take (j + 1)) f = showAll (v :: r.take j) f ++ _
    unfold showAll
    rw [ih]
    simp
theorem boolB_len (b : Bool) : (boolB b).length ≤ 5 := by cases b <;> decide
mutual
theorem showP_len : (v : Val) → fineV v → (showP v).length + 2 ≤ 27 * wOne v
  | .mk k b n t x l, h => by
    unfold fineV at h
    obtain ⟨hf, ha⟩ := h
    have h1 := Lib.itoa_length_le n hf.lo hf.hi
    have h2 := showAll_len l true ha
    have h3 := txtB_length t
    have h4 := boolB_len b
    have h5 : nullB.length = 4 := rfl
    unfold showP wOne
    (repeat' split) <;> ((try simp only [List.length_append, List.length_cons, List.length_nil]); omega)
theorem showAll_len : (l : List Val) → (f : Bool) → fineAll l → (showAll l f).length ≤ 27 * wAll l
  | [], _, _ => by simp [showAll]
  | v :: r, f, h => by
    unfold fineAll at h
    have h1 := showP_len v h.1
    have h2 := showAll_len r false h.2
    unfold showAll wAll
    have h3 : (if f then [] else [(44 : UInt8), 32]).length ≤ 2 := by cases f <;> simp
    simp only [List.length_append]
    omega
end
end Go.Proofs.YtoifjjgakblhhaaGreatDoor

/- How a number is encoded: so many bytes, the highest first. -/
namespace Go.Proofs.YtoifjjgakblhhaaGreatDoor
open Go.RowKit

end Go.Proofs.YtoifjjgakblhhaaGreatDoor

/- strconv.AppendInt, at base 10, by the library's own contract; AppendBool, walked. -/
namespace Go.Proofs
open Go.Shelf
def Tryz.laysM176_ren : Go.Shelf.Ren := ⟨fun | 176 => 82 | 249 => 121 | 288 => 149 | 283 => 171 | 284 => 172 | 285 => 173 | 286 => 174 | 129 => 196 | 317 => 195 | 318 => 197 | 319 => 198 | 320 => 199 | 337 => 208 | 338 => 209 | n => n, fun | 2 => 2 | 3 => 3 | 9 => 9 | 4 => 4 | 171 => 175 | 0 => 0 | 53 => 111 | 37 => 40 | 5 => 5 | 173 => 178 | 212 => 195 | 51 => 133 | 20 => 20 | 213 => 196 | 46 => 113 | 232 => 210 | 233 => 211 | n => n, fun | 17 => 1 | 18 => 2 | 19 => 3 | n => n⟩
theorem Tryz.laysM176 : Go.Proofs.LaysM.n176 Tryz.prog Tryz.laysM176_ren := {
  mixed := by kernel_rfl
  f129 := Tryz.func196.trans (congrArg some (by kernel_rfl))
  f176 := Tryz.func82.trans (congrArg some (by kernel_rfl))
  f249 := Tryz.func121.trans (congrArg some (by kernel_rfl))
  f288 := Tryz.func149.trans (congrArg some (by kernel_rfl))
  f283 := Tryz.func171.trans (congrArg some (by kernel_rfl))
  f284 := Tryz.func172.trans (congrArg some (by kernel_rfl))
  f285 := Tryz.func173.trans (congrArg some (by kernel_rfl))
  f286 := Tryz.func174.trans (congrArg some (by kernel_rfl))
  f317 := Tryz.func195.trans (congrArg some (by kernel_rfl))
  f318 := Tryz.func197.trans (congrArg some (by kernel_rfl))
  f319 := Tryz.func198.trans (congrArg some (by kernel_rfl))
  f320 := Tryz.func199.trans (congrArg some (by kernel_rfl))
  f337 := Tryz.func208.trans (congrArg some (by kernel_rfl))
  f338 := Tryz.func209.trans (congrArg some (by kernel_rfl))
  t0 := Tryz.underlying0
  a0 := Tryz.isAgg0
  z0 := Tryz.sizeOf0
  v0 := Tryz.zeroValue0
  t2 := Tryz.underlying2
  a2 := Tryz.isAgg2
  z2 := Tryz.sizeOf2
  v2 := Tryz.zeroValue2
  t3 := Tryz.underlying3
  a3 := Tryz.isAgg3
  z3 := Tryz.sizeOf3
  v3 := Tryz.zeroValue3
  t4 := Tryz.underlying4
  a4 := Tryz.isAgg4
  z4 := Tryz.sizeOf4
  v4 := Tryz.zeroValue4
  t5 := Tryz.underlying5
  a5 := Tryz.isAgg5
  z5 := Tryz.sizeOf5
  v5 := Tryz.zeroValue5
  t9 := Tryz.underlying9
  a9 := Tryz.isAgg9
  z9 := Tryz.sizeOf9
  v9 := Tryz.zeroValue9
  t20 := Tryz.underlying20
  a20 := Tryz.isAgg20
  z20 := Tryz.sizeOf20
  v20 := Tryz.zeroValue20
  t37 := Tryz.underlying40
  a37 := Tryz.isAgg40
  z37 := Tryz.sizeOf40
  v37 := Tryz.zeroValue40
  t46 := Tryz.underlying113
  a46 := Tryz.isAgg113
  z46 := Tryz.sizeOf113
  v46 := Tryz.zeroValue113
  t51 := Tryz.underlying133
  a51 := Tryz.isAgg133
  z51 := Tryz.sizeOf133
  v51 := Tryz.zeroValue133
  t53 := Tryz.underlying111
  a53 := Tryz.isAgg111
  z53 := Tryz.sizeOf111
  v53 := Tryz.zeroValue111
  t171 := Tryz.underlying175
  a171 := Tryz.isAgg175
  z171 := Tryz.sizeOf175
  v171 := Tryz.zeroValue175
  t173 := Tryz.underlying178
  a173 := Tryz.isAgg178
  z173 := Tryz.sizeOf178
  v173 := Tryz.zeroValue178
  t212 := Tryz.underlying195
  a212 := Tryz.isAgg195
  z212 := Tryz.sizeOf195
  v212 := Tryz.zeroValue195
  t213 := Tryz.underlying196
  a213 := Tryz.isAgg196
  z213 := Tryz.sizeOf196
  t232 := Tryz.underlying210
  a232 := Tryz.isAgg210
  z232 := Tryz.sizeOf210
  v232 := Tryz.zeroValue210
  t233 := Tryz.underlying211
  a233 := Tryz.isAgg211
  z233 := Tryz.sizeOf211
  v233 := Tryz.zeroValue211
  g17 := by kernel_rfl
  g18 := by kernel_rfl
  g19 := by kernel_rfl
  i0 := by kernel_rfl
  i2 := by kernel_rfl
  i3 := by kernel_rfl
  i4 := by kernel_rfl
  i5 := by kernel_rfl
  i9 := by kernel_rfl
  i20 := by kernel_rfl
  i37 := by kernel_rfl
  i46 := by kernel_rfl
  i51 := by kernel_rfl
  i53 := by kernel_rfl
  i171 := by kernel_rfl
  i173 := by kernel_rfl
  i212 := by kernel_rfl
  i232 := by kernel_rfl
  i233 := by kernel_rfl
  m17 := by kernel_rfl
  m18 := by kernel_rfl
  m19 := by kernel_rfl }
namespace YtoifjjgakblhhaaGreatDoor
open Go.RowKit
theorem kept_bx {w w' : World} (h : Lib.OthersKept 5 none w w') : Bx w w' := fun g c e => h g _ e (by simp) (fun c2 fz e2 => by simp at e2)
/-- A number is written behind what is there. -/
theorem appendIntAt (w0 w : World) (A : Value) (l : List UInt8) (n : Int) (h0 : -9223372036854775808 ≤ n) (h1 : n ≤ 9223372036854775807) (h : OwnB w0 A l w) (hT : Tab w0) (hl : l.length ≤ 1000000000) :
    Calls Tryz.prog 82 #[A, .int .i64 n, .int .i64 10] w fun e w' => ∃ A', e = .returned A' ∧ OwnB w0 A' (l ++ Lib.itoa n) w' ∧ Bx w w' := by
  have ht : Lib.TabBelow Tryz.prog w0.heap.size w "internal/strconv.uint64pow10" .u64 Lib.pow10Tab := (Lib.tabBelow_of_tabIs hT).on h.bel
  refine (Any.strconv_AppendInt_10 Tryz.laysM176 w0.heap.size l.length n h0 h1 A (vals l) w h.own h.lo (by omega) ht).mono ?_
  rintro e w' ⟨v', rfl, hown, hb, hk⟩
  refine ⟨v', rfl, ⟨?_, h.bel.trans hb⟩, kept_bx hk⟩
  rw [List.length_append, vals_append]
  exact hown
end YtoifjjgakblhhaaGreatDoor
end Go.Proofs
