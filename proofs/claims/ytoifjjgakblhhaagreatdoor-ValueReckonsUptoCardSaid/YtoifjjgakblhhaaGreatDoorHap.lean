/- Texts of one kind, one behind the other: each says ahead of itself what it shows. -/
import Derived.Test.YtoifjjgakblhhaaGreatDoorHao
import Derived.Lib.ItoaMem
import Derived.Lib.ParseIntB
import Derived.Lib.Strings
import Derived.Lib.ItoaLen
import Derived.Test.YtoifjjgakblhhaaGreatDoorHak
import Derived.Deep.LoopGhost
import Derived.Test.YtoifjjgakblhhaaGreatDoorHah
import Derived.Test.YtoifjjgakblhhaaGreatDoorHai
import Derived.WalkKit
import Derived.OwnWalk
import Derived.Maps.AppendAt
import Derived.Lib.AppendStr
import Derived.Shelf.Strconv.AppendIntPublic10
import Derived.Test.YtoifjjgakblhhaaGreatDoorHaj
import Derived.Shelf.Strconv.Clone
/- Two texts as the document takes them; sums, differences, order of them. -/
namespace Go.Proofs.YtoifjjgakblhhaaGreatDoor
open Go.RowKit

theorem parsedYes (s : ByteArray) (hs : s.size ≤ 1000000000) (h : chk s.data.toList = true) : ∃ (N : Bool) (sc : Nat) (ds : List Nat), Dec s.data.toList N ds sc ∧ ParsedAs s N sc ds true := by
  obtain ⟨h1, h2⟩ := split_chk h
  exact ⟨_, _, _, h2, fun W => refParsedYes s W hs h1 _ _ _ (Lib.hid rfl) (Lib.hid rfl) (Lib.hid rfl)⟩
theorem checkedAs (s : ByteArray) (hs : s.size ≤ 1000000000) (c : Bool) (h : c = chk s.data.toList) : CheckedAs s c := fun W => refCheckB s c W hs (Lib.hid h)
/-- 'two' of two decimals. -/
def TwoAs (s t : ByteArray) (N1 : Bool) (s1 : Int) (d1 : List Nat) (N2 : Bool) (s2 : Int) (d2 : List Nat) (r : Bool) : Prop :=
  ∀ w, Calls Tryz.prog 87 #[.string s, .string t] w fun e w' => ∃ u v, e = .returned (.tuple #[.agg #[.bool N1, u, .int .i64 s1], .agg #[.bool N2, v, .int .i64 s2], .bool r]) ∧ Ints w' u d1 ∧ Ints w' v d2 ∧ Below w.heap.size w w'
theorem TwoAs.at {s t : ByteArray} {N1 N2 r : Bool} {s1 s2 : Int} {d1 d2 : List Nat} (h : TwoAs s t N1 s1 d1 N2 s2 d2 r) (w : World) : Calls Tryz.prog 87 #[.string s, .string t] w fun e w' => ∃ u v, e = .returned (.tuple #[.agg #[.bool N1, u, .int .i64 s1], .agg #[.bool N2, v, .int .i64 s2], .bool r]) ∧ Ints w' u d1 ∧ Ints w' v d2 ∧ Below w.heap.size w w' := h w
theorem twoYes (s t : ByteArray) (hs : s.size ≤ 1000000000) (ht : t.size ≤ 1000000000) (h : chk s.data.toList = true) (h2 : chk t.data.toList = true) :
    ∃ (N1 : Bool) (s1 : Nat) (d1 : List Nat) (N2 : Bool) (s2 : Nat) (d2 : List Nat), Dec s.data.toList N1 d1 s1 ∧ Dec t.data.toList N2 d2 s2 ∧ TwoAs s t N1 s1 d1 N2 s2 d2 true := by
  obtain ⟨N1, s1, d1, a1, p1⟩ := parsedYes s hs h
  obtain ⟨N2, s2, d2, a2, p2⟩ := parsedYes t ht h2
  exact ⟨N1, s1, d1, N2, s2, d2, a1, a2, fun w => two_ttt s t N1 N2 s1 s2 d1 d2 true w (Lib.hid p1) (Lib.hid p2) (Lib.hid (checkedAs s hs true h.symm)) (Lib.hid (checkedAs t ht true h2.symm))⟩
theorem sum_small {l r : List UInt8} (h : chk l = true) (h2 : chk r = true) : (dval l + dval r).natAbs < 10 ^ 144 ∧ (dval l - dval r).natAbs < 10 ^ 144 := by
  have a := dval_lt h
  have b := dval_lt h2
  have e : (10 : Nat) ^ 94 + 10 ^ 94 ≤ 10 ^ 144 := by decide
  omega
theorem plus_text {l r : List UInt8} {N1 N2 n : Bool} {d1 d2 zs : List Nat} {s1 s2 S : Nat} (h : chk l = true) (h2 : chk r = true) (a : Dec l N1 d1 s1) (b : Dec r N2 d2 s2) (e1 : s1 ≤ S) (e2 : s2 ≤ S) (eS : S ≤ 20) (hs : Small zs)
    (hv : sv n (val10 zs) = sv N1 (val10 d1 * 10 ^ (S - s1)) + sv N2 (val10 d2 * 10 ^ (S - s2))) : formP n zs S = txt (dval l + dval r) :=
  form_num hs (by omega) (by rw [nval_plus e1 e2 (by omega) hv, a.val, b.val]) (sum_small h h2).1
theorem minus_text {l r : List UInt8} {N1 N2 n : Bool} {d1 d2 zs : List Nat} {s1 s2 S : Nat} (h : chk l = true) (h2 : chk r = true) (a : Dec l N1 d1 s1) (b : Dec r N2 d2 s2) (e1 : s1 ≤ S) (e2 : s2 ≤ S) (eS : S ≤ 20) (hs : Small zs)
    (hv : sv n (val10 zs) = sv N1 (val10 d1 * 10 ^ (S - s1)) + sv (!N2) (val10 d2 * 10 ^ (S - s2))) : formP n zs S = txt (dval l - dval r) :=
  form_num hs (by omega) (by
    rw [nval_plus e1 e2 (by omega) hv, a.val, ← b.val]
    unfold nval
    rw [sv_not]; omega) (sum_small h h2).2
theorem two_size (W : World) : Below W.heap.size W ((W.alloc (.cells #[.bool false, .slice none 0 0, .int .i64 0] 97)).alloc (.cells #[.bool false, .slice none 0 0, .int .i64 0] 97)) := ((Below.refl _ _).alloc (Nat.le_refl _) _).alloc (by simp) _
theorem Rec.drew {w : World} {g : Nat} {n : Bool} {v : Value} {sc : Int} (h : Rec w g n v sc) : Rec w.drew g n v sc := h

set_option maxRecDepth 20000 in
set_option maxHeartbeats 1600000 in
theorem refAddYes (s t : ByteArray) (w : World) (hs : s.size ≤ 1000000000) (ht : t.size ≤ 1000000000) (h : chk s.data.toList = true) (h2 : chk t.data.toList = true) (x : ByteArray) (k : Int)
    (hv : said (txt (dval s.data.toList + dval t.data.toList)) = .tuple #[.string x, .int .i64 k]) :
    Calls Tryz.prog 63 #[.string s, .string t] w fun e w' => e = .returned (.tuple #[.string x, .int .i64 k]) ∧ Below w.heap.size w w' := by
  obtain ⟨N1, s1, d1, N2, s2, d2, a1, a2, HT⟩ := twoYes s t hs ht h h2
  obtain ⟨S, e1, e2, e3⟩ : ∃ S, s1 ≤ S ∧ s2 ≤ S ∧ (S = s1 ∨ S = s2) := ⟨max s1 s2, by omega, by omega, by omega⟩
  have eS : S ≤ 20 := by have := a1.sc; have := a2.sc; omega
  have A := Lib.hid (And.intro a1 (And.intro a2 (And.intro e1 (And.intro e2 (And.intro e3 eS)))))
  have HC := Lib.hid HT
  have HH := Lib.hid (And.intro h h2)
  have HV := Lib.hid hv
  clear a1 a2 e1 e2 e3 eS HT h h2 hv
  go_enter Tryz.func63, Tryz.ntmps63
  go_wp2_with (first
    | (go_at_call 87; (with_reducible refine (HC.out.at _).mono ?_); rintro e w1 ⟨u, v, rfl, hu, hv, hb⟩; have q6 : Rec ((w1.alloc (.cells #[.bool false, .slice none 0 0, .int .i64 0] 97)).alloc (.cells #[.bool false, .slice none 0 0, .int .i64 0] 97)) w1.heap.size false (.slice none 0 0) 0 := (rec_new w1 rfl).alloc _; have q7 : Rec ((w1.alloc (.cells #[.bool false, .slice none 0 0, .int .i64 0] 97)).alloc (.cells #[.bool false, .slice none 0 0, .int .i64 0] 97)) (w1.heap.size + 1) false (.slice none 0 0) 0 := rec_new _ (by simp)
       have UO := Lib.hid (And.intro (ints_one hu) (ints_one hv)); have UV := Lib.hid (And.intro (hu.below (two_size w1)) (And.intro (hv.below (two_size w1)) (below_any hb (two_size w1) hb.size))); have hw1 := hb.size; clear hu hv hb)
    | ((with_reducible refine wpList_store44 (m := N1) (u := u) (sd := s1) (.tmp 6) (.tmp 13) w1.heap.size q6 UO.out.1 ?_ ?_ ?_ ?_ ?_); rfl; rfl; rfl; rfl; intro w2 ho p6; have Q7 := Lib.hid (q7.only ho (by omega)); have UV2 := Lib.hid (And.intro (UV.out.1.rec ho q6) (And.intro (UV.out.2.1.rec ho q6) (below_only UV.out.2.2 ho (by omega) (Nat.le_of_lt (Nat.lt_of_le_of_lt hw1 q6.lt))))); clear ho UV q6 q7; have q7 := Q7.out; clear Q7)
    | ((with_reducible refine wpList_store44 (m := N2) (u := v) (sd := s2) (.tmp 7) (.tmp 14) (w1.heap.size + 1) q7 UO.out.2 ?_ ?_ ?_ ?_ ?_); rfl; rfl; rfl; rfl; intro w3 ho p7; have P6 := Lib.hid (p6.only ho (by omega)); have UV3 := Lib.hid (And.intro (UV2.out.1.rec ho q7) (And.intro (UV2.out.2.1.rec ho q7) (below_only UV2.out.2.2 ho (by omega) (Nat.le_of_lt (Nat.lt_of_le_of_lt (Nat.le_succ_of_le hw1) q7.lt))))); clear ho UV2 q7 p6; have p6 := P6.out; clear P6)
    | ((with_reducible refine wpList_load44 (.tmp 6) w1.heap.size p6 ?_ ?_ ?_ ?_); rfl; rfl; rfl)
    | ((with_reducible refine wpList_load44 (.tmp 7) (w1.heap.size + 1) p7 ?_ ?_ ?_ ?_); rfl; rfl; rfl)
    | (go_at_call 88; (with_reducible refine (refPlus N1 N2 u v d1 d2 s1 s2 S _ UV3.out.1 UV3.out.2.1 A.out.1.small A.out.2.1.small A.out.2.2.1 A.out.2.2.2.1 A.out.2.2.2.2.1 (by have := A.out.2.2.2.2.2; omega) (by have := A.out.1.len; omega) (by have := A.out.2.1.len; omega)).mono ?_); rintro e w4 ⟨n, z, zs, rfl, hz, hzs, hval, hlen, hb4⟩
       have HZ := Lib.hid (And.intro hz (And.intro hzs (And.intro (show zs.length ≤ 1000000000 by have := A.out.1.len; have := A.out.2.1.len; have := A.out.2.2.2.2.2; omega) (below_any UV3.out.2.2 hb4 UV3.out.2.2.size)))); have HX : Hid (said (formP n zs S) = .tuple #[.string x, .int .i64 k]) := Lib.hid (by rw [plus_text HH.out.1 HH.out.2 A.out.1 A.out.2.1 A.out.2.2.1 A.out.2.2.2.1 A.out.2.2.2.2.2 hzs hval]; exact HV.out); clear hz hzs hval hlen hb4)
    | (go_at_call 104; (with_reducible refine (refFormS n z zs S _ HZ.out.1 HZ.out.2.1 (by have := A.out.2.2.2.2.2; omega) HZ.out.2.2.1 x k HX).mono ?_); rintro e w5 ⟨rfl, hb5⟩; have HB := Lib.hid (below_any HZ.out.2.2.2 hb5 HZ.out.2.2.2.size); clear hb5))
  go_ret2
  exact ⟨rfl, HB.out⟩
end Go.Proofs.YtoifjjgakblhhaaGreatDoor

/- Differences and the order, as the document takes them. -/
namespace Go.Proofs.YtoifjjgakblhhaaGreatDoor
open Go.RowKit

set_option maxRecDepth 20000 in
set_option maxHeartbeats 1600000 in
theorem refSubYes (s t : ByteArray) (w : World) (hs : s.size ≤ 1000000000) (ht : t.size ≤ 1000000000) (h : chk s.data.toList = true) (h2 : chk t.data.toList = true) (x : ByteArray) (k : Int)
    (hv : said (txt (dval s.data.toList - dval t.data.toList)) = .tuple #[.string x, .int .i64 k]) :
    Calls Tryz.prog 64 #[.string s, .string t] w fun e w' => e = .returned (.tuple #[.string x, .int .i64 k]) ∧ Below w.heap.size w w' := by
  obtain ⟨N1, s1, d1, N2, s2, d2, a1, a2, HT⟩ := twoYes s t hs ht h h2
  obtain ⟨S, e1, e2, e3⟩ : ∃ S, s1 ≤ S ∧ s2 ≤ S ∧ (S = s1 ∨ S = s2) := ⟨max s1 s2, by omega, by omega, by omega⟩
  have eS : S ≤ 20 := by have := a1.sc; have := a2.sc; omega
  have A := Lib.hid (And.intro a1 (And.intro a2 (And.intro e1 (And.intro e2 (And.intro e3 eS)))))
  have HC := Lib.hid HT
  have HH := Lib.hid (And.intro h h2)
  have HV := Lib.hid hv
  clear a1 a2 e1 e2 e3 eS HT h h2 hv
  go_enter Tryz.func64, Tryz.ntmps64
  go_upto_region 5 with (first
    | (go_at_call 87; (with_reducible refine (HC.out.at _).mono ?_); rintro e w1 ⟨u, v, rfl, hu, hv, hb⟩; have q6 : Rec ((w1.alloc (.cells #[.bool false, .slice none 0 0, .int .i64 0] 97)).alloc (.cells #[.bool false, .slice none 0 0, .int .i64 0] 97)) w1.heap.size false (.slice none 0 0) 0 := (rec_new w1 rfl).alloc _; have q7 : Rec ((w1.alloc (.cells #[.bool false, .slice none 0 0, .int .i64 0] 97)).alloc (.cells #[.bool false, .slice none 0 0, .int .i64 0] 97)) (w1.heap.size + 1) false (.slice none 0 0) 0 := rec_new _ (by simp)
       have UO := Lib.hid (And.intro (ints_one hu) (ints_one hv)); have UV := Lib.hid (And.intro (hu.below (two_size w1)) (And.intro (hv.below (two_size w1)) (below_any hb (two_size w1) hb.size))); have hw1 := hb.size; clear hu hv hb)
    | ((with_reducible refine wpList_store44 (m := N1) (u := u) (sd := s1) (.tmp 6) (.tmp 13) w1.heap.size q6 UO.out.1 ?_ ?_ ?_ ?_ ?_); rfl; rfl; rfl; rfl; intro w2 ho p6; have Q7 := Lib.hid (q7.only ho (by omega)); have UV2 := Lib.hid (And.intro (UV.out.1.rec ho q6) (And.intro (UV.out.2.1.rec ho q6) (below_only UV.out.2.2 ho (by omega) (Nat.le_of_lt (Nat.lt_of_le_of_lt hw1 q6.lt))))); clear ho UV q6 q7; have q7 := Q7.out; clear Q7)
    | ((with_reducible refine wpList_store44 (m := N2) (u := v) (sd := s2) (.tmp 7) (.tmp 14) (w1.heap.size + 1) q7 UO.out.2 ?_ ?_ ?_ ?_ ?_); rfl; rfl; rfl; rfl; intro w3 ho p7; have P6 := Lib.hid (p6.only ho (by omega)); have UV3 := Lib.hid (And.intro (UV2.out.1.rec ho q7) (And.intro (UV2.out.2.1.rec ho q7) (below_only UV2.out.2.2 ho (by omega) (Nat.le_of_lt (Nat.lt_of_le_of_lt (Nat.le_succ_of_le hw1) q7.lt))))); clear ho UV2 q7 p6; have p6 := P6.out; clear P6; have c0 := p7.c0; have f0 : w3.frozen? ⟨w1.heap.size + 1, 0, none⟩ = false := free_of p7 0))
  have ho4 : Only (w1.heap.size + 1) w3 (w3.setCell ⟨w1.heap.size + 1, 0, none⟩ (.bool (!N2))) := (Only.refl _ _).setCell _ _ _
  have p7s := p7.set0 (!N2)
  have P6 := Lib.hid (p6.only ho4 (by omega))
  have UV4 := Lib.hid (And.intro (UV3.out.1.rec ho4 p7) (And.intro (UV3.out.2.1.rec ho4 p7) (below_only UV3.out.2.2 ho4 (by omega) (Nat.le_of_lt (Nat.lt_of_le_of_lt (Nat.le_succ_of_le hw1) p7.lt)))))
  have P7 := Lib.hid p7s
  clear ho4 p7s p7 p6 c0 f0 UV3
  generalize w3.setCell ⟨w1.heap.size + 1, 0, none⟩ (.bool (!N2)) = w3s at *
  have p6 := P6.out
  have p7 := P7.out
  clear P6 P7
  go_wp2_with (first
    | ((with_reducible refine wpList_load44 (.tmp 6) w1.heap.size p6 ?_ ?_ ?_ ?_); rfl; rfl; rfl)
    | ((with_reducible refine wpList_load44 (.tmp 7) (w1.heap.size + 1) p7 ?_ ?_ ?_ ?_); rfl; rfl; rfl)
    | (go_at_call 88; (with_reducible refine (refPlus N1 (!N2) u v d1 d2 s1 s2 S _ UV4.out.1 UV4.out.2.1 A.out.1.small A.out.2.1.small A.out.2.2.1 A.out.2.2.2.1 A.out.2.2.2.2.1 (by have := A.out.2.2.2.2.2; omega) (by have := A.out.1.len; omega) (by have := A.out.2.1.len; omega)).mono ?_); rintro e w4 ⟨n, z, zs, rfl, hz, hzs, hval, hlen, hb4⟩
       have HZ := Lib.hid (And.intro hz (And.intro hzs (And.intro (show zs.length ≤ 1000000000 by have := A.out.1.len; have := A.out.2.1.len; have := A.out.2.2.2.2.2; omega) (below_any UV4.out.2.2 hb4 UV4.out.2.2.size)))); have HX : Hid (said (formP n zs S) = .tuple #[.string x, .int .i64 k]) := Lib.hid (by rw [minus_text HH.out.1 HH.out.2 A.out.1 A.out.2.1 A.out.2.2.1 A.out.2.2.2.1 A.out.2.2.2.2.2 hzs hval]; exact HV.out); clear hz hzs hval hlen hb4)
    | (go_at_call 104; (with_reducible refine (refFormS n z zs S _ HZ.out.1 HZ.out.2.1 (by have := A.out.2.2.2.2.2; omega) HZ.out.2.2.1 x k HX).mono ?_); rintro e w5 ⟨rfl, hb5⟩; have HB := Lib.hid (below_any HZ.out.2.2.2 hb5 HZ.out.2.2.2.size); clear hb5))
  go_ret2
  exact ⟨rfl, HB.out⟩

end Go.Proofs.YtoifjjgakblhhaaGreatDoor

/- Which whole number a decimal is; the document's ways of telling a whole number. No Go stands here. -/
namespace Go.Proofs.YtoifjjgakblhhaaGreatDoor

/-- A whole number's text: a sign, digits without noughts ahead, '.0'. -/
structure Whole (l : List UInt8) (neg : Bool) (x : List UInt8) : Prop where
  eq : l = (if neg then [45] else []) ++ x ++ [46, 48]
  all : x.all isDig = true
  ne : x ≠ []
  len : x.length ≤ 40
  lead : 2 ≤ x.length → x.headD 0 ≠ 48
theorem suffix_iff (l : List UInt8) : Lib.hasSuffix l [46, 48] = true ↔ ∃ r, l = r ++ [46, 48] := by
  unfold Lib.hasSuffix
  rw [List.isSuffixOf_iff_suffix]
  exact ⟨fun ⟨r, h⟩ => ⟨r, h.symm⟩, fun ⟨r, h⟩ => ⟨r, h.symm⟩⟩
/-- The whole number, if it may be. -/
def wholeP (neg : Bool) (v : Nat) : Option Int := if neg then (if v ≤ 9223372036854775808 then some (-(v : Int)) else none) else if v < 9223372036854775808 then some (v : Int) else none
/-- The whole number so far, taken as not above 0. -/
theorem down_step {v k : Nat} (hk : k ≤ 9) : (-(v : Int) < (-9223372036854775808 + (k : Int)).tdiv 10) ↔ 9223372036854775808 < v * 10 + k := by
  rw [show (-9223372036854775808 + (k : Int)) = -((9223372036854775808 - k : Nat) : Int) by omega, Int.neg_tdiv]
  rw [show ((9223372036854775808 - k : Nat) : Int).tdiv 10 = ((9223372036854775808 - k) / 10 : Nat) by
    rw [show (10 : Int) = ((10 : Nat) : Int) from rfl, ← Int.ofNat_tdiv]]
  omega
/-- A numeral, the last digit first. -/
theorem dec_tail (u : Nat) (t : List UInt8) : (if u < 10 then [] else Lib.decDigits (u / 10)) ++ UInt8.ofNat (48 + u % 10) :: t = Lib.decDigits u ++ t := by
  conv => rhs; rw [Lib.decDigits]
  by_cases h : u < 10
  · rw [if_pos h, dif_pos h, Nat.mod_eq_of_lt h]; rfl
  · rw [if_neg h, dif_neg h]; simp
end Go.Proofs.YtoifjjgakblhhaaGreatDoor

/- Whole numbers as texts, the document's way. -/
namespace Go.Proofs.YtoifjjgakblhhaaGreatDoor
open Go.RowKit

/-- One step of writing a whole number: the last digit goes ahead of what is written. -/
theorem num_step {u : Nat} {X : ByteArray} {full : List UInt8} (h : Lib.decDigits u ++ X.data.toList = full) (hu : 10 ≤ u) :
    Lib.decDigits (u / 10) ++ (bs [UInt8.ofNat (48 + u % 10)] ++ X).data.toList = full := by
  have e : (bs [UInt8.ofNat (48 + u % 10)] ++ X).data.toList = UInt8.ofNat (48 + u % 10) :: X.data.toList := by
    rw [ByteArray.data_append, Array.toList_append]; rfl
  have := dec_tail u X.data.toList
  rw [if_neg (by omega)] at this
  rw [e, this, h]
theorem num_last {u : Nat} {X : ByteArray} {full : List UInt8} (h : Lib.decDigits u ++ X.data.toList = full) (hu : u < 10) :
    bs [UInt8.ofNat (48 + u % 10)] ++ X = bs full := by
  apply bytes_ext
  have e : (bs [UInt8.ofNat (48 + u % 10)] ++ X).data.toList = UInt8.ofNat (48 + u % 10) :: X.data.toList := by
    rw [ByteArray.data_append, Array.toList_append]; rfl
  have := dec_tail u X.data.toList
  rw [if_pos hu] at this
  rw [e]
  show _ = full
  rw [← h, ← this]; rfl
theorem one_byte (W : World) (d : Nat) (hd : d ≤ 9) : (convert 40 9 (.slice (some ⟨W.heap.size, 0, none⟩) 1 1)).run Tryz.prog (W.alloc (.cells #[.int .u8 (48 + (d : Int))] 5)) = .ok (.string (bs [UInt8.ofNat (48 + d)])) (W.alloc (.cells #[.int .u8 (48 + (d : Int))] 5)) := by
  have := run_convert_bytes_back (P := Tryz.prog) (W.alloc (.cells #[.int .u8 (48 + (d : Int))] 5)) 40 9 5 ⟨W.heap.size, 0, none⟩ 1 [UInt8.ofNat (48 + d)] Tryz.underlying40 Tryz.underlying5 Tryz.underlying9 (fun j hj => by
    have : j = 0 := by simp at hj; exact hj
    subst this
    rw [Addr.add_mid, Nat.zero_add]
    refine (cell_of (heap_new W _ rfl) 0 rfl).trans ?_
    have e8 : (UInt8.ofNat (48 + d)).toNat = 48 + d := by rw [UInt8.toNat_ofNat']; omega
    show some (Value.int .u8 (48 + (d : Int))) = some (Value.int .u8 (((UInt8.ofNat (48 + d)).toNat : Nat) : Int))
    rw [e8, Int.natCast_add]; rfl)
  exact this
set_option maxRecDepth 20000 in
set_option maxHeartbeats 1600000 in
theorem refOfIntNat (n : Nat) (h1 : n < 9223372036854775808) (w : World) (F : ByteArray) (hF : Hid (F = bs (Lib.decDigits n))) :
    Calls Tryz.prog 41 #[.int .i64 n] w fun e w' => e = .returned (.string (F ++ ⟨#[46, 48]⟩)) ∧ Below w.heap.size w w' := by
  have hlen : (Lib.decDigits n).length ≤ 21 := by
    have := Lib.itoa_length_le n (by omega) (by omega)
    rwa [Lib.itoa_nonneg] at this
  have HL := Lib.hid hlen
  have HFS : F.size ≤ 21 := by rw [hF.out]; simpa [ByteArray.size] using hlen
  clear hlen
  go_enter Tryz.func41, Tryz.ntmps41
  go_wp2_with fail
  go_loopg [3, 4] n (fun gg s3 s4 wr => ∃ (u : Nat) (X : ByteArray), u ≤ gg ∧ u ≤ 9223372036854775807 ∧ s4 = .int .i64 u ∧ s3 = .string X ∧ X.size ≤ 21 ∧ Hid (Lib.decDigits u ++ X.data.toList = Lib.decDigits n) ∧ Below w.heap.size w wr)
  case atStart => exact ⟨n, ⟨#[]⟩, Nat.le_refl _, by omega, rfl, rfl, by decide, Lib.hid (List.append_nil _), Below.refl _ _⟩
  case round =>
    obtain ⟨u, X, hug, hub, rfl, rfl, hxs, HX, hb⟩ := hrel
    obtain ⟨d, hd⟩ : ∃ d, d = u % 10 := ⟨_, rfl⟩
    have hd9 : d ≤ 9 := by omega
    have e1 : (u : Int) % 10 = d := by omega
    have hw1 : IntKind.u8.wrap (48 + (d : Int)) = 48 + d := by unfold IntKind.wrap; simp [IntKind.bits, IntKind.signed]; omega
    obtain ⟨C, hC⟩ : ∃ C, C = bs [UInt8.ofNat (48 + d)] := ⟨_, rfl⟩
    have hcv := one_byte wr d hd9
    rw [← hC] at hcv
    have hcs : C.size = 1 := by rw [hC]; rfl
    have hcs2 : C.size ≤ 1 := by omega
    have HC := Lib.hid hC
    have HD := Lib.hid hd
    have hbn := hb.alloc hb.size (.cells #[.int .u8 (48 + (d : Int))] 5)
    clear hC hd hcs
    by_cases h10 : u < 10
    · have e2 : (u : Int) / 10 = 0 := by omega
      have hl := num_last HX.out h10
      rw [← HD.out, ← HC.out] at hl
      have HLL : Hid (C ++ X = F) := Lib.hid (by rw [hl, hF.out])
      clear hl
      go_wp2_with fail
      go_ret
      exact ⟨by rw [← HLL.out]; rfl, hbn⟩
    · obtain ⟨q, hq⟩ : ∃ q, q = u / 10 := ⟨_, rfl⟩
      have e2 : (u : Int) / 10 = q := by omega
      have hq0 : ¬ (q : Int) = 0 := by omega
      have hq0b : ((q : Int) == 0) = false := by simpa using hq0
      have hs := num_step HX.out (by omega)
      rw [← HD.out, ← HC.out, ← hq] at hs
      have HSS := Lib.hid hs
      clear hs hq
      have hsz : (C ++ X).size ≤ 21 := by
        have h1 := congrArg List.length HSS.out
        have h2 := HL.out
        rw [List.length_append] at h1
        have h3 : (C ++ X).data.toList.length = (C ++ X).size := Array.length_toList
        omega
      have HSZ := Lib.hid hsz
      clear hsz
      go_wp2_with fail
      go_roundg q
      case measure => omega
      case rel => exact ⟨q, C ++ X, Nat.le_refl _, by omega, rfl, rfl, HSZ.out, HSS, hbn⟩
theorem neg_tdiv (u : Nat) : (-(u : Int)).tdiv 10 = -((u / 10 : Nat) : Int) := by
  rw [Int.neg_tdiv, show (10 : Int) = ((10 : Nat) : Int) from rfl, ← Int.ofNat_tdiv]
theorem neg_tmod (u : Nat) : (-(u : Int)).tmod 10 = -((u % 10 : Nat) : Int) := by
  rw [Int.neg_tmod, show (10 : Int) = ((10 : Nat) : Int) from rfl, ← Int.ofNat_tmod]

set_option maxRecDepth 20000 in
set_option maxHeartbeats 1600000 in
theorem refOfIntNeg (n : Nat) (h0 : 1 ≤ n) (h1 : n ≤ 9223372036854775808) (w : World) (F : ByteArray) (hF : Hid (F = bs (Lib.decDigits n))) :
    Calls Tryz.prog 41 #[.int .i64 (-(n : Int))] w fun e w' => e = .returned (.string (⟨#[45]⟩ ++ F ++ ⟨#[46, 48]⟩)) ∧ Below w.heap.size w w' := by
  have hlen : (Lib.decDigits n).length ≤ 21 := by
    have := Lib.itoa_length_le (-(n : Int)) (by omega) (by omega)
    rw [Lib.itoa_neg n h0] at this
    simp at this; omega
  have HL := Lib.hid hlen
  have HFS : F.size ≤ 21 := by rw [hF.out]; simpa [ByteArray.size] using hlen
  clear hlen
  go_enter Tryz.func41, Tryz.ntmps41
  go_wp2_with fail
  go_loopg [3, 4] n (fun gg s3 s4 wr => ∃ (u : Nat) (X : ByteArray) (m : Int), u ≤ gg ∧ u ≤ 9223372036854775808 ∧ s4 = .int .i64 m ∧ Hid (m = -(u : Int)) ∧ m ≤ 0 ∧ -9223372036854775808 ≤ m ∧ s3 = .string X ∧ X.size ≤ 21 ∧ Hid (Lib.decDigits u ++ X.data.toList = Lib.decDigits n) ∧ Below w.heap.size w wr)
  case atStart => exact ⟨n, ⟨#[]⟩, _, Nat.le_refl _, h1, rfl, Lib.hid rfl, by omega, by omega, rfl, by decide, Lib.hid (List.append_nil _), Below.refl _ _⟩
  case round =>
    obtain ⟨u, X, m, hug, hub, rfl, HM, hm0, hm1, rfl, hxs, HX, hb⟩ := hrel
    obtain ⟨d, hd⟩ : ∃ d, d = u % 10 := ⟨_, rfl⟩
    have hd9 : d ≤ 9 := by omega
    have e1 : m.tmod 10 = -(d : Int) := by rw [HM.out, neg_tmod, hd]
    have hw1 : IntKind.u8.wrap (48 + (d : Int)) = 48 + d := by unfold IntKind.wrap; simp [IntKind.bits, IntKind.signed]; omega
    obtain ⟨C, hC⟩ : ∃ C, C = bs [UInt8.ofNat (48 + d)] := ⟨_, rfl⟩
    have hcv := one_byte wr d hd9
    rw [← hC] at hcv
    have hcs : C.size = 1 := by rw [hC]; rfl
    have hcs2 : C.size ≤ 1 := by omega
    have HC := Lib.hid hC
    have HD := Lib.hid hd
    have hbn := hb.alloc hb.size (.cells #[.int .u8 (48 + (d : Int))] 5)
    clear hC hd hcs
    by_cases hd0 : d = 0
    · have e3 : m.tmod 10 = 0 := by rw [e1, hd0]; rfl
      subst hd0
      have hcv0 : (convert 40 9 (.slice (some ⟨wr.heap.size, 0, none⟩) 1 1)).run Tryz.prog (wr.alloc (.cells #[.int .u8 48] 5)) = .ok (.string C) (wr.alloc (.cells #[.int .u8 48] 5)) := hcv
      have hbn0 : Below w.heap.size w (wr.alloc (.cells #[.int .u8 48] 5)) := hbn
      clear e1 hcv hbn hw1
      have hbn := hbn0
      clear hbn0
      by_cases h10 : u < 10
      · have e2 : m.tdiv 10 = 0 := by rw [HM.out, neg_tdiv, Nat.div_eq_of_lt h10]; rfl
        have hl := num_last HX.out h10
        rw [← HD.out, ← HC.out] at hl
        have HLL : Hid (C ++ X = F) := Lib.hid (by rw [hl, hF.out])
        have hn0 : -(n : Int) < 0 := by omega
        have hsx : (C ++ X).size ≤ 21 := by rw [HLL.out]; exact HFS
        have HSX := Lib.hid hsx
        clear hl hsx
        go_wp2_with fail
        go_ret
        exact ⟨by rw [← HLL.out]; rfl, hbn⟩
      · obtain ⟨q, hq⟩ : ∃ q, q = u / 10 := ⟨_, rfl⟩
        obtain ⟨m2, hm2⟩ : ∃ m2 : Int, m2 = -(q : Int) := ⟨_, rfl⟩
        have e2 : m.tdiv 10 = m2 := by rw [HM.out, neg_tdiv, hm2, hq]
        have hq0 : ¬ m2 = 0 := by omega
        have hq0b : (m2 == 0) = false := by simpa using hq0
        have hs := num_step HX.out (by omega)
        rw [← HD.out, ← HC.out, ← hq] at hs
        have HSS := Lib.hid hs
        have HM2 := Lib.hid hm2
        have hr1 : m2 ≤ 0 := by omega
        have hr2 : -9223372036854775808 ≤ m2 := by omega
        have hqu : q < u := by omega
        have hsz : (C ++ X).size ≤ 21 := by
          have h1 := congrArg List.length HSS.out
          have h2 := HL.out
          rw [List.length_append] at h1
          have h3 : (C ++ X).data.toList.length = (C ++ X).size := Array.length_toList
          omega
        have HSZ := Lib.hid hsz
        clear hsz hs hm2 hq
        go_wp2_with fail
        go_roundg q
        case measure => omega
        case rel => exact ⟨q, C ++ X, m2, Nat.le_refl _, by omega, rfl, HM2, hr1, hr2, rfl, HSZ.out, HSS, hbn⟩
    · have hdn : -(d : Int) < 0 := by omega
      by_cases h10 : u < 10
      · have e2 : m.tdiv 10 = 0 := by rw [HM.out, neg_tdiv, Nat.div_eq_of_lt h10]; rfl
        have hl := num_last HX.out h10
        rw [← HD.out, ← HC.out] at hl
        have HLL : Hid (C ++ X = F) := Lib.hid (by rw [hl, hF.out])
        have hn0 : -(n : Int) < 0 := by omega
        have hsx : (C ++ X).size ≤ 21 := by rw [HLL.out]; exact HFS
        have HSX := Lib.hid hsx
        clear hl hsx
        go_wp2_with fail
        go_ret
        exact ⟨by rw [← HLL.out]; rfl, hbn⟩
      · obtain ⟨q, hq⟩ : ∃ q, q = u / 10 := ⟨_, rfl⟩
        obtain ⟨m2, hm2⟩ : ∃ m2 : Int, m2 = -(q : Int) := ⟨_, rfl⟩
        have e2 : m.tdiv 10 = m2 := by rw [HM.out, neg_tdiv, hm2, hq]
        have hq0 : ¬ m2 = 0 := by omega
        have hq0b : (m2 == 0) = false := by simpa using hq0
        have hs := num_step HX.out (by omega)
        rw [← HD.out, ← HC.out, ← hq] at hs
        have HSS := Lib.hid hs
        have HM2 := Lib.hid hm2
        have hr1 : m2 ≤ 0 := by omega
        have hr2 : -9223372036854775808 ≤ m2 := by omega
        have hqu : q < u := by omega
        have hsz : (C ++ X).size ≤ 21 := by
          have h1 := congrArg List.length HSS.out
          have h2 := HL.out
          rw [List.length_append] at h1
          have h3 : (C ++ X).data.toList.length = (C ++ X).size := Array.length_toList
          omega
        have HSZ := Lib.hid hsz
        clear hsz hs hm2 hq
        go_wp2_with fail
        go_roundg q
        case measure => omega
        case rel => exact ⟨q, C ++ X, m2, Nat.le_refl _, by omega, rfl, HM2, hr1, hr2, rfl, HSZ.out, HSS, hbn⟩
end Go.Proofs.YtoifjjgakblhhaaGreatDoor

/- The document's own answer: a number as a decimal; two numbers held against each other. -/
namespace Go.Proofs.YtoifjjgakblhhaaGreatDoor
open Go.RowKit

/-- A decimal text that says z, short enough for the document's own. -/
def SaysR (z : Int) (s : ByteArray) : Prop := chk s.data.toList = true ∧ dval s.data.toList = z ∧ s.size ≤ 1000000000
theorem refOfIntSays (n : Int) (h0 : -9223372036854775808 ≤ n) (h1 : n ≤ 9223372036854775807) (w : World) :
    Calls Tryz.prog 41 #[.int .i64 n] w fun e w' => ∃ s, e = .returned (.string s) ∧ SaysR (n * 10 ^ 54) s ∧ Below w.heap.size w w' := by
  obtain ⟨f1, f2, f3, f4⟩ := intT_facts n h0 h1
  have hS : SaysR (n * 10 ^ 54) (intT n) := ⟨f1, f2, by omega⟩
  by_cases hneg : n < 0
  · obtain ⟨u, rfl⟩ : ∃ u : Nat, n = -(u : Int) := ⟨n.natAbs, by omega⟩
    have hit : Lib.itoa (-(u : Int)) = 45 :: Lib.decDigits u := Lib.itoa_neg u (by omega)
    have e : intT (-(u : Int)) = ⟨#[45]⟩ ++ bs (Lib.decDigits u) ++ ⟨#[46, 48]⟩ := by
      apply ByteArray.ext
      apply Array.ext'
      unfold intT
      simp [ByteArray.data_append, hit]
    refine (refOfIntNeg u (by omega) (by omega) w _ (Lib.hid rfl)).mono ?_
    rintro e1 w' ⟨rfl, hb⟩
    exact ⟨_, rfl, e ▸ hS, hb⟩
  · obtain ⟨u, rfl⟩ := Int.eq_ofNat_of_zero_le (Int.not_lt.1 hneg)
    have hit : Lib.itoa (u : Int) = Lib.decDigits u := Lib.itoa_nonneg u
    have e : intT (u : Int) = bs (Lib.decDigits u) ++ ⟨#[46, 48]⟩ := by
      unfold intT
      rw [hit]
    refine (refOfIntNat u (by omega) w _ (Lib.hid rfl)).mono ?_
    rintro e1 w' ⟨rfl, hb⟩
    exact ⟨_, rfl, e ▸ hS, hb⟩
theorem zeroSays : SaysR 0 ⟨#[48, 46, 48]⟩ := by
  refine ⟨by decide, by decide, by decide⟩
set_option maxRecDepth 20000 in
set_option maxHeartbeats 1600000 in
theorem refDecAt (k : Int) (b : Bool) (n : Int) (t x : ByteArray) (p : Option Addr) (len cap : Nat) (w : World) (hf : Fine n t x len) :
    Calls Tryz.prog 48 #[.agg #[.int .i64 k, .bool b, .int .i64 n, .string t, .string x, .slice p len cap]] w fun e w' => ∃ s, e = .returned (.string s) ∧ SaysR (numV k n t) s ∧ Below w.heap.size w w' := by
  have S := six_new (k := k) (b := b) (n := n) (t := t) (x := x) (p := p) (len := len) (cap := cap) w rfl
  have b0 := below1 w (.cells #[.int .i64 k, .bool b, .int .i64 n, .string t, .string x, .slice p len cap] 28)
  have f0 := S.c0
  have f2 := S.c2
  have f3 := S.c3
  have HF := Lib.hid hf
  obtain ⟨z, hz⟩ : ∃ z, z = numV k n t := ⟨_, rfl⟩
  rw [← hz]
  by_cases h2 : k = 2
  · subst h2
    have hc := fun W => refOfIntSays n HF.out.lo HF.out.hi W
    have e : numV 2 n t = n * 10 ^ 54 := by unfold numV; rw [if_pos rfl]
    rw [← e, ← hz] at hc
    have HC := Lib.hid hc
    clear hc hz e hf
    go_enter Tryz.func48, Tryz.ntmps48
    go_wp2_with (go_at_call 41; (with_reducible refine (HC.out _).mono ?_); rintro e w1 ⟨s, rfl, hs, hb⟩; have HS := Lib.hid hs; clear hs; replace b0 := below_any b0 hb b0.size)
    go_ret
    exact ⟨s, rfl, HS.out, b0⟩
  · have e2 : (k == 2) = false := by simpa using h2
    have hc := fun W => refCheck t W (by have := hf.ht; omega)
    cases hk : chk t.data.toList with
    | true =>
      have hsay : Hid (SaysR z t) := Lib.hid (by rw [hz]; unfold numV; rw [if_neg h2, if_pos hk]; exact ⟨hk, rfl, by have := hf.ht; omega⟩)
      rw [hk] at hc
      clear h2 hk hf hz
      go_enter Tryz.func48, Tryz.ntmps48
      go_wp2_with (go_at_call 78; (with_reducible refine (hc _).mono ?_); rintro e w1 ⟨rfl, hb⟩; have S1 := S.below hb; have g3 := S1.c3; replace b0 := below_any b0 hb b0.size)
      go_ret
      exact ⟨t, rfl, hsay.out, b0⟩
    | false =>
      have hsay : Hid (SaysR z ⟨#[48, 46, 48]⟩) := Lib.hid (by rw [hz]; unfold numV; rw [if_neg h2, if_neg (by simp [hk])]; exact zeroSays)
      rw [hk] at hc
      clear h2 hk hf hz
      go_enter Tryz.func48, Tryz.ntmps48
      go_wp2_with (go_at_call 78; (with_reducible refine (hc _).mono ?_); rintro e w1 ⟨rfl, hb⟩; have S1 := S.below hb; have g3 := S1.c3; replace b0 := below_any b0 hb b0.size)
      go_ret
      exact ⟨_, rfl, hsay.out, b0⟩
end Go.Proofs.YtoifjjgakblhhaaGreatDoor

/- The document's own equality in S. -/
namespace Go.Proofs.YtoifjjgakblhhaaGreatDoor
open Go.RowKit

end Go.Proofs.YtoifjjgakblhhaaGreatDoor

/- What bytes are decoded as: the pure half: what was encoded is read again; a byte more or less is refused. -/
namespace Go.Proofs.YtoifjjgakblhhaaGreatDoor

/-- The number that bytes say, the highest first. -/
def numW : List UInt8 → Nat := fun l => l.foldl (fun n c => n * 256 + c.toNat) 0
/-- A number of 64 bits, read with its sign. -/
def toI64 (n : Nat) : Int := if n < 9223372036854775808 then n else (n : Int) - 18446744073709551616
def E0 : ByteArray := ⟨#[]⟩
/-- A text and what is left. -/
def rdT (l : List UInt8) : Option (ByteArray × List UInt8) :=
  if 4 ≤ l.length ∧ numW (l.take 4) ≤ 1048576 ∧ numW (l.take 4) ≤ (l.drop 4).length then some (⟨((l.drop 4).take (numW (l.take 4))).toArray⟩, (l.drop 4).drop (numW (l.take 4))) else none
/-- So many values, one behind the other, and what is left. -/
def rdL (g : List UInt8 → Option (Val × List UInt8)) : Nat → List UInt8 → Option (List Val × List UInt8)
  | 0, l => some ([], l)
  | n + 1, l => match g l with
    | none => none
    | some (v, l') => match rdL g n l' with
      | none => none
      | some (q, l'') => some (v :: q, l'')
/-- What follows a kind. -/
def rdK (g : Option (List UInt8 → Option (Val × List UInt8))) (k : Nat) (r : List UInt8) : Option (Val × List UInt8) :=
  if k = 1 then (match r with
    | [] => none
    | b :: r' => if b.toNat ≤ 1 then some (.mk 1 (b.toNat == 1) 0 E0 E0 [], r') else none)
  else if k = 2 ∨ k = 6 ∨ k = 7 then (if 8 ≤ r.length then some (.mk k false (toI64 (numW (r.take 8))) E0 E0 [], r.drop 8) else none)
  else if k = 3 ∨ k = 4 ∨ k = 8 ∨ k = 9 then (match rdT r with
    | none => none
    | some (t, r') => some (.mk k false 0 t E0 [], r'))
  else if k = 10 then (match rdT r with
    | none => none
    | some (t, r') => match rdT r' with
      | none => none
      | some (x, r'') => some (.mk k false 0 t x [], r''))
  else if k = 5 then (match g with
    | none => none
    | some g => if 4 ≤ r.length ∧ numW (r.take 4) ≤ 4096 then (match rdL g (numW (r.take 4)) (r.drop 4) with
      | none => none
      | some (q, r') => some (.mk 5 false 0 E0 E0 q, r')) else none)
  else some (.mk k false 0 E0 E0 [], r)
/-- A value and what is left; f: so many lists may it have in one another. -/
def rdV : Nat → List UInt8 → Option (Val × List UInt8)
  | _, [] => none
  | 0, c :: r => rdK none c.toNat r
  | f + 1, c :: r => rdK (some (rdV f)) c.toNat r
end Go.Proofs.YtoifjjgakblhhaaGreatDoor

/- The order of all values: 0 just of values that are the same, of those that may be; where none stands; how it goes with Less. No Go stands here. -/
namespace Go.Proofs.YtoifjjgakblhhaaGreatDoor

end Go.Proofs.YtoifjjgakblhhaaGreatDoor

/- The order of all values: what is the same stands with it. No Go stands here. -/
namespace Go.Proofs.YtoifjjgakblhhaaGreatDoor

theorem loop_eq (t : ByteArray) : (n i : Nat) → (r : List UInt8) → n = t.size - i → ByteArray.toList.loop t i r = r.reverse ++ t.data.toList.drop i
  | 0, i, r, h => by
    unfold ByteArray.toList.loop
    rw [if_neg (by omega)]
    have : t.data.toList.length ≤ i := by rw [Array.length_toList]; show t.size ≤ i; omega
    rw [List.drop_eq_nil_of_le this, List.append_nil]
  | n + 1, i, r, h => by
    have hi : i < t.size := by omega
    unfold ByteArray.toList.loop
    rw [if_pos hi, loop_eq t n (i + 1) _ (by omega)]
    have hl : i < t.data.toList.length := by rw [Array.length_toList]; exact hi
    rw [List.drop_eq_getElem_cons hl, List.reverse_cons, List.append_assoc]
    have e : t.get! i = t.data.toList[i] := by
      obtain ⟨d⟩ := t
      have h2 : i < d.size := hi
      show d[i]! = d.toList[i]
      rw [getElem!_pos d i h2]
      simp
    rw [e]
    rfl
theorem toList_eq (t : ByteArray) : t.toList = t.data.toList := by
  unfold ByteArray.toList
  rw [loop_eq t _ 0 [] rfl]
  simp
end Go.Proofs.YtoifjjgakblhhaaGreatDoor

/- What was encoded is decoded as it was: the pure half. -/
namespace Go.Proofs.YtoifjjgakblhhaaGreatDoor

theorem e0 {t : ByteArray} (h : t.size = 0) : t = E0 := by
  have : t.data = #[] := Array.size_eq_zero_iff.1 h
  cases t
  simp only at this
  subst this
  rfl
end Go.Proofs.YtoifjjgakblhhaaGreatDoor

/- The text of a value. -/
namespace Go.Proofs.YtoifjjgakblhhaaGreatDoor
open Go.RowKit

end Go.Proofs.YtoifjjgakblhhaaGreatDoor

/- How a number is encoded: so many bytes, the highest first. -/
namespace Go.Proofs.YtoifjjgakblhhaaGreatDoor
open Go.RowKit

end Go.Proofs.YtoifjjgakblhhaaGreatDoor

/- strconv.AppendInt, at base 10, by the library's own contract; AppendBool, walked. -/
namespace Go.Proofs
open Go.Shelf
namespace YtoifjjgakblhhaaGreatDoor
open Go.RowKit
end YtoifjjgakblhhaaGreatDoor
end Go.Proofs

/- Values in one another, in blocks of one's own: where they lie, said with the blocks that hold them; a row of values that one owns. -/
namespace Go.Proofs.YtoifjjgakblhhaaGreatDoor
open Go.RowKit

mutual
/-- A value's six cells lie from off on; all lists in it lie in blocks of P. -/
def HoldsOneF (w : World) (P : Nat → Prop) (g off : Nat) : Val → Prop
  | .mk k b n t x l => w.cell? ⟨g, off, none⟩ = some (.int .i64 k) ∧ w.cell? ⟨g, off + 1, none⟩ = some (.bool b) ∧ w.cell? ⟨g, off + 2, none⟩ = some (.int .i64 n) ∧
    w.cell? ⟨g, off + 3, none⟩ = some (.string t) ∧ w.cell? ⟨g, off + 4, none⟩ = some (.string x) ∧ Fine n t x l.length ∧
    ∃ L, w.cell? ⟨g, off + 5, none⟩ = some L ∧ HeldF w P L l
/-- A slice whose elements are these, in blocks of P. -/
def HeldF (w : World) (P : Nat → Prop) (L : Value) : List Val → Prop
  | [] => ∃ p cap, L = .slice p 0 cap
  | v :: r => ∃ g off cap, L = .slice (some ⟨g, off, none⟩) (r.length + 1) cap ∧ P g ∧ HoldsOneF w P g off v ∧ HoldsF w P g (off + 6) r
/-- Values one behind the other from off on; all lists in them lie in blocks of P. -/
def HoldsF (w : World) (P : Nat → Prop) (g off : Nat) : List Val → Prop
  | [] => True
  | v :: r => HoldsOneF w P g off v ∧ HoldsF w P g (off + 6) r
end
mutual
theorem HoldsOneF.held {w : World} {P : Nat → Prop} {g off : Nat} : (v : Val) → HoldsOneF w P g off v → HoldsOne w g off v
  | .mk k b n t x l, h => by
    unfold HoldsOneF at h
    unfold HoldsOne
    obtain ⟨h0, h1, h2, h3, h4, hf, L, h5, hl⟩ := h
    exact ⟨h0, h1, h2, h3, h4, hf, L, h5, HeldF.held l hl⟩
theorem HeldF.held {w : World} {P : Nat → Prop} {L : Value} : (l : List Val) → HeldF w P L l → Held w L l
  | [], h => by
    unfold HeldF at h
    unfold Held
    exact h
  | v :: r, h => by
    unfold HeldF at h
    unfold Held
    obtain ⟨g, off, cap, e, _, hv, hr⟩ := h
    exact ⟨g, off, cap, e, HoldsOneF.held v hv, HoldsF.held r hr⟩
theorem HoldsF.held {w : World} {P : Nat → Prop} {g off : Nat} : (l : List Val) → HoldsF w P g off l → Holds w g off l
  | [], _ => by unfold Holds; trivial
  | v :: r, h => by
    unfold HoldsF at h
    unfold Holds
    exact ⟨HoldsOneF.held v h.1, HoldsF.held r h.2⟩
end
/-- All blocks of P are blocks of P', and are as they were. -/
def Stays (P P' : Nat → Prop) (w w' : World) : Prop := ∀ g, P g → P' g ∧ w'.heap[g]? = w.heap[g]?
theorem Stays.cell {P P' : Nat → Prop} {w w' : World} (h : Stays P P' w w') {g : Nat} (hg : P g) (o : Nat) {v : Value} (hv : w.cell? ⟨g, o, none⟩ = some v) : w'.cell? ⟨g, o, none⟩ = some v :=
  (World.cell?_of_block (w := w) (a := ⟨g, o, none⟩) (h g hg).2).trans hv
mutual
theorem HoldsOneF.stays {w w' : World} {P P' : Nat → Prop} {g off : Nat} (s : Stays P P' w w') (hg : P g) : (v : Val) → HoldsOneF w P g off v → HoldsOneF w' P' g off v
  | .mk k b n t x l, h => by
    unfold HoldsOneF at h ⊢
    obtain ⟨h0, h1, h2, h3, h4, hf, L, h5, hl⟩ := h
    exact ⟨s.cell hg _ h0, s.cell hg _ h1, s.cell hg _ h2, s.cell hg _ h3, s.cell hg _ h4, hf, L, s.cell hg _ h5, HeldF.stays s l hl⟩
theorem HeldF.stays {w w' : World} {P P' : Nat → Prop} {L : Value} (s : Stays P P' w w') : (l : List Val) → HeldF w P L l → HeldF w' P' L l
  | [], h => by
    unfold HeldF at h ⊢
    exact h
  | v :: r, h => by
    unfold HeldF at h ⊢
    obtain ⟨g, off, cap, e, hg, hv, hr⟩ := h
    exact ⟨g, off, cap, e, (s g hg).1, HoldsOneF.stays s hg v hv, HoldsF.stays s hg r hr⟩
theorem HoldsF.stays {w w' : World} {P P' : Nat → Prop} {g off : Nat} (s : Stays P P' w w') (hg : P g) : (l : List Val) → HoldsF w P g off l → HoldsF w' P' g off l
  | [], _ => by unfold HoldsF; trivial
  | v :: r, h => by
    unfold HoldsF at h ⊢
    exact ⟨HoldsOneF.stays s hg v h.1, HoldsF.stays s hg r h.2⟩
end
/-- Cells, six a value; all lists in them lie in blocks of P. -/
def CellsF (w : World) (P : Nat → Prop) : List Value → List Val → Prop
  | xs, [] => xs = []
  | xs, .mk k b n t x q :: r => ∃ L ys, xs = .int .i64 k :: .bool b :: .int .i64 n :: .string t :: .string x :: L :: ys ∧ Fine n t x q.length ∧ HeldF w P L q ∧ CellsF w P ys r
theorem CellsF.append {w : World} {P : Nat → Prop} : {xs ys : List Value} → (l r : List Val) → CellsF w P xs l → CellsF w P ys r → CellsF w P (xs ++ ys) (l ++ r)
  | _, _, [], _, h, g => by
    unfold CellsF at h
    subst h
    exact g
  | _, _, .mk k b n t x q :: l, r, h, g => by
    unfold CellsF at h
    obtain ⟨L, zs, rfl, hf, hq, hr⟩ := h
    show CellsF w P _ (.mk k b n t x q :: (l ++ r))
    unfold CellsF
    exact ⟨L, _, rfl, hf, hq, CellsF.append l r hr g⟩
theorem CellsF.stays {w w' : World} {P P' : Nat → Prop} (s : Stays P P' w w') : {xs : List Value} → (l : List Val) → CellsF w P xs l → CellsF w' P' xs l
  | _, [], h => by unfold CellsF at h ⊢; exact h
  | _, .mk k b n t x q :: l, h => by
    unfold CellsF at h ⊢
    obtain ⟨L, zs, rfl, hf, hq, hr⟩ := h
    exact ⟨L, zs, rfl, hf, HeldF.stays s q hq, CellsF.stays s l hr⟩
theorem CellsF.one {w : World} {P : Nat → Prop} {k : Int} {b : Bool} {n : Int} {t x : ByteArray} {q : List Val} {L : Value} (hf : Fine n t x q.length) (hq : HeldF w P L q) : CellsF w P [.int .i64 k, .bool b, .int .i64 n, .string t, .string x, L] [.mk k b n t x q] := by
  unfold CellsF
  exact ⟨L, [], rfl, hf, hq, by unfold CellsF; rfl⟩
theorem CellsF.cells1 {w : World} {P : Nat → Prop} : {xs : List Value} → (l : List Val) → CellsF w P xs l → ∀ u ∈ xs, u.oneCell' = true
  | _, [], h, u, hu => by
    unfold CellsF at h
    subst h
    cases hu
  | _, .mk k b n t x q :: l, h, u, hu => by
    unfold CellsF at h
    obtain ⟨L, zs, rfl, hf, hq, hr⟩ := h
    obtain ⟨p, cap, rfl⟩ := held_slice (HeldF.held q hq)
    simp only [List.mem_cons] at hu
    rcases hu with rfl | rfl | rfl | rfl | rfl | rfl | hu
    all_goals first | rfl | exact CellsF.cells1 l hr u hu
theorem CellsF.holds {w : World} {P : Nat → Prop} {g : Nat} : {xs : List Value} → (l : List Val) → (off : Nat) → CellsF w P xs l → (∀ (j : Nat) u, xs[j]? = some u → w.cell? ⟨g, off + j, none⟩ = some u) → HoldsF w P g off l
  | _, [], _, _, _ => by unfold HoldsF; trivial
  | _, .mk k b n t x q :: l, off, h, hc => by
    unfold CellsF at h
    obtain ⟨L, zs, rfl, hf, hq, hr⟩ := h
    unfold HoldsF HoldsOneF
    refine ⟨⟨hc 0 _ rfl, hc 1 _ rfl, hc 2 _ rfl, hc 3 _ rfl, hc 4 _ rfl, hf, L, hc 5 _ rfl, hq⟩, CellsF.holds l (off + 6) hr fun j u hj => ?_⟩
    have := hc (j + 6) u hj
    rw [show off + 6 + j = off + (j + 6) by omega]
    exact this
/-- A row that one owns, of these values, whose lists lie elsewhere, in blocks of P: it is held. -/
theorem heldF_of_own {w : World} {base : Nat} {P P' : Nat → Prop} {V : Value} {xs : List Value} {l : List Val} (h : w.ownsRow base 28 6 V l.length xs) (c : CellsF w P xs l) (s : ∀ g, P g → P' g) (hP : ∀ g, V.ownBlock = some g → P' g) : HeldF w P' V l := by
  have c' : CellsF w P' xs l := c.stays (fun g hg => ⟨s g hg, rfl⟩) l
  rcases h.2 with ⟨rfl, hn⟩ | ⟨g, cap, cur, rfl, hb, hg, hcap, _, hsz, htk⟩
  · obtain rfl := List.length_eq_zero_iff.1 hn
    unfold HeldF
    exact ⟨none, 0, rfl⟩
  · have hh : HoldsF w P' g 0 l := c'.holds l 0 fun j u hj => by
      have e : cur[j]? = some u := by
        rw [← htk, List.getElem?_take] at hj
        split at hj
        · rw [← Array.getElem?_toList]; exact hj
        · cases hj
      rw [Nat.zero_add]
      exact cell_of hg j e
    cases l with
    | nil =>
      unfold HeldF
      exact ⟨_, cap, rfl⟩
    | cons v r =>
      unfold HoldsF at hh
      unfold HeldF
      exact ⟨g, 0, cap, rfl, hP g rfl, hh.1, hh.2⟩
end Go.Proofs.YtoifjjgakblhhaaGreatDoor

/- The library's copying of a string, by the library's own contract. -/
namespace Go.Proofs
open Go.Shelf
def Tryz.laysM316_ren : Go.Shelf.Ren := ⟨fun | 316 => 179 | n => n, fun | 9 => 9 | 3 => 3 | 4 => 4 | 37 => 40 | 0 => 0 | 127 => 181 | 5 => 5 | n => n, fun | n => n⟩
theorem Tryz.laysM316 : Go.Proofs.LaysM.n316 Tryz.prog Tryz.laysM316_ren := {
  mixed := by kernel_rfl
  f316 := Tryz.func179.trans (congrArg some (by kernel_rfl))
  t0 := Tryz.underlying0
  a0 := Tryz.isAgg0
  z0 := Tryz.sizeOf0
  v0 := Tryz.zeroValue0
  t3 := Tryz.underlying3
  a3 := Tryz.isAgg3
  z3 := Tryz.sizeOf3
  v3 := Tryz.zeroValue3
  t4 := Tryz.underlying4
  a4 := Tryz.isAgg4
  z4 := Tryz.sizeOf4
  v4 := Tryz.zeroValue4
  t9 := Tryz.underlying9
  a9 := Tryz.isAgg9
  z9 := Tryz.sizeOf9
  v9 := Tryz.zeroValue9
  t37 := Tryz.underlying40
  a37 := Tryz.isAgg40
  z37 := Tryz.sizeOf40
  v37 := Tryz.zeroValue40
  t127 := Tryz.underlying181
  a127 := Tryz.isAgg181
  z127 := Tryz.sizeOf181
  v127 := Tryz.zeroValue181
  t5 := Tryz.underlying5
  a5 := Tryz.isAgg5
  z5 := Tryz.sizeOf5
  v5 := Tryz.zeroValue5
  i0 := by kernel_rfl
  i3 := by kernel_rfl
  i4 := by kernel_rfl
  i5 := by kernel_rfl
  i9 := by kernel_rfl
  i37 := by kernel_rfl
  i127 := by kernel_rfl }
namespace YtoifjjgakblhhaaGreatDoor
open Go.RowKit
theorem slClone (s : ByteArray) (w : World) (h2 : s.size ≤ 281474976710656) : Calls Tryz.prog 179 #[.string s] w fun e w' => e = .returned (.string s) ∧ Below w.heap.size w w' := Any.stringslite_Clone Tryz.laysM316 s w h2
theorem cloneAt (s : ByteArray) (w : World) (h2 : s.size ≤ 281474976710656) :
    Calls Tryz.prog 158 #[.string s] w fun e w' => e = .returned (.string s) ∧ Below w.heap.size w w' := by
  go_enter Tryz.func158, Tryz.ntmps158
  go_wp2_with (go_at_call 179; (with_reducible refine (slClone s _ h2).mono ?_); rintro e w' ⟨rfl, hb⟩)
  go_ret
  exact ⟨rfl, hb⟩
end YtoifjjgakblhhaaGreatDoor
end Go.Proofs
