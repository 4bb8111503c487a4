/- Texts of one kind, one behind the other: each says ahead of itself what it shows. -/
import Derived.Test.YtdnijfkiebpnpaaGreatDoorHap
import Derived.Test.YtdnijfkiebpnpaaGreatDoorHaq
import Derived.Lib.ItoaMem
import Derived.Lib.ParseIntB
import Derived.Lib.Strings
import Derived.Lib.ItoaLen
import Derived.Test.YtdnijfkiebpnpaaGreatDoorHaj
import Derived.Test.YtdnijfkiebpnpaaGreatDoorHai
/- Two texts as the document takes them; sums, differences, order of them. -/
namespace Go.Proofs.YtdnijfkiebpnpaaGreatDoor
open Go.RowKit

theorem parsedAny (s : ByteArray) (hs : s.size ≤ 1000000000) (o : Bool) (ho : o = okP (sgn s.data.toList).2) : ∃ N sc ds, ParsedAs s N sc ds o := by
  cases o with
  | false => exact ⟨false, 0, [], fun W => (refParsedNo s W hs ho.symm).mono fun _ _ ⟨h1, h2⟩ => ⟨_, h1, .inl ⟨rfl, rfl⟩, h2⟩⟩
  | true => exact ⟨(sgn s.data.toList).1, ((Lib.cut (sgn s.data.toList).2 [46]).2.1.length : Nat), revD ((Lib.cut (sgn s.data.toList).2 [46]).1 ++ (Lib.cut (sgn s.data.toList).2 [46]).2.1), fun W => refParsedYes s W hs ho.symm _ _ _ (Lib.hid rfl) (Lib.hid rfl) (Lib.hid rfl)⟩
theorem parsedYes (s : ByteArray) (hs : s.size ≤ 1000000000) (h : chk s.data.toList = true) : ∃ (N : Bool) (sc : Nat) (ds : List Nat), Dec s.data.toList N ds sc ∧ ParsedAs s N sc ds true := by
  obtain ⟨h1, h2⟩ := split_chk h
  exact ⟨_, _, _, h2, fun W => refParsedYes s W hs h1 _ _ _ (Lib.hid rfl) (Lib.hid rfl) (Lib.hid rfl)⟩
theorem checkedAs (s : ByteArray) (hs : s.size ≤ 1000000000) (c : Bool) (h : c = chk s.data.toList) : CheckedAs s c := fun W => refCheckB s c W hs (Lib.hid h)
/-- 'two' of two decimals. -/
def TwoAs (s t : ByteArray) (N1 : Bool) (s1 : Int) (d1 : List Nat) (N2 : Bool) (s2 : Int) (d2 : List Nat) (r : Bool) : Prop :=
  ∀ w, Calls Tryz.prog 25 #[.string s, .string t] w fun e w' => ∃ u v, e = .returned (.tuple #[.agg #[.bool N1, u, .int .i64 s1], .agg #[.bool N2, v, .int .i64 s2], .bool r]) ∧ Ints w' u d1 ∧ Ints w' v d2 ∧ Below w.heap.size w w'
theorem TwoAs.at {s t : ByteArray} {N1 N2 r : Bool} {s1 s2 : Int} {d1 d2 : List Nat} (h : TwoAs s t N1 s1 d1 N2 s2 d2 r) (w : World) : Calls Tryz.prog 25 #[.string s, .string t] w fun e w' => ∃ u v, e = .returned (.tuple #[.agg #[.bool N1, u, .int .i64 s1], .agg #[.bool N2, v, .int .i64 s2], .bool r]) ∧ Ints w' u d1 ∧ Ints w' v d2 ∧ Below w.heap.size w w' := h w
theorem twoYes (s t : ByteArray) (hs : s.size ≤ 1000000000) (ht : t.size ≤ 1000000000) (h : chk s.data.toList = true) (h2 : chk t.data.toList = true) :
    ∃ (N1 : Bool) (s1 : Nat) (d1 : List Nat) (N2 : Bool) (s2 : Nat) (d2 : List Nat), Dec s.data.toList N1 d1 s1 ∧ Dec t.data.toList N2 d2 s2 ∧ TwoAs s t N1 s1 d1 N2 s2 d2 true := by
  obtain ⟨N1, s1, d1, a1, p1⟩ := parsedYes s hs h
  obtain ⟨N2, s2, d2, a2, p2⟩ := parsedYes t ht h2
  exact ⟨N1, s1, d1, N2, s2, d2, a1, a2, fun w => two_ttt s t N1 N2 s1 s2 d1 d2 true w (Lib.hid p1) (Lib.hid p2) (Lib.hid (checkedAs s hs true h.symm)) (Lib.hid (checkedAs t ht true h2.symm))⟩
theorem twoNo (s t : ByteArray) (hs : s.size ≤ 1000000000) (ht : t.size ≤ 1000000000) (h : chk s.data.toList = false ∨ chk t.data.toList = false) :
    ∃ N1 s1 d1 N2 s2 d2, TwoAs s t N1 s1 d1 N2 s2 d2 false := by
  cases o1 : okP (sgn s.data.toList).2 with
  | false =>
    obtain ⟨N1, s1, d1, p1⟩ := parsedAny s hs false o1.symm
    obtain ⟨N2, s2, d2, p2⟩ := parsedAny t ht _ rfl
    exact ⟨N1, s1, d1, N2, s2, d2, fun w => two_f s t N1 N2 s1 s2 d1 d2 _ _ _ w (Lib.hid p1) (Lib.hid p2) (Lib.hid (checkedAs s hs _ rfl)) (Lib.hid (checkedAs t ht _ rfl))⟩
  | true =>
    obtain ⟨N1, s1, d1, p1⟩ := parsedAny s hs true o1.symm
    cases o2 : okP (sgn t.data.toList).2 with
    | false =>
      obtain ⟨N2, s2, d2, p2⟩ := parsedAny t ht false o2.symm
      exact ⟨N1, s1, d1, N2, s2, d2, fun w => two_tf s t N1 N2 s1 s2 d1 d2 _ _ w (Lib.hid p1) (Lib.hid p2) (Lib.hid (checkedAs s hs _ rfl)) (Lib.hid (checkedAs t ht _ rfl))⟩
    | true =>
      obtain ⟨N2, s2, d2, p2⟩ := parsedAny t ht true o2.symm
      cases c1 : chk s.data.toList with
      | false => exact ⟨N1, s1, d1, N2, s2, d2, fun w => two_ttf s t N1 N2 s1 s2 d1 d2 _ w (Lib.hid p1) (Lib.hid p2) (Lib.hid (checkedAs s hs _ c1.symm)) (Lib.hid (checkedAs t ht _ rfl))⟩
      | true =>
        have h2 : chk t.data.toList = false := h.resolve_left (by rw [c1]; decide)
        exact ⟨N1, s1, d1, N2, s2, d2, fun w => two_ttt s t N1 N2 s1 s2 d1 d2 false w (Lib.hid p1) (Lib.hid p2) (Lib.hid (checkedAs s hs _ c1.symm)) (Lib.hid (checkedAs t ht _ h2.symm))⟩

theorem sum_small {l r : List UInt8} (h : chk l = true) (h2 : chk r = true) : (dval l + dval r).natAbs < 10 ^ 144 ∧ (dval l - dval r).natAbs < 10 ^ 144 := by
  have a := dval_lt h
  have b := dval_lt h2
  have e : (10 : Nat) ^ 94 + 10 ^ 94 ≤ 10 ^ 144 := by decide
  omega
theorem plus_text {l r : List UInt8} {N1 N2 n : Bool} {d1 d2 zs : List Nat} {s1 s2 S : Nat} (h : chk l = true) (h2 : chk r = true) (a : Dec l N1 d1 s1) (b : Dec r N2 d2 s2) (e1 : s1 ≤ S) (e2 : s2 ≤ S) (eS : S ≤ 20) (hs : Small zs)
    (hv : sv n (val10 zs) = sv N1 (val10 d1 * 10 ^ (S - s1)) + sv N2 (val10 d2 * 10 ^ (S - s2))) : formP n zs S = txt (dval l + dval r) :=
  form_num hs (by omega) (by rw [nval_plus e1 e2 (by omega) hv, a.val, b.val]) (sum_small h h2).1
theorem minus_text {l r : List UInt8} {N1 N2 n : Bool} {d1 d2 zs : List Nat} {s1 s2 S : Nat} (h : chk l = true) (h2 : chk r = true) (a : Dec l N1 d1 s1) (b : Dec r N2 d2 s2) (e1 : s1 ≤ S) (e2 : s2 ≤ S) (eS : S ≤ 20) (hs : Small zs)
    (hv : sv n (val10 zs) = sv N1 (val10 d1 * 10 ^ (S - s1)) + sv (!N2) (val10 d2 * 10 ^ (S - s2))) : formP n zs S = txt (dval l - dval r) :=
  form_num hs (by omega) (by
    rw [nval_plus e1 e2 (by omega) hv, a.val, ← b.val]
    unfold nval
    rw [sv_not]; omega) (sum_small h h2).2
theorem two_size (W : World) : Below W.heap.size W ((W.alloc (.cells #[.bool false, .slice none 0 0, .int .i64 0] 47)).alloc (.cells #[.bool false, .slice none 0 0, .int .i64 0] 47)) := ((Below.refl _ _).alloc (Nat.le_refl _) _).alloc (by simp) _
theorem Rec.drew {w : World} {g : Nat} {n : Bool} {v : Value} {sc : Int} (h : Rec w g n v sc) : Rec w.drew g n v sc := h

set_option maxRecDepth 20000 in
set_option maxHeartbeats 1600000 in
theorem refCmpNo (s t : ByteArray) (w : World) (hs : s.size ≤ 1000000000) (ht : t.size ≤ 1000000000) (h : chk s.data.toList = false ∨ chk t.data.toList = false) :
    Calls Tryz.prog 14 #[.string s, .string t] w fun e w' => e = .returned (.int .i64 0) ∧ Below w.heap.size w w' := by
  obtain ⟨N1, s1, d1, N2, s2, d2, HT⟩ := twoNo s t hs ht h
  have HC := Lib.hid HT
  clear HT h
  go_enter Tryz.func14, Tryz.ntmps14
  go_wp2_with (first
    | (go_at_call 25; (with_reducible refine (HC.out.at _).mono ?_); rintro e w1 ⟨u, v, rfl, hu, hv, hb⟩; have q6 : Rec ((w1.alloc (.cells #[.bool false, .slice none 0 0, .int .i64 0] 47)).alloc (.cells #[.bool false, .slice none 0 0, .int .i64 0] 47)) w1.heap.size false (.slice none 0 0) 0 := (rec_new w1 rfl).alloc _; have q7 : Rec ((w1.alloc (.cells #[.bool false, .slice none 0 0, .int .i64 0] 47)).alloc (.cells #[.bool false, .slice none 0 0, .int .i64 0] 47)) (w1.heap.size + 1) false (.slice none 0 0) 0 := rec_new _ (by simp)
       have UO := Lib.hid (And.intro (ints_one hu) (ints_one hv)); have UV := Lib.hid (And.intro (hu.below (two_size w1)) (And.intro (hv.below (two_size w1)) (below_any hb (two_size w1) hb.size))); have hw1 := hb.size; clear hu hv hb)
    | ((with_reducible refine wpList_store44 (m := N1) (u := u) (sd := s1) (.tmp 5) (.tmp 13) w1.heap.size q6 UO.out.1 ?_ ?_ ?_ ?_ ?_); rfl; rfl; rfl; rfl; intro w2 ho p6; have Q7 := Lib.hid (q7.only ho (by omega)); have UV2 := Lib.hid (And.intro (UV.out.1.rec ho q6) (And.intro (UV.out.2.1.rec ho q6) (below_only UV.out.2.2 ho (by omega) (Nat.le_of_lt (Nat.lt_of_le_of_lt hw1 q6.lt))))); clear ho UV q6 q7; have q7 := Q7.out; clear Q7)
    | ((with_reducible refine wpList_store44 (m := N2) (u := v) (sd := s2) (.tmp 6) (.tmp 14) (w1.heap.size + 1) q7 UO.out.2 ?_ ?_ ?_ ?_ ?_); rfl; rfl; rfl; rfl; intro w3 ho p7; have P6 := Lib.hid (p6.only ho (by omega)); have UV3 := Lib.hid (And.intro (UV2.out.1.rec ho q7) (And.intro (UV2.out.2.1.rec ho q7) (below_only UV2.out.2.2 ho (by omega) (Nat.le_of_lt (Nat.lt_of_le_of_lt (Nat.le_succ_of_le hw1) q7.lt))))); clear ho UV2 q7 p6; have p6 := P6.out; clear P6))
  go_ret
  exact ⟨rfl, UV3.out.2.2⟩

end Go.Proofs.YtdnijfkiebpnpaaGreatDoor

/- Differences and the order, as the document takes them. -/
namespace Go.Proofs.YtdnijfkiebpnpaaGreatDoor
open Go.RowKit

/-- The order from the sign of the difference. -/
theorem cmp_sign {l r : List UInt8} {N1 N2 n : Bool} {d1 d2 zs : List Nat} {s1 s2 S : Nat} (a : Dec l N1 d1 s1) (b : Dec r N2 d2 s2) (e1 : s1 ≤ S) (e2 : s2 ≤ S) (eS : S ≤ 20)
    (hv : sv n (val10 zs) = sv N1 (val10 d1 * 10 ^ (S - s1)) + sv (!N2) (val10 d2 * 10 ^ (S - s2))) : cmpZ (dval l) (dval r) = if val10 zs = 0 then 0 else if n = true then -1 else 1 := by
  have e : nval n zs S = dval l - dval r := by
    rw [nval_plus e1 e2 (by omega) hv, a.val, ← b.val]
    unfold nval
    rw [sv_not]; omega
  have hp : 0 < 10 ^ (54 - S) := Nat.pow_pos (by decide)
  unfold nval at e
  by_cases h0 : val10 zs = 0
  · rw [if_pos h0]
    rw [h0, Nat.zero_mul, sv_zero] at e
    rw [cmpZ_zero]; omega
  · rw [if_neg h0]
    have hq : 0 < val10 zs * 10 ^ (54 - S) := Nat.mul_pos (by omega) hp
    generalize val10 zs * 10 ^ (54 - S) = q at *
    unfold cmpZ
    cases n with
    | true =>
      have : sv true q = -(q : Int) := rfl
      rw [if_pos (by omega : dval l < dval r)]; rfl
    | false =>
      have : sv false q = (q : Int) := rfl
      rw [if_neg (by omega : ¬ dval l < dval r), if_pos (by omega : dval r < dval l)]; rfl

set_option maxRecDepth 20000 in
set_option maxHeartbeats 1600000 in
theorem refCmpYes (s t : ByteArray) (w : World) (hs : s.size ≤ 1000000000) (ht : t.size ≤ 1000000000) (h : chk s.data.toList = true) (h2 : chk t.data.toList = true) :
    Calls Tryz.prog 14 #[.string s, .string t] w fun e w' => e = .returned (.int .i64 (cmpZ (dval s.data.toList) (dval t.data.toList))) ∧ Below w.heap.size w w' := by
  obtain ⟨N1, s1, d1, N2, s2, d2, a1, a2, HT⟩ := twoYes s t hs ht h h2
  obtain ⟨S, e1, e2, e3⟩ : ∃ S, s1 ≤ S ∧ s2 ≤ S ∧ (S = s1 ∨ S = s2) := ⟨max s1 s2, by omega, by omega, by omega⟩
  have eS : S ≤ 20 := by have := a1.sc; have := a2.sc; omega
  have A := Lib.hid (And.intro a1 (And.intro a2 (And.intro e1 (And.intro e2 (And.intro e3 eS)))))
  have HC := Lib.hid HT
  have HH := Lib.hid (And.intro h h2)
  obtain ⟨r, hr⟩ : ∃ r, r = cmpZ (dval s.data.toList) (dval t.data.toList) := ⟨_, rfl⟩
  rw [← hr]
  have HR := Lib.hid hr
  clear a1 a2 e1 e2 e3 eS HT h h2 hr
  go_enter Tryz.func14, Tryz.ntmps14
  go_upto_region 5 with (first
    | (go_at_call 25; (with_reducible refine (HC.out.at _).mono ?_); rintro e w1 ⟨u, v, rfl, hu, hv, hb⟩; have q6 : Rec ((w1.alloc (.cells #[.bool false, .slice none 0 0, .int .i64 0] 47)).alloc (.cells #[.bool false, .slice none 0 0, .int .i64 0] 47)) w1.heap.size false (.slice none 0 0) 0 := (rec_new w1 rfl).alloc _; have q7 : Rec ((w1.alloc (.cells #[.bool false, .slice none 0 0, .int .i64 0] 47)).alloc (.cells #[.bool false, .slice none 0 0, .int .i64 0] 47)) (w1.heap.size + 1) false (.slice none 0 0) 0 := rec_new _ (by simp)
       have UO := Lib.hid (And.intro (ints_one hu) (ints_one hv)); have UV := Lib.hid (And.intro (hu.below (two_size w1)) (And.intro (hv.below (two_size w1)) (below_any hb (two_size w1) hb.size))); have hw1 := hb.size; clear hu hv hb)
    | ((with_reducible refine wpList_store44 (m := N1) (u := u) (sd := s1) (.tmp 5) (.tmp 13) w1.heap.size q6 UO.out.1 ?_ ?_ ?_ ?_ ?_); rfl; rfl; rfl; rfl; intro w2 ho p6; have Q7 := Lib.hid (q7.only ho (by omega)); have UV2 := Lib.hid (And.intro (UV.out.1.rec ho q6) (And.intro (UV.out.2.1.rec ho q6) (below_only UV.out.2.2 ho (by omega) (Nat.le_of_lt (Nat.lt_of_le_of_lt hw1 q6.lt))))); clear ho UV q6 q7; have q7 := Q7.out; clear Q7)
    | ((with_reducible refine wpList_store44 (m := N2) (u := v) (sd := s2) (.tmp 6) (.tmp 14) (w1.heap.size + 1) q7 UO.out.2 ?_ ?_ ?_ ?_ ?_); rfl; rfl; rfl; rfl; intro w3 ho p7; have P6 := Lib.hid (p6.only ho (by omega)); have UV3 := Lib.hid (And.intro (UV2.out.1.rec ho q7) (And.intro (UV2.out.2.1.rec ho q7) (below_only UV2.out.2.2 ho (by omega) (Nat.le_of_lt (Nat.lt_of_le_of_lt (Nat.le_succ_of_le hw1) q7.lt))))); clear ho UV2 q7 p6; have p6 := P6.out; clear P6; have c0 := p7.c0; have f0 : w3.frozen? ⟨w1.heap.size + 1, 0, none⟩ = false := free_of p7 0))
  have ho4 : Only (w1.heap.size + 1) w3 (w3.setCell ⟨w1.heap.size + 1, 0, none⟩ (.bool (!N2))) := (Only.refl _ _).setCell _ _ _
  have p7s := p7.set0 (!N2)
  have P6 := Lib.hid (p6.only ho4 (by omega))
  have UV4 := Lib.hid (And.intro (UV3.out.1.rec ho4 p7) (And.intro (UV3.out.2.1.rec ho4 p7) (below_only UV3.out.2.2 ho4 (by omega) (Nat.le_of_lt (Nat.lt_of_le_of_lt (Nat.le_succ_of_le hw1) p7.lt)))))
  have P7 := Lib.hid p7s
  clear ho4 p7s p7 p6 c0 f0 UV3
  generalize w3.setCell ⟨w1.heap.size + 1, 0, none⟩ (.bool (!N2)) = w3s at *
  have p6 := P6.out
  have p7 := P7.out
  clear P6 P7
  go_upto_region 6 with (first
    | ((with_reducible refine wpList_load44 (.tmp 5) w1.heap.size p6 ?_ ?_ ?_ ?_); rfl; rfl; rfl)
    | ((with_reducible refine wpList_load44 (.tmp 6) (w1.heap.size + 1) p7 ?_ ?_ ?_ ?_); rfl; rfl; rfl)
    | (go_at_call 26; (with_reducible refine (refPlus N1 (!N2) u v d1 d2 s1 s2 S _ UV4.out.1 UV4.out.2.1 A.out.1.small A.out.2.1.small A.out.2.2.1 A.out.2.2.2.1 A.out.2.2.2.2.1 (by have := A.out.2.2.2.2.2; omega) (by have := A.out.1.len; omega) (by have := A.out.2.1.len; omega)).mono ?_); rintro e w4 ⟨n, z, zs, rfl, hz, hzs, hval, hlen, hb4⟩
       have HCS := Lib.hid (cmp_sign A.out.1 A.out.2.1 A.out.2.2.1 A.out.2.2.2.1 A.out.2.2.2.2.2 hval); have z8 := rec_new w4 rfl; have HO8 := Lib.hid (ints_one hz)
       have HZ := Lib.hid (And.intro (hz.below ((Below.refl w4.heap.size w4).alloc (Nat.le_refl _) (.cells #[.bool false, .slice none 0 0, .int .i64 0] 47))) (And.intro (show zs.length ≤ 9223372036854775807 by have := A.out.1.len; have := A.out.2.1.len; have := A.out.2.2.2.2.2; omega) ((below_any UV4.out.2.2 hb4 UV4.out.2.2.size).alloc (Nat.le_trans UV4.out.2.2.size hb4.size) (.cells #[.bool false, .slice none 0 0, .int .i64 0] 47)))); have hw4 := Nat.le_trans UV4.out.2.2.size hb4.size; clear hz hzs hval hlen hb4)
    | ((with_reducible refine wpList_store44 (m := n) (u := z) (sd := S) (.tmp 8) (.tmp 24) w4.heap.size z8 HO8.out ?_ ?_ ?_ ?_ ?_); rfl; rfl; rfl; rfl; intro w5 ho p8; have HY := Lib.hid (And.intro (HZ.out.1.rec ho z8) (below_only HZ.out.2.2 ho hw4 (Nat.le_of_lt (Nat.lt_of_le_of_lt hw4 z8.lt)))); clear ho z8))
  have c0 := p8.c0
  have c1 := p8.c1
  by_cases h0 : val10 zs = 0
  · obtain rfl : r = 0 := by rw [HR.out, HCS.out, if_pos h0]
    have HD0 : Hid (true = decide (val10 zs = 0)) := Lib.hid (by simp [h0])
    clear h0 HR HCS p6 p7
    go_wp2_with (go_at_call 27; (with_reducible refine (refZero _ zs _ HY.out.1 HZ.out.2.1 true HD0.out).mono ?_); rintro e w' ⟨rfl, rfl⟩)
    go_ret
    exact ⟨rfl, HY.out.2⟩
  · have HD0 : Hid (false = decide (val10 zs = 0)) := Lib.hid (by simp [h0])
    have hrn : r = if n = true then -1 else 1 := by rw [HR.out, HCS.out, if_neg h0]
    cases n with
    | true =>
      obtain rfl : r = -1 := by rw [hrn, if_pos rfl]
      clear h0 HR HCS hrn p6 p7
      go_wp2_with (go_at_call 27; (with_reducible refine (refZero _ zs _ HY.out.1 HZ.out.2.1 false HD0.out).mono ?_); rintro e w' ⟨rfl, rfl⟩)
      go_ret
      exact ⟨rfl, HY.out.2⟩
    | false =>
      obtain rfl : r = 1 := by rw [hrn, if_neg (by decide)]
      clear h0 HR HCS hrn p6 p7
      go_wp2_with (go_at_call 27; (with_reducible refine (refZero _ zs _ HY.out.1 HZ.out.2.1 false HD0.out).mono ?_); rintro e w' ⟨rfl, rfl⟩)
      go_ret
      exact ⟨rfl, HY.out.2⟩

theorem chkZ : chk [48, 46, 48] = true := by kernel_rfl
theorem dvalZ : dval [48, 46, 48] = 0 := by decide +kernel
end Go.Proofs.YtdnijfkiebpnpaaGreatDoor

/- Which whole number a decimal is; the document's ways of telling a whole number. No Go stands here. -/
namespace Go.Proofs.YtdnijfkiebpnpaaGreatDoor

/-- A whole number's text: a sign, digits without noughts ahead, '.0'. -/
structure Whole (l : List UInt8) (neg : Bool) (x : List UInt8) : Prop where
  eq : l = (if neg then [45] else []) ++ x ++ [46, 48]
  all : x.all isDig = true
  ne : x ≠ []
  len : x.length ≤ 40
  lead : 2 ≤ x.length → x.headD 0 ≠ 48
theorem suffix_iff (l : List UInt8) : Lib.hasSuffix l [46, 48] = true ↔ ∃ r, l = r ++ [46, 48] := by
  unfold Lib.hasSuffix
  rw [List.isSuffixOf_iff_suffix]
  exact ⟨fun ⟨r, h⟩ => ⟨r, h.symm⟩, fun ⟨r, h⟩ => ⟨r, h.symm⟩⟩
theorem trim_suffix (r : List UInt8) : Lib.trimSuffix (r ++ [46, 48]) [46, 48] = r := by
  unfold Lib.trimSuffix
  rw [if_pos ((suffix_iff _).2 ⟨r, rfl⟩)]
  simp
theorem whole_of {l : List UInt8} (h : chk l = true) (hs : Lib.hasSuffix l [46, 48] = true) : ∃ neg x, Whole l neg x := by
  obtain ⟨n, a, b, hsp, ha, hb, la, lb, hw, hz⟩ := chk_parts l h
  unfold wr at hw
  simp only at hw
  split at hw
  · cases hw
  · rename_i hl
    have e := Option.some.inj hw
    obtain ⟨r, hr⟩ := (suffix_iff l).1 hs
    obtain ⟨N, hN⟩ : ∃ N, N = (n && !(Lib.trimLeftB a 48 ++ Lib.trimRightB b 48).isEmpty) := ⟨_, rfl⟩
    rw [← hN] at e
    have hy := orN_dig (trimR_dig hb)
    have hy0 := orN_ne (Lib.trimRightB b 48)
    generalize orN (Lib.trimRightB b 48) = y at *
    have e2 : ∃ z, y = z ++ [48] := by
      have e3 : (if N = true then [45] else []) ++ orN (Lib.trimLeftB a 48) ++ 46 :: y = (r ++ [46]) ++ [48] := by rw [List.append_assoc, e, hr]; simp
      rcases List.eq_nil_or_concat y with k | ⟨z, c, k⟩
      · exact absurd k hy0
      · rw [List.concat_eq_append] at k
        rw [k] at e3
        refine ⟨z, ?_⟩
        have e4 : ((if N = true then [45] else []) ++ orN (Lib.trimLeftB a 48) ++ 46 :: z) ++ [c] = (r ++ [46]) ++ [48] := by rw [← e3]; simp
        have := List.append_inj_right' e4 rfl
        rw [k, this]
    obtain ⟨z, rfl⟩ := e2
    have hz0 : z = [] := by
      rcases List.eq_nil_or_concat z with k | ⟨q, c, k⟩
      · exact k
      · exfalso
        rw [List.concat_eq_append] at k
        have e5 : ((if N = true then [45] else []) ++ orN (Lib.trimLeftB a 48) ++ 46 :: q ++ [c]) ++ [48] = (r ++ [46]) ++ [48] := by
          have : l = r ++ [46] ++ [48] := by rw [hr]; simp
          rw [← this, ← e, k]; simp
        have e6 := List.append_inj_left' e5 rfl
        have e7 := List.append_inj_right' e6 rfl
        rw [k, List.all_append, List.all_append, List.all_cons] at hy
        rw [(List.cons.inj e7).1] at hy
        simp at hy
        exact absurd hy.1.2 (by decide)
    subst hz0
    refine ⟨N, orN (Lib.trimLeftB a 48), by rw [← e]; simp, orN_dig (trimL_dig ha), orN_ne _, orN_len (by omega) (by omega), fun h2 => ?_⟩
    have hd := head_trim a
    generalize Lib.trimLeftB a 48 = t at *
    cases t with
    | nil => simp [orN] at h2
    | cons c q => exact hd c q rfl

/-- The whole number, if it may be. -/
def wholeP (neg : Bool) (v : Nat) : Option Int := if neg then (if v ≤ 9223372036854775808 then some (-(v : Int)) else none) else if v < 9223372036854775808 then some (v : Int) else none
theorem parseM (M : Nat) (hM : M = 18446744073709551615) (ds : List UInt8) (h : ds.all isDig = true) : ∀ acc, acc ≤ M → Lib.parseUintM M acc ds = if acc * 10 ^ ds.length + valD ds ≤ M then .ok (acc * 10 ^ ds.length + valD ds) else .range := by
  induction ds with
  | nil => intro acc ha; simp only [Lib.parseUintM, valD, List.length_nil, Nat.pow_zero, Nat.mul_one, Nat.add_zero]; rw [if_pos ha]
  | cons c r ih =>
    intro acc ha
    rw [List.all_cons, Bool.and_eq_true] at h
    have hc := dig_le h.1
    have hp : 1 ≤ 10 ^ r.length := Nat.pow_pos (by decide)
    have e : acc * 10 ^ (c :: r).length + valD (c :: r) = (acc * 10 + (c.toNat - 48)) * 10 ^ r.length + valD r := by
      show acc * 10 ^ (r.length + 1) + ((c.toNat - 48) * 10 ^ r.length + valD r) = _
      rw [Nat.pow_succ, Nat.add_mul, Nat.mul_comm (10 ^ r.length) 10, ← Nat.mul_assoc, Nat.add_assoc]
    rw [e]
    unfold Lib.parseUintM
    rw [if_pos (by omega)]
    have hge : (acc * 10 + (c.toNat - 48)) * 1 ≤ (acc * 10 + (c.toNat - 48)) * 10 ^ r.length := Nat.mul_le_mul_left _ hp
    by_cases h1 : 1844674407370955162 ≤ acc
    · rw [if_pos h1, if_neg (by omega)]
    · rw [if_neg h1]
      by_cases h2 : M < acc * 10 + (c.toNat - 48)
      · rw [if_pos h2, if_neg (by omega)]
      · rw [if_neg h2, ih h.2 _ (by omega)]
theorem parse_whole (neg : Bool) (x : List UInt8) (h : x.all isDig = true) (hn : x ≠ []) : Lib.parseIntB 64 ((if neg then [45] else []) ++ x) = match wholeP neg (valD x) with | some v => .ok v | none => .range := by
  have hu : Lib.parseUintB 64 x = if valD x ≤ 2 ^ 64 - 1 then .ok (valD x) else .range := by
    unfold Lib.parseUintB
    rw [if_neg hn, parseM (2 ^ 64 - 1) (by decide) x h 0 (by decide), Nat.zero_mul, Nat.zero_add]
  unfold wholeP
  cases neg with
  | true =>
    show Lib.parseIntB 64 (45 :: x) = _
    unfold Lib.parseIntB
    simp only [show (45 : UInt8).toNat = 45 from rfl]
    rw [if_pos (by simp), hu]
    by_cases h1 : valD x ≤ 2 ^ 64 - 1
    · rw [if_pos h1]
      by_cases h2 : valD x ≤ 9223372036854775808
      · simp only [if_pos h2, if_true]
        rw [if_neg (by simp), if_neg (by simp; omega)]
      · simp only [if_neg h2, if_true]
        rw [if_neg (by simp), if_pos (by simp; omega)]
    · rw [if_neg h1]
      have h2 : ¬ valD x ≤ 9223372036854775808 := by omega
      simp only [if_neg h2, if_true]
  | false =>
    cases x with
    | nil => exact absurd rfl hn
    | cons c r =>
      have hc := h
      rw [List.all_cons, Bool.and_eq_true] at hc
      have hc1 := dig_le hc.1
      show Lib.parseIntB 64 (c :: r) = _
      unfold Lib.parseIntB
      simp only
      rw [if_neg (by omega), hu]
      by_cases h1 : valD (c :: r) ≤ 2 ^ 64 - 1
      · rw [if_pos h1]
        by_cases h2 : valD (c :: r) < 9223372036854775808
        · simp only [if_pos h2, Bool.false_eq_true, if_false]
          rw [if_neg (by simp; omega), if_neg (by omega), if_neg (by omega)]
        · simp only [if_neg h2, Bool.false_eq_true, if_false]
          rw [if_pos ⟨by omega, by omega⟩]
      · rw [if_neg h1]
        have h2 : ¬ valD (c :: r) < 9223372036854775808 := by omega
        simp only [if_neg h2, Bool.false_eq_true, if_false]
/-- Many digits are too many. -/
theorem Whole.big {l : List UInt8} {neg : Bool} {x : List UInt8} (h : Whole l neg x) (hl : 25 < l.length) : wholeP neg (valD x) = none := by
  have h1 : 23 ≤ x.length := by
    have := congrArg List.length h.eq
    simp only [List.length_append, List.length_cons, List.length_nil] at this
    cases neg <;> simp at this <;> omega
  have hx := h.lead (by omega)
  have ha := h.all
  cases x with
  | nil => exact absurd rfl h.ne
  | cons c r =>
    rw [List.all_cons, Bool.and_eq_true] at ha
    have hc := dig_le ha.1
    have hc0 : c.toNat ≠ 48 := fun e => hx (UInt8.toNat_inj.1 e)
    have h22 : 22 ≤ r.length := by simpa using h1
    have h3 : 10 ^ 22 ≤ 10 ^ r.length := Nat.pow_le_pow_right (by decide) h22
    have h4 : 1 * 10 ^ r.length ≤ (c.toNat - 48) * 10 ^ r.length := Nat.mul_le_mul_right _ (by omega)
    have h5 : 10 ^ 22 ≤ valD (c :: r) := by show _ ≤ (c.toNat - 48) * 10 ^ r.length + valD r; omega
    unfold wholeP
    cases neg with
    | true => rw [if_pos rfl, if_neg (by omega)]
    | false => rw [if_neg (by decide), if_neg (by omega)]
/-- Which whole number a text is. -/
def toIntP (l : List UInt8) : Option Int := if chk l && Lib.hasSuffix l [46, 48] then (match Lib.parseIntB 64 (Lib.trimSuffix l [46, 48]) with | .ok v => some v | _ => none) else none
theorem Whole.trim {l : List UInt8} {neg : Bool} {x : List UInt8} (h : Whole l neg x) : Lib.trimSuffix l [46, 48] = (if neg then [45] else []) ++ x := by
  rw [h.eq, trim_suffix]
theorem Whole.toInt {l : List UInt8} {neg : Bool} {x : List UInt8} (h : Whole l neg x) (hc : chk l = true) : toIntP l = wholeP neg (valD x) := by
  unfold toIntP
  have : Lib.hasSuffix l [46, 48] = true := (suffix_iff l).2 ⟨_, h.eq⟩
  rw [hc, this, Bool.and_self, if_pos rfl, h.trim, parse_whole neg x h.all h.ne]
  cases wholeP neg (valD x) <;> rfl
/-- The whole number so far, taken as not above 0. -/
theorem down_step {v k : Nat} (hk : k ≤ 9) : (-(v : Int) < (-9223372036854775808 + (k : Int)).tdiv 10) ↔ 9223372036854775808 < v * 10 + k := by
  rw [show (-9223372036854775808 + (k : Int)) = -((9223372036854775808 - k : Nat) : Int) by omega, Int.neg_tdiv]
  rw [show ((9223372036854775808 - k : Nat) : Int).tdiv 10 = ((9223372036854775808 - k) / 10 : Nat) by
    rw [show (10 : Int) = ((10 : Nat) : Int) from rfl, ← Int.ofNat_tdiv]]
  omega
/-- A numeral, the last digit first. -/
theorem dec_tail (u : Nat) (t : List UInt8) : (if u < 10 then [] else Lib.decDigits (u / 10)) ++ UInt8.ofNat (48 + u % 10) :: t = Lib.decDigits u ++ t := by
  conv => rhs; rw [Lib.decDigits]
  by_cases h : u < 10
  · rw [if_pos h, dif_pos h, Nat.mod_eq_of_lt h]; rfl
  · rw [if_neg h, dif_neg h]; simp
end Go.Proofs.YtdnijfkiebpnpaaGreatDoor

/- Whole numbers as texts, the document's way. -/
namespace Go.Proofs.YtdnijfkiebpnpaaGreatDoor
open Go.RowKit

/-- One step of writing a whole number: the last digit goes ahead of what is written. -/
theorem num_step {u : Nat} {X : ByteArray} {full : List UInt8} (h : Lib.decDigits u ++ X.data.toList = full) (hu : 10 ≤ u) :
    Lib.decDigits (u / 10) ++ (bs [UInt8.ofNat (48 + u % 10)] ++ X).data.toList = full := by
  have e : (bs [UInt8.ofNat (48 + u % 10)] ++ X).data.toList = UInt8.ofNat (48 + u % 10) :: X.data.toList := by
    rw [ByteArray.data_append, Array.toList_append]; rfl
  have := dec_tail u X.data.toList
  rw [if_neg (by omega)] at this
  rw [e, this, h]
theorem num_last {u : Nat} {X : ByteArray} {full : List UInt8} (h : Lib.decDigits u ++ X.data.toList = full) (hu : u < 10) :
    bs [UInt8.ofNat (48 + u % 10)] ++ X = bs full := by
  apply bytes_ext
  have e : (bs [UInt8.ofNat (48 + u % 10)] ++ X).data.toList = UInt8.ofNat (48 + u % 10) :: X.data.toList := by
    rw [ByteArray.data_append, Array.toList_append]; rfl
  have := dec_tail u X.data.toList
  rw [if_pos hu] at this
  rw [e]
  show _ = full
  rw [← h, ← this]; rfl
theorem one_byte (W : World) (d : Nat) (hd : d ≤ 9) : (convert 61 9 (.slice (some ⟨W.heap.size, 0, none⟩) 1 1)).run Tryz.prog (W.alloc (.cells #[.int .u8 (48 + (d : Int))] 5)) = .ok (.string (bs [UInt8.ofNat (48 + d)])) (W.alloc (.cells #[.int .u8 (48 + (d : Int))] 5)) := by
  have := run_convert_bytes_back (P := Tryz.prog) (W.alloc (.cells #[.int .u8 (48 + (d : Int))] 5)) 61 9 5 ⟨W.heap.size, 0, none⟩ 1 [UInt8.ofNat (48 + d)] Tryz.underlying61 Tryz.underlying5 Tryz.underlying9 (fun j hj => by
    have : j = 0 := by simp at hj; exact hj
    subst this
    rw [Addr.add_mid, Nat.zero_add]
    refine (cell_of (heap_new W _ rfl) 0 rfl).trans ?_
    have e8 : (UInt8.ofNat (48 + d)).toNat = 48 + d := by rw [UInt8.toNat_ofNat']; omega
    show some (Value.int .u8 (48 + (d : Int))) = some (Value.int .u8 (((UInt8.ofNat (48 + d)).toNat : Nat) : Int))
    rw [e8, Int.natCast_add]; rfl)
  exact this
theorem bs_one (c : UInt8) : (bs [c]).size = 1 := rfl

set_option maxRecDepth 20000 in
set_option maxHeartbeats 1600000 in
theorem refOfIntNat (n : Nat) (h1 : n < 9223372036854775808) (w : World) (F : ByteArray) (hF : Hid (F = bs (Lib.decDigits n))) :
    Calls Tryz.prog 28 #[.int .i64 n] w fun e w' => e = .returned (.string (F ++ ⟨#[46, 48]⟩)) ∧ Below w.heap.size w w' := by
  have hlen : (Lib.decDigits n).length ≤ 21 := by
    have := Lib.itoa_length_le n (by omega) (by omega)
    rwa [Lib.itoa_nonneg] at this
  have HL := Lib.hid hlen
  have HFS : F.size ≤ 21 := by rw [hF.out]; simpa [ByteArray.size] using hlen
  clear hlen
  go_enter Tryz.func28, Tryz.ntmps28
  go_wp2_with fail
  go_loopg [3, 4] n (fun gg s3 s4 wr => ∃ (u : Nat) (X : ByteArray), u ≤ gg ∧ u ≤ 9223372036854775807 ∧ s4 = .int .i64 u ∧ s3 = .string X ∧ X.size ≤ 21 ∧ Hid (Lib.decDigits u ++ X.data.toList = Lib.decDigits n) ∧ Below w.heap.size w wr)
  case atStart => exact ⟨n, ⟨#[]⟩, Nat.le_refl _, by omega, rfl, rfl, by decide, Lib.hid (List.append_nil _), Below.refl _ _⟩
  case round =>
    obtain ⟨u, X, hug, hub, rfl, rfl, hxs, HX, hb⟩ := hrel
    obtain ⟨d, hd⟩ : ∃ d, d = u % 10 := ⟨_, rfl⟩
    have hd9 : d ≤ 9 := by omega
    have e1 : (u : Int) % 10 = d := by omega
    have hw1 : IntKind.u8.wrap (48 + (d : Int)) = 48 + d := by unfold IntKind.wrap; simp [IntKind.bits, IntKind.signed]; omega
    obtain ⟨C, hC⟩ : ∃ C, C = bs [UInt8.ofNat (48 + d)] := ⟨_, rfl⟩
    have hcv := one_byte wr d hd9
    rw [← hC] at hcv
    have hcs : C.size = 1 := by rw [hC]; rfl
    have hcs2 : C.size ≤ 1 := by omega
    have HC := Lib.hid hC
    have HD := Lib.hid hd
    have hbn := hb.alloc hb.size (.cells #[.int .u8 (48 + (d : Int))] 5)
    clear hC hd hcs
    by_cases h10 : u < 10
    · have e2 : (u : Int) / 10 = 0 := by omega
      have hl := num_last HX.out h10
      rw [← HD.out, ← HC.out] at hl
      have HLL : Hid (C ++ X = F) := Lib.hid (by rw [hl, hF.out])
      clear hl
      go_wp2_with fail
      go_ret
      exact ⟨by rw [← HLL.out]; rfl, hbn⟩
    · obtain ⟨q, hq⟩ : ∃ q, q = u / 10 := ⟨_, rfl⟩
      have e2 : (u : Int) / 10 = q := by omega
      have hq0 : ¬ (q : Int) = 0 := by omega
      have hq0b : ((q : Int) == 0) = false := by simpa using hq0
      have hs := num_step HX.out (by omega)
      rw [← HD.out, ← HC.out, ← hq] at hs
      have HSS := Lib.hid hs
      clear hs hq
      have hsz : (C ++ X).size ≤ 21 := by
        have h1 := congrArg List.length HSS.out
        have h2 := HL.out
        rw [List.length_append] at h1
        have h3 : (C ++ X).data.toList.length = (C ++ X).size := Array.length_toList
        omega
      have HSZ := Lib.hid hsz
      clear hsz
      go_wp2_with fail
      go_roundg q
      case measure => omega
      case rel => exact ⟨q, C ++ X, Nat.le_refl _, by omega, rfl, rfl, HSZ.out, HSS, hbn⟩
theorem neg_tdiv (u : Nat) : (-(u : Int)).tdiv 10 = -((u / 10 : Nat) : Int) := by
  rw [Int.neg_tdiv, show (10 : Int) = ((10 : Nat) : Int) from rfl, ← Int.ofNat_tdiv]
theorem neg_tmod (u : Nat) : (-(u : Int)).tmod 10 = -((u % 10 : Nat) : Int) := by
  rw [Int.neg_tmod, show (10 : Int) = ((10 : Nat) : Int) from rfl, ← Int.ofNat_tmod]

set_option maxRecDepth 20000 in
set_option maxHeartbeats 1600000 in
theorem refOfIntNeg (n : Nat) (h0 : 1 ≤ n) (h1 : n ≤ 9223372036854775808) (w : World) (F : ByteArray) (hF : Hid (F = bs (Lib.decDigits n))) :
    Calls Tryz.prog 28 #[.int .i64 (-(n : Int))] w fun e w' => e = .returned (.string (⟨#[45]⟩ ++ F ++ ⟨#[46, 48]⟩)) ∧ Below w.heap.size w w' := by
  have hlen : (Lib.decDigits n).length ≤ 21 := by
    have := Lib.itoa_length_le (-(n : Int)) (by omega) (by omega)
    rw [Lib.itoa_neg n h0] at this
    simp at this; omega
  have HL := Lib.hid hlen
  have HFS : F.size ≤ 21 := by rw [hF.out]; simpa [ByteArray.size] using hlen
  clear hlen
  go_enter Tryz.func28, Tryz.ntmps28
  go_wp2_with fail
  go_loopg [3, 4] n (fun gg s3 s4 wr => ∃ (u : Nat) (X : ByteArray) (m : Int), u ≤ gg ∧ u ≤ 9223372036854775808 ∧ s4 = .int .i64 m ∧ Hid (m = -(u : Int)) ∧ m ≤ 0 ∧ -9223372036854775808 ≤ m ∧ s3 = .string X ∧ X.size ≤ 21 ∧ Hid (Lib.decDigits u ++ X.data.toList = Lib.decDigits n) ∧ Below w.heap.size w wr)
  case atStart => exact ⟨n, ⟨#[]⟩, _, Nat.le_refl _, h1, rfl, Lib.hid rfl, by omega, by omega, rfl, by decide, Lib.hid (List.append_nil _), Below.refl _ _⟩
  case round =>
    obtain ⟨u, X, m, hug, hub, rfl, HM, hm0, hm1, rfl, hxs, HX, hb⟩ := hrel
    obtain ⟨d, hd⟩ : ∃ d, d = u % 10 := ⟨_, rfl⟩
    have hd9 : d ≤ 9 := by omega
    have e1 : m.tmod 10 = -(d : Int) := by rw [HM.out, neg_tmod, hd]
    have hw1 : IntKind.u8.wrap (48 + (d : Int)) = 48 + d := by unfold IntKind.wrap; simp [IntKind.bits, IntKind.signed]; omega
    obtain ⟨C, hC⟩ : ∃ C, C = bs [UInt8.ofNat (48 + d)] := ⟨_, rfl⟩
    have hcv := one_byte wr d hd9
    rw [← hC] at hcv
    have hcs : C.size = 1 := by rw [hC]; rfl
    have hcs2 : C.size ≤ 1 := by omega
    have HC := Lib.hid hC
    have HD := Lib.hid hd
    have hbn := hb.alloc hb.size (.cells #[.int .u8 (48 + (d : Int))] 5)
    clear hC hd hcs
    by_cases hd0 : d = 0
    · have e3 : m.tmod 10 = 0 := by rw [e1, hd0]; rfl
      subst hd0
      have hcv0 : (convert 61 9 (.slice (some ⟨wr.heap.size, 0, none⟩) 1 1)).run Tryz.prog (wr.alloc (.cells #[.int .u8 48] 5)) = .ok (.string C) (wr.alloc (.cells #[.int .u8 48] 5)) := hcv
      have hbn0 : Below w.heap.size w (wr.alloc (.cells #[.int .u8 48] 5)) := hbn
      clear e1 hcv hbn hw1
      have hbn := hbn0
      clear hbn0
      by_cases h10 : u < 10
      · have e2 : m.tdiv 10 = 0 := by rw [HM.out, neg_tdiv, Nat.div_eq_of_lt h10]; rfl
        have hl := num_last HX.out h10
        rw [← HD.out, ← HC.out] at hl
        have HLL : Hid (C ++ X = F) := Lib.hid (by rw [hl, hF.out])
        have hn0 : -(n : Int) < 0 := by omega
        have hsx : (C ++ X).size ≤ 21 := by rw [HLL.out]; exact HFS
        have HSX := Lib.hid hsx
        clear hl hsx
        go_wp2_with fail
        go_ret
        exact ⟨by rw [← HLL.out]; rfl, hbn⟩
      · obtain ⟨q, hq⟩ : ∃ q, q = u / 10 := ⟨_, rfl⟩
        obtain ⟨m2, hm2⟩ : ∃ m2 : Int, m2 = -(q : Int) := ⟨_, rfl⟩
        have e2 : m.tdiv 10 = m2 := by rw [HM.out, neg_tdiv, hm2, hq]
        have hq0 : ¬ m2 = 0 := by omega
        have hq0b : (m2 == 0) = false := by simpa using hq0
        have hs := num_step HX.out (by omega)
        rw [← HD.out, ← HC.out, ← hq] at hs
        have HSS := Lib.hid hs
        have HM2 := Lib.hid hm2
        have hr1 : m2 ≤ 0 := by omega
        have hr2 : -9223372036854775808 ≤ m2 := by omega
        have hqu : q < u := by omega
        have hsz : (C ++ X).size ≤ 21 := by
          have h1 := congrArg List.length HSS.out
          have h2 := HL.out
          rw [List.length_append] at h1
          have h3 : (C ++ X).data.toList.length = (C ++ X).size := Array.length_toList
          omega
        have HSZ := Lib.hid hsz
        clear hsz hs hm2 hq
        go_wp2_with fail
        go_roundg q
        case measure => omega
        case rel => exact ⟨q, C ++ X, m2, Nat.le_refl _, by omega, rfl, HM2, hr1, hr2, rfl, HSZ.out, HSS, hbn⟩
    · have hdn : -(d : Int) < 0 := by omega
      by_cases h10 : u < 10
      · have e2 : m.tdiv 10 = 0 := by rw [HM.out, neg_tdiv, Nat.div_eq_of_lt h10]; rfl
        have hl := num_last HX.out h10
        rw [← HD.out, ← HC.out] at hl
        have HLL : Hid (C ++ X = F) := Lib.hid (by rw [hl, hF.out])
        have hn0 : -(n : Int) < 0 := by omega
        have hsx : (C ++ X).size ≤ 21 := by rw [HLL.out]; exact HFS
        have HSX := Lib.hid hsx
        clear hl hsx
        go_wp2_with fail
        go_ret
        exact ⟨by rw [← HLL.out]; rfl, hbn⟩
      · obtain ⟨q, hq⟩ : ∃ q, q = u / 10 := ⟨_, rfl⟩
        obtain ⟨m2, hm2⟩ : ∃ m2 : Int, m2 = -(q : Int) := ⟨_, rfl⟩
        have e2 : m.tdiv 10 = m2 := by rw [HM.out, neg_tdiv, hm2, hq]
        have hq0 : ¬ m2 = 0 := by omega
        have hq0b : (m2 == 0) = false := by simpa using hq0
        have hs := num_step HX.out (by omega)
        rw [← HD.out, ← HC.out, ← hq] at hs
        have HSS := Lib.hid hs
        have HM2 := Lib.hid hm2
        have hr1 : m2 ≤ 0 := by omega
        have hr2 : -9223372036854775808 ≤ m2 := by omega
        have hqu : q < u := by omega
        have hsz : (C ++ X).size ≤ 21 := by
          have h1 := congrArg List.length HSS.out
          have h2 := HL.out
          rw [List.length_append] at h1
          have h3 : (C ++ X).data.toList.length = (C ++ X).size := Array.length_toList
          omega
        have HSZ := Lib.hid hsz
        clear hsz hs hm2 hq
        go_wp2_with fail
        go_roundg q
        case measure => omega
        case rel => exact ⟨q, C ++ X, m2, Nat.le_refl _, by omega, rfl, HM2, hr1, hr2, rfl, HSZ.out, HSS, hbn⟩
end Go.Proofs.YtdnijfkiebpnpaaGreatDoor

/- The document's own answer: a number as a decimal; two numbers held against each other. -/
namespace Go.Proofs.YtdnijfkiebpnpaaGreatDoor
open Go.RowKit

/-- A decimal text that says z, short enough for the document's own. -/
def SaysR (z : Int) (s : ByteArray) : Prop := chk s.data.toList = true ∧ dval s.data.toList = z ∧ s.size ≤ 1000000000
theorem refOfIntSays (n : Int) (h0 : -9223372036854775808 ≤ n) (h1 : n ≤ 9223372036854775807) (w : World) :
    Calls Tryz.prog 28 #[.int .i64 n] w fun e w' => ∃ s, e = .returned (.string s) ∧ SaysR (n * 10 ^ 54) s ∧ Below w.heap.size w w' := by
  obtain ⟨f1, f2, f3, f4⟩ := intT_facts n h0 h1
  have hS : SaysR (n * 10 ^ 54) (intT n) := ⟨f1, f2, by omega⟩
  by_cases hneg : n < 0
  · obtain ⟨u, rfl⟩ : ∃ u : Nat, n = -(u : Int) := ⟨n.natAbs, by omega⟩
    have hit : Lib.itoa (-(u : Int)) = 45 :: Lib.decDigits u := Lib.itoa_neg u (by omega)
    have e : intT (-(u : Int)) = ⟨#[45]⟩ ++ bs (Lib.decDigits u) ++ ⟨#[46, 48]⟩ := by
      apply ByteArray.ext
      apply Array.ext'
      unfold intT
      simp [ByteArray.data_append, hit]
    refine (refOfIntNeg u (by omega) (by omega) w _ (Lib.hid rfl)).mono ?_
    rintro e1 w' ⟨rfl, hb⟩
    exact ⟨_, rfl, e ▸ hS, hb⟩
  · obtain ⟨u, rfl⟩ := Int.eq_ofNat_of_zero_le (Int.not_lt.1 hneg)
    have hit : Lib.itoa (u : Int) = Lib.decDigits u := Lib.itoa_nonneg u
    have e : intT (u : Int) = bs (Lib.decDigits u) ++ ⟨#[46, 48]⟩ := by
      unfold intT
      rw [hit]
    refine (refOfIntNat u (by omega) w _ (Lib.hid rfl)).mono ?_
    rintro e1 w' ⟨rfl, hb⟩
    exact ⟨_, rfl, e ▸ hS, hb⟩
theorem zeroSays : SaysR 0 ⟨#[48, 46, 48]⟩ := by
  refine ⟨by decide, by decide, by decide⟩
set_option maxRecDepth 20000 in
set_option maxHeartbeats 1600000 in
theorem refDecAt (k : Int) (b : Bool) (n : Int) (t x : ByteArray) (p : Option Addr) (len cap : Nat) (w : World) (hf : Fine n t x len) :
    Calls Tryz.prog 15 #[.agg #[.int .i64 k, .bool b, .int .i64 n, .string t, .string x, .slice p len cap]] w fun e w' => ∃ s, e = .returned (.string s) ∧ SaysR (numV k n t) s ∧ Below w.heap.size w w' := by
  have S := six_new (k := k) (b := b) (n := n) (t := t) (x := x) (p := p) (len := len) (cap := cap) w rfl
  have b0 := below1 w (.cells #[.int .i64 k, .bool b, .int .i64 n, .string t, .string x, .slice p len cap] 26)
  have f0 := S.c0
  have f2 := S.c2
  have f3 := S.c3
  have HF := Lib.hid hf
  obtain ⟨z, hz⟩ : ∃ z, z = numV k n t := ⟨_, rfl⟩
  rw [← hz]
  by_cases h2 : k = 2
  · subst h2
    have hc := fun W => refOfIntSays n HF.out.lo HF.out.hi W
    have e : numV 2 n t = n * 10 ^ 54 := by unfold numV; rw [if_pos rfl]
    rw [← e, ← hz] at hc
    have HC := Lib.hid hc
    clear hc hz e hf
    go_enter Tryz.func15, Tryz.ntmps15
    go_wp2_with (go_at_call 28; (with_reducible refine (HC.out _).mono ?_); rintro e w1 ⟨s, rfl, hs, hb⟩; have HS := Lib.hid hs; clear hs; replace b0 := below_any b0 hb b0.size)
    go_ret
    exact ⟨s, rfl, HS.out, b0⟩
  · have e2 : (k == 2) = false := by simpa using h2
    have hc := fun W => refCheck t W (by have := hf.ht; omega)
    cases hk : chk t.data.toList with
    | true =>
      have hsay : Hid (SaysR z t) := Lib.hid (by rw [hz]; unfold numV; rw [if_neg h2, if_pos hk]; exact ⟨hk, rfl, by have := hf.ht; omega⟩)
      rw [hk] at hc
      clear h2 hk hf hz
      go_enter Tryz.func15, Tryz.ntmps15
      go_wp2_with (go_at_call 29; (with_reducible refine (hc _).mono ?_); rintro e w1 ⟨rfl, hb⟩; have S1 := S.below hb; have g3 := S1.c3; replace b0 := below_any b0 hb b0.size)
      go_ret
      exact ⟨t, rfl, hsay.out, b0⟩
    | false =>
      have hsay : Hid (SaysR z ⟨#[48, 46, 48]⟩) := Lib.hid (by rw [hz]; unfold numV; rw [if_neg h2, if_neg (by simp [hk])]; exact zeroSays)
      rw [hk] at hc
      clear h2 hk hf hz
      go_enter Tryz.func15, Tryz.ntmps15
      go_wp2_with (go_at_call 29; (with_reducible refine (hc _).mono ?_); rintro e w1 ⟨rfl, hb⟩; have S1 := S.below hb; have g3 := S1.c3; replace b0 := below_any b0 hb b0.size)
      go_ret
      exact ⟨_, rfl, hsay.out, b0⟩
theorem refCmpSays {z z2 : Int} {s s2 : ByteArray} (h : SaysR z s) (h2 : SaysR z2 s2) (w : World) :
    Calls Tryz.prog 14 #[.string s, .string s2] w fun e w' => e = .returned (.int .i64 (cmpZ z z2)) ∧ Below w.heap.size w w' := by
  have := refCmpYes s s2 w h.2.2 h2.2.2 h.1 h2.1
  rwa [h.2.1, h2.2.1] at this
end Go.Proofs.YtdnijfkiebpnpaaGreatDoor
