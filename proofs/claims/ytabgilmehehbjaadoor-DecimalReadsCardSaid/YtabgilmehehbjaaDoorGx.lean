/- Texts of one kind, one behind the other: each says ahead of itself what it shows. -/
import Derived.Test.YtabgilmehehbjaaDoorGw
import Derived.Test.YtabgilmehehbjaaDoorT1m
/- Two texts as the document takes them; sums, differences, order of them. -/
namespace Go.Proofs.YtabgilmehehbjaaDoor
open Go.RowKit

theorem parsedAny (s : ByteArray) (hs : s.size ≤ 1000000000) (o : Bool) (ho : o = okP (sgn s.data.toList).2) : ∃ N sc ds, ParsedAs s N sc ds o := by
  cases o with
  | false => exact ⟨false, 0, [], fun W => (refParsedNo s W hs ho.symm).mono fun _ _ ⟨h1, h2⟩ => ⟨_, h1, .inl ⟨rfl, rfl⟩, h2⟩⟩
  | true => exact ⟨(sgn s.data.toList).1, ((Lib.cut (sgn s.data.toList).2 [46]).2.1.length : Nat), revD ((Lib.cut (sgn s.data.toList).2 [46]).1 ++ (Lib.cut (sgn s.data.toList).2 [46]).2.1), fun W => refParsedYes s W hs ho.symm _ _ _ (Lib.hid rfl) (Lib.hid rfl) (Lib.hid rfl)⟩
theorem parsedYes (s : ByteArray) (hs : s.size ≤ 1000000000) (h : chk s.data.toList = true) : ∃ (N : Bool) (sc : Nat) (ds : List Nat), Dec s.data.toList N ds sc ∧ ParsedAs s N sc ds true := by
  obtain ⟨h1, h2⟩ := split_chk h
  exact ⟨_, _, _, h2, fun W => refParsedYes s W hs h1 _ _ _ (Lib.hid rfl) (Lib.hid rfl) (Lib.hid rfl)⟩
theorem checkedAs (s : ByteArray) (hs : s.size ≤ 1000000000) (c : Bool) (h : c = chk s.data.toList) : CheckedAs s c := fun W => refCheckB s c W hs (Lib.hid h)
/-- 'two' of two decimals. -/
def TwoAs (s t : ByteArray) (N1 : Bool) (s1 : Int) (d1 : List Nat) (N2 : Bool) (s2 : Int) (d2 : List Nat) (r : Bool) : Prop :=
  ∀ w, Calls Tryd.prog 44 #[.string s, .string t] w fun e w' => ∃ u v, e = .returned (.tuple #[.agg #[.bool N1, u, .int .i64 s1], .agg #[.bool N2, v, .int .i64 s2], .bool r]) ∧ Ints w' u d1 ∧ Ints w' v d2 ∧ Below w.heap.size w w'
theorem TwoAs.at {s t : ByteArray} {N1 N2 r : Bool} {s1 s2 : Int} {d1 d2 : List Nat} (h : TwoAs s t N1 s1 d1 N2 s2 d2 r) (w : World) : Calls Tryd.prog 44 #[.string s, .string t] w fun e w' => ∃ u v, e = .returned (.tuple #[.agg #[.bool N1, u, .int .i64 s1], .agg #[.bool N2, v, .int .i64 s2], .bool r]) ∧ Ints w' u d1 ∧ Ints w' v d2 ∧ Below w.heap.size w w' := h w
theorem twoYes (s t : ByteArray) (hs : s.size ≤ 1000000000) (ht : t.size ≤ 1000000000) (h : chk s.data.toList = true) (h2 : chk t.data.toList = true) :
    ∃ (N1 : Bool) (s1 : Nat) (d1 : List Nat) (N2 : Bool) (s2 : Nat) (d2 : List Nat), Dec s.data.toList N1 d1 s1 ∧ Dec t.data.toList N2 d2 s2 ∧ TwoAs s t N1 s1 d1 N2 s2 d2 true := by
  obtain ⟨N1, s1, d1, a1, p1⟩ := parsedYes s hs h
  obtain ⟨N2, s2, d2, a2, p2⟩ := parsedYes t ht h2
  exact ⟨N1, s1, d1, N2, s2, d2, a1, a2, fun w => two_ttt s t N1 N2 s1 s2 d1 d2 true w (Lib.hid p1) (Lib.hid p2) (Lib.hid (checkedAs s hs true h.symm)) (Lib.hid (checkedAs t ht true h2.symm))⟩
theorem twoNo (s t : ByteArray) (hs : s.size ≤ 1000000000) (ht : t.size ≤ 1000000000) (h : chk s.data.toList = false ∨ chk t.data.toList = false) :
    ∃ N1 s1 d1 N2 s2 d2, TwoAs s t N1 s1 d1 N2 s2 d2 false := by
  cases o1 : okP (sgn s.data.toList).2 with
  | false =>
    obtain ⟨N1, s1, d1, p1⟩ := parsedAny s hs false o1.symm
    obtain ⟨N2, s2, d2, p2⟩ := parsedAny t ht _ rfl
    exact ⟨N1, s1, d1, N2, s2, d2, fun w => two_f s t N1 N2 s1 s2 d1 d2 _ _ _ w (Lib.hid p1) (Lib.hid p2) (Lib.hid (checkedAs s hs _ rfl)) (Lib.hid (checkedAs t ht _ rfl))⟩
  | true =>
    obtain ⟨N1, s1, d1, p1⟩ := parsedAny s hs true o1.symm
    cases o2 : okP (sgn t.data.toList).2 with
    | false =>
      obtain ⟨N2, s2, d2, p2⟩ := parsedAny t ht false o2.symm
      exact ⟨N1, s1, d1, N2, s2, d2, fun w => two_tf s t N1 N2 s1 s2 d1 d2 _ _ w (Lib.hid p1) (Lib.hid p2) (Lib.hid (checkedAs s hs _ rfl)) (Lib.hid (checkedAs t ht _ rfl))⟩
    | true =>
      obtain ⟨N2, s2, d2, p2⟩ := parsedAny t ht true o2.symm
      cases c1 : chk s.data.toList with
      | false => exact ⟨N1, s1, d1, N2, s2, d2, fun w => two_ttf s t N1 N2 s1 s2 d1 d2 _ w (Lib.hid p1) (Lib.hid p2) (Lib.hid (checkedAs s hs _ c1.symm)) (Lib.hid (checkedAs t ht _ rfl))⟩
      | true =>
        have h2 : chk t.data.toList = false := h.resolve_left (by rw [c1]; decide)
        exact ⟨N1, s1, d1, N2, s2, d2, fun w => two_ttt s t N1 N2 s1 s2 d1 d2 false w (Lib.hid p1) (Lib.hid p2) (Lib.hid (checkedAs s hs _ c1.symm)) (Lib.hid (checkedAs t ht _ h2.symm))⟩

theorem sum_small {l r : List UInt8} (h : chk l = true) (h2 : chk r = true) : (dval l + dval r).natAbs < 10 ^ 144 ∧ (dval l - dval r).natAbs < 10 ^ 144 := by
  have a := dval_lt h
  have b := dval_lt h2
  have e : (10 : Nat) ^ 94 + 10 ^ 94 ≤ 10 ^ 144 := by decide
  omega
theorem plus_text {l r : List UInt8} {N1 N2 n : Bool} {d1 d2 zs : List Nat} {s1 s2 S : Nat} (h : chk l = true) (h2 : chk r = true) (a : Dec l N1 d1 s1) (b : Dec r N2 d2 s2) (e1 : s1 ≤ S) (e2 : s2 ≤ S) (eS : S ≤ 20) (hs : Small zs)
    (hv : sv n (val10 zs) = sv N1 (val10 d1 * 10 ^ (S - s1)) + sv N2 (val10 d2 * 10 ^ (S - s2))) : formP n zs S = txt (dval l + dval r) :=
  form_num hs (by omega) (by rw [nval_plus e1 e2 (by omega) hv, a.val, b.val]) (sum_small h h2).1
theorem minus_text {l r : List UInt8} {N1 N2 n : Bool} {d1 d2 zs : List Nat} {s1 s2 S : Nat} (h : chk l = true) (h2 : chk r = true) (a : Dec l N1 d1 s1) (b : Dec r N2 d2 s2) (e1 : s1 ≤ S) (e2 : s2 ≤ S) (eS : S ≤ 20) (hs : Small zs)
    (hv : sv n (val10 zs) = sv N1 (val10 d1 * 10 ^ (S - s1)) + sv (!N2) (val10 d2 * 10 ^ (S - s2))) : formP n zs S = txt (dval l - dval r) :=
  form_num hs (by omega) (by
    rw [nval_plus e1 e2 (by omega) hv, a.val, ← b.val]
    unfold nval
    rw [sv_not]; omega) (sum_small h h2).2
theorem two_size (W : World) : Below W.heap.size W ((W.alloc (.cells #[.bool false, .slice none 0 0, .int .i64 0] 44)).alloc (.cells #[.bool false, .slice none 0 0, .int .i64 0] 44)) := ((Below.refl _ _).alloc (Nat.le_refl _) _).alloc (by simp) _
theorem Rec.drew {w : World} {g : Nat} {n : Bool} {v : Value} {sc : Int} (h : Rec w g n v sc) : Rec w.drew g n v sc := h

set_option maxRecDepth 20000 in
set_option maxHeartbeats 1600000 in
theorem refAddNo (s t : ByteArray) (w : World) (hs : s.size ≤ 1000000000) (ht : t.size ≤ 1000000000) (h : chk s.data.toList = false ∨ chk t.data.toList = false) :
    Calls Tryd.prog 23 #[.string s, .string t] w fun e w' => e = .returned (.tuple #[.string ⟨#[]⟩, .int .i64 1]) ∧ Below w.heap.size w w' := by
  obtain ⟨N1, s1, d1, N2, s2, d2, HT⟩ := twoNo s t hs ht h
  have HC := Lib.hid HT
  clear HT h
  go_enter Tryd.func23, Tryd.ntmps23
  go_wp2_with (first
    | (go_at_call 44; (with_reducible refine (HC.out.at _).mono ?_); rintro e w1 ⟨u, v, rfl, hu, hv, hb⟩; have q6 : Rec ((w1.alloc (.cells #[.bool false, .slice none 0 0, .int .i64 0] 44)).alloc (.cells #[.bool false, .slice none 0 0, .int .i64 0] 44)) w1.heap.size false (.slice none 0 0) 0 := (rec_new w1 rfl).alloc _; have q7 : Rec ((w1.alloc (.cells #[.bool false, .slice none 0 0, .int .i64 0] 44)).alloc (.cells #[.bool false, .slice none 0 0, .int .i64 0] 44)) (w1.heap.size + 1) false (.slice none 0 0) 0 := rec_new _ (by simp)
       have UO := Lib.hid (And.intro (ints_one hu) (ints_one hv)); have UV := Lib.hid (And.intro (hu.below (two_size w1)) (And.intro (hv.below (two_size w1)) (below_any hb (two_size w1) hb.size))); have hw1 := hb.size; clear hu hv hb)
    | ((with_reducible refine wpList_store44 (m := N1) (u := u) (sd := s1) (.tmp 6) (.tmp 13) w1.heap.size q6 UO.out.1 ?_ ?_ ?_ ?_ ?_); rfl; rfl; rfl; rfl; intro w2 ho p6; have Q7 := Lib.hid (q7.only ho (by omega)); have UV2 := Lib.hid (And.intro (UV.out.1.rec ho q6) (And.intro (UV.out.2.1.rec ho q6) (below_only UV.out.2.2 ho (by omega) (Nat.le_of_lt (Nat.lt_of_le_of_lt hw1 q6.lt))))); clear ho UV q6 q7; have q7 := Q7.out; clear Q7)
    | ((with_reducible refine wpList_store44 (m := N2) (u := v) (sd := s2) (.tmp 7) (.tmp 14) (w1.heap.size + 1) q7 UO.out.2 ?_ ?_ ?_ ?_ ?_); rfl; rfl; rfl; rfl; intro w3 ho p7; have P6 := Lib.hid (p6.only ho (by omega)); have UV3 := Lib.hid (And.intro (UV2.out.1.rec ho q7) (And.intro (UV2.out.2.1.rec ho q7) (below_only UV2.out.2.2 ho (by omega) (Nat.le_of_lt (Nat.lt_of_le_of_lt (Nat.le_succ_of_le hw1) q7.lt))))); clear ho UV2 q7 p6; have p6 := P6.out; clear P6))
  go_ret2
  exact ⟨rfl, UV3.out.2.2⟩

set_option maxRecDepth 20000 in
set_option maxHeartbeats 1600000 in
theorem refSubNo (s t : ByteArray) (w : World) (hs : s.size ≤ 1000000000) (ht : t.size ≤ 1000000000) (h : chk s.data.toList = false ∨ chk t.data.toList = false) :
    Calls Tryd.prog 25 #[.string s, .string t] w fun e w' => e = .returned (.tuple #[.string ⟨#[]⟩, .int .i64 1]) ∧ Below w.heap.size w w' := by
  obtain ⟨N1, s1, d1, N2, s2, d2, HT⟩ := twoNo s t hs ht h
  have HC := Lib.hid HT
  clear HT h
  go_enter Tryd.func25, Tryd.ntmps25
  go_wp2_with (first
    | (go_at_call 44; (with_reducible refine (HC.out.at _).mono ?_); rintro e w1 ⟨u, v, rfl, hu, hv, hb⟩; have q6 : Rec ((w1.alloc (.cells #[.bool false, .slice none 0 0, .int .i64 0] 44)).alloc (.cells #[.bool false, .slice none 0 0, .int .i64 0] 44)) w1.heap.size false (.slice none 0 0) 0 := (rec_new w1 rfl).alloc _; have q7 : Rec ((w1.alloc (.cells #[.bool false, .slice none 0 0, .int .i64 0] 44)).alloc (.cells #[.bool false, .slice none 0 0, .int .i64 0] 44)) (w1.heap.size + 1) false (.slice none 0 0) 0 := rec_new _ (by simp)
       have UO := Lib.hid (And.intro (ints_one hu) (ints_one hv)); have UV := Lib.hid (And.intro (hu.below (two_size w1)) (And.intro (hv.below (two_size w1)) (below_any hb (two_size w1) hb.size))); have hw1 := hb.size; clear hu hv hb)
    | ((with_reducible refine wpList_store44 (m := N1) (u := u) (sd := s1) (.tmp 6) (.tmp 13) w1.heap.size q6 UO.out.1 ?_ ?_ ?_ ?_ ?_); rfl; rfl; rfl; rfl; intro w2 ho p6; have Q7 := Lib.hid (q7.only ho (by omega)); have UV2 := Lib.hid (And.intro (UV.out.1.rec ho q6) (And.intro (UV.out.2.1.rec ho q6) (below_only UV.out.2.2 ho (by omega) (Nat.le_of_lt (Nat.lt_of_le_of_lt hw1 q6.lt))))); clear ho UV q6 q7; have q7 := Q7.out; clear Q7)
    | ((with_reducible refine wpList_store44 (m := N2) (u := v) (sd := s2) (.tmp 7) (.tmp 14) (w1.heap.size + 1) q7 UO.out.2 ?_ ?_ ?_ ?_ ?_); rfl; rfl; rfl; rfl; intro w3 ho p7; have P6 := Lib.hid (p6.only ho (by omega)); have UV3 := Lib.hid (And.intro (UV2.out.1.rec ho q7) (And.intro (UV2.out.2.1.rec ho q7) (below_only UV2.out.2.2 ho (by omega) (Nat.le_of_lt (Nat.lt_of_le_of_lt (Nat.le_succ_of_le hw1) q7.lt))))); clear ho UV2 q7 p6; have p6 := P6.out; clear P6))
  go_ret2
  exact ⟨rfl, UV3.out.2.2⟩

set_option maxRecDepth 20000 in
set_option maxHeartbeats 1600000 in
theorem refMulNo (s t : ByteArray) (w : World) (hs : s.size ≤ 1000000000) (ht : t.size ≤ 1000000000) (h : chk s.data.toList = false ∨ chk t.data.toList = false) :
    Calls Tryd.prog 27 #[.string s, .string t] w fun e w' => e = .returned (.tuple #[.string ⟨#[]⟩, .int .i64 1]) ∧ Below w.heap.size w w' := by
  obtain ⟨N1, s1, d1, N2, s2, d2, HT⟩ := twoNo s t hs ht h
  have HC := Lib.hid HT
  clear HT h
  go_enter Tryd.func27, Tryd.ntmps27
  go_wp2_with (first
    | (go_at_call 44; (with_reducible refine (HC.out.at _).mono ?_); rintro e w1 ⟨u, v, rfl, hu, hv, hb⟩; have q6 : Rec ((w1.alloc (.cells #[.bool false, .slice none 0 0, .int .i64 0] 44)).alloc (.cells #[.bool false, .slice none 0 0, .int .i64 0] 44)) w1.heap.size false (.slice none 0 0) 0 := (rec_new w1 rfl).alloc _; have q7 : Rec ((w1.alloc (.cells #[.bool false, .slice none 0 0, .int .i64 0] 44)).alloc (.cells #[.bool false, .slice none 0 0, .int .i64 0] 44)) (w1.heap.size + 1) false (.slice none 0 0) 0 := rec_new _ (by simp)
       have UO := Lib.hid (And.intro (ints_one hu) (ints_one hv)); have UV := Lib.hid (And.intro (hu.below (two_size w1)) (And.intro (hv.below (two_size w1)) (below_any hb (two_size w1) hb.size))); have hw1 := hb.size; clear hu hv hb)
    | ((with_reducible refine wpList_store44 (m := N1) (u := u) (sd := s1) (.tmp 6) (.tmp 13) w1.heap.size q6 UO.out.1 ?_ ?_ ?_ ?_ ?_); rfl; rfl; rfl; rfl; intro w2 ho p6; have Q7 := Lib.hid (q7.only ho (by omega)); have UV2 := Lib.hid (And.intro (UV.out.1.rec ho q6) (And.intro (UV.out.2.1.rec ho q6) (below_only UV.out.2.2 ho (by omega) (Nat.le_of_lt (Nat.lt_of_le_of_lt hw1 q6.lt))))); clear ho UV q6 q7; have q7 := Q7.out; clear Q7)
    | ((with_reducible refine wpList_store44 (m := N2) (u := v) (sd := s2) (.tmp 7) (.tmp 14) (w1.heap.size + 1) q7 UO.out.2 ?_ ?_ ?_ ?_ ?_); rfl; rfl; rfl; rfl; intro w3 ho p7; have P6 := Lib.hid (p6.only ho (by omega)); have UV3 := Lib.hid (And.intro (UV2.out.1.rec ho q7) (And.intro (UV2.out.2.1.rec ho q7) (below_only UV2.out.2.2 ho (by omega) (Nat.le_of_lt (Nat.lt_of_le_of_lt (Nat.le_succ_of_le hw1) q7.lt))))); clear ho UV2 q7 p6; have p6 := P6.out; clear P6))
  go_ret2
  exact ⟨rfl, UV3.out.2.2⟩

set_option maxRecDepth 20000 in
set_option maxHeartbeats 1600000 in
theorem refDivNo (s t : ByteArray) (w : World) (hs : s.size ≤ 1000000000) (ht : t.size ≤ 1000000000) (h : chk s.data.toList = false ∨ chk t.data.toList = false) :
    Calls Tryd.prog 29 #[.string s, .string t] w fun e w' => e = .returned (.tuple #[.string ⟨#[]⟩, .int .i64 1]) ∧ Below w.heap.size w w' := by
  obtain ⟨N1, s1, d1, N2, s2, d2, HT⟩ := twoNo s t hs ht h
  have HC := Lib.hid HT
  clear HT h
  go_enter Tryd.func29, Tryd.ntmps29
  go_wp2_with (first
    | (go_at_call 44; (with_reducible refine (HC.out.at _).mono ?_); rintro e w1 ⟨u, v, rfl, hu, hv, hb⟩; have q6 : Rec ((w1.alloc (.cells #[.bool false, .slice none 0 0, .int .i64 0] 44)).alloc (.cells #[.bool false, .slice none 0 0, .int .i64 0] 44)) w1.heap.size false (.slice none 0 0) 0 := (rec_new w1 rfl).alloc _; have q7 : Rec ((w1.alloc (.cells #[.bool false, .slice none 0 0, .int .i64 0] 44)).alloc (.cells #[.bool false, .slice none 0 0, .int .i64 0] 44)) (w1.heap.size + 1) false (.slice none 0 0) 0 := rec_new _ (by simp)
       have UO := Lib.hid (And.intro (ints_one hu) (ints_one hv)); have UV := Lib.hid (And.intro (hu.below (two_size w1)) (And.intro (hv.below (two_size w1)) (below_any hb (two_size w1) hb.size))); have hw1 := hb.size; clear hu hv hb)
    | ((with_reducible refine wpList_store44 (m := N1) (u := u) (sd := s1) (.tmp 6) (.tmp 13) w1.heap.size q6 UO.out.1 ?_ ?_ ?_ ?_ ?_); rfl; rfl; rfl; rfl; intro w2 ho p6; have Q7 := Lib.hid (q7.only ho (by omega)); have UV2 := Lib.hid (And.intro (UV.out.1.rec ho q6) (And.intro (UV.out.2.1.rec ho q6) (below_only UV.out.2.2 ho (by omega) (Nat.le_of_lt (Nat.lt_of_le_of_lt hw1 q6.lt))))); clear ho UV q6 q7; have q7 := Q7.out; clear Q7)
    | ((with_reducible refine wpList_store44 (m := N2) (u := v) (sd := s2) (.tmp 7) (.tmp 14) (w1.heap.size + 1) q7 UO.out.2 ?_ ?_ ?_ ?_ ?_); rfl; rfl; rfl; rfl; intro w3 ho p7; have P6 := Lib.hid (p6.only ho (by omega)); have UV3 := Lib.hid (And.intro (UV2.out.1.rec ho q7) (And.intro (UV2.out.2.1.rec ho q7) (below_only UV2.out.2.2 ho (by omega) (Nat.le_of_lt (Nat.lt_of_le_of_lt (Nat.le_succ_of_le hw1) q7.lt))))); clear ho UV2 q7 p6; have p6 := P6.out; clear P6))
  go_ret2
  exact ⟨rfl, UV3.out.2.2⟩

set_option maxRecDepth 20000 in
set_option maxHeartbeats 1600000 in
theorem refCmpNo (s t : ByteArray) (w : World) (hs : s.size ≤ 1000000000) (ht : t.size ≤ 1000000000) (h : chk s.data.toList = false ∨ chk t.data.toList = false) :
    Calls Tryd.prog 21 #[.string s, .string t] w fun e w' => e = .returned (.int .i64 0) ∧ Below w.heap.size w w' := by
  obtain ⟨N1, s1, d1, N2, s2, d2, HT⟩ := twoNo s t hs ht h
  have HC := Lib.hid HT
  clear HT h
  go_enter Tryd.func21, Tryd.ntmps21
  go_wp2_with (first
    | (go_at_call 44; (with_reducible refine (HC.out.at _).mono ?_); rintro e w1 ⟨u, v, rfl, hu, hv, hb⟩; have q6 : Rec ((w1.alloc (.cells #[.bool false, .slice none 0 0, .int .i64 0] 44)).alloc (.cells #[.bool false, .slice none 0 0, .int .i64 0] 44)) w1.heap.size false (.slice none 0 0) 0 := (rec_new w1 rfl).alloc _; have q7 : Rec ((w1.alloc (.cells #[.bool false, .slice none 0 0, .int .i64 0] 44)).alloc (.cells #[.bool false, .slice none 0 0, .int .i64 0] 44)) (w1.heap.size + 1) false (.slice none 0 0) 0 := rec_new _ (by simp)
       have UO := Lib.hid (And.intro (ints_one hu) (ints_one hv)); have UV := Lib.hid (And.intro (hu.below (two_size w1)) (And.intro (hv.below (two_size w1)) (below_any hb (two_size w1) hb.size))); have hw1 := hb.size; clear hu hv hb)
    | ((with_reducible refine wpList_store44 (m := N1) (u := u) (sd := s1) (.tmp 5) (.tmp 13) w1.heap.size q6 UO.out.1 ?_ ?_ ?_ ?_ ?_); rfl; rfl; rfl; rfl; intro w2 ho p6; have Q7 := Lib.hid (q7.only ho (by omega)); have UV2 := Lib.hid (And.intro (UV.out.1.rec ho q6) (And.intro (UV.out.2.1.rec ho q6) (below_only UV.out.2.2 ho (by omega) (Nat.le_of_lt (Nat.lt_of_le_of_lt hw1 q6.lt))))); clear ho UV q6 q7; have q7 := Q7.out; clear Q7)
    | ((with_reducible refine wpList_store44 (m := N2) (u := v) (sd := s2) (.tmp 6) (.tmp 14) (w1.heap.size + 1) q7 UO.out.2 ?_ ?_ ?_ ?_ ?_); rfl; rfl; rfl; rfl; intro w3 ho p7; have P6 := Lib.hid (p6.only ho (by omega)); have UV3 := Lib.hid (And.intro (UV2.out.1.rec ho q7) (And.intro (UV2.out.2.1.rec ho q7) (below_only UV2.out.2.2 ho (by omega) (Nat.le_of_lt (Nat.lt_of_le_of_lt (Nat.le_succ_of_le hw1) q7.lt))))); clear ho UV2 q7 p6; have p6 := P6.out; clear P6))
  go_ret
  exact ⟨rfl, UV3.out.2.2⟩

set_option maxRecDepth 20000 in
set_option maxHeartbeats 1600000 in
theorem refAddYes (s t : ByteArray) (w : World) (hs : s.size ≤ 1000000000) (ht : t.size ≤ 1000000000) (h : chk s.data.toList = true) (h2 : chk t.data.toList = true) (x : ByteArray) (k : Int)
    (hv : said (txt (dval s.data.toList + dval t.data.toList)) = .tuple #[.string x, .int .i64 k]) :
    Calls Tryd.prog 23 #[.string s, .string t] w fun e w' => e = .returned (.tuple #[.string x, .int .i64 k]) ∧ Below w.heap.size w w' := by
  obtain ⟨N1, s1, d1, N2, s2, d2, a1, a2, HT⟩ := twoYes s t hs ht h h2
  obtain ⟨S, e1, e2, e3⟩ : ∃ S, s1 ≤ S ∧ s2 ≤ S ∧ (S = s1 ∨ S = s2) := ⟨max s1 s2, by omega, by omega, by omega⟩
  have eS : S ≤ 20 := by have := a1.sc; have := a2.sc; omega
  have A := Lib.hid (And.intro a1 (And.intro a2 (And.intro e1 (And.intro e2 (And.intro e3 eS)))))
  have HC := Lib.hid HT
  have HH := Lib.hid (And.intro h h2)
  have HV := Lib.hid hv
  clear a1 a2 e1 e2 e3 eS HT h h2 hv
  go_enter Tryd.func23, Tryd.ntmps23
  go_wp2_with (first
    | (go_at_call 44; (with_reducible refine (HC.out.at _).mono ?_); rintro e w1 ⟨u, v, rfl, hu, hv, hb⟩; have q6 : Rec ((w1.alloc (.cells #[.bool false, .slice none 0 0, .int .i64 0] 44)).alloc (.cells #[.bool false, .slice none 0 0, .int .i64 0] 44)) w1.heap.size false (.slice none 0 0) 0 := (rec_new w1 rfl).alloc _; have q7 : Rec ((w1.alloc (.cells #[.bool false, .slice none 0 0, .int .i64 0] 44)).alloc (.cells #[.bool false, .slice none 0 0, .int .i64 0] 44)) (w1.heap.size + 1) false (.slice none 0 0) 0 := rec_new _ (by simp)
       have UO := Lib.hid (And.intro (ints_one hu) (ints_one hv)); have UV := Lib.hid (And.intro (hu.below (two_size w1)) (And.intro (hv.below (two_size w1)) (below_any hb (two_size w1) hb.size))); have hw1 := hb.size; clear hu hv hb)
    | ((with_reducible refine wpList_store44 (m := N1) (u := u) (sd := s1) (.tmp 6) (.tmp 13) w1.heap.size q6 UO.out.1 ?_ ?_ ?_ ?_ ?_); rfl; rfl; rfl; rfl; intro w2 ho p6; have Q7 := Lib.hid (q7.only ho (by omega)); have UV2 := Lib.hid (And.intro (UV.out.1.rec ho q6) (And.intro (UV.out.2.1.rec ho q6) (below_only UV.out.2.2 ho (by omega) (Nat.le_of_lt (Nat.lt_of_le_of_lt hw1 q6.lt))))); clear ho UV q6 q7; have q7 := Q7.out; clear Q7)
    | ((with_reducible refine wpList_store44 (m := N2) (u := v) (sd := s2) (.tmp 7) (.tmp 14) (w1.heap.size + 1) q7 UO.out.2 ?_ ?_ ?_ ?_ ?_); rfl; rfl; rfl; rfl; intro w3 ho p7; have P6 := Lib.hid (p6.only ho (by omega)); have UV3 := Lib.hid (And.intro (UV2.out.1.rec ho q7) (And.intro (UV2.out.2.1.rec ho q7) (below_only UV2.out.2.2 ho (by omega) (Nat.le_of_lt (Nat.lt_of_le_of_lt (Nat.le_succ_of_le hw1) q7.lt))))); clear ho UV2 q7 p6; have p6 := P6.out; clear P6)
    | ((with_reducible refine wpList_load44 (.tmp 6) w1.heap.size p6 ?_ ?_ ?_ ?_); rfl; rfl; rfl)
    | ((with_reducible refine wpList_load44 (.tmp 7) (w1.heap.size + 1) p7 ?_ ?_ ?_ ?_); rfl; rfl; rfl)
    | (go_at_call 45; (with_reducible refine (refPlus N1 N2 u v d1 d2 s1 s2 S _ UV3.out.1 UV3.out.2.1 A.out.1.small A.out.2.1.small A.out.2.2.1 A.out.2.2.2.1 A.out.2.2.2.2.1 (by have := A.out.2.2.2.2.2; omega) (by have := A.out.1.len; omega) (by have := A.out.2.1.len; omega)).mono ?_); rintro e w4 ⟨n, z, zs, rfl, hz, hzs, hval, hlen, hb4⟩
       have HZ := Lib.hid (And.intro hz (And.intro hzs (And.intro (show zs.length ≤ 1000000000 by have := A.out.1.len; have := A.out.2.1.len; have := A.out.2.2.2.2.2; omega) (below_any UV3.out.2.2 hb4 UV3.out.2.2.size)))); have HX : Hid (said (formP n zs S) = .tuple #[.string x, .int .i64 k]) := Lib.hid (by rw [plus_text HH.out.1 HH.out.2 A.out.1 A.out.2.1 A.out.2.2.1 A.out.2.2.2.1 A.out.2.2.2.2.2 hzs hval]; exact HV.out); clear hz hzs hval hlen hb4)
    | (go_at_call 38; (with_reducible refine (refFormS n z zs S _ HZ.out.1 HZ.out.2.1 (by have := A.out.2.2.2.2.2; omega) HZ.out.2.2.1 x k HX).mono ?_); rintro e w5 ⟨rfl, hb5⟩; have HB := Lib.hid (below_any HZ.out.2.2.2 hb5 HZ.out.2.2.2.size); clear hb5))
  go_ret2
  exact ⟨rfl, HB.out⟩
end Go.Proofs.YtabgilmehehbjaaDoor

/- Differences and the order, as the document takes them. -/
namespace Go.Proofs.YtabgilmehehbjaaDoor
open Go.RowKit

set_option maxRecDepth 20000 in
set_option maxHeartbeats 1600000 in
theorem refSubYes (s t : ByteArray) (w : World) (hs : s.size ≤ 1000000000) (ht : t.size ≤ 1000000000) (h : chk s.data.toList = true) (h2 : chk t.data.toList = true) (x : ByteArray) (k : Int)
    (hv : said (txt (dval s.data.toList - dval t.data.toList)) = .tuple #[.string x, .int .i64 k]) :
    Calls Tryd.prog 25 #[.string s, .string t] w fun e w' => e = .returned (.tuple #[.string x, .int .i64 k]) ∧ Below w.heap.size w w' := by
  obtain ⟨N1, s1, d1, N2, s2, d2, a1, a2, HT⟩ := twoYes s t hs ht h h2
  obtain ⟨S, e1, e2, e3⟩ : ∃ S, s1 ≤ S ∧ s2 ≤ S ∧ (S = s1 ∨ S = s2) := ⟨max s1 s2, by omega, by omega, by omega⟩
  have eS : S ≤ 20 := by have := a1.sc; have := a2.sc; omega
  have A := Lib.hid (And.intro a1 (And.intro a2 (And.intro e1 (And.intro e2 (And.intro e3 eS)))))
  have HC := Lib.hid HT
  have HH := Lib.hid (And.intro h h2)
  have HV := Lib.hid hv
  clear a1 a2 e1 e2 e3 eS HT h h2 hv
  go_enter Tryd.func25, Tryd.ntmps25
  go_upto_region 5 with (first
    | (go_at_call 44; (with_reducible refine (HC.out.at _).mono ?_); rintro e w1 ⟨u, v, rfl, hu, hv, hb⟩; have q6 : Rec ((w1.alloc (.cells #[.bool false, .slice none 0 0, .int .i64 0] 44)).alloc (.cells #[.bool false, .slice none 0 0, .int .i64 0] 44)) w1.heap.size false (.slice none 0 0) 0 := (rec_new w1 rfl).alloc _; have q7 : Rec ((w1.alloc (.cells #[.bool false, .slice none 0 0, .int .i64 0] 44)).alloc (.cells #[.bool false, .slice none 0 0, .int .i64 0] 44)) (w1.heap.size + 1) false (.slice none 0 0) 0 := rec_new _ (by simp)
       have UO := Lib.hid (And.intro (ints_one hu) (ints_one hv)); have UV := Lib.hid (And.intro (hu.below (two_size w1)) (And.intro (hv.below (two_size w1)) (below_any hb (two_size w1) hb.size))); have hw1 := hb.size; clear hu hv hb)
    | ((with_reducible refine wpList_store44 (m := N1) (u := u) (sd := s1) (.tmp 6) (.tmp 13) w1.heap.size q6 UO.out.1 ?_ ?_ ?_ ?_ ?_); rfl; rfl; rfl; rfl; intro w2 ho p6; have Q7 := Lib.hid (q7.only ho (by omega)); have UV2 := Lib.hid (And.intro (UV.out.1.rec ho q6) (And.intro (UV.out.2.1.rec ho q6) (below_only UV.out.2.2 ho (by omega) (Nat.le_of_lt (Nat.lt_of_le_of_lt hw1 q6.lt))))); clear ho UV q6 q7; have q7 := Q7.out; clear Q7)
    | ((with_reducible refine wpList_store44 (m := N2) (u := v) (sd := s2) (.tmp 7) (.tmp 14) (w1.heap.size + 1) q7 UO.out.2 ?_ ?_ ?_ ?_ ?_); rfl; rfl; rfl; rfl; intro w3 ho p7; have P6 := Lib.hid (p6.only ho (by omega)); have UV3 := Lib.hid (And.intro (UV2.out.1.rec ho q7) (And.intro (UV2.out.2.1.rec ho q7) (below_only UV2.out.2.2 ho (by omega) (Nat.le_of_lt (Nat.lt_of_le_of_lt (Nat.le_succ_of_le hw1) q7.lt))))); clear ho UV2 q7 p6; have p6 := P6.out; clear P6; have c0 := p7.c0; have f0 : w3.frozen? ⟨w1.heap.size + 1, 0, none⟩ = false := free_of p7 0))
  have ho4 : Only (w1.heap.size + 1) w3 (w3.setCell ⟨w1.heap.size + 1, 0, none⟩ (.bool (!N2))) := (Only.refl _ _).setCell _ _ _
  have p7s := p7.set0 (!N2)
  have P6 := Lib.hid (p6.only ho4 (by omega))
  have UV4 := Lib.hid (And.intro (UV3.out.1.rec ho4 p7) (And.intro (UV3.out.2.1.rec ho4 p7) (below_only UV3.out.2.2 ho4 (by omega) (Nat.le_of_lt (Nat.lt_of_le_of_lt (Nat.le_succ_of_le hw1) p7.lt)))))
  have P7 := Lib.hid p7s
  clear ho4 p7s p7 p6 c0 f0 UV3
  generalize w3.setCell ⟨w1.heap.size + 1, 0, none⟩ (.bool (!N2)) = w3s at *
  have p6 := P6.out
  have p7 := P7.out
  clear P6 P7
  go_wp2_with (first
    | ((with_reducible refine wpList_load44 (.tmp 6) w1.heap.size p6 ?_ ?_ ?_ ?_); rfl; rfl; rfl)
    | ((with_reducible refine wpList_load44 (.tmp 7) (w1.heap.size + 1) p7 ?_ ?_ ?_ ?_); rfl; rfl; rfl)
    | (go_at_call 45; (with_reducible refine (refPlus N1 (!N2) u v d1 d2 s1 s2 S _ UV4.out.1 UV4.out.2.1 A.out.1.small A.out.2.1.small A.out.2.2.1 A.out.2.2.2.1 A.out.2.2.2.2.1 (by have := A.out.2.2.2.2.2; omega) (by have := A.out.1.len; omega) (by have := A.out.2.1.len; omega)).mono ?_); rintro e w4 ⟨n, z, zs, rfl, hz, hzs, hval, hlen, hb4⟩
       have HZ := Lib.hid (And.intro hz (And.intro hzs (And.intro (show zs.length ≤ 1000000000 by have := A.out.1.len; have := A.out.2.1.len; have := A.out.2.2.2.2.2; omega) (below_any UV4.out.2.2 hb4 UV4.out.2.2.size)))); have HX : Hid (said (formP n zs S) = .tuple #[.string x, .int .i64 k]) := Lib.hid (by rw [minus_text HH.out.1 HH.out.2 A.out.1 A.out.2.1 A.out.2.2.1 A.out.2.2.2.1 A.out.2.2.2.2.2 hzs hval]; exact HV.out); clear hz hzs hval hlen hb4)
    | (go_at_call 38; (with_reducible refine (refFormS n z zs S _ HZ.out.1 HZ.out.2.1 (by have := A.out.2.2.2.2.2; omega) HZ.out.2.2.1 x k HX).mono ?_); rintro e w5 ⟨rfl, hb5⟩; have HB := Lib.hid (below_any HZ.out.2.2.2 hb5 HZ.out.2.2.2.size); clear hb5))
  go_ret2
  exact ⟨rfl, HB.out⟩

/-- The order from the sign of the difference. -/
theorem cmp_sign {l r : List UInt8} {N1 N2 n : Bool} {d1 d2 zs : List Nat} {s1 s2 S : Nat} (a : Dec l N1 d1 s1) (b : Dec r N2 d2 s2) (e1 : s1 ≤ S) (e2 : s2 ≤ S) (eS : S ≤ 20)
    (hv : sv n (val10 zs) = sv N1 (val10 d1 * 10 ^ (S - s1)) + sv (!N2) (val10 d2 * 10 ^ (S - s2))) : cmpZ (dval l) (dval r) = if val10 zs = 0 then 0 else if n = true then -1 else 1 := by
  have e : nval n zs S = dval l - dval r := by
    rw [nval_plus e1 e2 (by omega) hv, a.val, ← b.val]
    unfold nval
    rw [sv_not]; omega
  have hp : 0 < 10 ^ (54 - S) := Nat.pow_pos (by decide)
  unfold nval at e
  by_cases h0 : val10 zs = 0
  · rw [if_pos h0]
    rw [h0, Nat.zero_mul, sv_zero] at e
    rw [cmpZ_zero]; omega
  · rw [if_neg h0]
    have hq : 0 < val10 zs * 10 ^ (54 - S) := Nat.mul_pos (by omega) hp
    generalize val10 zs * 10 ^ (54 - S) = q at *
    unfold cmpZ
    cases n with
    | true =>
      have : sv true q = -(q : Int) := rfl
      rw [if_pos (by omega : dval l < dval r)]; rfl
    | false =>
      have : sv false q = (q : Int) := rfl
      rw [if_neg (by omega : ¬ dval l < dval r), if_pos (by omega : dval r < dval l)]; rfl

set_option maxRecDepth 20000 in
set_option maxHeartbeats 1600000 in
theorem refCmpYes (s t : ByteArray) (w : World) (hs : s.size ≤ 1000000000) (ht : t.size ≤ 1000000000) (h : chk s.data.toList = true) (h2 : chk t.data.toList = true) :
    Calls Tryd.prog 21 #[.string s, .string t] w fun e w' => e = .returned (.int .i64 (cmpZ (dval s.data.toList) (dval t.data.toList))) ∧ Below w.heap.size w w' := by
  obtain ⟨N1, s1, d1, N2, s2, d2, a1, a2, HT⟩ := twoYes s t hs ht h h2
  obtain ⟨S, e1, e2, e3⟩ : ∃ S, s1 ≤ S ∧ s2 ≤ S ∧ (S = s1 ∨ S = s2) := ⟨max s1 s2, by omega, by omega, by omega⟩
  have eS : S ≤ 20 := by have := a1.sc; have := a2.sc; omega
  have A := Lib.hid (And.intro a1 (And.intro a2 (And.intro e1 (And.intro e2 (And.intro e3 eS)))))
  have HC := Lib.hid HT
  have HH := Lib.hid (And.intro h h2)
  obtain ⟨r, hr⟩ : ∃ r, r = cmpZ (dval s.data.toList) (dval t.data.toList) := ⟨_, rfl⟩
  rw [← hr]
  have HR := Lib.hid hr
  clear a1 a2 e1 e2 e3 eS HT h h2 hr
  go_enter Tryd.func21, Tryd.ntmps21
  go_upto_region 5 with (first
    | (go_at_call 44; (with_reducible refine (HC.out.at _).mono ?_); rintro e w1 ⟨u, v, rfl, hu, hv, hb⟩; have q6 : Rec ((w1.alloc (.cells #[.bool false, .slice none 0 0, .int .i64 0] 44)).alloc (.cells #[.bool false, .slice none 0 0, .int .i64 0] 44)) w1.heap.size false (.slice none 0 0) 0 := (rec_new w1 rfl).alloc _; have q7 : Rec ((w1.alloc (.cells #[.bool false, .slice none 0 0, .int .i64 0] 44)).alloc (.cells #[.bool false, .slice none 0 0, .int .i64 0] 44)) (w1.heap.size + 1) false (.slice none 0 0) 0 := rec_new _ (by simp)
       have UO := Lib.hid (And.intro (ints_one hu) (ints_one hv)); have UV := Lib.hid (And.intro (hu.below (two_size w1)) (And.intro (hv.below (two_size w1)) (below_any hb (two_size w1) hb.size))); have hw1 := hb.size; clear hu hv hb)
    | ((with_reducible refine wpList_store44 (m := N1) (u := u) (sd := s1) (.tmp 5) (.tmp 13) w1.heap.size q6 UO.out.1 ?_ ?_ ?_ ?_ ?_); rfl; rfl; rfl; rfl; intro w2 ho p6; have Q7 := Lib.hid (q7.only ho (by omega)); have UV2 := Lib.hid (And.intro (UV.out.1.rec ho q6) (And.intro (UV.out.2.1.rec ho q6) (below_only UV.out.2.2 ho (by omega) (Nat.le_of_lt (Nat.lt_of_le_of_lt hw1 q6.lt))))); clear ho UV q6 q7; have q7 := Q7.out; clear Q7)
    | ((with_reducible refine wpList_store44 (m := N2) (u := v) (sd := s2) (.tmp 6) (.tmp 14) (w1.heap.size + 1) q7 UO.out.2 ?_ ?_ ?_ ?_ ?_); rfl; rfl; rfl; rfl; intro w3 ho p7; have P6 := Lib.hid (p6.only ho (by omega)); have UV3 := Lib.hid (And.intro (UV2.out.1.rec ho q7) (And.intro (UV2.out.2.1.rec ho q7) (below_only UV2.out.2.2 ho (by omega) (Nat.le_of_lt (Nat.lt_of_le_of_lt (Nat.le_succ_of_le hw1) q7.lt))))); clear ho UV2 q7 p6; have p6 := P6.out; clear P6; have c0 := p7.c0; have f0 : w3.frozen? ⟨w1.heap.size + 1, 0, none⟩ = false := free_of p7 0))
  have ho4 : Only (w1.heap.size + 1) w3 (w3.setCell ⟨w1.heap.size + 1, 0, none⟩ (.bool (!N2))) := (Only.refl _ _).setCell _ _ _
  have p7s := p7.set0 (!N2)
  have P6 := Lib.hid (p6.only ho4 (by omega))
  have UV4 := Lib.hid (And.intro (UV3.out.1.rec ho4 p7) (And.intro (UV3.out.2.1.rec ho4 p7) (below_only UV3.out.2.2 ho4 (by omega) (Nat.le_of_lt (Nat.lt_of_le_of_lt (Nat.le_succ_of_le hw1) p7.lt)))))
  have P7 := Lib.hid p7s
  clear ho4 p7s p7 p6 c0 f0 UV3
  generalize w3.setCell ⟨w1.heap.size + 1, 0, none⟩ (.bool (!N2)) = w3s at *
  have p6 := P6.out
  have p7 := P7.out
  clear P6 P7
  go_upto_region 6 with (first
    | ((with_reducible refine wpList_load44 (.tmp 5) w1.heap.size p6 ?_ ?_ ?_ ?_); rfl; rfl; rfl)
    | ((with_reducible refine wpList_load44 (.tmp 6) (w1.heap.size + 1) p7 ?_ ?_ ?_ ?_); rfl; rfl; rfl)
    | (go_at_call 45; (with_reducible refine (refPlus N1 (!N2) u v d1 d2 s1 s2 S _ UV4.out.1 UV4.out.2.1 A.out.1.small A.out.2.1.small A.out.2.2.1 A.out.2.2.2.1 A.out.2.2.2.2.1 (by have := A.out.2.2.2.2.2; omega) (by have := A.out.1.len; omega) (by have := A.out.2.1.len; omega)).mono ?_); rintro e w4 ⟨n, z, zs, rfl, hz, hzs, hval, hlen, hb4⟩
       have HCS := Lib.hid (cmp_sign A.out.1 A.out.2.1 A.out.2.2.1 A.out.2.2.2.1 A.out.2.2.2.2.2 hval); have z8 := rec_new w4 rfl; have HO8 := Lib.hid (ints_one hz)
       have HZ := Lib.hid (And.intro (hz.below ((Below.refl w4.heap.size w4).alloc (Nat.le_refl _) (.cells #[.bool false, .slice none 0 0, .int .i64 0] 44))) (And.intro (show zs.length ≤ 9223372036854775807 by have := A.out.1.len; have := A.out.2.1.len; have := A.out.2.2.2.2.2; omega) ((below_any UV4.out.2.2 hb4 UV4.out.2.2.size).alloc (Nat.le_trans UV4.out.2.2.size hb4.size) (.cells #[.bool false, .slice none 0 0, .int .i64 0] 44)))); have hw4 := Nat.le_trans UV4.out.2.2.size hb4.size; clear hz hzs hval hlen hb4)
    | ((with_reducible refine wpList_store44 (m := n) (u := z) (sd := S) (.tmp 8) (.tmp 24) w4.heap.size z8 HO8.out ?_ ?_ ?_ ?_ ?_); rfl; rfl; rfl; rfl; intro w5 ho p8; have HY := Lib.hid (And.intro (HZ.out.1.rec ho z8) (below_only HZ.out.2.2 ho hw4 (Nat.le_of_lt (Nat.lt_of_le_of_lt hw4 z8.lt)))); clear ho z8))
  have c0 := p8.c0
  have c1 := p8.c1
  by_cases h0 : val10 zs = 0
  · obtain rfl : r = 0 := by rw [HR.out, HCS.out, if_pos h0]
    have HD0 : Hid (true = decide (val10 zs = 0)) := Lib.hid (by simp [h0])
    clear h0 HR HCS p6 p7
    go_wp2_with (go_at_call 46; (with_reducible refine (refZero _ zs _ HY.out.1 HZ.out.2.1 true HD0.out).mono ?_); rintro e w' ⟨rfl, rfl⟩)
    go_ret
    exact ⟨rfl, HY.out.2⟩
  · have HD0 : Hid (false = decide (val10 zs = 0)) := Lib.hid (by simp [h0])
    have hrn : r = if n = true then -1 else 1 := by rw [HR.out, HCS.out, if_neg h0]
    cases n with
    | true =>
      obtain rfl : r = -1 := by rw [hrn, if_pos rfl]
      clear h0 HR HCS hrn p6 p7
      go_wp2_with (go_at_call 46; (with_reducible refine (refZero _ zs _ HY.out.1 HZ.out.2.1 false HD0.out).mono ?_); rintro e w' ⟨rfl, rfl⟩)
      go_ret
      exact ⟨rfl, HY.out.2⟩
    | false =>
      obtain rfl : r = 1 := by rw [hrn, if_neg (by decide)]
      clear h0 HR HCS hrn p6 p7
      go_wp2_with (go_at_call 46; (with_reducible refine (refZero _ zs _ HY.out.1 HZ.out.2.1 false HD0.out).mono ?_); rintro e w' ⟨rfl, rfl⟩)
      go_ret
      exact ⟨rfl, HY.out.2⟩

theorem chkZ : chk [48, 46, 48] = true := by kernel_rfl
theorem dvalZ : dval [48, 46, 48] = 0 := by decide +kernel
theorem refNegYes (s : ByteArray) (w : World) (hs : s.size ≤ 1000000000) (h : chk s.data.toList = true) (x : ByteArray) (k : Int) (hv : said (txt (-dval s.data.toList)) = .tuple #[.string x, .int .i64 k]) :
    Calls Tryd.prog 31 #[.string s] w fun e w' => e = .returned (.tuple #[.string x, .int .i64 k]) ∧ Below w.heap.size w w' := by
  have hc : ∀ W, Calls Tryd.prog 25 #[.string ⟨#[48, 46, 48]⟩, .string s] W fun e w' => e = .returned (.tuple #[.string x, .int .i64 k]) ∧ Below W.heap.size W w' := fun W =>
    refSubYes ⟨#[48, 46, 48]⟩ s W (by decide) hs chkZ h x k (by rw [show (ByteArray.mk #[48, 46, 48]).data.toList = [48, 46, 48] from rfl, dvalZ, Int.zero_sub]; exact hv)
  have HC := Lib.hid hc
  clear hc hv h
  go_enter Tryd.func31, Tryd.ntmps31
  go_wp2_with (go_at_call 25; (with_reducible refine (HC.out _).mono ?_); rintro e w1 ⟨rfl, hb⟩)
  go_ret2
  exact ⟨rfl, hb⟩
theorem refNegNo (s : ByteArray) (w : World) (hs : s.size ≤ 1000000000) (h : chk s.data.toList = false) :
    Calls Tryd.prog 31 #[.string s] w fun e w' => e = .returned (.tuple #[.string ⟨#[]⟩, .int .i64 1]) ∧ Below w.heap.size w w' := by
  have hc : ∀ W, Calls Tryd.prog 25 #[.string ⟨#[48, 46, 48]⟩, .string s] W fun e w' => e = .returned (.tuple #[.string ⟨#[]⟩, .int .i64 1]) ∧ Below W.heap.size W w' := fun W =>
    refSubNo ⟨#[48, 46, 48]⟩ s W (by decide) hs (.inr h)
  have HC := Lib.hid hc
  clear hc h
  go_enter Tryd.func31, Tryd.ntmps31
  go_wp2_with (go_at_call 25; (with_reducible refine (HC.out _).mono ?_); rintro e w1 ⟨rfl, hb⟩)
  go_ret2
  exact ⟨rfl, hb⟩
end Go.Proofs.YtabgilmehehbjaaDoor

/- The sum of a list, as the document takes it. -/
namespace Go.Proofs.YtabgilmehehbjaaDoor
open Go.RowKit

/-- The texts that a slice holds. -/
def StrsP (w : World) (p : Option Addr) (n : Nat) (S : Nat → ByteArray) : Prop := ∀ i, i < n → ∃ b off, p = some ⟨b, off, none⟩ ∧ w.cell? ⟨b, off + i, none⟩ = some (.string (S i))
theorem StrsP.below {w w' : World} {p : Option Addr} {n : Nat} {S : Nat → ByteArray} (h : StrsP w p n S) (k : Below w.heap.size w w') : StrsP w' p n S := fun i hi => by
  obtain ⟨b, off, e, hc⟩ := h i hi
  exact ⟨b, off, e, (k.cell (p := ⟨b, off + i, none⟩) (World.block_lt_of_cell? w _ hc)).trans hc⟩
/-- The sum so far. -/
structure SumSt (w : World) (S : Nat → ByteArray) (i : Nat) (n : Bool) (z : Value) (zs : List Nat) (sc : Nat) (wr : World) : Prop where
  rc : Rec wr (w.heap.size + 1) n z sc
  ints : Ints wr z zs
  small : Small zs
  val : nval n zs sc = sumTo S i
  sc20 : sc ≤ 20
  len : zs.length ≤ 1 + 101 * i
  bel : Below w.heap.size w wr
theorem sum_abs {S : Nat → ByteArray} {n : Nat} (h : ∀ i, i < n → chk (S i).data.toList = true) (hn : n ≤ 1000000) : (sumTo S n).natAbs < 10 ^ 144 := by
  have h1 := sumTo_le S n h n (Nat.le_refl _)
  have h2 : n * 10 ^ 94 ≤ 1000000 * 10 ^ 94 := Nat.mul_le_mul_right _ hn
  have h3 : (1000000 : Nat) * 10 ^ 94 < 10 ^ 144 := by decide
  omega
theorem sum_form {S : Nat → ByteArray} {w wr : World} {i : Nat} {n : Bool} {z : Value} {zs : List Nat} {sc : Nat} (h : SumSt w S i n z zs sc wr) (hk : ∀ j, j < i → chk (S j).data.toList = true) (hn : i ≤ 1000000) : formP n zs sc = txt (sumTo S i) :=
  form_num h.small (by have := h.sc20; omega) h.val (sum_abs hk hn)
theorem rec_le {w w' : World} {g : Nat} {n : Bool} {v : Value} {sc : Int} (h : Rec w g n v sc) (k : Below w.heap.size w w') : g < w'.heap.size := (h.below k).lt

set_option maxRecDepth 20000 in
set_option maxHeartbeats 3200000 in
theorem refSumAll (p : Option Addr) (n cap : Nat) (S : Nat → ByteArray) (w : World) (hS : StrsP w p n S) (hn : n ≤ 100000) (hz : ∀ i, i < n → (S i).size ≤ 1000000000) (m : Nat) (hm : m ≤ n) (hk : ∀ i, i < m → chk (S i).data.toList = true) (x : ByteArray) (k : Int)
    (hv : (m = n ∧ said (txt (sumTo S n)) = .tuple #[.string x, .int .i64 k]) ∨ (m < n ∧ chk (S m).data.toList = false ∧ x = ⟨#[]⟩ ∧ k = 1)) :
    Calls Tryd.prog 33 #[.slice p n cap] w fun e w' => e = .returned (.tuple #[.string x, .int .i64 k]) ∧ Below w.heap.size w w' := by
  have q4 : Rec ((w.alloc (.cells #[.int .i64 0] 3)).alloc (.cells #[.bool false, .slice none 0 0, .int .i64 0] 44)) (w.heap.size + 1) false (.slice none 0 0) 0 := rec_new _ (by simp)
  have i4 : Ints ((w.alloc (.cells #[.int .i64 0] 3)).alloc (.cells #[.bool false, .slice none 0 0, .int .i64 0] 44)) (.slice (some ⟨w.heap.size, 0, none⟩) 1 1) [0] := .inr ⟨w.heap.size, 0, 1, rfl, fun i hi => by
    have : i = 0 := by simp at hi; exact hi
    subst this
    exact cell_of (heap_old _ (heap_new w _ rfl)) _ rfl, _, heap_old _ (heap_new w _ rfl)⟩
  have hb0 : Below w.heap.size w ((w.alloc (.cells #[.int .i64 0] 3)).alloc (.cells #[.bool false, .slice none 0 0, .int .i64 0] 44)) := ((Below.refl _ _).alloc (Nat.le_refl _) _).alloc (by simp) _
  have Q := Lib.hid (And.intro i4 hb0)
  have HS := Lib.hid hS
  have HZ := Lib.hid hz
  have HK := Lib.hid hk
  have HV := Lib.hid hv
  clear i4 hb0 hS hz hk hv
  go_enter Tryd.func33, Tryd.ntmps33
  go_wp2_with ((with_reducible refine wpList_store44 (m := false) (u := .slice (some ⟨w.heap.size, 0, none⟩) 1 1) (sd := 0) (.tmp 4) (.tmp 9) (w.heap.size + 1) q4 rfl ?_ ?_ ?_ ?_ ?_); rfl; rfl; rfl; rfl; intro w2 ho p4; have HST : Hid (SumSt w S 0 false (.slice (some ⟨w.heap.size, 0, none⟩) 1 1) [0] 0 w2) := Lib.hid ⟨p4, Q.out.1.rec ho q4, (fun j => by cases j <;> simp [dig]), by (rw [show nval false [0] 0 = 0 by decide]; rfl), by omega, by simp, below_only Q.out.2 ho (by omega) (by simp; omega)⟩; clear ho q4 p4 Q)
  go_loopg [5] m (fun gg s5 wr => ∃ (i : Nat) (n0 : Bool) (z : Value) (zs : List Nat) (sc : Nat), i + gg = m ∧ s5 = .int .i64 i ∧ SumSt w S i n0 z zs sc wr)
  case atStart => exact ⟨0, _, _, _, 0, by omega, rfl, HST.out⟩
  case round =>
    clear HST
    obtain ⟨i, n0, z, zs, sc, hig, rfl, hst⟩ := hrel
    have HT := Lib.hid hst
    clear hst
    by_cases hlm : i < m
    · have hi : i < n := by omega
      have hin : (i : Int) < n := by omega
      obtain ⟨b, off, hpe, hc⟩ := (HS.out.below HT.out.bel) i hi
      subst hpe
      have hs := HZ.out i hi
      have hk := HK.out i hlm
      obtain ⟨N2, s2, d2, a2, p2⟩ := parsedYes (S i) hs hk
      have HP := Lib.hid p2
      have HC := Lib.hid (checkedAs (S i) hs true hk.symm)
      have HA := Lib.hid a2
      obtain ⟨s, hse⟩ : ∃ s, s = S i := ⟨_, rfl⟩
      rw [← hse] at hc HP HC HA hs
      have HSE := Lib.hid hse
      obtain ⟨T, e1, e2, e3⟩ : ∃ T, sc ≤ T ∧ s2 ≤ T ∧ (T = sc ∨ T = s2) := ⟨max sc s2, by omega, by omega, by omega⟩
      have eT : T ≤ 20 := by have := a2.sc; have := HT.out.sc20; omega
      have A := Lib.hid (And.intro e1 (And.intro e2 (And.intro e3 eT)))
      clear p2 hk a2 hse e1 e2 e3 eT
      go_wp2_with (first
        | (go_at_call 37; (with_reducible refine (HP.out.at _).mono ?_); rintro e w1 ⟨u, rfl, hu, hb⟩; have q6 := rec_new w1 rfl; have hw1 := rec_le HT.out.rc (below_any (Below.refl _ _) hb (Nat.le_refl _))
           have HO := Lib.hid (ints_one hu); have D := Lib.hid (And.intro (hu.below ((Below.refl w1.heap.size w1).alloc (Nat.le_refl _) (.cells #[.bool false, .slice none 0 0, .int .i64 0] 44))) (And.intro ((HT.out.ints.below hb).below ((Below.refl w1.heap.size w1).alloc (Nat.le_refl _) (.cells #[.bool false, .slice none 0 0, .int .i64 0] 44))) (And.intro ((HT.out.rc.below hb).alloc (.cells #[.bool false, .slice none 0 0, .int .i64 0] 44)) ((below_any HT.out.bel hb HT.out.bel.size).alloc (Nat.le_trans HT.out.bel.size hb.size) (.cells #[.bool false, .slice none 0 0, .int .i64 0] 44))))); clear hu hb)
        | ((with_reducible refine wpList_store44 (m := N2) (u := u) (sd := s2) (.tmp 6) (.tmp 22) w1.heap.size q6 HO.out ?_ ?_ ?_ ?_ ?_); rfl; rfl; rfl; rfl; intro w3 ho p6; have F := Lib.hid (And.intro (D.out.1.rec ho q6) (And.intro (D.out.2.1.rec ho q6) (And.intro (D.out.2.2.1.only ho (by omega)) (below_only D.out.2.2.2 ho (by omega) (Nat.le_of_lt (Nat.lt_of_le_of_lt (by omega) q6.lt)))))); clear ho q6 D
           have hc3 : w3.cell? ⟨b, off + i, none⟩ = some (.string s) := by
             obtain ⟨b', off', e', hc'⟩ := (HS.out.below F.out.2.2.2) i hi
             injection e' with e'
             injection e' with e1 e2
             subst e1 e2
             rw [HSE.out]; exact hc')
        | (go_at_call 16; (with_reducible refine (HC.out.at _).mono ?_); rintro e w4 ⟨rfl, hb⟩; have p6 := p6.below hb; have FF := Lib.hid (And.intro (F.out.1.below hb) (And.intro (F.out.2.1.below hb) (And.intro (F.out.2.2.1.below hb) (below_any F.out.2.2.2 hb F.out.2.2.2.size)))); have p4 := FF.out.2.2.1; clear hb F)
        | ((with_reducible refine wpList_load44 (.tmp 4) (w.heap.size + 1) p4 ?_ ?_ ?_ ?_); rfl; rfl; rfl)
        | ((with_reducible refine wpList_load44 (.tmp 6) w1.heap.size p6 ?_ ?_ ?_ ?_); rfl; rfl; rfl)
        | (go_at_call 45; (with_reducible refine (refPlus n0 N2 z u zs d2 sc s2 T _ FF.out.2.1 FF.out.1 HT.out.small HA.out.small A.out.1 A.out.2.1 A.out.2.2.1 (by have := A.out.2.2.2; omega) (by have := HT.out.len; omega) (by have := HA.out.len; omega)).mono ?_); rintro e w5 ⟨n1, z1, zs1, rfl, hz1, hzs1, hval, hlen, hb5⟩
           have G := Lib.hid (And.intro hz1 (And.intro hzs1 (And.intro hval (And.intro hlen (And.intro (FF.out.2.2.1.below hb5) (below_any FF.out.2.2.2 hb5 FF.out.2.2.2.size)))))); have p4 := G.out.2.2.2.2.1; have HO2 := Lib.hid (ints_one hz1); clear hz1 hzs1 hval hlen hb5)
        | ((with_reducible refine wpList_store44 (m := n1) (u := z1) (sd := T) (.tmp 4) (.tmp 36) (w.heap.size + 1) p4 HO2.out ?_ ?_ ?_ ?_ ?_); rfl; rfl; rfl; rfl; intro w6 ho p4n
           have HST : Hid (SumSt w S (i + 1) n1 z1 zs1 T w6) := Lib.hid ⟨p4n, G.out.1.rec ho p4, G.out.2.1, (by have hq := nval_plus A.out.1 A.out.2.1 (by have := A.out.2.2.2; omega) G.out.2.2.1; rw [hq, HT.out.val, HA.out.val, HSE.out]; rfl), A.out.2.2.2, (by have := G.out.2.2.2.1; have := HT.out.len; have := HA.out.len; have := A.out.2.2.2; omega), below_only G.out.2.2.2.2.2 ho (by omega) (Nat.le_of_lt (Nat.lt_of_le_of_lt (by omega) p4.lt))⟩; clear ho p4n G))
      go_roundg (gk - 1)
      case measure => omega
      case rel => exact ⟨i + 1, n1, z1, zs1, T, by omega, by go_num, HST.out⟩
    · obtain rfl : i = m := by omega
      rcases HV.out with ⟨hmn, hsaid⟩ | ⟨hmn, hbad, hx, hk⟩
      · subst hmn
        have HX : Hid (said (formP n0 zs sc) = .tuple #[.string x, .int .i64 k]) := Lib.hid (by rw [sum_form HT.out HK.out (by omega)]; exact hsaid)
        have p4 := HT.out.rc
        clear hsaid HV hlm
        go_wp2_with (first
          | ((with_reducible refine wpList_load44 (.tmp 4) (w.heap.size + 1) p4 ?_ ?_ ?_ ?_); rfl; rfl; rfl)
          | (go_at_call 38; (with_reducible refine (refFormS n0 z zs sc _ HT.out.ints HT.out.small (by have := HT.out.sc20; omega) (by have := HT.out.len; omega) x k HX).mono ?_); rintro e w5 ⟨rfl, hb5⟩; have HB := Lib.hid (below_any HT.out.bel hb5 HT.out.bel.size); clear hb5))
        go_ret2
        exact ⟨rfl, HB.out⟩
      · have hi : i < n := hmn
        have hin : (i : Int) < n := by omega
        obtain ⟨b, off, hpe, hc⟩ := (HS.out.below HT.out.bel) i hi
        subst hpe hx hk
        have hs := HZ.out i hi
        have HC := Lib.hid (checkedAs (S i) hs false hbad.symm)
        obtain ⟨ok, hok⟩ : ∃ ok, ok = okP (sgn (S i).data.toList).2 := ⟨_, rfl⟩
        obtain ⟨N2, s2, d2, p2⟩ := parsedAny (S i) hs ok hok
        have HP := Lib.hid p2
        obtain ⟨s, hse⟩ : ∃ s, s = S i := ⟨_, rfl⟩
        rw [← hse] at hc HP HC hs
        have HSE := Lib.hid hse
        clear HV hlm p2 hok hbad hse
        cases ok with
        | false =>
          go_wp2_with (first
          | (go_at_call 37; (with_reducible refine (HP.out.at _).mono ?_); rintro e w1 ⟨u, rfl, hu, hb⟩; have q6 := rec_new w1 rfl
             have HO := Lib.hid (ints_one hu); have D := Lib.hid ((below_any HT.out.bel hb HT.out.bel.size).alloc (Nat.le_trans HT.out.bel.size hb.size) (.cells #[.bool false, .slice none 0 0, .int .i64 0] 44)); have hle := Nat.le_trans HT.out.bel.size hb.size; clear hu hb)
          | ((with_reducible refine wpList_store44 (m := N2) (u := u) (sd := s2) (.tmp 6) (.tmp 22) w1.heap.size q6 HO.out ?_ ?_ ?_ ?_ ?_); rfl; rfl; rfl; rfl; intro w3 ho p6; have F := Lib.hid (below_only D.out ho hle (Nat.le_of_lt (Nat.lt_of_le_of_lt hle q6.lt))); clear ho q6 D))
          go_ret2
          exact ⟨rfl, F.out⟩
        | true =>
          go_wp2_with (first
          | (go_at_call 37; (with_reducible refine (HP.out.at _).mono ?_); rintro e w1 ⟨u, rfl, hu, hb⟩; have q6 := rec_new w1 rfl
             have HO := Lib.hid (ints_one hu); have D := Lib.hid ((below_any HT.out.bel hb HT.out.bel.size).alloc (Nat.le_trans HT.out.bel.size hb.size) (.cells #[.bool false, .slice none 0 0, .int .i64 0] 44)); have hle := Nat.le_trans HT.out.bel.size hb.size; clear hu hb)
          | ((with_reducible refine wpList_store44 (m := N2) (u := u) (sd := s2) (.tmp 6) (.tmp 22) w1.heap.size q6 HO.out ?_ ?_ ?_ ?_ ?_); rfl; rfl; rfl; rfl; intro w3 ho p6; have F := Lib.hid (below_only D.out ho hle (Nat.le_of_lt (Nat.lt_of_le_of_lt hle q6.lt))); clear ho q6 D
             have hc3 : w3.cell? ⟨b, off + i, none⟩ = some (.string s) := by
               obtain ⟨b', off', e', hc'⟩ := (HS.out.below F.out) i hi
               injection e' with e'
               injection e' with e1 e2
               subst e1 e2
               rw [HSE.out]; exact hc')
          | (go_at_call 16; (with_reducible refine (HC.out.at _).mono ?_); rintro e w4 ⟨rfl, hb⟩; have FF := Lib.hid (below_any F.out hb F.out.size); clear hb F))
          go_ret2
          exact ⟨rfl, FF.out⟩

/-- The sum of a list in the decimal's way, with any list. -/
theorem sumNil (p : Option Addr) (cap : Nat) (w : World) : Calls Tryd.prog 32 #[.slice p 0 cap] w fun e w' => e = .returned (said (txt 0)) ∧ Below w.heap.size w w' := by
  have l0 := lies_zero w rfl
  have b0 := (Below.refl w.heap.size w).alloc (Nat.le_refl _) (.cells #[.bool false, .int .u32 0, .int .u32 0, .int .u32 0, .int .u32 0, .int .u32 0, .int .u32 0, .int .u32 0, .int .u32 0, .int .u32 0, .int .u32 0, .int .u32 0, .int .u32 0, .int .u32 0, .int .u32 0, .int .u32 0, .int .u32 0] 59)
  obtain ⟨x, k, hv⟩ := said_form (txt 0)
  rw [hv]
  have HV := Lib.hid hv
  have HT := Lib.hid (fun (W : World) => textNum _ false (fun _ => 0) 0 W l0.num (by rw [show wval (fun _ => 0) = 0 by simp [wval, vN]]; rfl) x k hv)
  clear hv
  go_enter Tryd.func32, Tryd.ntmps32
  go_wp2_with fail
  go_loopg [11] 0 (fun gg s11 wr => gg = 0 ∧ s11 = .int .i64 0 ∧ Lies wr w.heap.size zero59 false (fun _ => 0) ∧ Below w.heap.size w wr)
  case atStart => exact ⟨rfl, rfl, l0, b0⟩
  case round =>
    clear l0 b0
    obtain ⟨_, rfl, hl, hb⟩ := hrel
    go_wp2_with (first
      | ((with_reducible refine wpList_loadN (.tmp 4) w.heap.size hl ?_ ?_ ?_ ?_); rfl; rfl; rfl)
      | (go_at_call 57; (with_reducible refine (HT.out _).mono ?_); rintro e w5 ⟨rfl, hb6⟩; have hb7 := below_any hb hb6 hb.size))
    go_ret2
    exact ⟨rfl, hb7⟩
set_option maxRecDepth 20000 in
set_option maxHeartbeats 1600000 in
theorem sumNo (b off n cap : Nat) (S : Nat → ByteArray) (w : World) (hG : Gd w) (hS : Strs w b off n S) (hn : n ≤ 9223372036854775807) (hz : ∀ i, i < n → (S i).size < 4294967281) (m : Nat) (hm : m < n) (hk : ∀ i, i < m → chk (S i).data.toList = true) (hbad : chk (S m).data.toList = false) :
    Calls Tryd.prog 32 #[.slice (some ⟨b, off, none⟩) n cap] w fun e w' => e = .returned (.tuple #[.string ⟨#[]⟩, .int .i64 1]) ∧ Below w.heap.size w w' := by
  have l0 := lies_zero w rfl
  have b0 := (Below.refl w.heap.size w).alloc (Nat.le_refl _) (.cells #[.bool false, .int .u32 0, .int .u32 0, .int .u32 0, .int .u32 0, .int .u32 0, .int .u32 0, .int .u32 0, .int .u32 0, .int .u32 0, .int .u32 0, .int .u32 0, .int .u32 0, .int .u32 0, .int .u32 0, .int .u32 0, .int .u32 0] 59)
  have HZ := Lib.hid hz
  have HK := Lib.hid hk
  have HB := Lib.hid hbad
  clear hz hk hbad
  go_enter Tryd.func32, Tryd.ntmps32
  go_wp2_with fail
  go_loopg [11] m (fun gg s11 wr => ∃ (i : Nat) (c : Array Value) (q : Bool) (f : Nat → Nat), i + gg = m ∧ s11 = .int .i64 i ∧ Lies wr w.heap.size c q f ∧ Aside (sv q (wval f) = sumTo S i) ∧ Below w.heap.size w wr)
  case atStart => exact ⟨0, _, _, _, by omega, rfl, l0, by unfold Aside; rw [show wval (fun _ => 0) = 0 by simp [wval, vN]]; rfl, b0⟩
  case round =>
    clear l0 b0
    obtain ⟨j, c, q, f, hig, rfl, hl, hsm, hbel⟩ := hrel
    have HM := Lib.hid hsm
    clear hsm
    have gW := hG.below hbel
    have hjn : (j : Int) < n := by omega
    have c1 : wr.cell? ⟨b, off + j, none⟩ = some (.string (S j)) := (hS.below hbel) j (by omega)
    have hsz : w.heap.size ≤ wr.heap.size := hbel.size
    by_cases hlt : j < m
    · have HP := Lib.hid (fun (d : Array Value) (g : Nat → Nat) (W : World) (h2 : IsNum d (dsign (S j).data.toList) g) (e2 : wval g = damt (S j).data.toList) => sumPlus S m j HK.out hlt (by omega) c d q f g W hl.num HM.out h2 e2)
      have HC := Lib.hid (fun (W : World) (hW : Gd W) => parseDec (S j) W hW (HZ.out j (by omega)) (HK.out j hlt))
      generalize S j = s at *
      go_wp2_with (first
        | (go_at_call 55; (with_reducible refine (HC.out _ gW).mono ?_); rintro e w1 ⟨d, g, rfl, hd, hx, hb⟩; have HX := Lib.hid hx; clear hx; have l1 := (hl.below hb).alloc (.cells #[.bool false, .int .u32 0, .int .u32 0, .int .u32 0, .int .u32 0, .int .u32 0, .int .u32 0, .int .u32 0, .int .u32 0, .int .u32 0, .int .u32 0, .int .u32 0, .int .u32 0, .int .u32 0, .int .u32 0, .int .u32 0, .int .u32 0] 59); have l2 := lies_zero w1 rfl; have hlt1 := (hl.below hb).lt; have b1 := (below_any hbel hb hsz).alloc (Nat.le_of_lt hlt1) (.cells #[.bool false, .int .u32 0, .int .u32 0, .int .u32 0, .int .u32 0, .int .u32 0, .int .u32 0, .int .u32 0, .int .u32 0, .int .u32 0, .int .u32 0, .int .u32 0, .int .u32 0, .int .u32 0, .int .u32 0, .int .u32 0, .int .u32 0] 59))
        | ((with_reducible refine wpList_storeN (.tmp 7) (.tmp 18) w1.heap.size l2 hd ?_ ?_ ?_ ?_ ?_); rfl; rfl; rfl; rfl; intro w2 ho p2; have p1 := l1.only ho (Nat.ne_of_lt hlt1); have b2 := below_only b1 ho (Nat.le_of_lt hlt1) (Nat.le_of_lt l1.lt))
        | ((with_reducible refine wpList_loadN (.tmp 4) w.heap.size p1 ?_ ?_ ?_ ?_); rfl; rfl; rfl)
        | ((with_reducible refine wpList_loadN (.tmp 7) w1.heap.size p2 ?_ ?_ ?_ ?_); rfl; rfl; rfl)
        | (go_at_call 48; (with_reducible refine (HP.out d g _ hd HX.out).mono ?_); rintro e w4 ⟨c', r, h, rfl, hr, hsv, hb4⟩; have q1 := p1.below hb4; have b4 := below_any b2 hb4 (Nat.le_of_lt p1.lt))
        | ((with_reducible refine wpList_storeN (.tmp 4) (.tmp 24) w.heap.size q1 hr ?_ ?_ ?_ ?_ ?_); rfl; rfl; rfl; rfl; intro w5 ho5 q5; have b5 := below_only b4 ho5 (Nat.le_refl _) (Nat.le_of_lt q1.lt)))
      go_roundg (gk - 1)
      case measure => omega
      case rel => exact ⟨j + 1, c', r, h, by omega, by go_num, q5, hsv, b5⟩
    · obtain rfl : j = m := by omega
      have HC := Lib.hid (fun (W : World) (hW : Gd W) => parseNo (S j) W hW (HZ.out j (by omega)) HB.out)
      generalize S j = s at *
      go_wp2_with (first
        | (go_at_call 55; (with_reducible refine (HC.out _ gW).mono ?_); rintro e w1 ⟨rfl, hb⟩; have l2 := lies_zero w1 rfl; have b1 := (below_any hbel hb hsz).alloc (Nat.le_trans hsz hb.size) (.cells #[.bool false, .int .u32 0, .int .u32 0, .int .u32 0, .int .u32 0, .int .u32 0, .int .u32 0, .int .u32 0, .int .u32 0, .int .u32 0, .int .u32 0, .int .u32 0, .int .u32 0, .int .u32 0, .int .u32 0, .int .u32 0, .int .u32 0] 59); have hle := Nat.le_trans hsz hb.size)
        | ((with_reducible refine wpList_storeN (.tmp 7) (.tmp 18) w1.heap.size l2 isNum_zero ?_ ?_ ?_ ?_ ?_); rfl; rfl; rfl; rfl; intro w2 ho p2; have b2 := below_only b1 ho hle (Nat.le_of_lt (Nat.lt_of_le_of_lt hle l2.lt))))
      go_ret2
      exact ⟨rfl, b2⟩
end Go.Proofs.YtabgilmehehbjaaDoor
