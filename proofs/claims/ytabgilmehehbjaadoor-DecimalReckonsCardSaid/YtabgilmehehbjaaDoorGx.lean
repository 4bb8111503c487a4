/- Texts of one kind, one behind the other: each says ahead of itself what it shows. -/
import Derived.Test.YtabgilmehehbjaaDoorGw
/- Two texts as the document takes them; sums, differences, order of them. -/
namespace Go.Proofs.YtabgilmehehbjaaDoor
open Go.RowKit

theorem parsedAny (s : ByteArray) (hs : s.size ≤ 1000000000) (o : Bool) (ho : o = okP (sgn s.data.toList).2) : ∃ N sc ds, ParsedAs s N sc ds o := by
  cases o with
  | false => exact ⟨false, 0, [], fun W => (refParsedNo s W hs ho.symm).mono fun _ _ ⟨h1, h2⟩ => ⟨_, h1, .inl ⟨rfl, rfl⟩, h2⟩⟩
  | true => exact ⟨(sgn s.data.toList).1, ((Lib.cut (sgn s.data.toList).2 [46]).2.1.length : Nat), revD ((Lib.cut (sgn s.data.toList).2 [46]).1 ++ (Lib.cut (sgn s.data.toList).2 [46]).2.1), fun W => refParsedYes s W hs ho.symm _ _ _ (Lib.hid rfl) (Lib.hid rfl) (Lib.hid rfl)⟩
theorem parsedYes (s : ByteArray) (hs : s.size ≤ 1000000000) (h : chk s.data.toList = true) : ∃ (N : Bool) (sc : Nat) (ds : List Nat), Dec s.data.toList N ds sc ∧ ParsedAs s N sc ds true := by
  obtain ⟨h1, h2⟩ := split_chk h
  exact ⟨_, _, _, h2, fun W => refParsedYes s W hs h1 _ _ _ (Lib.hid rfl) (Lib.hid rfl) (Lib.hid rfl)⟩
theorem checkedAs (s : ByteArray) (hs : s.size ≤ 1000000000) (c : Bool) (h : c = chk s.data.toList) : CheckedAs s c := fun W => refCheckB s c W hs (Lib.hid h)
/-- 'two' of two decimals. -/
def TwoAs (s t : ByteArray) (N1 : Bool) (s1 : Int) (d1 : List Nat) (N2 : Bool) (s2 : Int) (d2 : List Nat) (r : Bool) : Prop :=
  ∀ w, Calls Tryd.prog 44 #[.string s, .string t] w fun e w' => ∃ u v, e = .returned (.tuple #[.agg #[.bool N1, u, .int .i64 s1], .agg #[.bool N2, v, .int .i64 s2], .bool r]) ∧ Ints w' u d1 ∧ Ints w' v d2 ∧ Below w.heap.size w w'
theorem TwoAs.at {s t : ByteArray} {N1 N2 r : Bool} {s1 s2 : Int} {d1 d2 : List Nat} (h : TwoAs s t N1 s1 d1 N2 s2 d2 r) (w : World) : Calls Tryd.prog 44 #[.string s, .string t] w fun e w' => ∃ u v, e = .returned (.tuple #[.agg #[.bool N1, u, .int .i64 s1], .agg #[.bool N2, v, .int .i64 s2], .bool r]) ∧ Ints w' u d1 ∧ Ints w' v d2 ∧ Below w.heap.size w w' := h w
theorem twoYes (s t : ByteArray) (hs : s.size ≤ 1000000000) (ht : t.size ≤ 1000000000) (h : chk s.data.toList = true) (h2 : chk t.data.toList = true) :
    ∃ (N1 : Bool) (s1 : Nat) (d1 : List Nat) (N2 : Bool) (s2 : Nat) (d2 : List Nat), Dec s.data.toList N1 d1 s1 ∧ Dec t.data.toList N2 d2 s2 ∧ TwoAs s t N1 s1 d1 N2 s2 d2 true := by
  obtain ⟨N1, s1, d1, a1, p1⟩ := parsedYes s hs h
  obtain ⟨N2, s2, d2, a2, p2⟩ := parsedYes t ht h2
  exact ⟨N1, s1, d1, N2, s2, d2, a1, a2, fun w => two_ttt s t N1 N2 s1 s2 d1 d2 true w (Lib.hid p1) (Lib.hid p2) (Lib.hid (checkedAs s hs true h.symm)) (Lib.hid (checkedAs t ht true h2.symm))⟩
theorem twoNo (s t : ByteArray) (hs : s.size ≤ 1000000000) (ht : t.size ≤ 1000000000) (h : chk s.data.toList = false ∨ chk t.data.toList = false) :
    ∃ N1 s1 d1 N2 s2 d2, TwoAs s t N1 s1 d1 N2 s2 d2 false := by
  cases o1 : okP (sgn s.data.toList).2 with
  | false =>
    obtain ⟨N1, s1, d1, p1⟩ := parsedAny s hs false o1.symm
    obtain ⟨N2, s2, d2, p2⟩ := parsedAny t ht _ rfl
    exact ⟨N1, s1, d1, N2, s2, d2, fun w => two_f s t N1 N2 s1 s2 d1 d2 _ _ _ w (Lib.hid p1) (Lib.hid p2) (Lib.hid (checkedAs s hs _ rfl)) (Lib.hid (checkedAs t ht _ rfl))⟩
  | true =>
    obtain ⟨N1, s1, d1, p1⟩ := parsedAny s hs true o1.symm
    cases o2 : okP (sgn t.data.toList).2 with
    | false =>
      obtain ⟨N2, s2, d2, p2⟩ := parsedAny t ht false o2.symm
      exact ⟨N1, s1, d1, N2, s2, d2, fun w => two_tf s t N1 N2 s1 s2 d1 d2 _ _ w (Lib.hid p1) (Lib.hid p2) (Lib.hid (checkedAs s hs _ rfl)) (Lib.hid (checkedAs t ht _ rfl))⟩
    | true =>
      obtain ⟨N2, s2, d2, p2⟩ := parsedAny t ht true o2.symm
      cases c1 : chk s.data.toList with
      | false => exact ⟨N1, s1, d1, N2, s2, d2, fun w => two_ttf s t N1 N2 s1 s2 d1 d2 _ w (Lib.hid p1) (Lib.hid p2) (Lib.hid (checkedAs s hs _ c1.symm)) (Lib.hid (checkedAs t ht _ rfl))⟩
      | true =>
        have h2 : chk t.data.toList = false := h.resolve_left (by rw [c1]; decide)
        exact ⟨N1, s1, d1, N2, s2, d2, fun w => two_ttt s t N1 N2 s1 s2 d1 d2 false w (Lib.hid p1) (Lib.hid p2) (Lib.hid (checkedAs s hs _ c1.symm)) (Lib.hid (checkedAs t ht _ h2.symm))⟩

theorem sum_small {l r : List UInt8} (h : chk l = true) (h2 : chk r = true) : (dval l + dval r).natAbs < 10 ^ 144 ∧ (dval l - dval r).natAbs < 10 ^ 144 := by
  have a := dval_lt h
  have b := dval_lt h2
  have e : (10 : Nat) ^ 94 + 10 ^ 94 ≤ 10 ^ 144 := by decide
  omega
theorem plus_text {l r : List UInt8} {N1 N2 n : Bool} {d1 d2 zs : List Nat} {s1 s2 S : Nat} (h : chk l = true) (h2 : chk r = true) (a : Dec l N1 d1 s1) (b : Dec r N2 d2 s2) (e1 : s1 ≤ S) (e2 : s2 ≤ S) (eS : S ≤ 20) (hs : Small zs)
    (hv : sv n (val10 zs) = sv N1 (val10 d1 * 10 ^ (S - s1)) + sv N2 (val10 d2 * 10 ^ (S - s2))) : formP n zs S = txt (dval l + dval r) :=
  form_num hs (by omega) (by rw [nval_plus e1 e2 (by omega) hv, a.val, b.val]) (sum_small h h2).1
theorem minus_text {l r : List UInt8} {N1 N2 n : Bool} {d1 d2 zs : List Nat} {s1 s2 S : Nat} (h : chk l = true) (h2 : chk r = true) (a : Dec l N1 d1 s1) (b : Dec r N2 d2 s2) (e1 : s1 ≤ S) (e2 : s2 ≤ S) (eS : S ≤ 20) (hs : Small zs)
    (hv : sv n (val10 zs) = sv N1 (val10 d1 * 10 ^ (S - s1)) + sv (!N2) (val10 d2 * 10 ^ (S - s2))) : formP n zs S = txt (dval l - dval r) :=
  form_num hs (by omega) (by
    rw [nval_plus e1 e2 (by omega) hv, a.val, ← b.val]
    unfold nval
    rw [sv_not]; omega) (sum_small h h2).2
theorem two_size (W : World) : Below W.heap.size W ((W.alloc (.cells #[.bool false, .slice none 0 0, .int .i64 0] 44)).alloc (.cells #[.bool false, .slice none 0 0, .int .i64 0] 44)) := ((Below.refl _ _).alloc (Nat.le_refl _) _).alloc (by simp) _
theorem Rec.drew {w : World} {g : Nat} {n : Bool} {v : Value} {sc : Int} (h : Rec w g n v sc) : Rec w.drew g n v sc := h

set_option maxRecDepth 20000 in
set_option maxHeartbeats 1600000 in
theorem refAddNo (s t : ByteArray) (w : World) (hs : s.size ≤ 1000000000) (ht : t.size ≤ 1000000000) (h : chk s.data.toList = false ∨ chk t.data.toList = false) :
    Calls Tryd.prog 23 #[.string s, .string t] w fun e w' => e = .returned (.tuple #[.string ⟨#[]⟩, .int .i64 1]) ∧ Below w.heap.size w w' := by
  obtain ⟨N1, s1, d1, N2, s2, d2, HT⟩ := twoNo s t hs ht h
  have HC := Lib.hid HT
  clear HT h
  go_enter Tryd.func23, Tryd.ntmps23
  go_wp2_with (first
    | (go_at_call 44; (with_reducible refine (HC.out.at _).mono ?_); rintro e w1 ⟨u, v, rfl, hu, hv, hb⟩; have q6 : Rec ((w1.alloc (.cells #[.bool false, .slice none 0 0, .int .i64 0] 44)).alloc (.cells #[.bool false, .slice none 0 0, .int .i64 0] 44)) w1.heap.size false (.slice none 0 0) 0 := (rec_new w1 rfl).alloc _; have q7 : Rec ((w1.alloc (.cells #[.bool false, .slice none 0 0, .int .i64 0] 44)).alloc (.cells #[.bool false, .slice none 0 0, .int .i64 0] 44)) (w1.heap.size + 1) false (.slice none 0 0) 0 := rec_new _ (by simp)
       have UO := Lib.hid (And.intro (ints_one hu) (ints_one hv)); have UV := Lib.hid (And.intro (hu.below (two_size w1)) (And.intro (hv.below (two_size w1)) (below_any hb (two_size w1) hb.size))); have hw1 := hb.size; clear hu hv hb)
    | ((with_reducible refine wpList_store44 (m := N1) (u := u) (sd := s1) (.tmp 6) (.tmp 13) w1.heap.size q6 UO.out.1 ?_ ?_ ?_ ?_ ?_); rfl; rfl; rfl; rfl; intro w2 ho p6; have Q7 := Lib.hid (q7.only ho (by omega)); have UV2 := Lib.hid (And.intro (UV.out.1.rec ho q6) (And.intro (UV.out.2.1.rec ho q6) (below_only UV.out.2.2 ho (by omega) (Nat.le_of_lt (Nat.lt_of_le_of_lt hw1 q6.lt))))); clear ho UV q6 q7; have q7 := Q7.out; clear Q7)
    | ((with_reducible refine wpList_store44 (m := N2) (u := v) (sd := s2) (.tmp 7) (.tmp 14) (w1.heap.size + 1) q7 UO.out.2 ?_ ?_ ?_ ?_ ?_); rfl; rfl; rfl; rfl; intro w3 ho p7; have P6 := Lib.hid (p6.only ho (by omega)); have UV3 := Lib.hid (And.intro (UV2.out.1.rec ho q7) (And.intro (UV2.out.2.1.rec ho q7) (below_only UV2.out.2.2 ho (by omega) (Nat.le_of_lt (Nat.lt_of_le_of_lt (Nat.le_succ_of_le hw1) q7.lt))))); clear ho UV2 q7 p6; have p6 := P6.out; clear P6))
  go_ret2
  exact ⟨rfl, UV3.out.2.2⟩

set_option maxRecDepth 20000 in
set_option maxHeartbeats 1600000 in
theorem refSubNo (s t : ByteArray) (w : World) (hs : s.size ≤ 1000000000) (ht : t.size ≤ 1000000000) (h : chk s.data.toList = false ∨ chk t.data.toList = false) :
    Calls Tryd.prog 25 #[.string s, .string t] w fun e w' => e = .returned (.tuple #[.string ⟨#[]⟩, .int .i64 1]) ∧ Below w.heap.size w w' := by
  obtain ⟨N1, s1, d1, N2, s2, d2, HT⟩ := twoNo s t hs ht h
  have HC := Lib.hid HT
  clear HT h
  go_enter Tryd.func25, Tryd.ntmps25
  go_wp2_with (first
    | (go_at_call 44; (with_reducible refine (HC.out.at _).mono ?_); rintro e w1 ⟨u, v, rfl, hu, hv, hb⟩; have q6 : Rec ((w1.alloc (.cells #[.bool false, .slice none 0 0, .int .i64 0] 44)).alloc (.cells #[.bool false, .slice none 0 0, .int .i64 0] 44)) w1.heap.size false (.slice none 0 0) 0 := (rec_new w1 rfl).alloc _; have q7 : Rec ((w1.alloc (.cells #[.bool false, .slice none 0 0, .int .i64 0] 44)).alloc (.cells #[.bool false, .slice none 0 0, .int .i64 0] 44)) (w1.heap.size + 1) false (.slice none 0 0) 0 := rec_new _ (by simp)
       have UO := Lib.hid (And.intro (ints_one hu) (ints_one hv)); have UV := Lib.hid (And.intro (hu.below (two_size w1)) (And.intro (hv.below (two_size w1)) (below_any hb (two_size w1) hb.size))); have hw1 := hb.size; clear hu hv hb)
    | ((with_reducible refine wpList_store44 (m := N1) (u := u) (sd := s1) (.tmp 6) (.tmp 13) w1.heap.size q6 UO.out.1 ?_ ?_ ?_ ?_ ?_); rfl; rfl; rfl; rfl; intro w2 ho p6; have Q7 := Lib.hid (q7.only ho (by omega)); have UV2 := Lib.hid (And.intro (UV.out.1.rec ho q6) (And.intro (UV.out.2.1.rec ho q6) (below_only UV.out.2.2 ho (by omega) (Nat.le_of_lt (Nat.lt_of_le_of_lt hw1 q6.lt))))); clear ho UV q6 q7; have q7 := Q7.out; clear Q7)
    | ((with_reducible refine wpList_store44 (m := N2) (u := v) (sd := s2) (.tmp 7) (.tmp 14) (w1.heap.size + 1) q7 UO.out.2 ?_ ?_ ?_ ?_ ?_); rfl; rfl; rfl; rfl; intro w3 ho p7; have P6 := Lib.hid (p6.only ho (by omega)); have UV3 := Lib.hid (And.intro (UV2.out.1.rec ho q7) (And.intro (UV2.out.2.1.rec ho q7) (below_only UV2.out.2.2 ho (by omega) (Nat.le_of_lt (Nat.lt_of_le_of_lt (Nat.le_succ_of_le hw1) q7.lt))))); clear ho UV2 q7 p6; have p6 := P6.out; clear P6))
  go_ret2
  exact ⟨rfl, UV3.out.2.2⟩

set_option maxRecDepth 20000 in
set_option maxHeartbeats 1600000 in
theorem refMulNo (s t : ByteArray) (w : World) (hs : s.size ≤ 1000000000) (ht : t.size ≤ 1000000000) (h : chk s.data.toList = false ∨ chk t.data.toList = false) :
    Calls Tryd.prog 27 #[.string s, .string t] w fun e w' => e = .returned (.tuple #[.string ⟨#[]⟩, .int .i64 1]) ∧ Below w.heap.size w w' := by
  obtain ⟨N1, s1, d1, N2, s2, d2, HT⟩ := twoNo s t hs ht h
  have HC := Lib.hid HT
  clear HT h
  go_enter Tryd.func27, Tryd.ntmps27
  go_wp2_with (first
    | (go_at_call 44; (with_reducible refine (HC.out.at _).mono ?_); rintro e w1 ⟨u, v, rfl, hu, hv, hb⟩; have q6 : Rec ((w1.alloc (.cells #[.bool false, .slice none 0 0, .int .i64 0] 44)).alloc (.cells #[.bool false, .slice none 0 0, .int .i64 0] 44)) w1.heap.size false (.slice none 0 0) 0 := (rec_new w1 rfl).alloc _; have q7 : Rec ((w1.alloc (.cells #[.bool false, .slice none 0 0, .int .i64 0] 44)).alloc (.cells #[.bool false, .slice none 0 0, .int .i64 0] 44)) (w1.heap.size + 1) false (.slice none 0 0) 0 := rec_new _ (by simp)
       have UO := Lib.hid (And.intro (ints_one hu) (ints_one hv)); have UV := Lib.hid (And.intro (hu.below (two_size w1)) (And.intro (hv.below (two_size w1)) (below_any hb (two_size w1) hb.size))); have hw1 := hb.size; clear hu hv hb)
    | ((with_reducible refine wpList_store44 (m := N1) (u := u) (sd := s1) (.tmp 6) (.tmp 13) w1.heap.size q6 UO.out.1 ?_ ?_ ?_ ?_ ?_); rfl; rfl; rfl; rfl; intro w2 ho p6; have Q7 := Lib.hid (q7.only ho (by omega)); have UV2 := Lib.hid (And.intro (UV.out.1.rec ho q6) (And.intro (UV.out.2.1.rec ho q6) (below_only UV.out.2.2 ho (by omega) (Nat.le_of_lt (Nat.lt_of_le_of_lt hw1 q6.lt))))); clear ho UV q6 q7; have q7 := Q7.out; clear Q7)
    | ((with_reducible refine wpList_store44 (m := N2) (u := v) (sd := s2) (.tmp 7) (.tmp 14) (w1.heap.size + 1) q7 UO.out.2 ?_ ?_ ?_ ?_ ?_); rfl; rfl; rfl; rfl; intro w3 ho p7; have P6 := Lib.hid (p6.only ho (by omega)); have UV3 := Lib.hid (And.intro (UV2.out.1.rec ho q7) (And.intro (UV2.out.2.1.rec ho q7) (below_only UV2.out.2.2 ho (by omega) (Nat.le_of_lt (Nat.lt_of_le_of_lt (Nat.le_succ_of_le hw1) q7.lt))))); clear ho UV2 q7 p6; have p6 := P6.out; clear P6))
  go_ret2
  exact ⟨rfl, UV3.out.2.2⟩

set_option maxRecDepth 20000 in
set_option maxHeartbeats 1600000 in
theorem refDivNo (s t : ByteArray) (w : World) (hs : s.size ≤ 1000000000) (ht : t.size ≤ 1000000000) (h : chk s.data.toList = false ∨ chk t.data.toList = false) :
    Calls Tryd.prog 29 #[.string s, .string t] w fun e w' => e = .returned (.tuple #[.string ⟨#[]⟩, .int .i64 1]) ∧ Below w.heap.size w w' := by
  obtain ⟨N1, s1, d1, N2, s2, d2, HT⟩ := twoNo s t hs ht h
  have HC := Lib.hid HT
  clear HT h
  go_enter Tryd.func29, Tryd.ntmps29
  go_wp2_with (first
    | (go_at_call 44; (with_reducible refine (HC.out.at _).mono ?_); rintro e w1 ⟨u, v, rfl, hu, hv, hb⟩; have q6 : Rec ((w1.alloc (.cells #[.bool false, .slice none 0 0, .int .i64 0] 44)).alloc (.cells #[.bool false, .slice none 0 0, .int .i64 0] 44)) w1.heap.size false (.slice none 0 0) 0 := (rec_new w1 rfl).alloc _; have q7 : Rec ((w1.alloc (.cells #[.bool false, .slice none 0 0, .int .i64 0] 44)).alloc (.cells #[.bool false, .slice none 0 0, .int .i64 0] 44)) (w1.heap.size + 1) false (.slice none 0 0) 0 := rec_new _ (by simp)
       have UO := Lib.hid (And.intro (ints_one hu) (ints_one hv)); have UV := Lib.hid (And.intro (hu.below (two_size w1)) (And.intro (hv.below (two_size w1)) (below_any hb (two_size w1) hb.size))); have hw1 := hb.size; clear hu hv hb)
    | ((with_reducible refine wpList_store44 (m := N1) (u := u) (sd := s1) (.tmp 6) (.tmp 13) w1.heap.size q6 UO.out.1 ?_ ?_ ?_ ?_ ?_); rfl; rfl; rfl; rfl; intro w2 ho p6; have Q7 := Lib.hid (q7.only ho (by omega)); have UV2 := Lib.hid (And.intro (UV.out.1.rec ho q6) (And.intro (UV.out.2.1.rec ho q6) (below_only UV.out.2.2 ho (by omega) (Nat.le_of_lt (Nat.lt_of_le_of_lt hw1 q6.lt))))); clear ho UV q6 q7; have q7 := Q7.out; clear Q7)
    | ((with_reducible refine wpList_store44 (m := N2) (u := v) (sd := s2) (.tmp 7) (.tmp 14) (w1.heap.size + 1) q7 UO.out.2 ?_ ?_ ?_ ?_ ?_); rfl; rfl; rfl; rfl; intro w3 ho p7; have P6 := Lib.hid (p6.only ho (by omega)); have UV3 := Lib.hid (And.intro (UV2.out.1.rec ho q7) (And.intro (UV2.out.2.1.rec ho q7) (below_only UV2.out.2.2 ho (by omega) (Nat.le_of_lt (Nat.lt_of_le_of_lt (Nat.le_succ_of_le hw1) q7.lt))))); clear ho UV2 q7 p6; have p6 := P6.out; clear P6))
  go_ret2
  exact ⟨rfl, UV3.out.2.2⟩

set_option maxRecDepth 20000 in
set_option maxHeartbeats 1600000 in
theorem refCmpNo (s t : ByteArray) (w : World) (hs : s.size ≤ 1000000000) (ht : t.size ≤ 1000000000) (h : chk s.data.toList = false ∨ chk t.data.toList = false) :
    Calls Tryd.prog 21 #[.string s, .string t] w fun e w' => e = .returned (.int .i64 0) ∧ Below w.heap.size w w' := by
  obtain ⟨N1, s1, d1, N2, s2, d2, HT⟩ := twoNo s t hs ht h
  have HC := Lib.hid HT
  clear HT h
  go_enter Tryd.func21, Tryd.ntmps21
  go_wp2_with (first
    | (go_at_call 44; (with_reducible refine (HC.out.at _).mono ?_); rintro e w1 ⟨u, v, rfl, hu, hv, hb⟩; have q6 : Rec ((w1.alloc (.cells #[.bool false, .slice none 0 0, .int .i64 0] 44)).alloc (.cells #[.bool false, .slice none 0 0, .int .i64 0] 44)) w1.heap.size false (.slice none 0 0) 0 := (rec_new w1 rfl).alloc _; have q7 : Rec ((w1.alloc (.cells #[.bool false, .slice none 0 0, .int .i64 0] 44)).alloc (.cells #[.bool false, .slice none 0 0, .int .i64 0] 44)) (w1.heap.size + 1) false (.slice none 0 0) 0 := rec_new _ (by simp)
       have UO := Lib.hid (And.intro (ints_one hu) (ints_one hv)); have UV := Lib.hid (And.intro (hu.below (two_size w1)) (And.intro (hv.below (two_size w1)) (below_any hb (two_size w1) hb.size))); have hw1 := hb.size; clear hu hv hb)
    | ((with_reducible refine wpList_store44 (m := N1) (u := u) (sd := s1) (.tmp 5) (.tmp 13) w1.heap.size q6 UO.out.1 ?_ ?_ ?_ ?_ ?_); rfl; rfl; rfl; rfl; intro w2 ho p6; have Q7 := Lib.hid (q7.only ho (by omega)); have UV2 := Lib.hid (And.intro (UV.out.1.rec ho q6) (And.intro (UV.out.2.1.rec ho q6) (below_only UV.out.2.2 ho (by omega) (Nat.le_of_lt (Nat.lt_of_le_of_lt hw1 q6.lt))))); clear ho UV q6 q7; have q7 := Q7.out; clear Q7)
    | ((with_reducible refine wpList_store44 (m := N2) (u := v) (sd := s2) (.tmp 6) (.tmp 14) (w1.heap.size + 1) q7 UO.out.2 ?_ ?_ ?_ ?_ ?_); rfl; rfl; rfl; rfl; intro w3 ho p7; have P6 := Lib.hid (p6.only ho (by omega)); have UV3 := Lib.hid (And.intro (UV2.out.1.rec ho q7) (And.intro (UV2.out.2.1.rec ho q7) (below_only UV2.out.2.2 ho (by omega) (Nat.le_of_lt (Nat.lt_of_le_of_lt (Nat.le_succ_of_le hw1) q7.lt))))); clear ho UV2 q7 p6; have p6 := P6.out; clear P6))
  go_ret
  exact ⟨rfl, UV3.out.2.2⟩

set_option maxRecDepth 20000 in
set_option maxHeartbeats 1600000 in
theorem refAddYes (s t : ByteArray) (w : World) (hs : s.size ≤ 1000000000) (ht : t.size ≤ 1000000000) (h : chk s.data.toList = true) (h2 : chk t.data.toList = true) (x : ByteArray) (k : Int)
    (hv : said (txt (dval s.data.toList + dval t.data.toList)) = .tuple #[.string x, .int .i64 k]) :
    Calls Tryd.prog 23 #[.string s, .string t] w fun e w' => e = .returned (.tuple #[.string x, .int .i64 k]) ∧ Below w.heap.size w w' := by
  obtain ⟨N1, s1, d1, N2, s2, d2, a1, a2, HT⟩ := twoYes s t hs ht h h2
  obtain ⟨S, e1, e2, e3⟩ : ∃ S, s1 ≤ S ∧ s2 ≤ S ∧ (S = s1 ∨ S = s2) := ⟨max s1 s2, by omega, by omega, by omega⟩
  have eS : S ≤ 20 := by have := a1.sc; have := a2.sc; omega
  have A := Lib.hid (And.intro a1 (And.intro a2 (And.intro e1 (And.intro e2 (And.intro e3 eS)))))
  have HC := Lib.hid HT
  have HH := Lib.hid (And.intro h h2)
  have HV := Lib.hid hv
  clear a1 a2 e1 e2 e3 eS HT h h2 hv
  go_enter Tryd.func23, Tryd.ntmps23
  go_wp2_with (first
    | (go_at_call 44; (with_reducible refine (HC.out.at _).mono ?_); rintro e w1 ⟨u, v, rfl, hu, hv, hb⟩; have q6 : Rec ((w1.alloc (.cells #[.bool false, .slice none 0 0, .int .i64 0] 44)).alloc (.cells #[.bool false, .slice none 0 0, .int .i64 0] 44)) w1.heap.size false (.slice none 0 0) 0 := (rec_new w1 rfl).alloc _; have q7 : Rec ((w1.alloc (.cells #[.bool false, .slice none 0 0, .int .i64 0] 44)).alloc (.cells #[.bool false, .slice none 0 0, .int .i64 0] 44)) (w1.heap.size + 1) false (.slice none 0 0) 0 := rec_new _ (by simp)
       have UO := Lib.hid (And.intro (ints_one hu) (ints_one hv)); have UV := Lib.hid (And.intro (hu.below (two_size w1)) (And.intro (hv.below (two_size w1)) (below_any hb (two_size w1) hb.size))); have hw1 := hb.size; clear hu hv hb)
    | ((with_reducible refine wpList_store44 (m := N1) (u := u) (sd := s1) (.tmp 6) (.tmp 13) w1.heap.size q6 UO.out.1 ?_ ?_ ?_ ?_ ?_); rfl; rfl; rfl; rfl; intro w2 ho p6; have Q7 := Lib.hid (q7.only ho (by omega)); have UV2 := Lib.hid (And.intro (UV.out.1.rec ho q6) (And.intro (UV.out.2.1.rec ho q6) (below_only UV.out.2.2 ho (by omega) (Nat.le_of_lt (Nat.lt_of_le_of_lt hw1 q6.lt))))); clear ho UV q6 q7; have q7 := Q7.out; clear Q7)
    | ((with_reducible refine wpList_store44 (m := N2) (u := v) (sd := s2) (.tmp 7) (.tmp 14) (w1.heap.size + 1) q7 UO.out.2 ?_ ?_ ?_ ?_ ?_); rfl; rfl; rfl; rfl; intro w3 ho p7; have P6 := Lib.hid (p6.only ho (by omega)); have UV3 := Lib.hid (And.intro (UV2.out.1.rec ho q7) (And.intro (UV2.out.2.1.rec ho q7) (below_only UV2.out.2.2 ho (by omega) (Nat.le_of_lt (Nat.lt_of_le_of_lt (Nat.le_succ_of_le hw1) q7.lt))))); clear ho UV2 q7 p6; have p6 := P6.out; clear P6)
    | ((with_reducible refine wpList_load44 (.tmp 6) w1.heap.size p6 ?_ ?_ ?_ ?_); rfl; rfl; rfl)
    | ((with_reducible refine wpList_load44 (.tmp 7) (w1.heap.size + 1) p7 ?_ ?_ ?_ ?_); rfl; rfl; rfl)
    | (go_at_call 45; (with_reducible refine (refPlus N1 N2 u v d1 d2 s1 s2 S _ UV3.out.1 UV3.out.2.1 A.out.1.small A.out.2.1.small A.out.2.2.1 A.out.2.2.2.1 A.out.2.2.2.2.1 (by have := A.out.2.2.2.2.2; omega) (by have := A.out.1.len; omega) (by have := A.out.2.1.len; omega)).mono ?_); rintro e w4 ⟨n, z, zs, rfl, hz, hzs, hval, hlen, hb4⟩
       have HZ := Lib.hid (And.intro hz (And.intro hzs (And.intro (show zs.length ≤ 1000000000 by have := A.out.1.len; have := A.out.2.1.len; have := A.out.2.2.2.2.2; omega) (below_any UV3.out.2.2 hb4 UV3.out.2.2.size)))); have HX : Hid (said (formP n zs S) = .tuple #[.string x, .int .i64 k]) := Lib.hid (by rw [plus_text HH.out.1 HH.out.2 A.out.1 A.out.2.1 A.out.2.2.1 A.out.2.2.2.1 A.out.2.2.2.2.2 hzs hval]; exact HV.out); clear hz hzs hval hlen hb4)
    | (go_at_call 38; (with_reducible refine (refFormS n z zs S _ HZ.out.1 HZ.out.2.1 (by have := A.out.2.2.2.2.2; omega) HZ.out.2.2.1 x k HX).mono ?_); rintro e w5 ⟨rfl, hb5⟩; have HB := Lib.hid (below_any HZ.out.2.2.2 hb5 HZ.out.2.2.2.size); clear hb5))
  go_ret2
  exact ⟨rfl, HB.out⟩
end Go.Proofs.YtabgilmehehbjaaDoor

/- Differences and the order, as the document takes them. -/
namespace Go.Proofs.YtabgilmehehbjaaDoor
open Go.RowKit

set_option maxRecDepth 20000 in
set_option maxHeartbeats 1600000 in
theorem refSubYes (s t : ByteArray) (w : World) (hs : s.size ≤ 1000000000) (ht : t.size ≤ 1000000000) (h : chk s.data.toList = true) (h2 : chk t.data.toList = true) (x : ByteArray) (k : Int)
    (hv : said (txt (dval s.data.toList - dval t.data.toList)) = .tuple #[.string x, .int .i64 k]) :
    Calls Tryd.prog 25 #[.string s, .string t] w fun e w' => e = .returned (.tuple #[.string x, .int .i64 k]) ∧ Below w.heap.size w w' := by
  obtain ⟨N1, s1, d1, N2, s2, d2, a1, a2, HT⟩ := twoYes s t hs ht h h2
  obtain ⟨S, e1, e2, e3⟩ : ∃ S, s1 ≤ S ∧ s2 ≤ S ∧ (S = s1 ∨ S = s2) := ⟨max s1 s2, by omega, by omega, by omega⟩
  have eS : S ≤ 20 := by have := a1.sc; have := a2.sc; omega
  have A := Lib.hid (And.intro a1 (And.intro a2 (And.intro e1 (And.intro e2 (And.intro e3 eS)))))
  have HC := Lib.hid HT
  have HH := Lib.hid (And.intro h h2)
  have HV := Lib.hid hv
  clear a1 a2 e1 e2 e3 eS HT h h2 hv
  go_enter Tryd.func25, Tryd.ntmps25
  go_upto_region 5 with (first
    | (go_at_call 44; (with_reducible refine (HC.out.at _).mono ?_); rintro e w1 ⟨u, v, rfl, hu, hv, hb⟩; have q6 : Rec ((w1.alloc (.cells #[.bool false, .slice none 0 0, .int .i64 0] 44)).alloc (.cells #[.bool false, .slice none 0 0, .int .i64 0] 44)) w1.heap.size false (.slice none 0 0) 0 := (rec_new w1 rfl).alloc _; have q7 : Rec ((w1.alloc (.cells #[.bool false, .slice none 0 0, .int .i64 0] 44)).alloc (.cells #[.bool false, .slice none 0 0, .int .i64 0] 44)) (w1.heap.size + 1) false (.slice none 0 0) 0 := rec_new _ (by simp)
       have UO := Lib.hid (And.intro (ints_one hu) (ints_one hv)); have UV := Lib.hid (And.intro (hu.below (two_size w1)) (And.intro (hv.below (two_size w1)) (below_any hb (two_size w1) hb.size))); have hw1 := hb.size; clear hu hv hb)
    | ((with_reducible refine wpList_store44 (m := N1) (u := u) (sd := s1) (.tmp 6) (.tmp 13) w1.heap.size q6 UO.out.1 ?_ ?_ ?_ ?_ ?_); rfl; rfl; rfl; rfl; intro w2 ho p6; have Q7 := Lib.hid (q7.only ho (by omega)); have UV2 := Lib.hid (And.intro (UV.out.1.rec ho q6) (And.intro (UV.out.2.1.rec ho q6) (below_only UV.out.2.2 ho (by omega) (Nat.le_of_lt (Nat.lt_of_le_of_lt hw1 q6.lt))))); clear ho UV q6 q7; have q7 := Q7.out; clear Q7)
    | ((with_reducible refine wpList_store44 (m := N2) (u := v) (sd := s2) (.tmp 7) (.tmp 14) (w1.heap.size + 1) q7 UO.out.2 ?_ ?_ ?_ ?_ ?_); rfl; rfl; rfl; rfl; intro w3 ho p7; have P6 := Lib.hid (p6.only ho (by omega)); have UV3 := Lib.hid (And.intro (UV2.out.1.rec ho q7) (And.intro (UV2.out.2.1.rec ho q7) (below_only UV2.out.2.2 ho (by omega) (Nat.le_of_lt (Nat.lt_of_le_of_lt (Nat.le_succ_of_le hw1) q7.lt))))); clear ho UV2 q7 p6; have p6 := P6.out; clear P6; have c0 := p7.c0; have f0 : w3.frozen? ⟨w1.heap.size + 1, 0, none⟩ = false := free_of p7 0))
  have ho4 : Only (w1.heap.size + 1) w3 (w3.setCell ⟨w1.heap.size + 1, 0, none⟩ (.bool (!N2))) := (Only.refl _ _).setCell _ _ _
  have p7s := p7.set0 (!N2)
  have P6 := Lib.hid (p6.only ho4 (by omega))
  have UV4 := Lib.hid (And.intro (UV3.out.1.rec ho4 p7) (And.intro (UV3.out.2.1.rec ho4 p7) (below_only UV3.out.2.2 ho4 (by omega) (Nat.le_of_lt (Nat.lt_of_le_of_lt (Nat.le_succ_of_le hw1) p7.lt)))))
  have P7 := Lib.hid p7s
  clear ho4 p7s p7 p6 c0 f0 UV3
  generalize w3.setCell ⟨w1.heap.size + 1, 0, none⟩ (.bool (!N2)) = w3s at *
  have p6 := P6.out
  have p7 := P7.out
  clear P6 P7
  go_wp2_with (first
    | ((with_reducible refine wpList_load44 (.tmp 6) w1.heap.size p6 ?_ ?_ ?_ ?_); rfl; rfl; rfl)
    | ((with_reducible refine wpList_load44 (.tmp 7) (w1.heap.size + 1) p7 ?_ ?_ ?_ ?_); rfl; rfl; rfl)
    | (go_at_call 45; (with_reducible refine (refPlus N1 (!N2) u v d1 d2 s1 s2 S _ UV4.out.1 UV4.out.2.1 A.out.1.small A.out.2.1.small A.out.2.2.1 A.out.2.2.2.1 A.out.2.2.2.2.1 (by have := A.out.2.2.2.2.2; omega) (by have := A.out.1.len; omega) (by have := A.out.2.1.len; omega)).mono ?_); rintro e w4 ⟨n, z, zs, rfl, hz, hzs, hval, hlen, hb4⟩
       have HZ := Lib.hid (And.intro hz (And.intro hzs (And.intro (show zs.length ≤ 1000000000 by have := A.out.1.len; have := A.out.2.1.len; have := A.out.2.2.2.2.2; omega) (below_any UV4.out.2.2 hb4 UV4.out.2.2.size)))); have HX : Hid (said (formP n zs S) = .tuple #[.string x, .int .i64 k]) := Lib.hid (by rw [minus_text HH.out.1 HH.out.2 A.out.1 A.out.2.1 A.out.2.2.1 A.out.2.2.2.1 A.out.2.2.2.2.2 hzs hval]; exact HV.out); clear hz hzs hval hlen hb4)
    | (go_at_call 38; (with_reducible refine (refFormS n z zs S _ HZ.out.1 HZ.out.2.1 (by have := A.out.2.2.2.2.2; omega) HZ.out.2.2.1 x k HX).mono ?_); rintro e w5 ⟨rfl, hb5⟩; have HB := Lib.hid (below_any HZ.out.2.2.2 hb5 HZ.out.2.2.2.size); clear hb5))
  go_ret2
  exact ⟨rfl, HB.out⟩

/-- The order from the sign of the difference. -/
theorem cmp_sign {l r : List UInt8} {N1 N2 n : Bool} {d1 d2 zs : List Nat} {s1 s2 S : Nat} (a : Dec l N1 d1 s1) (b : Dec r N2 d2 s2) (e1 : s1 ≤ S) (e2 : s2 ≤ S) (eS : S ≤ 20)
    (hv : sv n (val10 zs) = sv N1 (val10 d1 * 10 ^ (S - s1)) + sv (!N2) (val10 d2 * 10 ^ (S - s2))) : cmpZ (dval l) (dval r) = if val10 zs = 0 then 0 else if n = true then -1 else 1 := by
  have e : nval n zs S = dval l - dval r := by
    rw [nval_plus e1 e2 (by omega) hv, a.val, ← b.val]
    unfold nval
    rw [sv_not]; omega
  have hp : 0 < 10 ^ (54 - S) := Nat.pow_pos (by decide)
  unfold nval at e
  by_cases h0 : val10 zs = 0
  · rw [if_pos h0]
    rw [h0, Nat.zero_mul, sv_zero] at e
    rw [cmpZ_zero]; omega
  · rw [if_neg h0]
    have hq : 0 < val10 zs * 10 ^ (54 - S) := Nat.mul_pos (by omega) hp
    generalize val10 zs * 10 ^ (54 - S) = q at *
    unfold cmpZ
    cases n with
    | true =>
      have : sv true q = -(q : Int) := rfl
      rw [if_pos (by omega : dval l < dval r)]; rfl
    | false =>
      have : sv false q = (q : Int) := rfl
      rw [if_neg (by omega : ¬ dval l < dval r), if_pos (by omega : dval r < dval l)]; rfl

set_option maxRecDepth 20000 in
set_option maxHeartbeats 1600000 in
theorem refCmpYes (s t : ByteArray) (w : World) (hs : s.size ≤ 1000000000) (ht : t.size ≤ 1000000000) (h : chk s.data.toList = true) (h2 : chk t.data.toList = true) :
    Calls Tryd.prog 21 #[.string s, .string t] w fun e w' => e = .returned (.int .i64 (cmpZ (dval s.data.toList) (dval t.data.toList))) ∧ Below w.heap.size w w' := by
  obtain ⟨N1, s1, d1, N2, s2, d2, a1, a2, HT⟩ := twoYes s t hs ht h h2
  obtain ⟨S, e1, e2, e3⟩ : ∃ S, s1 ≤ S ∧ s2 ≤ S ∧ (S = s1 ∨ S = s2) := ⟨max s1 s2, by omega, by omega, by omega⟩
  have eS : S ≤ 20 := by have := a1.sc; have := a2.sc; omega
  have A := Lib.hid (And.intro a1 (And.intro a2 (And.intro e1 (And.intro e2 (And.intro e3 eS)))))
  have HC := Lib.hid HT
  have HH := Lib.hid (And.intro h h2)
  obtain ⟨r, hr⟩ : ∃ r, r = cmpZ (dval s.data.toList) (dval t.data.toList) := ⟨_, rfl⟩
  rw [← hr]
  have HR := Lib.hid hr
  clear a1 a2 e1 e2 e3 eS HT h h2 hr
  go_enter Tryd.func21, Tryd.ntmps21
  go_upto_region 5 with (first
    | (go_at_call 44; (with_reducible refine (HC.out.at _).mono ?_); rintro e w1 ⟨u, v, rfl, hu, hv, hb⟩; have q6 : Rec ((w1.alloc (.cells #[.bool false, .slice none 0 0, .int .i64 0] 44)).alloc (.cells #[.bool false, .slice none 0 0, .int .i64 0] 44)) w1.heap.size false (.slice none 0 0) 0 := (rec_new w1 rfl).alloc _; have q7 : Rec ((w1.alloc (.cells #[.bool false, .slice none 0 0, .int .i64 0] 44)).alloc (.cells #[.bool false, .slice none 0 0, .int .i64 0] 44)) (w1.heap.size + 1) false (.slice none 0 0) 0 := rec_new _ (by simp)
       have UO := Lib.hid (And.intro (ints_one hu) (ints_one hv)); have UV := Lib.hid (And.intro (hu.below (two_size w1)) (And.intro (hv.below (two_size w1)) (below_any hb (two_size w1) hb.size))); have hw1 := hb.size; clear hu hv hb)
    | ((with_reducible refine wpList_store44 (m := N1) (u := u) (sd := s1) (.tmp 5) (.tmp 13) w1.heap.size q6 UO.out.1 ?_ ?_ ?_ ?_ ?_); rfl; rfl; rfl; rfl; intro w2 ho p6; have Q7 := Lib.hid (q7.only ho (by omega)); have UV2 := Lib.hid (And.intro (UV.out.1.rec ho q6) (And.intro (UV.out.2.1.rec ho q6) (below_only UV.out.2.2 ho (by omega) (Nat.le_of_lt (Nat.lt_of_le_of_lt hw1 q6.lt))))); clear ho UV q6 q7; have q7 := Q7.out; clear Q7)
    | ((with_reducible refine wpList_store44 (m := N2) (u := v) (sd := s2) (.tmp 6) (.tmp 14) (w1.heap.size + 1) q7 UO.out.2 ?_ ?_ ?_ ?_ ?_); rfl; rfl; rfl; rfl; intro w3 ho p7; have P6 := Lib.hid (p6.only ho (by omega)); have UV3 := Lib.hid (And.intro (UV2.out.1.rec ho q7) (And.intro (UV2.out.2.1.rec ho q7) (below_only UV2.out.2.2 ho (by omega) (Nat.le_of_lt (Nat.lt_of_le_of_lt (Nat.le_succ_of_le hw1) q7.lt))))); clear ho UV2 q7 p6; have p6 := P6.out; clear P6; have c0 := p7.c0; have f0 : w3.frozen? ⟨w1.heap.size + 1, 0, none⟩ = false := free_of p7 0))
  have ho4 : Only (w1.heap.size + 1) w3 (w3.setCell ⟨w1.heap.size + 1, 0, none⟩ (.bool (!N2))) := (Only.refl _ _).setCell _ _ _
  have p7s := p7.set0 (!N2)
  have P6 := Lib.hid (p6.only ho4 (by omega))
  have UV4 := Lib.hid (And.intro (UV3.out.1.rec ho4 p7) (And.intro (UV3.out.2.1.rec ho4 p7) (below_only UV3.out.2.2 ho4 (by omega) (Nat.le_of_lt (Nat.lt_of_le_of_lt (Nat.le_succ_of_le hw1) p7.lt)))))
  have P7 := Lib.hid p7s
  clear ho4 p7s p7 p6 c0 f0 UV3
  generalize w3.setCell ⟨w1.heap.size + 1, 0, none⟩ (.bool (!N2)) = w3s at *
  have p6 := P6.out
  have p7 := P7.out
  clear P6 P7
  go_upto_region 6 with (first
    | ((with_reducible refine wpList_load44 (.tmp 5) w1.heap.size p6 ?_ ?_ ?_ ?_); rfl; rfl; rfl)
    | ((with_reducible refine wpList_load44 (.tmp 6) (w1.heap.size + 1) p7 ?_ ?_ ?_ ?_); rfl; rfl; rfl)
    | (go_at_call 45; (with_reducible refine (refPlus N1 (!N2) u v d1 d2 s1 s2 S _ UV4.out.1 UV4.out.2.1 A.out.1.small A.out.2.1.small A.out.2.2.1 A.out.2.2.2.1 A.out.2.2.2.2.1 (by have := A.out.2.2.2.2.2; omega) (by have := A.out.1.len; omega) (by have := A.out.2.1.len; omega)).mono ?_); rintro e w4 ⟨n, z, zs, rfl, hz, hzs, hval, hlen, hb4⟩
       have HCS := Lib.hid (cmp_sign A.out.1 A.out.2.1 A.out.2.2.1 A.out.2.2.2.1 A.out.2.2.2.2.2 hval); have z8 := rec_new w4 rfl; have HO8 := Lib.hid (ints_one hz)
       have HZ := Lib.hid (And.intro (hz.below ((Below.refl w4.heap.size w4).alloc (Nat.le_refl _) (.cells #[.bool false, .slice none 0 0, .int .i64 0] 44))) (And.intro (show zs.length ≤ 9223372036854775807 by have := A.out.1.len; have := A.out.2.1.len; have := A.out.2.2.2.2.2; omega) ((below_any UV4.out.2.2 hb4 UV4.out.2.2.size).alloc (Nat.le_trans UV4.out.2.2.size hb4.size) (.cells #[.bool false, .slice none 0 0, .int .i64 0] 44)))); have hw4 := Nat.le_trans UV4.out.2.2.size hb4.size; clear hz hzs hval hlen hb4)
    | ((with_reducible refine wpList_store44 (m := n) (u := z) (sd := S) (.tmp 8) (.tmp 24) w4.heap.size z8 HO8.out ?_ ?_ ?_ ?_ ?_); rfl; rfl; rfl; rfl; intro w5 ho p8; have HY := Lib.hid (And.intro (HZ.out.1.rec ho z8) (below_only HZ.out.2.2 ho hw4 (Nat.le_of_lt (Nat.lt_of_le_of_lt hw4 z8.lt)))); clear ho z8))
  have c0 := p8.c0
  have c1 := p8.c1
  by_cases h0 : val10 zs = 0
  · obtain rfl : r = 0 := by rw [HR.out, HCS.out, if_pos h0]
    have HD0 : Hid (true = decide (val10 zs = 0)) := Lib.hid (by simp [h0])
    clear h0 HR HCS p6 p7
    go_wp2_with (go_at_call 46; (with_reducible refine (refZero _ zs _ HY.out.1 HZ.out.2.1 true HD0.out).mono ?_); rintro e w' ⟨rfl, rfl⟩)
    go_ret
    exact ⟨rfl, HY.out.2⟩
  · have HD0 : Hid (false = decide (val10 zs = 0)) := Lib.hid (by simp [h0])
    have hrn : r = if n = true then -1 else 1 := by rw [HR.out, HCS.out, if_neg h0]
    cases n with
    | true =>
      obtain rfl : r = -1 := by rw [hrn, if_pos rfl]
      clear h0 HR HCS hrn p6 p7
      go_wp2_with (go_at_call 46; (with_reducible refine (refZero _ zs _ HY.out.1 HZ.out.2.1 false HD0.out).mono ?_); rintro e w' ⟨rfl, rfl⟩)
      go_ret
      exact ⟨rfl, HY.out.2⟩
    | false =>
      obtain rfl : r = 1 := by rw [hrn, if_neg (by decide)]
      clear h0 HR HCS hrn p6 p7
      go_wp2_with (go_at_call 46; (with_reducible refine (refZero _ zs _ HY.out.1 HZ.out.2.1 false HD0.out).mono ?_); rintro e w' ⟨rfl, rfl⟩)
      go_ret
      exact ⟨rfl, HY.out.2⟩

theorem chkZ : chk [48, 46, 48] = true := by kernel_rfl
theorem dvalZ : dval [48, 46, 48] = 0 := by decide +kernel
theorem refNegYes (s : ByteArray) (w : World) (hs : s.size ≤ 1000000000) (h : chk s.data.toList = true) (x : ByteArray) (k : Int) (hv : said (txt (-dval s.data.toList)) = .tuple #[.string x, .int .i64 k]) :
    Calls Tryd.prog 31 #[.string s] w fun e w' => e = .returned (.tuple #[.string x, .int .i64 k]) ∧ Below w.heap.size w w' := by
  have hc : ∀ W, Calls Tryd.prog 25 #[.string ⟨#[48, 46, 48]⟩, .string s] W fun e w' => e = .returned (.tuple #[.string x, .int .i64 k]) ∧ Below W.heap.size W w' := fun W =>
    refSubYes ⟨#[48, 46, 48]⟩ s W (by decide) hs chkZ h x k (by rw [show (ByteArray.mk #[48, 46, 48]).data.toList = [48, 46, 48] from rfl, dvalZ, Int.zero_sub]; exact hv)
  have HC := Lib.hid hc
  clear hc hv h
  go_enter Tryd.func31, Tryd.ntmps31
  go_wp2_with (go_at_call 25; (with_reducible refine (HC.out _).mono ?_); rintro e w1 ⟨rfl, hb⟩)
  go_ret2
  exact ⟨rfl, hb⟩
theorem refNegNo (s : ByteArray) (w : World) (hs : s.size ≤ 1000000000) (h : chk s.data.toList = false) :
    Calls Tryd.prog 31 #[.string s] w fun e w' => e = .returned (.tuple #[.string ⟨#[]⟩, .int .i64 1]) ∧ Below w.heap.size w w' := by
  have hc : ∀ W, Calls Tryd.prog 25 #[.string ⟨#[48, 46, 48]⟩, .string s] W fun e w' => e = .returned (.tuple #[.string ⟨#[]⟩, .int .i64 1]) ∧ Below W.heap.size W w' := fun W =>
    refSubNo ⟨#[48, 46, 48]⟩ s W (by decide) hs (.inr h)
  have HC := Lib.hid hc
  clear hc h
  go_enter Tryd.func31, Tryd.ntmps31
  go_wp2_with (go_at_call 25; (with_reducible refine (HC.out _).mono ?_); rintro e w1 ⟨rfl, hb⟩)
  go_ret2
  exact ⟨rfl, hb⟩
end Go.Proofs.YtabgilmehehbjaaDoor
