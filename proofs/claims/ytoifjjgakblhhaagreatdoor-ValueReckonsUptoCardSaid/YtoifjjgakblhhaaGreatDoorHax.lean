/- Texts of one kind, one behind the other: each says ahead of itself what it shows. -/
import Derived.Test.YtoifjjgakblhhaaGreatDoorHap
import Derived.Test.YtoifjjgakblhhaaGreatDoorHaw
import Derived.Test.YtoifjjgakblhhaaGreatDoorHau
/- Products and quotients, as the document takes them. -/
namespace Go.Proofs.YtoifjjgakblhhaaGreatDoor
open Go.RowKit

theorem split_len {l : List UInt8} (h : okP (sgn l).2 = true) : 0 < (revD ((Lib.cut (sgn l).2 [46]).1 ++ (Lib.cut (sgn l).2 [46]).2.1)).length := by
  unfold okP at h
  rw [Bool.and_eq_true] at h
  have h1 := h.1
  unfold digs at h1
  rw [Bool.and_eq_true] at h1
  rw [revD_len, List.length_append]
  have : (Lib.cut (sgn l).2 [46]).1 ≠ [] := fun e => by rw [e] at h1; exact absurd h1.1 (by decide)
  have := List.length_pos_iff.2 this
  omega
theorem parsedYes2 (s : ByteArray) (hs : s.size ≤ 1000000000) (h : chk s.data.toList = true) : ∃ (N : Bool) (sc : Nat) (ds : List Nat), Dec s.data.toList N ds sc ∧ ParsedAs s N sc ds true ∧ 0 < ds.length := by
  obtain ⟨h1, h2⟩ := split_chk h
  exact ⟨_, _, _, h2, fun W => refParsedYes s W hs h1 _ _ _ (Lib.hid rfl) (Lib.hid rfl) (Lib.hid rfl), split_len h1⟩
theorem twoYes2 (s t : ByteArray) (hs : s.size ≤ 1000000000) (ht : t.size ≤ 1000000000) (h : chk s.data.toList = true) (h2 : chk t.data.toList = true) :
    ∃ (N1 : Bool) (s1 : Nat) (d1 : List Nat) (N2 : Bool) (s2 : Nat) (d2 : List Nat), Dec s.data.toList N1 d1 s1 ∧ Dec t.data.toList N2 d2 s2 ∧ TwoAs s t N1 s1 d1 N2 s2 d2 true ∧ 0 < d1.length := by
  obtain ⟨N1, s1, d1, a1, p1, q1⟩ := parsedYes2 s hs h
  obtain ⟨N2, s2, d2, a2, p2, _⟩ := parsedYes2 t ht h2
  exact ⟨N1, s1, d1, N2, s2, d2, a1, a2, fun w => two_ttt s t N1 N2 s1 s2 d1 d2 true w (Lib.hid p1) (Lib.hid p2) (Lib.hid (checkedAs s hs true h.symm)) (Lib.hid (checkedAs t ht true h2.symm)), q1⟩
theorem mul_text {l r : List UInt8} {N1 N2 : Bool} {d1 d2 zs : List Nat} {s1 s2 : Nat} (h : chk l = true) (h2 : chk r = true) (a : Dec l N1 d1 s1) (b : Dec r N2 d2 s2) (hs : Small zs) (hv : val10 zs = val10 d1 * val10 d2) : formP (N1 != N2) zs (s1 + s2) = txt (dmul l r) :=
  form_num hs (by have := a.sc; have := b.sc; omega) (dmul_of a b hv) (dmul_lt h h2)
theorem dquo_lt {l r : List UInt8} (h : chk l = true) (h2 : chk r = true) (h0 : damt r ≠ 0) : (dquo l r).natAbs < 10 ^ 144 := by
  obtain ⟨_, a1, _⟩ := chk_dec l h
  obtain ⟨_, _, b2, _⟩ := chk_dec r h2
  have hr : 10 ^ 34 ≤ damt r := by
    have := Nat.div_add_mod (damt r) (10 ^ 34)
    rw [b2] at this
    have hp : 1 ≤ damt r / 10 ^ 34 := by
      by_cases e : damt r / 10 ^ 34 = 0
      · rw [e] at this; omega
      · omega
    have : 10 ^ 34 * 1 ≤ 10 ^ 34 * (damt r / 10 ^ 34) := Nat.mul_le_mul_left _ hp
    omega
  unfold dquo
  rw [natAbs_sv]
  have h1 : damt l * 10 ^ 20 / damt r ≤ damt l * 10 ^ 20 / 10 ^ 34 := Nat.div_le_div_left hr (by decide)
  have h3 : damt l * 10 ^ 20 / damt r * 10 ^ 34 ≤ damt l * 10 ^ 20 / 10 ^ 34 * 10 ^ 34 := Nat.mul_le_mul_right _ h1
  have h4 : damt l * 10 ^ 20 / 10 ^ 34 * 10 ^ 34 ≤ damt l * 10 ^ 20 := Nat.div_mul_le_self _ _
  have h5 : damt l * 10 ^ 20 < 10 ^ 94 * 10 ^ 20 := Nat.mul_lt_mul_of_pos_right a1 (by decide)
  have h6 : (10 : Nat) ^ 94 * 10 ^ 20 ≤ 10 ^ 144 := by decide
  exact Nat.lt_of_lt_of_le (Nat.lt_of_le_of_lt (Nat.le_trans h3 h4) h5) h6
theorem quot_text {l r : List UInt8} {N1 N2 : Bool} {d1 d2 zs : List Nat} {s1 s2 S : Nat} (h : chk l = true) (h2 : chk r = true) (h0 : damt r ≠ 0) (a : Dec l N1 d1 s1) (b : Dec r N2 d2 s2) (e1 : s1 ≤ S) (e2 : s2 ≤ S) (eS : S ≤ 20) (hs : Small zs)
    (hv : val10 zs = val10 d1 * 10 ^ (S - s1) * 10 ^ 20 / (val10 d2 * 10 ^ (S - s2))) : formP (N1 != N2) zs 20 = txt (dquo l r) := by
  have e := dquo_of a b e1 e2 (by omega) hv
  have hb := dquo_lt h h2 h0
  generalize dquo l r = q at *
  exact form_num hs (Nat.le_of_ble_eq_true rfl) e hb
theorem refTimesT (N1 N2 : Bool) (u v : Value) (d1 d2 : List Nat) (s1 s2 T : Nat) (w : World) (hT : Hid (T = s1 + s2)) (I1 : Ints w u d1) (I2 : Ints w v d2) (sm1 : Small d1) (sm2 : Small d2) (b1 : s1 ≤ 1000000) (b2 : s2 ≤ 1000000) (l1 : d1.length ≤ 1000000) (l2 : d2.length ≤ 1000000) :
    Calls Tryz.prog 105 #[.agg #[.bool N1, u, .int .i64 s1], .agg #[.bool N2, v, .int .i64 s2]] w (TimPost w (N1 != N2) (val10 d1 * val10 d2) (d1.length + d2.length + 1) T) := by
  rw [hT.out]; exact refTimes N1 N2 u v d1 d2 s1 s2 w I1 I2 sm1 sm2 b1 b2 l1 l2
theorem refFormS20 (N : Bool) (v : Value) (ds : List Nat) (w : World) (h : Ints w v ds) (hs : Small ds) (l2 : ds.length ≤ 1000000000) (t : ByteArray) (er : Int) (hv : Hid (said (formP N ds 20) = .tuple #[.string t, .int .i64 er])) :
    Calls Tryz.prog 104 #[.agg #[.bool N, v, .int .i64 20]] w fun e w' => e = .returned (.tuple #[.string t, .int .i64 er]) ∧ Below w.heap.size w w' := refFormS N v ds 20 w h hs (by omega) l2 t er hv

set_option maxRecDepth 20000 in
set_option maxHeartbeats 1600000 in
theorem refMulYes (s t : ByteArray) (w : World) (hs : s.size ≤ 1000000000) (ht : t.size ≤ 1000000000) (h : chk s.data.toList = true) (h2 : chk t.data.toList = true) (x : ByteArray) (k : Int)
    (hv : said (txt (dmul s.data.toList t.data.toList)) = .tuple #[.string x, .int .i64 k]) :
    Calls Tryz.prog 65 #[.string s, .string t] w fun e w' => e = .returned (.tuple #[.string x, .int .i64 k]) ∧ Below w.heap.size w w' := by
  obtain ⟨N1, s1, d1, N2, s2, d2, a1, a2, HT, hd1⟩ := twoYes2 s t hs ht h h2
  have HD1 := Lib.hid hd1
  clear hd1
  obtain ⟨S, e1, e2, e3⟩ : ∃ S, s1 ≤ S ∧ s2 ≤ S ∧ (S = s1 ∨ S = s2) := ⟨max s1 s2, by omega, by omega, by omega⟩
  have eS : S ≤ 20 := by have := a1.sc; have := a2.sc; omega
  have A := Lib.hid (And.intro a1 (And.intro a2 (And.intro e1 (And.intro e2 (And.intro e3 eS)))))
  have HC := Lib.hid HT
  have HH := Lib.hid (And.intro h h2)
  have HV := Lib.hid hv
  obtain ⟨T, hT⟩ : ∃ T, T = s1 + s2 := ⟨_, rfl⟩
  have HTT := Lib.hid hT
  clear hT
  clear a1 a2 e1 e2 e3 eS HT h h2 hv
  go_enter Tryz.func65, Tryz.ntmps65
  go_wp2_with (first
    | (go_at_call 87; (with_reducible refine (HC.out.at _).mono ?_); rintro e w1 ⟨u, v, rfl, hu, hv, hb⟩; have q6 : Rec ((w1.alloc (.cells #[.bool false, .slice none 0 0, .int .i64 0] 97)).alloc (.cells #[.bool false, .slice none 0 0, .int .i64 0] 97)) w1.heap.size false (.slice none 0 0) 0 := (rec_new w1 rfl).alloc _; have q7 : Rec ((w1.alloc (.cells #[.bool false, .slice none 0 0, .int .i64 0] 97)).alloc (.cells #[.bool false, .slice none 0 0, .int .i64 0] 97)) (w1.heap.size + 1) false (.slice none 0 0) 0 := rec_new _ (by simp)
       have UO := Lib.hid (And.intro (ints_one hu) (ints_one hv)); have UV := Lib.hid (And.intro (hu.below (two_size w1)) (And.intro (hv.below (two_size w1)) (below_any hb (two_size w1) hb.size))); have hw1 := hb.size; clear hu hv hb)
    | ((with_reducible refine wpList_store44 (m := N1) (u := u) (sd := s1) (.tmp 6) (.tmp 13) w1.heap.size q6 UO.out.1 ?_ ?_ ?_ ?_ ?_); rfl; rfl; rfl; rfl; intro w2 ho p6; have Q7 := Lib.hid (q7.only ho (by omega)); have UV2 := Lib.hid (And.intro (UV.out.1.rec ho q6) (And.intro (UV.out.2.1.rec ho q6) (below_only UV.out.2.2 ho (by omega) (Nat.le_of_lt (Nat.lt_of_le_of_lt hw1 q6.lt))))); clear ho UV q6 q7; have q7 := Q7.out; clear Q7)
    | ((with_reducible refine wpList_store44 (m := N2) (u := v) (sd := s2) (.tmp 7) (.tmp 14) (w1.heap.size + 1) q7 UO.out.2 ?_ ?_ ?_ ?_ ?_); rfl; rfl; rfl; rfl; intro w3 ho p7; have P6 := Lib.hid (p6.only ho (by omega)); have UV3 := Lib.hid (And.intro (UV2.out.1.rec ho q7) (And.intro (UV2.out.2.1.rec ho q7) (below_only UV2.out.2.2 ho (by omega) (Nat.le_of_lt (Nat.lt_of_le_of_lt (Nat.le_succ_of_le hw1) q7.lt))))); clear ho UV2 q7 p6; have p6 := P6.out; clear P6)
    | ((with_reducible refine wpList_load44 (.tmp 6) w1.heap.size p6 ?_ ?_ ?_ ?_); rfl; rfl; rfl)
    | ((with_reducible refine wpList_load44 (.tmp 7) (w1.heap.size + 1) p7 ?_ ?_ ?_ ?_); rfl; rfl; rfl)
    | (go_at_call 105; (with_reducible refine (refTimesT N1 N2 u v d1 d2 s1 s2 T _ HTT UV3.out.1 UV3.out.2.1 A.out.1.small A.out.2.1.small (by have := A.out.1.sc; omega) (by have := A.out.2.1.sc; omega) (by have := A.out.1.len; omega) (by have := A.out.2.1.len; omega)).mono ?_); rintro e w4 ⟨z, zs, rfl, hz, hzs, hval, hlen, hb4⟩
       have HZ := Lib.hid (And.intro hz (And.intro hzs (And.intro (show zs.length ≤ 1000000000 by have := A.out.1.len; have := A.out.2.1.len; omega) (below_any UV3.out.2.2 hb4 UV3.out.2.2.size)))); have HX : Hid (said (formP (N1 != N2) zs T) = .tuple #[.string x, .int .i64 k]) := Lib.hid (by rw [HTT.out, mul_text HH.out.1 HH.out.2 A.out.1 A.out.2.1 hzs hval]; exact HV.out); clear hz hzs hval hlen hb4)
    | (go_at_call 104; (with_reducible refine (refFormS (N1 != N2) z zs T _ HZ.out.1 HZ.out.2.1 (by have := A.out.1.sc; have := A.out.2.1.sc; have := HTT.out; omega) HZ.out.2.2.1 x k HX).mono ?_); rintro e w5 ⟨rfl, hb5⟩; have HB := Lib.hid (below_any HZ.out.2.2.2 hb5 HZ.out.2.2.2.size); clear hb5))
  go_ret2
  exact ⟨rfl, HB.out⟩

set_option maxRecDepth 20000 in
set_option maxHeartbeats 1600000 in
theorem refDivYes (s t : ByteArray) (w : World) (hs : s.size ≤ 1000000000) (ht : t.size ≤ 1000000000) (h : chk s.data.toList = true) (h2 : chk t.data.toList = true) (h0 : damt t.data.toList ≠ 0) (x : ByteArray) (k : Int)
    (hv : said (txt (dquo s.data.toList t.data.toList)) = .tuple #[.string x, .int .i64 k]) :
    Calls Tryz.prog 66 #[.string s, .string t] w fun e w' => e = .returned (.tuple #[.string x, .int .i64 k]) ∧ Below w.heap.size w w' := by
  obtain ⟨N1, s1, d1, N2, s2, d2, a1, a2, HT, hd1⟩ := twoYes2 s t hs ht h h2
  have HD1 := Lib.hid hd1
  clear hd1
  obtain ⟨S, e1, e2, e3⟩ : ∃ S, s1 ≤ S ∧ s2 ≤ S ∧ (S = s1 ∨ S = s2) := ⟨max s1 s2, by omega, by omega, by omega⟩
  have eS : S ≤ 20 := by have := a1.sc; have := a2.sc; omega
  have A := Lib.hid (And.intro a1 (And.intro a2 (And.intro e1 (And.intro e2 (And.intro e3 eS)))))
  have HC := Lib.hid HT
  have HH := Lib.hid (And.intro h h2)
  have HV := Lib.hid hv
  have hpz : 0 < val10 d2 := Nat.pos_of_ne_zero (fun e => h0 (a2.zero.1 e))
  have HZD : Hid (false = decide (val10 d2 = 0)) := Lib.hid (by rw [decide_eq_false (by omega)])
  have HPZ := Lib.hid hpz
  have H0 := Lib.hid h0
  clear hpz h0
  clear a1 a2 e1 e2 e3 eS HT h h2 hv
  go_enter Tryz.func66, Tryz.ntmps66
  go_wp2_with (first
    | (go_at_call 87; (with_reducible refine (HC.out.at _).mono ?_); rintro e w1 ⟨u, v, rfl, hu, hv, hb⟩; have q6 : Rec ((w1.alloc (.cells #[.bool false, .slice none 0 0, .int .i64 0] 97)).alloc (.cells #[.bool false, .slice none 0 0, .int .i64 0] 97)) w1.heap.size false (.slice none 0 0) 0 := (rec_new w1 rfl).alloc _; have q7 : Rec ((w1.alloc (.cells #[.bool false, .slice none 0 0, .int .i64 0] 97)).alloc (.cells #[.bool false, .slice none 0 0, .int .i64 0] 97)) (w1.heap.size + 1) false (.slice none 0 0) 0 := rec_new _ (by simp)
       have UO := Lib.hid (And.intro (ints_one hu) (ints_one hv)); have UV := Lib.hid (And.intro (hu.below (two_size w1)) (And.intro (hv.below (two_size w1)) (below_any hb (two_size w1) hb.size))); have hw1 := hb.size; clear hu hv hb)
    | ((with_reducible refine wpList_store44 (m := N1) (u := u) (sd := s1) (.tmp 6) (.tmp 13) w1.heap.size q6 UO.out.1 ?_ ?_ ?_ ?_ ?_); rfl; rfl; rfl; rfl; intro w2 ho p6; have Q7 := Lib.hid (q7.only ho (by omega)); have UV2 := Lib.hid (And.intro (UV.out.1.rec ho q6) (And.intro (UV.out.2.1.rec ho q6) (below_only UV.out.2.2 ho (by omega) (Nat.le_of_lt (Nat.lt_of_le_of_lt hw1 q6.lt))))); clear ho UV q6 q7; have q7 := Q7.out; clear Q7)
    | ((with_reducible refine wpList_store44 (m := N2) (u := v) (sd := s2) (.tmp 7) (.tmp 14) (w1.heap.size + 1) q7 UO.out.2 ?_ ?_ ?_ ?_ ?_); rfl; rfl; rfl; rfl; intro w3 ho p7; have P6 := Lib.hid (p6.only ho (by omega)); have UV3 := Lib.hid (And.intro (UV2.out.1.rec ho q7) (And.intro (UV2.out.2.1.rec ho q7) (below_only UV2.out.2.2 ho (by omega) (Nat.le_of_lt (Nat.lt_of_le_of_lt (Nat.le_succ_of_le hw1) q7.lt))))); clear ho UV2 q7 p6; have p6 := P6.out; have c1 := p7.c1; clear P6)
    | ((with_reducible refine wpList_load44 (.tmp 6) w1.heap.size p6 ?_ ?_ ?_ ?_); rfl; rfl; rfl)
    | ((with_reducible refine wpList_load44 (.tmp 7) (w1.heap.size + 1) p7 ?_ ?_ ?_ ?_); rfl; rfl; rfl)
    | (go_at_call 89; (with_reducible refine (refZero v d2 _ UV3.out.2.1 (by have := A.out.2.1.len; omega) false HZD.out).mono ?_); rintro e w' ⟨rfl, rfl⟩)
    | (go_at_call 106; (with_reducible refine (refQuotient N1 N2 u v d1 d2 s1 s2 S _ UV3.out.1 UV3.out.2.1 A.out.1.small A.out.2.1.small A.out.2.2.1 A.out.2.2.2.1 A.out.2.2.2.2.1 (by have := A.out.2.2.2.2.2; omega) (by have := A.out.1.len; omega) (by have := A.out.2.1.len; omega) HD1.out HPZ.out).mono ?_); rintro e w4 ⟨z, zs, rfl, hz, hzs, hval, hlen, hb4⟩
       have HZ := Lib.hid (And.intro hz (And.intro hzs (And.intro (show zs.length ≤ 1000000000 by have := A.out.1.len; have := A.out.2.1.len; have := A.out.2.2.2.2.2; omega) (below_any UV3.out.2.2 hb4 UV3.out.2.2.size)))); have HX : Hid (said (formP (N1 != N2) zs 20) = .tuple #[.string x, .int .i64 k]) := Lib.hid (by rw [quot_text HH.out.1 HH.out.2 H0.out A.out.1 A.out.2.1 A.out.2.2.1 A.out.2.2.2.1 A.out.2.2.2.2.2 hzs hval]; exact HV.out); clear hz hzs hval hlen hb4)
    | (go_at_call 104; (with_reducible refine (refFormS20 (N1 != N2) z zs _ HZ.out.1 HZ.out.2.1 HZ.out.2.2.1 x k HX).mono ?_); rintro e w5 ⟨rfl, hb5⟩; have HB := Lib.hid (below_any HZ.out.2.2.2 hb5 HZ.out.2.2.2.size); clear hb5))
  go_ret2
  exact ⟨rfl, HB.out⟩

set_option maxRecDepth 20000 in
set_option maxHeartbeats 1600000 in
theorem refDivZero (s t : ByteArray) (w : World) (hs : s.size ≤ 1000000000) (ht : t.size ≤ 1000000000) (h : chk s.data.toList = true) (h2 : chk t.data.toList = true) (h0 : damt t.data.toList = 0) :
    Calls Tryz.prog 66 #[.string s, .string t] w fun e w' => e = .returned (.tuple #[.string ⟨#[]⟩, .int .i64 3]) ∧ Below w.heap.size w w' := by
  obtain ⟨N1, s1, d1, N2, s2, d2, a1, a2, HT, hd1⟩ := twoYes2 s t hs ht h h2
  have HD1 := Lib.hid hd1
  clear hd1
  obtain ⟨S, e1, e2, e3⟩ : ∃ S, s1 ≤ S ∧ s2 ≤ S ∧ (S = s1 ∨ S = s2) := ⟨max s1 s2, by omega, by omega, by omega⟩
  have eS : S ≤ 20 := by have := a1.sc; have := a2.sc; omega
  have A := Lib.hid (And.intro a1 (And.intro a2 (And.intro e1 (And.intro e2 (And.intro e3 eS)))))
  have HC := Lib.hid HT
  have HH := Lib.hid (And.intro h h2)
  have hpz : val10 d2 = 0 := a2.zero.2 h0
  have HZD : Hid (true = decide (val10 d2 = 0)) := Lib.hid (by rw [decide_eq_true hpz])
  clear a1 a2 e1 e2 e3 eS HT h h2 h0 hpz
  go_enter Tryz.func66, Tryz.ntmps66
  go_wp2_with (first
    | (go_at_call 87; (with_reducible refine (HC.out.at _).mono ?_); rintro e w1 ⟨u, v, rfl, hu, hv, hb⟩; have q6 : Rec ((w1.alloc (.cells #[.bool false, .slice none 0 0, .int .i64 0] 97)).alloc (.cells #[.bool false, .slice none 0 0, .int .i64 0] 97)) w1.heap.size false (.slice none 0 0) 0 := (rec_new w1 rfl).alloc _; have q7 : Rec ((w1.alloc (.cells #[.bool false, .slice none 0 0, .int .i64 0] 97)).alloc (.cells #[.bool false, .slice none 0 0, .int .i64 0] 97)) (w1.heap.size + 1) false (.slice none 0 0) 0 := rec_new _ (by simp)
       have UO := Lib.hid (And.intro (ints_one hu) (ints_one hv)); have UV := Lib.hid (And.intro (hu.below (two_size w1)) (And.intro (hv.below (two_size w1)) (below_any hb (two_size w1) hb.size))); have hw1 := hb.size; clear hu hv hb)
    | ((with_reducible refine wpList_store44 (m := N1) (u := u) (sd := s1) (.tmp 6) (.tmp 13) w1.heap.size q6 UO.out.1 ?_ ?_ ?_ ?_ ?_); rfl; rfl; rfl; rfl; intro w2 ho p6; have Q7 := Lib.hid (q7.only ho (by omega)); have UV2 := Lib.hid (And.intro (UV.out.1.rec ho q6) (And.intro (UV.out.2.1.rec ho q6) (below_only UV.out.2.2 ho (by omega) (Nat.le_of_lt (Nat.lt_of_le_of_lt hw1 q6.lt))))); clear ho UV q6 q7; have q7 := Q7.out; clear Q7)
    | ((with_reducible refine wpList_store44 (m := N2) (u := v) (sd := s2) (.tmp 7) (.tmp 14) (w1.heap.size + 1) q7 UO.out.2 ?_ ?_ ?_ ?_ ?_); rfl; rfl; rfl; rfl; intro w3 ho p7; have P6 := Lib.hid (p6.only ho (by omega)); have UV3 := Lib.hid (And.intro (UV2.out.1.rec ho q7) (And.intro (UV2.out.2.1.rec ho q7) (below_only UV2.out.2.2 ho (by omega) (Nat.le_of_lt (Nat.lt_of_le_of_lt (Nat.le_succ_of_le hw1) q7.lt))))); clear ho UV2 q7 p6; have p6 := P6.out; have c1 := p7.c1; clear P6)
    | (go_at_call 89; (with_reducible refine (refZero v d2 _ UV3.out.2.1 (by have := A.out.2.1.len; omega) true HZD.out).mono ?_); rintro e w' ⟨rfl, rfl⟩))
  go_ret2
  exact ⟨rfl, UV3.out.2.2⟩
end Go.Proofs.YtoifjjgakblhhaaGreatDoor

/- Which whole number a text is, the document's way. -/
namespace Go.Proofs.YtoifjjgakblhhaaGreatDoor
open Go.RowKit

/-- What ToInt tells. -/
def intSaid : Option Int → Value
  | some v => .tuple #[.int .i64 v, .bool true]
  | none => .tuple #[.int .i64 0, .bool false]
theorem chk_len3 {l : List UInt8} (h : chk l = true) : 3 ≤ l.length := by
  obtain ⟨n, a, b, hsp, ha, hb, la, lb, hw, _⟩ := chk_parts l h
  unfold wr at hw
  simp only at hw
  split at hw
  · cases hw
  · rw [← Option.some.inj hw]
    have h1 := List.length_pos_iff.2 (orN_ne (Lib.trimLeftB a 48))
    have h2 := List.length_pos_iff.2 (orN_ne (Lib.trimRightB b 48))
    simp only [List.length_append, List.length_cons]
    omega
theorem suffix_drop {l : List UInt8} (h : 2 ≤ l.length) : Lib.hasSuffix l [46, 48] = (l.drop (l.length - 2) == [46, 48]) := by
  have := Lib.hasSuffix_of_drop l [46, 48]
  rw [← this, decide_eq_true (by simpa using h), Bool.true_and]; rfl
set_option maxRecDepth 20000 in
theorem refToIntBad (s : ByteArray) (w : World) (hs : s.size ≤ 1000000000) (h : chk s.data.toList = false ∨ 25 < s.size ∨ Lib.hasSuffix s.data.toList [46, 48] = false) :
    Calls Tryz.prog 142 #[.string s] w fun e w' => e = .returned (.tuple #[.int .i64 0, .bool false]) ∧ Below w.heap.size w w' := by
  cases hc : chk s.data.toList with
  | false =>
    have HC : Hid (false = chk s.data.toList) := Lib.hid hc.symm
    clear hc h
    go_enter Tryz.func142, Tryz.ntmps142
    go_wp2_with (go_at_call 78; (with_reducible refine (refCheckB s _ _ hs HC).mono ?_); rintro e w1 ⟨rfl, hb1⟩)
    go_ret2
    exact ⟨rfl, hb1⟩
  | true =>
    have HC : Hid (true = chk s.data.toList) := Lib.hid hc.symm
    have hl3 := chk_len3 hc
    have hss : s.data.toList.length = s.size := Array.length_toList
    by_cases hl : (s.size : Int) > 25
    · clear hc h hl3 hss
      go_enter Tryz.func142, Tryz.ntmps142
      go_wp2_with (go_at_call 78; (with_reducible refine (refCheckB s _ _ hs HC).mono ?_); rintro e w1 ⟨rfl, hb1⟩)
      go_ret2
      exact ⟨rfl, hb1⟩
    · have hsf : Lib.hasSuffix s.data.toList [46, 48] = false := by
        rcases h with h | h | h
        · rw [hc] at h; cases h
        · omega
        · exact h
      rw [suffix_drop (by omega)] at hsf
      obtain ⟨k, hk⟩ : ∃ k : Nat, k = s.size - 2 := ⟨_, rfl⟩
      have hk1 : (s.size : Int) - 2 = k := by omega
      have hk2 : k ≤ s.size := by omega
      have hne : ((s.extract k s.size).toList == [46, 48]) = false := by
        rw [ByteArray.toList_eq, Lib.extract_to_end, ← hsf, hss, hk]
      clear hc h hl3 hss hsf hk
      go_enter Tryz.func142, Tryz.ntmps142
      go_wp2_with (go_at_call 78; (with_reducible refine (refCheckB s _ _ hs HC).mono ?_); rintro e w1 ⟨rfl, hb1⟩)
      go_ret2
      exact ⟨rfl, hb1⟩

theorem whole_none {neg : Bool} {v : Nat} (h : 9223372036854775808 < v) : wholeP neg v = none := by
  unfold wholeP; cases neg
  · rw [if_neg (by decide), if_neg (by omega)]
  · rw [if_pos rfl, if_neg (by omega)]
theorem valD_take (l : List UInt8) (h : l.all isDig = true) (i : Nat) : valD (l.take i) ≤ valD l := by
  have := valD_append (l.take i) (l.drop i)
  rw [List.take_append_drop] at this
  have hp : 1 ≤ 10 ^ (l.drop i).length := Nat.pow_pos (by decide)
  have h2 : valD (l.take i) * 1 ≤ valD (l.take i) * 10 ^ (l.drop i).length := Nat.mul_le_mul_left _ hp
  omega

set_option maxRecDepth 20000 in
set_option maxHeartbeats 3200000 in
theorem refToIntGood (s : ByteArray) (w : World) (hs : s.size ≤ 25) (hc : chk s.data.toList = true) (neg : Bool) (x : List UInt8) (hw : Whole s.data.toList neg x) (a : Int) (b : Bool) (hr : intSaid (wholeP neg (valD x)) = .tuple #[.int .i64 a, .bool b]) :
    Calls Tryz.prog 142 #[.string s] w fun e w' => e = .returned (.tuple #[.int .i64 a, .bool b]) ∧ Below w.heap.size w w' := by
  have HC : Hid (true = chk s.data.toList) := Lib.hid hc.symm
  have hs9 : s.size ≤ 1000000000 := by omega
  have hss : s.data.toList.length = s.size := Array.length_toList
  have hl3 := chk_len3 hc
  obtain ⟨k, hk⟩ : ∃ k : Nat, k = s.size - 2 := ⟨_, rfl⟩
  have hk1 : (s.size : Int) - 2 = k := by omega
  have hk2 : k ≤ s.size := by omega
  have hk0 : 0 < k := by omega
  have hle : ¬ (s.size : Int) > 25 := by omega
  have hsf : Lib.hasSuffix s.data.toList [46, 48] = true := (suffix_iff _).2 ⟨_, hw.eq⟩
  rw [suffix_drop (by omega)] at hsf
  have heq : ((s.extract k s.size).toList == [46, 48]) = true := by
    rw [ByteArray.toList_eq, Lib.extract_to_end, ← hsf, hss, hk]
  have hY : (s.extract 0 k).data.toList = (if neg then [45] else []) ++ x := by
    have h0 : (s.extract 0 k).data.toList = s.data.toList.take k := by
      rw [Lib.extract_data]; rfl
    have h2 := congrArg List.length hw.eq
    rw [List.length_append] at h2
    rw [h0, hw.eq]
    exact List.take_left' (by simp at h2 ⊢; omega)
  obtain ⟨D, hD⟩ : ∃ D : ByteArray, D = bs x := ⟨_, rfl⟩
  have hps : 0 < (s.extract 0 k).size := by simp [ByteArray.size_extract]; omega
  have hh : (s.extract 0 k)[0] = ((if neg then [45] else []) ++ x).headD 0 := by
    rw [byte_at _ 0 hps]
    have : ∀ (l : List UInt8) (q : 0 < l.length), l[0] = l.headD 0 := fun l q => by
      cases l with
      | nil => exact absurd q (by simp)
      | cons c r => rfl
    rw [this _ (by simpa using hps), hY]
  have h45 : (((s.extract 0 k)[0].toNat : Int) == 45) = neg := by
    cases neg with
    | true => rw [hh]; rfl
    | false =>
      have hx := hw.all
      have hn := hw.ne
      cases x with
      | nil => exact absurd rfl hn
      | cons c r =>
        rw [List.all_cons, Bool.and_eq_true] at hx
        have := dig_le hx.1
        rw [hh]
        show (((c.toNat : Nat) : Int) == 45) = false
        simp; omega
  have HY := Lib.hid hY
  have HD := Lib.hid hD
  have HW := Lib.hid hw
  have HR := Lib.hid hr
  clear hc hss hl3 hk hsf hY hD hw hr hh
  go_enter Tryz.func142, Tryz.ntmps142
  go_upto_if 33 with (go_at_call 78; (with_reducible refine (refCheckB s _ _ hs9 HC).mono ?_); rintro e w1 ⟨rfl, hb1⟩)
  go_cut [5] (fun s5 wx => s5 = .string D ∧ wx = w1)
  case first =>
    cases neg with
    | true =>
      have hE : (s.extract 0 k).extract 1 k = D := by
        apply bytes_ext
        have h1 := Lib.extract_data (s.extract 0 k) 1 k
        rw [HY.out] at h1
        rw [HD.out]
        have h2 := congrArg List.length HY.out
        have h3 : (s.extract 0 k).data.toList.length = k := by simp; omega
        rw [h3] at h2
        have h4 : k = x.length + 1 := by simpa using h2
        show _ = x
        rw [h1]
        show List.take (k - 1) x = x
        exact List.take_of_length_le (by omega)
      clear h45 heq
      go_wp2_with fail
      go_meet
      case rel => exact ⟨rfl, rfl⟩
    | false =>
      have hE : s.extract 0 k = D := by
        apply bytes_ext
        rw [HY.out, HD.out]; rfl
      clear h45 heq
      go_wp2_with fail
      go_meet
      case rel => exact ⟨rfl, rfl⟩
  case rest =>
    obtain ⟨rfl, rfl⟩ := hcut
    clear h45 heq hps hk1 hk2 hk0 HY hle
    have hxl : x.length = D.size := by rw [HD.out]; exact Array.length_toList.symm
    have hxs : D.size ≤ 40 := by rw [← hxl]; exact HW.out.len
    have HXL := Lib.hid hxl
    have hall := HW.out.all
    have HA := Lib.hid hall
    clear hxl hall
    go_wp2_with fail
    go_loopg [4, 7] D.size (fun gg s4 s7 wr => ∃ (i v : Nat) (m : Int), i + gg = D.size ∧ s7 = .int .i64 i ∧ s4 = .int .i64 m ∧ Hid (m = -(v : Int)) ∧ m ≤ 0 ∧ -9223372036854775808 ≤ m ∧ Hid (v = valD (x.take i)) ∧ wr = wc)
    case atStart => exact ⟨0, 0, _, by omega, rfl, rfl, Lib.hid rfl, by omega, by omega, Lib.hid rfl, rfl⟩
    case round =>
      obtain ⟨i, v, m, hig, rfl, rfl, HM, hm0, hm1, HV, rfl⟩ := hrel
      by_cases hlt : (i : Int) < D.size
      · have hi : i < D.size := by omega
        have hil : i < x.length := by rw [HXL.out]; exact hi
        have hbyte : D[i] = x[i] := by
          rw [byte_at D i hi]
          have e2 : D.data.toList = x := by rw [HD.out]
          simp [e2]
        have hdg := dig_le (List.all_eq_true.1 HA.out _ (List.getElem_mem hil))
        rw [← hbyte] at hdg
        obtain ⟨d, hd⟩ : ∃ d : Nat, d = D[i].toNat - 48 := ⟨_, rfl⟩
        have hd1 : (D[i].toNat : Int) - 48 = d := by omega
        have hd9 : d ≤ 9 := by omega
        have hw1 : IntKind.u8.wrap (d : Int) = d := by unfold IntKind.wrap; simp [IntKind.bits, IntKind.signed]; omega
        have hw2 : IntKind.i64.wrap (d : Int) = d := IntWalk.i64_in _ (by omega)
        have hnext : valD (x.take (i + 1)) = v * 10 + d := by rw [take_val x i hil, ← HV.out, ← hbyte, ← hd]
        have hds := down_step (v := v) (k := d) hd9
        rw [← HM.out] at hds
        have HNX := Lib.hid hnext
        have HDS := Lib.hid hds
        clear hnext hds hd hbyte hdg
        by_cases hov : 9223372036854775808 < v * 10 + d
        · have hlt2 : m < (-9223372036854775808 + (d : Int)).tdiv 10 := HDS.out.2 hov
          have hnone : wholeP neg (valD x) = none := whole_none (by have := valD_take x HA.out (i + 1); rw [HNX.out] at this; omega)
          have hab : a = 0 ∧ b = false := by
            have := HR.out
            rw [hnone] at this
            simp [intSaid] at this
            obtain ⟨q1, q2⟩ := this
            exact ⟨by omega, by cases b <;> simp_all⟩
          obtain ⟨rfl, rfl⟩ := hab
          clear HR hnone HDS
          go_wp2_with fail
          go_ret2
          exact ⟨rfl, hb1⟩
        · have hlt2 : ¬ m < (-9223372036854775808 + (d : Int)).tdiv 10 := fun q => hov (HDS.out.1 q)
          have hmv : m = -(v : Int) := HM.out
          have HMN : Hid (10 * m - d = -((v * 10 + d : Nat) : Int)) := Lib.hid (by rw [hmv]; omega)
          have hr1 : 10 * m - d ≤ 0 := by omega
          have hr2 : -9223372036854775808 ≤ 10 * m - d := by omega
          have hr3 : -9223372036854775808 ≤ 10 * m := by omega
          clear hmv HDS
          go_wp2_with fail
          go_roundg (gk - 1)
          case measure => omega
          case rel => exact ⟨i + 1, v * 10 + d, 10 * m - d, by omega, by go_num, rfl, HMN, hr1, hr2, Lib.hid HNX.out.symm, rfl⟩
      · obtain rfl : i = D.size := by omega
        have hvv : v = valD x := by rw [HV.out, List.take_of_length_le (by rw [HXL.out]; exact Nat.le_refl _)]
        have hmv : m = -(v : Int) := HM.out
        have hr := HR.out
        rw [← hvv] at hr
        cases neg with
        | true =>
          have hab : a = m ∧ b = true := by
            unfold wholeP at hr
            rw [if_pos rfl, if_pos (by omega)] at hr
            simp [intSaid] at hr
            obtain ⟨q1, q2⟩ := hr
            exact ⟨by omega, by cases b <;> simp_all⟩
          obtain ⟨rfl, rfl⟩ := hab
          clear HR hr hmv hvv
          go_wp2_with fail
          go_ret2
          exact ⟨rfl, hb1⟩
        | false =>
          by_cases hmin : m = -9223372036854775808
          · have hab : a = 0 ∧ b = false := by
              unfold wholeP at hr
              rw [if_neg (by decide), if_neg (by omega)] at hr
              simp [intSaid] at hr
              obtain ⟨q1, q2⟩ := hr
              exact ⟨by omega, by cases b <;> simp_all⟩
            obtain ⟨rfl, rfl⟩ := hab
            clear HR hr hmv hvv
            have hminb : (m == -9223372036854775808) = true := by simpa using hmin
            go_wp2_with fail
            go_ret2
            exact ⟨rfl, hb1⟩
          · have hab : a = -m ∧ b = true := by
              unfold wholeP at hr
              rw [if_neg (by decide), if_pos (by omega)] at hr
              simp [intSaid] at hr
              obtain ⟨q1, q2⟩ := hr
              exact ⟨by omega, by cases b <;> simp_all⟩
            obtain ⟨rfl, rfl⟩ := hab
            clear HR hr hmv hvv
            have hminb : (m == -9223372036854775808) = false := by simpa using hmin
            go_wp2_with fail
            go_ret2
            exact ⟨rfl, hb1⟩
end Go.Proofs.YtoifjjgakblhhaaGreatDoor

/- Whole numbers as decimals; what two of them make, by the document's own reckoning. -/
namespace Go.Proofs.YtoifjjgakblhhaaGreatDoor
open Go.RowKit

/-- A whole number's text as a decimal, however great. -/
def wholeT (m : Int) : ByteArray := bs ((if decide (m < 0) then [45] else []) ++ Lib.decDigits m.natAbs ++ [46, 48])
theorem digits_up : (k u : Nat) → u < 10 ^ (k + 1) → (Lib.decDigits u).length ≤ k + 1
  | 0, u, h => by
    rw [Lib.decDigits_one (by omega)]
    simp
  | k + 1, u, h => by
    by_cases h10 : u < 10
    · rw [Lib.decDigits_one h10]
      simp
    · rw [Lib.decDigits, dif_neg h10, List.length_append, List.length_cons, List.length_nil]
      have := digits_up k (u / 10) (by rw [Nat.pow_succ] at h; exact Nat.div_lt_of_lt_mul (by rw [Nat.mul_comm]; exact h))
      omega
theorem wholeT_data (m : Int) : (wholeT m).data.toList = (if decide (m < 0) then [45] else []) ++ Lib.decDigits m.natAbs ++ [46, 48] := by simp [wholeT, bs]
theorem signed_abs (m : Int) : (if decide (m < 0) then -(m.natAbs : Int) else m.natAbs) = m := by
  by_cases h : m < 0
  · simp [h]; omega
  · simp [h]; omega
theorem wholeT_facts (m : Int) (h : m.natAbs < 10 ^ 39) : chk (wholeT m).data.toList = true ∧ dval (wholeT m).data.toList = m * 10 ^ 54 ∧ (wholeT m).size ≤ 100 := by
  have hl := digits_up 38 m.natAbs h
  refine ⟨?_, ?_, ?_⟩
  · rw [wholeT_data]
    exact whole_text (decide (m < 0)) m.natAbs (fun q => by have : m < 0 := by simpa using q
                                                            omega) (by omega)
  · rw [wholeT_data, whole_val]
    exact congrArg (· * 10 ^ 54) (signed_abs m)
  · unfold wholeT
    rw [bs_size]
    simp only [List.length_append, List.length_cons, List.length_nil]
    split <;> simp <;> omega
theorem wholeT_said (m : Int) (h : m.natAbs < 10 ^ 39) : said (txt (m * 10 ^ 54)) = .tuple #[.string (wholeT m), .int .i64 0] := by
  obtain ⟨h1, h2, _⟩ := wholeT_facts m h
  have h3 := (chk_dec _ h1).1
  rw [h2] at h3
  rw [h3, wholeT_data]
  rfl
theorem refOfIntT (n : Int) (h0 : -9223372036854775808 ≤ n) (h1 : n ≤ 9223372036854775807) (w : World) :
    Calls Tryz.prog 41 #[.int .i64 n] w fun e w' => e = .returned (.string (wholeT n)) ∧ Below w.heap.size w w' := by
  by_cases hneg : n < 0
  · obtain ⟨u, rfl⟩ : ∃ u : Nat, n = -(u : Int) := ⟨n.natAbs, by omega⟩
    have e : wholeT (-(u : Int)) = ⟨#[45]⟩ ++ bs (Lib.decDigits u) ++ ⟨#[46, 48]⟩ := by
      apply bytes_ext
      rw [wholeT_data]
      have hu : 0 < u := by omega
      simp [hu, bs]
    rw [e]
    exact refOfIntNeg u (by omega) (by omega) w _ (Lib.hid rfl)
  · obtain ⟨u, rfl⟩ := Int.eq_ofNat_of_zero_le (Int.not_lt.1 hneg)
    have e : wholeT (u : Int) = bs (Lib.decDigits u) ++ ⟨#[46, 48]⟩ := by
      apply bytes_ext
      rw [wholeT_data]
      simp [bs]
    rw [e]
    exact refOfIntNat u (by omega) w _ (Lib.hid rfl)
theorem wholeP_in (m : Int) : wholeP (decide (m < 0)) m.natAbs = if inI m then some m else none := by
  unfold wholeP inI
  by_cases h : m < 0
  · have hd : decide (m < 0) = true := by simpa using h
    rw [hd, if_pos rfl]
    by_cases h2 : m.natAbs ≤ 9223372036854775808
    · rw [if_pos h2, if_pos (by simp; omega)]
      congr 1
      omega
    · rw [if_neg h2, if_neg (by simp; omega)]
  · have hd : decide (m < 0) = false := by simpa using h
    rw [hd, if_neg (by simp)]
    by_cases h2 : m.natAbs < 9223372036854775808
    · rw [if_pos h2, if_pos (by simp; omega)]
      congr 1
      omega
    · rw [if_neg h2, if_neg (by simp; omega)]
theorem refToIntT (m : Int) (h : m.natAbs < 10 ^ 39) (w : World) :
    Calls Tryz.prog 142 #[.string (wholeT m)] w fun e w' => e = .returned (.tuple #[.int .i64 (if inI m then m else 0), .bool (inI m)]) ∧ Below w.heap.size w w' := by
  obtain ⟨h1, h2, h3⟩ := wholeT_facts m h
  by_cases hs : (wholeT m).size ≤ 25
  · obtain ⟨a1, a2, a3, a4⟩ := dec_all m.natAbs
    have hw : Whole (wholeT m).data.toList (decide (m < 0)) (Lib.decDigits m.natAbs) :=
      ⟨wholeT_data m, a1, a3, by have := digits_up 38 m.natAbs h; omega, fun h2 => by
        by_cases h0 : m.natAbs = 0
        · rw [h0, Lib.decDigits_one (by omega)] at h2
          simp at h2
        · exact a4 (by omega)⟩
    refine refToIntGood (wholeT m) w hs h1 _ _ hw _ _ ?_
    rw [a2, wholeP_in]
    cases inI m <;> rfl
  · have hno : inI m = false := by
      refine inI_no (fun q => hs ?_)
      have hl := dec_len m.natAbs (by omega)
      unfold wholeT
      rw [bs_size]
      simp only [List.length_append, List.length_cons, List.length_nil]
      split <;> simp <;> omega
    rw [hno]
    exact refToIntBad (wholeT m) w (by omega) (.inr (.inl (by omega)))
theorem mul_core {T A B x y : Nat} (hT : 0 < T) (hA : A = x * T) (hB : B = y * T) : A * B / T = x * y * T := by
  subst hA hB
  rw [Nat.mul_mul_mul_comm, ← Nat.mul_assoc, Nat.mul_div_cancel _ hT]
theorem sign_core {T : Int} (hT : 0 < T) {a : Int} {s : Bool} {A : Nat} (h : sv s A = a * T) (hs : s = true → A ≠ 0) : (s = true ↔ a < 0) ∧ (A : Int) = a.natAbs * T := by
  unfold sv at h
  cases s with
  | true =>
    have hA := hs rfl
    rw [if_pos rfl] at h
    have hneg : a < 0 := by
      refine Int.not_le.1 fun q => ?_
      have := Int.mul_nonneg q (Int.le_of_lt hT)
      omega
    refine ⟨by simp [hneg], ?_⟩
    have e : (a.natAbs : Int) = -a := by omega
    rw [e, Int.neg_mul]
    omega
  | false =>
    rw [if_neg (by simp)] at h
    have hnn : ¬ a < 0 := fun q => by
      have := Int.mul_neg_of_neg_of_pos q hT
      omega
    refine ⟨by simp [hnn], ?_⟩
    have e : (a.natAbs : Int) = a := by omega
    rw [e]
    exact h
theorem dmul_int {l r : List UInt8} (h : chk l = true) (h2 : chk r = true) {a b : Int} (ha : dval l = a * 10 ^ 54) (hb : dval r = b * 10 ^ 54) : dmul l r = a * b * 10 ^ 54 := by
  obtain ⟨_, _, _, s1, _⟩ := chk_dec _ h
  obtain ⟨_, _, _, s2, _⟩ := chk_dec _ h2
  unfold dval at ha hb
  unfold dmul
  obtain ⟨T, hT⟩ : ∃ T : Nat, T = 10 ^ 54 := ⟨_, rfl⟩
  have hTI : (10 : Int) ^ 54 = (T : Int) := by rw [hT]; rfl
  rw [hTI] at ha hb ⊢
  rw [← hT]
  have hp : 0 < T := by rw [hT]; exact Nat.pow_pos (by decide)
  clear hT hTI
  have k1 := sign_core (T := (T : Int)) (by omega) ha s1
  have k2 := sign_core (T := (T : Int)) (by omega) hb s2
  have A1 : damt l = a.natAbs * T := by have := k1.2; rw [← Int.natCast_mul] at this; exact Int.ofNat_inj.1 this
  have A2 : damt r = b.natAbs * T := by have := k2.2; rw [← Int.natCast_mul] at this; exact Int.ofNat_inj.1 this
  rw [mul_core hp A1 A2]
  unfold sv
  have e : (a * b).natAbs = a.natAbs * b.natAbs := Int.natAbs_mul a b
  by_cases hz : (dsign l != dsign r) = true
  · rw [if_pos hz]
    have hab : a * b = -((a.natAbs * b.natAbs : Nat) : Int) := by
      rw [← e]
      cases h1 : dsign l <;> cases h2 : dsign r <;> rw [h1, h2] at hz <;> (try exact absurd hz (by decide))
      · have p1 : ¬ a < 0 := fun q => by have := k1.1.2 q; rw [h1] at this; cases this
        have p2 : b < 0 := k2.1.1 h2
        have := Int.mul_nonpos_of_nonneg_of_nonpos (Int.not_lt.1 p1) (Int.le_of_lt p2)
        omega
      · have p1 : a < 0 := k1.1.1 h1
        have p2 : ¬ b < 0 := fun q => by have := k2.1.2 q; rw [h2] at this; cases this
        have := Int.mul_nonpos_of_nonpos_of_nonneg (Int.le_of_lt p1) (Int.not_lt.1 p2)
        omega
    rw [hab, Int.natCast_mul, Int.neg_mul]
  · rw [if_neg hz]
    have hab : a * b = ((a.natAbs * b.natAbs : Nat) : Int) := by
      rw [← e]
      cases h1 : dsign l <;> cases h2 : dsign r <;> rw [h1, h2] at hz <;> (try exact absurd (show (_ : Bool) = true by rfl) hz)
      · have p1 : ¬ a < 0 := fun q => by have := k1.1.2 q; rw [h1] at this; cases this
        have p2 : ¬ b < 0 := fun q => by have := k2.1.2 q; rw [h2] at this; cases this
        have := Int.mul_nonneg (Int.not_lt.1 p1) (Int.not_lt.1 p2)
        omega
      · have p1 : a < 0 := k1.1.1 h1
        have p2 : b < 0 := k2.1.1 h2
        have := Int.mul_nonneg_of_nonpos_of_nonpos (Int.le_of_lt p1) (Int.le_of_lt p2)
        omega
    rw [hab, Int.natCast_mul]
end Go.Proofs.YtoifjjgakblhhaaGreatDoor
