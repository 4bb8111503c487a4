/- Texts of one kind, one behind the other: each says ahead of itself what it shows. -/
import Derived.Test.YtoifjjgakblhhaaGreatDoorHaq
import Derived.Test.YtoifjjgakblhhaaGreatDoorHai
import Derived.Test.YtoifjjgakblhhaaGreatDoorHak
import Derived.Deep.LoopGhost
import Derived.Test.YtoifjjgakblhhaaGreatDoorHap
import Derived.Test.YtoifjjgakblhhaaGreatDoorHab
import Derived.Shelf.Small.Strs
import Derived.Test.YtoifjjgakblhhaaGreatDoorHaf
/- The document's own answer: whether a value may be: lists, strangers, all put together. -/
namespace Go.Proofs.YtoifjjgakblhhaaGreatDoor
open Go.RowKit

/-- What the document's own may answers of a value that lies in d lists. -/
def RefMayAt (v : Val) (d : Nat) : Prop := ∀ (W : World) (k : Int) (b : Bool) (n : Int) (t x : ByteArray) (q : List Val) (p : Option Addr) (cap : Nat), v = .mk k b n t x q → Fine n t x q.length → Held W (.slice p q.length cap) q →
  Calls Tryz.prog 39 #[.agg #[.int .i64 k, .bool b, .int .i64 n, .string t, .string x, .slice p q.length cap], .int .i64 d] W fun e w' => e = .returned (.bool (mayP v d)) ∧ Below W.heap.size W w'

set_option maxRecDepth 20000 in
set_option maxHeartbeats 6400000 in
theorem refMayX (k : Int) (b : Bool) (n : Int) (t x : ByteArray) (p : Option Addr) (len cap d : Nat) (r0 : Bool) (w : World) (hd : (d : Int) ≤ 60) (hk : k < 0 ∨ 10 < k) :
    Calls Tryz.prog 39 #[.agg #[.int .i64 k, .bool b, .int .i64 n, .string t, .string x, .slice p len cap], .int .i64 d] w fun e w' => e = .returned (.bool (fitsP k b n t x len r0)) ∧ Below w.heap.size w w' := by
  have S := six_new (k := k) (b := b) (n := n) (t := t) (x := x) (p := p) (len := len) (cap := cap) w rfl
  have b0 := below1 w (.cells #[.int .i64 k, .bool b, .int .i64 n, .string t, .string x, .slice p len cap] 28)
  have f0 := S.c0
  have f1 := S.c1
  have f2 := S.c2
  have f3 := S.c3
  have f4 := S.c4
  have f5 := S.c5
  have e : fitsP k b n t x len r0 = false := by
    unfold fitsP
    rw [if_neg (by omega), if_neg (by omega), if_neg (by omega), if_neg (by omega), if_neg (by omega), if_neg (by omega), if_neg (by omega), if_neg (by omega), if_neg (by omega), if_neg (by omega)]
  rw [e]
  have e0 : (k == 0) = false := by simp; omega
  have e1 : (k == 1) = false := by simp; omega
  have e2 : (k == 2) = false := by simp; omega
  have e3 : (k == 3) = false := by simp; omega
  have e4 : (k == 4) = false := by simp; omega
  have e5 : (k == 5) = false := by simp; omega
  have e6 : (k == 6) = false := by simp; omega
  have e7 : (k == 7) = false := by simp; omega
  have e8 : (k == 8) = false := by simp; omega
  have e9 : (k == 9) = false := by simp; omega
  have e10 : (k == 10) = false := by simp; omega
  clear hk e
  go_enter Tryz.func39, Tryz.ntmps39
  go_wp2_with fail
  go_ret
  exact ⟨rfl, b0⟩

set_option maxRecDepth 20000 in
set_option maxHeartbeats 6400000 in
theorem refMay5 (b : Bool) (n : Int) (t x : ByteArray) (q : List Val) (p : Option Addr) (cap d : Nat) (w : World) (hd : (d : Int) ≤ 60) (hf : Fine n t x q.length) (hl : Held w (.slice p q.length cap) q) (each : d + 1 ≤ 60 → ∀ v ∈ q, RefMayAt v (d + 1)) :
    Calls Tryz.prog 39 #[.agg #[.int .i64 5, .bool b, .int .i64 n, .string t, .string x, .slice p q.length cap], .int .i64 d] w fun e w' => e = .returned (.bool (fitsP 5 b n t x q.length (decide (q.length ≤ 4096) && decide (d + 1 ≤ 60) && eachP q (d + 1)))) ∧ Below w.heap.size w w' := by
  obtain ⟨r, hr⟩ : ∃ r, r = fitsP 5 b n t x q.length (decide (q.length ≤ 4096) && decide (d + 1 ≤ 60) && eachP q (d + 1)) := ⟨_, rfl⟩
  rw [← hr]
  have S := six_new (k := 5) (b := b) (n := n) (t := t) (x := x) (p := p) (len := q.length) (cap := cap) w rfl
  have b0 := below1 w (.cells #[.int .i64 5, .bool b, .int .i64 n, .string t, .string x, .slice p q.length cap] 28)
  obtain ⟨m, hm⟩ : ∃ m, m = q.length := ⟨_, rfl⟩
  have hr2 : r = (decide (m ≤ 4096) && decide (d + 1 ≤ 60) && eachP q (d + 1) && (!b && !(n != 0) && !(!t.toList.isEmpty) && !(!x.toList.isEmpty))) := by
    rw [hr, hm, show fitsP 5 b n t x q.length (decide (q.length ≤ 4096) && decide (d + 1 ≤ 60) && eachP q (d + 1)) = (decide (q.length ≤ 4096) && decide (d + 1 ≤ 60) && eachP q (d + 1) && bareP b n t x 0) from rfl, bareP_as]
    simp
  rw [← hm] at S b0 ⊢
  clear hr
  have f0 := S.c0
  have f1 := S.c1
  have f2 := S.c2
  have f3 := S.c3
  have f4 := S.c4
  have f5 := S.c5
  have HM := Lib.hid hm
  by_cases hall : ((!b && !(n != 0) && !(!t.toList.isEmpty) && !(!x.toList.isEmpty)) = true ∧ m ≤ 4096) ∧ d + 1 ≤ 60
  · obtain ⟨⟨h1, h2⟩, h3⟩ := hall
    rw [h1, decide_eq_true h2, decide_eq_true h3, Bool.true_and, Bool.true_and, Bool.and_true] at hr2
    simp only [Bool.and_eq_true, Bool.not_eq_true', Bool.not_not] at h1
    obtain ⟨⟨⟨rfl, hn0⟩, ht0⟩, hx0⟩ := h1
    have hd1 : (d : Int) + 1 ≤ 60 := by omega
    have HE := Lib.hid (each h3)
    have HR := Lib.hid hr2
    have HL := Lib.hid hl
    have HS := Lib.hid S
    have h2i : (m : Int) ≤ 4096 := by omega
    clear each hr2 hl hm hf S
    go_enter Tryz.func39, Tryz.ntmps39
    go_wp2_with fail
    go_loopw [10] (fun i wr => ∃ j : Nat, j ≤ m ∧ i = .int .i64 j ∧ Below w.heap.size w wr ∧ Six wr w.heap.size 5 false n t x p m cap ∧ Hid (∀ (i : Nat) (h : i < q.length), i < j → mayP q[i] (d + 1) = true)) (fun i _ => m - (intOf i).toNat)
    case atStart => exact ⟨0, Nat.zero_le _, rfl, b0, HS.out, Lib.hid fun _ _ h => absurd h (by omega)⟩
    case round =>
      clear f0 f1 f2 f3 f4 f5 b0
      obtain ⟨j, hj, rfl, hb, S, HA⟩ := hrel
      have f5 := S.c5
      by_cases hlt : (j : Int) < m
      · have hj1 : j < q.length := by have := HM.out; omega
        obtain ⟨g, off, rfl, hh⟩ : ∃ g off, p = some ⟨g, off, none⟩ ∧ Holds w g off q := by
          have hq := HL.out
          cases q with
          | nil => simp at hj1
          | cons v r => exact hq.form
        obtain ⟨k1, b1, n1, t1, x1, q1, p1, cp1, o1⟩ := ((Holds.at_ q off hh j hj1).below _ hb).opens
        have hc := HE.out q[j] (List.getElem_mem hj1) wr k1 b1 n1 t1 x1 q1 p1 cp1 o1.e o1.hf o1.hl
        obtain ⟨c, hcc⟩ : ∃ c, c = mayP q[j] (d + 1) := ⟨_, rfl⟩
        rw [← hcc] at hc
        have hc' : Calls Tryz.prog 39 #[.agg #[.int .i64 k1, .bool b1, .int .i64 n1, .string t1, .string x1, .slice p1 q1.length cp1], .int .i64 ((d : Int) + 1)] wr fun e w' => e = .returned (.bool c) ∧ Below wr.heap.size wr w' := hc
        have HC := Lib.hid hcc
        have HC2 := Lib.hid hc'
        clear hc hc' hcc
        have O1 := Lib.hid o1
        clear o1 hh
        cases c with
        | true =>
          go_wp2_with (first
            | ((with_reducible refine wpList_loadMid6 (.tmp 158) g (off + j * 6) k1 b1 n1 t1 x1 _ O1.out.c0 O1.out.c1 O1.out.c2 O1.out.c3 O1.out.c4 O1.out.c5 ?_ ?_ ?_ ?_); rfl; rfl; rfl)
            | (go_at_call 39; (with_reducible refine HC2.out.mono ?_); rintro e w3 ⟨rfl, hb3⟩; have b3 := below_any hb hb3 hb.size; have S3 := S.below hb3; clear hb3))
          go_roundw
          case rel =>
            refine ⟨j + 1, by omega, by go_num, b3, S3, Lib.hid fun i hi hlt' => ?_⟩
            by_cases e : i = j
            · subst e; exact HC.out.symm
            · exact HA.out i hi (by omega)
          case measure => simp [intOf]; omega
        | false =>
          go_wp2_with (first
            | ((with_reducible refine wpList_loadMid6 (.tmp 158) g (off + j * 6) k1 b1 n1 t1 x1 _ O1.out.c0 O1.out.c1 O1.out.c2 O1.out.c3 O1.out.c4 O1.out.c5 ?_ ?_ ?_ ?_); rfl; rfl; rfl)
            | (go_at_call 39; (with_reducible refine HC2.out.mono ?_); rintro e w3 ⟨rfl, hb3⟩; have b3 := below_any hb hb3 hb.size; clear hb3))
          go_ret
          exact ⟨by rw [HR.out, eachP_no q (d + 1) j hj1 HC.out.symm]; rfl, b3⟩
      · go_wp2_with fail
        go_ret
        exact ⟨by rw [HR.out, eachP_yes q (d + 1) fun i h => HA.out i h (by have := HM.out; omega)]; rfl, hb⟩
  · have hr3 : r = false := by
      rw [hr2, Bool.eq_false_iff]
      intro h
      simp only [Bool.and_eq_true, decide_eq_true_eq] at h hall
      exact hall ⟨⟨⟨⟨⟨h.2.1.1.1, h.2.1.1.2⟩, h.2.1.2⟩, h.2.2⟩, h.1.1.1⟩, h.1.1.2⟩
    subst hr3
    have HALL := Lib.hid hall
    clear hr2 hall each hl hf hm
    obtain ⟨w1, hw1⟩ : ∃ w1, w1 = w.alloc (.cells #[.int .i64 5, .bool b, .int .i64 n, .string t, .string x, .slice p m cap] 28) := ⟨_, rfl⟩
    rw [← hw1] at S b0
    have HW := Lib.hid hw1
    clear hw1
    go_enter Tryz.func39, Tryz.ntmps39
    go_upto_region 9 with fail
    rw [← HW.out]
    clear f0 f1 f2 f3 f4 f5
    have f5 := S.c5
    have HA := HALL.out
    generalize (n != 0) = nb at HA ⊢
    generalize (!t.toList.isEmpty) = tb at HA ⊢
    generalize (!x.toList.isEmpty) = xb at HA ⊢
    have HA3 := Lib.hid HA
    clear HA HALL
    go_wp2_with fail
    all_goals
      first
      | (go_ret
         exact ⟨rfl, b0⟩)
      | (exfalso
         have := HA3.out
         simp_all
         omega)
end Go.Proofs.YtoifjjgakblhhaaGreatDoor

/- The document's own answer: whether a value may be, for values in one another. -/
namespace Go.Proofs.YtoifjjgakblhhaaGreatDoor
open Go.RowKit

theorem refMayStep (v : Val) (k : Int) (b : Bool) (n : Int) (t x : ByteArray) (q : List Val) (ev : v = .mk k b n t x q) (d : Nat) (hd : d ≤ 60) (each : d + 1 ≤ 60 → ∀ u ∈ q, RefMayAt u (d + 1)) : RefMayAt v d := by
  subst ev
  intro W k1 b1 n1 t1 x1 q1 p cap e hf hl
  cases e
  rw [show mayP (.mk k b n t x q) d = fitsP k b n t x q.length (decide (q.length ≤ 4096) && decide (d + 1 ≤ 60) && eachP q (d + 1)) by conv => lhs; unfold mayP]
  have hd' : (d : Int) ≤ 60 := by omega
  by_cases h0 : k = 0
  · subst h0; exact refMay0 b n t x p q.length cap d _ W hd' hf.ht hf.hx
  by_cases h1 : k = 1
  · subst h1; exact refMay1 b n t x p q.length cap d _ W hd' hf.ht hf.hx
  by_cases h2 : k = 2
  · subst h2; exact refMay2 b n t x p q.length cap d _ W hd' hf.ht hf.hx
  by_cases h3 : k = 3
  · subst h3; exact refMay3 b n t x p q.length cap d _ W hd' hf.ht hf.hx
  by_cases h4 : k = 4
  · subst h4; exact refMay4 b n t x p q.length cap d _ W hd' hf.ht hf.hx
  by_cases h5 : k = 5
  · subst h5; exact refMay5 b n t x q p cap d W hd' hf hl each
  by_cases h6 : k = 6
  · subst h6; exact refMay6 b n t x p q.length cap d _ W hd' hf.ht hf.hx
  by_cases h7 : k = 7
  · subst h7; exact refMay7 b n t x p q.length cap d _ W hd' hf.ht hf.hx
  by_cases h8 : k = 8
  · subst h8; exact refMay8 b n t x p q.length cap d _ W hd' hf.ht hf.hx
  by_cases h9 : k = 9
  · subst h9; exact refMay9 b n t x p q.length cap d _ W hd' hf.ht hf.hx
  by_cases h10 : k = 10
  · subst h10; exact refMay10 b n t x p q.length cap d _ W hd' hf.ht hf.hx
  exact refMayX k b n t x p q.length cap d _ W hd' (by omega)
mutual
theorem refMayVal : (v : Val) → (d : Nat) → d ≤ 60 → RefMayAt v d
  | .mk k b n t x q, d, hd => refMayStep _ k b n t x q rfl d hd (fun h => refMayEach q (d + 1) h)
theorem refMayEach : (q : List Val) → (d : Nat) → d ≤ 60 → ∀ u ∈ q, RefMayAt u d
  | [], _, _, _, h => absurd h (by simp)
  | v :: r, d, hd, u, h => by
    rcases List.mem_cons.1 h with h | h
    · rw [h]; exact refMayVal v d hd
    · exact refMayEach r d hd u h
end
set_option maxHeartbeats 1600000 in
/-- The document's own May. -/
theorem refMay (k : Int) (b : Bool) (n : Int) (t x : ByteArray) (q : List Val) (p : Option Addr) (cap : Nat) (w : World) (hf : Fine n t x q.length) (hl : Held w (.slice p q.length cap) q) :
    Calls Tryz.prog 14 #[.agg #[.int .i64 k, .bool b, .int .i64 n, .string t, .string x, .slice p q.length cap]] w fun e w' => e = .returned (.bool (mayP (.mk k b n t x q) 0)) ∧ Below w.heap.size w w' := by
  obtain ⟨w1, hw1⟩ : ∃ w1, w1 = w.alloc (.cells #[.int .i64 k, .bool b, .int .i64 n, .string t, .string x, .slice p q.length cap] 28) := ⟨_, rfl⟩
  have S : Six w1 w.heap.size k b n t x p q.length cap := by rw [hw1]; exact six_new _ rfl
  have b0 : Below w.heap.size w w1 := by rw [hw1]; exact below1 _ _
  have hc := refMayVal (.mk k b n t x q) 0 (by omega) w1 k b n t x q p cap rfl hf (Held.below q hl b0)
  have hc' : Calls Tryz.prog 39 #[.agg #[.int .i64 k, .bool b, .int .i64 n, .string t, .string x, .slice p q.length cap], .int .i64 0] w1 fun e w' => e = .returned (.bool (mayP (.mk k b n t x q) 0)) ∧ Below w1.heap.size w1 w' := hc
  have HW := Lib.hid hw1
  clear hw1 hl hf hc
  generalize mayP (.mk k b n t x q) 0 = r at hc' ⊢
  go_enter Tryz.func14, Tryz.ntmps14
  go_wp2_with (first
    | (rw [← HW.out]; (with_reducible refine wpList_load6 (.tmp 1) w.heap.size S ?_ ?_ ?_ ?_); rfl; rfl; rfl)
    | (go_at_call 39; (with_reducible refine hc'.mono ?_); rintro e w3 ⟨rfl, hb3⟩; replace b0 := below_any b0 hb3 b0.size))
  go_ret
  exact ⟨rfl, b0⟩
end Go.Proofs.YtoifjjgakblhhaaGreatDoor

/- The document's own texts: a number's, a value's. -/
namespace Go.Proofs.YtoifjjgakblhhaaGreatDoor
open Go.RowKit

end Go.Proofs.YtoifjjgakblhhaaGreatDoor

/- The document's own Less. -/
namespace Go.Proofs.YtoifjjgakblhhaaGreatDoor
open Go.RowKit

end Go.Proofs.YtoifjjgakblhhaaGreatDoor

/- Where a value stands by its kind; how two truths stand. -/
namespace Go.Proofs.YtoifjjgakblhhaaGreatDoor
open Go.RowKit

end Go.Proofs.YtoifjjgakblhhaaGreatDoor

/- How two texts stand, by strings.Compare; the first that is not 0; how two numbers stand. -/
namespace Go.Proofs.YtoifjjgakblhhaaGreatDoor
open Go.RowKit

end Go.Proofs.YtoifjjgakblhhaaGreatDoor

/- How two lists stand, given how their elements do: CompareFunc over orderWithin's closure. -/
namespace Go.Proofs.YtoifjjgakblhhaaGreatDoor
open Go.RowKit

end Go.Proofs.YtoifjjgakblhhaaGreatDoor

/- How two lists stand, by the document's own rows, given how their elements do. -/
namespace Go.Proofs.YtoifjjgakblhhaaGreatDoor
open Go.RowKit

end Go.Proofs.YtoifjjgakblhhaaGreatDoor

/- Whether two values are equal: equal, where one is none, or both are numbers. -/
namespace Go.Proofs.YtoifjjgakblhhaaGreatDoor
open Go.RowKit

set_option maxRecDepth 4000 in
set_option maxHeartbeats 3200000 in
theorem equalPlain (lang : Int) (k : Int) (b : Bool) (n : Int) (t x : ByteArray) (q : List Val) (p : Option Addr) (cap : Nat) (k2 : Int) (b2 : Bool) (n2 : Int) (t2 x2 : ByteArray) (q2 : List Val) (p2 : Option Addr) (cap2 : Nat) (w : World) (hG : Gd w) (hT : Tab w) (hf : Fine n t x q.length) (hf2 : Fine n2 t2 x2 q2.length) (hl : Held w (.slice p q.length cap) q) (hl2 : Held w (.slice p2 q2.length cap2) q2) (each : ∀ v ∈ q, EqualAt lang v) (h : k = 0 ∨ k2 = 0 ∨ (numB k = true ∧ numB k2 = true)) :
    Calls Tryz.prog 44 #[.int .i64 lang, .agg #[.int .i64 k, .bool b, .int .i64 n, .string t, .string x, .slice p q.length cap], .agg #[.int .i64 k2, .bool b2, .int .i64 n2, .string t2, .string x2, .slice p2 q2.length cap2]] w fun e w' => e = .returned (.int .i64 (equalP lang (.mk k b n t x q) (.mk k2 b2 n2 t2 x2 q2))) ∧ Below w.heap.size w w' := by
  obtain ⟨W0, hW0⟩ : ∃ W0, W0 = (w.alloc (.cells #[.int .i64 k, .bool b, .int .i64 n, .string t, .string x, .slice p q.length cap] 28)).alloc (.cells #[.int .i64 k2, .bool b2, .int .i64 n2, .string t2, .string x2, .slice p2 q2.length cap2] 28) := ⟨_, rfl⟩
  have S4 : Six W0 w.heap.size k b n t x p q.length cap := by rw [hW0]; exact (six_new _ rfl).alloc _
  have S5 : Six W0 (w.heap.size + 1) k2 b2 n2 t2 x2 p2 q2.length cap2 := by rw [hW0]; exact six_new _ (by simp)
  have b0 : Below w.heap.size w W0 := by rw [hW0]; exact below2 _ _ _
  have f0 := S4.c0
  have g0 := S5.c0
  have H0 := Lib.hid hW0
  have hn1 := fun W => isNumberAt k b n t x (.slice p q.length cap) W
  have hn2 := fun W => isNumberAt k2 b2 n2 t2 x2 (.slice p2 q2.length cap2) W
  have hcmp := fun W (h : Below w.heap.size w W) => cmpNumsAt k b n t x p q.length cap k2 b2 n2 t2 x2 p2 q2.length cap2 W (hG.below h) (hT.below h) hf hf2
  have hg1 := fun W => isGraphsAt k b n t x (.slice p q.length cap) W
  have hg2 := fun W => isGraphsAt k2 b2 n2 t2 x2 (.slice p2 q2.length cap2) W
  have ho1 := fun W (h : Below w.heap.size w W) => isOpenAt k b n t x q p cap k2 b2 n2 t2 x2 q2 p2 cap2 W hf (Held.below q hl h) (Held.below q2 hl2 h) _ rfl
  have ho2 := fun W (h : Below w.heap.size w W) => isOpenAt k2 b2 n2 t2 x2 q2 p2 cap2 k b n t x q p cap W hf2 (Held.below q2 hl2 h) (Held.below q hl h) _ rfl
  have hbo := fun W => bothAreAt 5 k b n t x (.slice p q.length cap) k2 b2 n2 t2 x2 (.slice p2 q2.length cap2) W
  have hls := fun W (h : Below w.heap.size w W) => eqListsAt lang q q2 p p2 cap cap2 W (hG.below h) (hT.below h) (Held.below q hl h) (Held.below q2 hl2 h) hf.hn each
  have hsm := fun W (h : Below w.heap.size w W) => sameAtV k b n t x q p cap k2 b2 n2 t2 x2 q2 p2 cap2 W hf (Held.below q hl h) (Held.below q2 hl2 h)
  clear hl hl2 hf hf2 hG hT each hW0
  cases e0 : (k == 0) with
  | true =>
    have hv : equalP lang (.mk k b n t x q) (.mk k2 b2 n2 t2 x2 q2) = 2 := by unfold equalP; rw [if_pos (.inl (by simpa using e0))]
    rw [hv]
    clear hv h hn1 hn2 hcmp hg1 hg2 ho1 ho2 hbo hls hsm
    go_enter Tryz.func44, Tryz.ntmps44
    go_wp2_with fail
    rw [← H0.out]
    go_wp2_with (first
      | ((with_reducible refine wpList_load6g (.tmp 4) w.heap.size S4 ?_ ?_ ?_ ?_); rfl; rfl; rfl)
      | ((with_reducible refine wpList_load6g (.tmp 5) (w.heap.size + 1) S5 ?_ ?_ ?_ ?_); rfl; rfl; rfl))
    go_ret
    exact ⟨rfl, b0⟩
  | false =>
    have n0 : ¬ k = 0 := by simpa using e0
    cases e1 : (k2 == 0) with
    | true =>
      have hv : equalP lang (.mk k b n t x q) (.mk k2 b2 n2 t2 x2 q2) = 2 := by unfold equalP; rw [if_pos (.inr (by simpa using e1))]
      rw [hv]
      clear hv h n0 hn1 hn2 hcmp hg1 hg2 ho1 ho2 hbo hls hsm
      go_enter Tryz.func44, Tryz.ntmps44
      go_wp2_with fail
      rw [← H0.out]
      go_wp2_with (first
        | ((with_reducible refine wpList_load6g (.tmp 4) w.heap.size S4 ?_ ?_ ?_ ?_); rfl; rfl; rfl)
        | ((with_reducible refine wpList_load6g (.tmp 5) (w.heap.size + 1) S5 ?_ ?_ ?_ ?_); rfl; rfl; rfl))
      go_ret
      exact ⟨rfl, b0⟩
    | false =>
      have n1 : ¬ k2 = 0 := by simpa using e1
      rcases h with h | h | ⟨h1, h2⟩
      · exact absurd h n0
      · exact absurd h n1
      · have hv : equalP lang (.mk k b n t x q) (.mk k2 b2 n2 t2 x2 q2) = tI (cmpZ (numV k n t) (numV k2 n2 t2) == 0) := by unfold equalP; rw [if_neg (by omega), if_pos ⟨h1, h2⟩]
        rw [hv]
        unfold numB at h1 h2
        rw [h1] at hn1
        rw [h2] at hn2
        generalize cmpZ (numV k n t) (numV k2 n2 t2) = r at hcmp ⊢
        clear hv h1 h2 n0 n1 hg1 hg2 ho1 ho2 hbo hls hsm
        go_enter Tryz.func44, Tryz.ntmps44
        go_wp2_with fail
        rw [← H0.out]
        go_wp2_with (first
          | ((with_reducible refine wpList_load6g (.tmp 4) w.heap.size S4 ?_ ?_ ?_ ?_); rfl; rfl; rfl)
          | ((with_reducible refine wpList_load6g (.tmp 5) (w.heap.size + 1) S5 ?_ ?_ ?_ ?_); rfl; rfl; rfl)
          | (go_at_call 50; (with_reducible refine (hn1 _).mono ?_); rintro e w' ⟨rfl, hb⟩; replace S4 := S4.below hb; replace S5 := S5.below hb; replace b0 := below_any b0 hb b0.size; have f5 := S4.c5; have g5 := S5.c5; have f00 := S4.c0; have g00 := S5.c0; clear hb)
          | (go_at_call 50; (with_reducible refine (hn2 _).mono ?_); rintro e w' ⟨rfl, hb⟩; replace S4 := S4.below hb; replace S5 := S5.below hb; replace b0 := below_any b0 hb b0.size; have f5 := S4.c5; have g5 := S5.c5; have f00 := S4.c0; have g00 := S5.c0; clear hb)
          | (go_at_call 52; (with_reducible refine (hcmp _ b0).mono ?_); rintro e w' ⟨rfl, hb⟩; replace S4 := S4.below hb; replace S5 := S5.below hb; replace b0 := below_any b0 hb b0.size; have f5 := S4.c5; have g5 := S5.c5; have f00 := S4.c0; have g00 := S5.c0; clear hb)
          | (go_at_call 51; (with_reducible refine (truthT _ _).mono ?_); rintro e w' ⟨rfl, rfl⟩))
        go_ret
        exact ⟨rfl, b0⟩
end Go.Proofs.YtoifjjgakblhhaaGreatDoor

/- Whether two values are equal: equal, the first no number. -/
namespace Go.Proofs.YtoifjjgakblhhaaGreatDoor
open Go.RowKit

set_option maxRecDepth 4000 in
set_option maxHeartbeats 3200000 in
theorem equalNot1 (lang : Int) (k : Int) (b : Bool) (n : Int) (t x : ByteArray) (q : List Val) (p : Option Addr) (cap : Nat) (k2 : Int) (b2 : Bool) (n2 : Int) (t2 x2 : ByteArray) (q2 : List Val) (p2 : Option Addr) (cap2 : Nat) (w : World) (hG : Gd w) (hT : Tab w) (hf : Fine n t x q.length) (hf2 : Fine n2 t2 x2 q2.length) (hl : Held w (.slice p q.length cap) q) (hl2 : Held w (.slice p2 q2.length cap2) q2) (each : ∀ v ∈ q, EqualAt lang v) (n0 : ¬ k = 0) (n1 : ¬ k2 = 0) (h1 : numB k = false) :
    Calls Tryz.prog 44 #[.int .i64 lang, .agg #[.int .i64 k, .bool b, .int .i64 n, .string t, .string x, .slice p q.length cap], .agg #[.int .i64 k2, .bool b2, .int .i64 n2, .string t2, .string x2, .slice p2 q2.length cap2]] w fun e w' => e = .returned (.int .i64 (equalP lang (.mk k b n t x q) (.mk k2 b2 n2 t2 x2 q2))) ∧ Below w.heap.size w w' := by
  obtain ⟨W0, hW0⟩ : ∃ W0, W0 = (w.alloc (.cells #[.int .i64 k, .bool b, .int .i64 n, .string t, .string x, .slice p q.length cap] 28)).alloc (.cells #[.int .i64 k2, .bool b2, .int .i64 n2, .string t2, .string x2, .slice p2 q2.length cap2] 28) := ⟨_, rfl⟩
  have S4 : Six W0 w.heap.size k b n t x p q.length cap := by rw [hW0]; exact (six_new _ rfl).alloc _
  have S5 : Six W0 (w.heap.size + 1) k2 b2 n2 t2 x2 p2 q2.length cap2 := by rw [hW0]; exact six_new _ (by simp)
  have b0 : Below w.heap.size w W0 := by rw [hW0]; exact below2 _ _ _
  have f0 := S4.c0
  have g0 := S5.c0
  have H0 := Lib.hid hW0
  have hn1 := fun W => isNumberAt k b n t x (.slice p q.length cap) W
  have hn2 := fun W => isNumberAt k2 b2 n2 t2 x2 (.slice p2 q2.length cap2) W
  have hcmp := fun W (h : Below w.heap.size w W) => cmpNumsAt k b n t x p q.length cap k2 b2 n2 t2 x2 p2 q2.length cap2 W (hG.below h) (hT.below h) hf hf2
  have hg1 := fun W => isGraphsAt k b n t x (.slice p q.length cap) W
  have hg2 := fun W => isGraphsAt k2 b2 n2 t2 x2 (.slice p2 q2.length cap2) W
  have ho1 := fun W (h : Below w.heap.size w W) => isOpenAt k b n t x q p cap k2 b2 n2 t2 x2 q2 p2 cap2 W hf (Held.below q hl h) (Held.below q2 hl2 h) _ rfl
  have ho2 := fun W (h : Below w.heap.size w W) => isOpenAt k2 b2 n2 t2 x2 q2 p2 cap2 k b n t x q p cap W hf2 (Held.below q2 hl2 h) (Held.below q hl h) _ rfl
  have hbo := fun W => bothAreAt 5 k b n t x (.slice p q.length cap) k2 b2 n2 t2 x2 (.slice p2 q2.length cap2) W
  have hls := fun W (h : Below w.heap.size w W) => eqListsAt lang q q2 p p2 cap cap2 W (hG.below h) (hT.below h) (Held.below q hl h) (Held.below q2 hl2 h) hf.hn each
  have hsm := fun W (h : Below w.heap.size w W) => sameAtV k b n t x q p cap k2 b2 n2 t2 x2 q2 p2 cap2 W hf (Held.below q hl h) (Held.below q2 hl2 h)
  clear hl hl2 hf hf2 hG hT each hW0
  have e0 : (k == 0) = false := by simpa using n0
  have e1 : (k2 == 0) = false := by simpa using n1
  have m1 : numB k = false := h1
  have hnn : ¬ (numB k = true ∧ numB k2 = true) := by rintro ⟨u, v⟩; rw [m1] at u; cases u
  rw [show (k == 2 || k == 3) = numB k from rfl, m1] at hn1
  clear m1 hcmp
  by_cases hlang : lang = 1
  · have el : (lang == 1) = true := by simpa using hlang
    cases eg1 : graphB k with
    | true =>
      have hv : equalP lang (.mk k b n t x q) (.mk k2 b2 n2 t2 x2 q2) = 2 := by unfold equalP; rw [if_neg (by omega), if_neg hnn, if_pos ⟨hlang, by rw [eg1]; rfl⟩]
      rw [hv]
      rw [show (k == 5 || k == 6 || k == 7) = graphB k from rfl, eg1] at hg1
      clear hv hnn n0 n1 hg2 ho1 ho2 hbo hls hsm
      go_enter Tryz.func44, Tryz.ntmps44
      go_wp2_with fail
      rw [← H0.out]
      go_wp2_with (first
        | ((with_reducible refine wpList_load6g (.tmp 4) w.heap.size S4 ?_ ?_ ?_ ?_); rfl; rfl; rfl)
        | ((with_reducible refine wpList_load6g (.tmp 5) (w.heap.size + 1) S5 ?_ ?_ ?_ ?_); rfl; rfl; rfl)
        | (go_at_call 50; (with_reducible refine (hn1 _).mono ?_); rintro e w' ⟨rfl, hb⟩; replace S4 := S4.below hb; replace S5 := S5.below hb; replace b0 := below_any b0 hb b0.size; have f5 := S4.c5; have g5 := S5.c5; have f00 := S4.c0; have g00 := S5.c0; clear hb)
        | (go_at_call 84; (with_reducible refine (hg1 _).mono ?_); rintro e w' ⟨rfl, hb⟩; replace S4 := S4.below hb; replace S5 := S5.below hb; replace b0 := below_any b0 hb b0.size; have f5 := S4.c5; have g5 := S5.c5; have f00 := S4.c0; have g00 := S5.c0; clear hb))
      go_ret
      exact ⟨rfl, b0⟩
    | false =>
      have k5 : (k == 5) = false := by
        unfold graphB at eg1
        cases h5 : (k == 5) with
        | false => rfl
        | true => rw [h5] at eg1; cases eg1
      rw [show (k == 5 || k == 6 || k == 7) = graphB k from rfl, eg1] at hg1
      cases eg2 : graphB k2 with
      | true =>
        have hv : equalP lang (.mk k b n t x q) (.mk k2 b2 n2 t2 x2 q2) = 2 := by unfold equalP; rw [if_neg (by omega), if_neg hnn, if_pos ⟨hlang, by rw [eg1, eg2]; rfl⟩]
        rw [hv]
        rw [show (k2 == 5 || k2 == 6 || k2 == 7) = graphB k2 from rfl, eg2] at hg2
        clear hv hnn n0 n1 ho1 ho2 hbo hls hsm
        go_enter Tryz.func44, Tryz.ntmps44
        go_wp2_with fail
        rw [← H0.out]
        go_wp2_with (first
          | ((with_reducible refine wpList_load6g (.tmp 4) w.heap.size S4 ?_ ?_ ?_ ?_); rfl; rfl; rfl)
          | ((with_reducible refine wpList_load6g (.tmp 5) (w.heap.size + 1) S5 ?_ ?_ ?_ ?_); rfl; rfl; rfl)
          | (go_at_call 50; (with_reducible refine (hn1 _).mono ?_); rintro e w' ⟨rfl, hb⟩; replace S4 := S4.below hb; replace S5 := S5.below hb; replace b0 := below_any b0 hb b0.size; have f5 := S4.c5; have g5 := S5.c5; have f00 := S4.c0; have g00 := S5.c0; clear hb)
          | (go_at_call 84; (with_reducible refine (hg1 _).mono ?_); rintro e w' ⟨rfl, hb⟩; replace S4 := S4.below hb; replace S5 := S5.below hb; replace b0 := below_any b0 hb b0.size; have f5 := S4.c5; have g5 := S5.c5; have f00 := S4.c0; have g00 := S5.c0; clear hb)
          | (go_at_call 84; (with_reducible refine (hg2 _).mono ?_); rintro e w' ⟨rfl, hb⟩; replace S4 := S4.below hb; replace S5 := S5.below hb; replace b0 := below_any b0 hb b0.size; have f5 := S4.c5; have g5 := S5.c5; have f00 := S4.c0; have g00 := S5.c0; clear hb))
        go_ret
        exact ⟨rfl, b0⟩
      | false =>
        rw [show (k2 == 5 || k2 == 6 || k2 == 7) = graphB k2 from rfl, eg2] at hg2
        cases eo1 : openP k k2 (sameP (.mk k b n t x q) (.mk k2 b2 n2 t2 x2 q2)) with
        | true =>
          have hv : equalP lang (.mk k b n t x q) (.mk k2 b2 n2 t2 x2 q2) = 2 := by unfold equalP; rw [if_neg (by omega), if_neg hnn, if_pos ⟨hlang, by rw [eg1, eg2, eo1]; rfl⟩]
          rw [hv]
          rw [eo1] at ho1
          clear hv hnn n0 n1 ho2 hbo hls hsm
          go_enter Tryz.func44, Tryz.ntmps44
          go_wp2_with fail
          rw [← H0.out]
          go_wp2_with (first
            | ((with_reducible refine wpList_load6g (.tmp 4) w.heap.size S4 ?_ ?_ ?_ ?_); rfl; rfl; rfl)
            | ((with_reducible refine wpList_load6g (.tmp 5) (w.heap.size + 1) S5 ?_ ?_ ?_ ?_); rfl; rfl; rfl)
            | (go_at_call 50; (with_reducible refine (hn1 _).mono ?_); rintro e w' ⟨rfl, hb⟩; replace S4 := S4.below hb; replace S5 := S5.below hb; replace b0 := below_any b0 hb b0.size; have f5 := S4.c5; have g5 := S5.c5; have f00 := S4.c0; have g00 := S5.c0; clear hb)
            | (go_at_call 84; (with_reducible refine (hg1 _).mono ?_); rintro e w' ⟨rfl, hb⟩; replace S4 := S4.below hb; replace S5 := S5.below hb; replace b0 := below_any b0 hb b0.size; have f5 := S4.c5; have g5 := S5.c5; have f00 := S4.c0; have g00 := S5.c0; clear hb)
            | (go_at_call 84; (with_reducible refine (hg2 _).mono ?_); rintro e w' ⟨rfl, hb⟩; replace S4 := S4.below hb; replace S5 := S5.below hb; replace b0 := below_any b0 hb b0.size; have f5 := S4.c5; have g5 := S5.c5; have f00 := S4.c0; have g00 := S5.c0; clear hb)
            | (go_at_call 85; (with_reducible refine (ho1 _ b0).mono ?_); rintro e w' ⟨rfl, hb⟩; replace S4 := S4.below hb; replace S5 := S5.below hb; replace b0 := below_any b0 hb b0.size; have f5 := S4.c5; have g5 := S5.c5; have f00 := S4.c0; have g00 := S5.c0; clear hb))
          go_ret
          exact ⟨rfl, b0⟩
        | false =>
          rw [eo1] at ho1
          cases eo2 : openP k2 k (sameP (.mk k2 b2 n2 t2 x2 q2) (.mk k b n t x q)) with
          | true =>
            have hv : equalP lang (.mk k b n t x q) (.mk k2 b2 n2 t2 x2 q2) = 2 := by unfold equalP; rw [if_neg (by omega), if_neg hnn, if_pos ⟨hlang, by rw [eg1, eg2, eo1, eo2]; rfl⟩]
            rw [hv]
            rw [eo2] at ho2
            clear hv hnn n0 n1 hbo hls hsm
            go_enter Tryz.func44, Tryz.ntmps44
            go_wp2_with fail
            rw [← H0.out]
            go_wp2_with (first
              | ((with_reducible refine wpList_load6g (.tmp 4) w.heap.size S4 ?_ ?_ ?_ ?_); rfl; rfl; rfl)
              | ((with_reducible refine wpList_load6g (.tmp 5) (w.heap.size + 1) S5 ?_ ?_ ?_ ?_); rfl; rfl; rfl)
              | (go_at_call 50; (with_reducible refine (hn1 _).mono ?_); rintro e w' ⟨rfl, hb⟩; replace S4 := S4.below hb; replace S5 := S5.below hb; replace b0 := below_any b0 hb b0.size; have f5 := S4.c5; have g5 := S5.c5; have f00 := S4.c0; have g00 := S5.c0; clear hb)
              | (go_at_call 84; (with_reducible refine (hg1 _).mono ?_); rintro e w' ⟨rfl, hb⟩; replace S4 := S4.below hb; replace S5 := S5.below hb; replace b0 := below_any b0 hb b0.size; have f5 := S4.c5; have g5 := S5.c5; have f00 := S4.c0; have g00 := S5.c0; clear hb)
              | (go_at_call 84; (with_reducible refine (hg2 _).mono ?_); rintro e w' ⟨rfl, hb⟩; replace S4 := S4.below hb; replace S5 := S5.below hb; replace b0 := below_any b0 hb b0.size; have f5 := S4.c5; have g5 := S5.c5; have f00 := S4.c0; have g00 := S5.c0; clear hb)
              | (go_at_call 85; (with_reducible refine (ho1 _ b0).mono ?_); rintro e w' ⟨rfl, hb⟩; replace S4 := S4.below hb; replace S5 := S5.below hb; replace b0 := below_any b0 hb b0.size; have f5 := S4.c5; have g5 := S5.c5; have f00 := S4.c0; have g00 := S5.c0; clear hb)
              | (go_at_call 85; (with_reducible refine (ho2 _ b0).mono ?_); rintro e w' ⟨rfl, hb⟩; replace S4 := S4.below hb; replace S5 := S5.below hb; replace b0 := below_any b0 hb b0.size; have f5 := S4.c5; have g5 := S5.c5; have f00 := S4.c0; have g00 := S5.c0; clear hb))
            go_ret
            exact ⟨rfl, b0⟩
          | false =>
            rw [eo2] at ho2
            have hv : equalP lang (.mk k b n t x q) (.mk k2 b2 n2 t2 x2 q2) = tI (sameP (.mk k b n t x q) (.mk k2 b2 n2 t2 x2 q2)) := by unfold equalP; rw [if_neg (by omega), if_neg hnn, if_neg (by rintro ⟨_, h⟩; rw [eg1, eg2, eo1, eo2] at h; cases h), if_neg (by rintro ⟨h, _⟩; rw [h] at k5; cases k5)]
            rw [hv]
            rw [k5, Bool.false_and] at hbo
            generalize sameP (.mk k b n t x q) (.mk k2 b2 n2 t2 x2 q2) = r at hsm ⊢
            clear hv hnn n0 n1 hls
            go_enter Tryz.func44, Tryz.ntmps44
            go_wp2_with fail
            rw [← H0.out]
            go_wp2_with (first
              | ((with_reducible refine wpList_load6g (.tmp 4) w.heap.size S4 ?_ ?_ ?_ ?_); rfl; rfl; rfl)
              | ((with_reducible refine wpList_load6g (.tmp 5) (w.heap.size + 1) S5 ?_ ?_ ?_ ?_); rfl; rfl; rfl)
              | (go_at_call 50; (with_reducible refine (hn1 _).mono ?_); rintro e w' ⟨rfl, hb⟩; replace S4 := S4.below hb; replace S5 := S5.below hb; replace b0 := below_any b0 hb b0.size; have f5 := S4.c5; have g5 := S5.c5; have f00 := S4.c0; have g00 := S5.c0; clear hb)
              | (go_at_call 84; (with_reducible refine (hg1 _).mono ?_); rintro e w' ⟨rfl, hb⟩; replace S4 := S4.below hb; replace S5 := S5.below hb; replace b0 := below_any b0 hb b0.size; have f5 := S4.c5; have g5 := S5.c5; have f00 := S4.c0; have g00 := S5.c0; clear hb)
              | (go_at_call 84; (with_reducible refine (hg2 _).mono ?_); rintro e w' ⟨rfl, hb⟩; replace S4 := S4.below hb; replace S5 := S5.below hb; replace b0 := below_any b0 hb b0.size; have f5 := S4.c5; have g5 := S5.c5; have f00 := S4.c0; have g00 := S5.c0; clear hb)
              | (go_at_call 85; (with_reducible refine (ho1 _ b0).mono ?_); rintro e w' ⟨rfl, hb⟩; replace S4 := S4.below hb; replace S5 := S5.below hb; replace b0 := below_any b0 hb b0.size; have f5 := S4.c5; have g5 := S5.c5; have f00 := S4.c0; have g00 := S5.c0; clear hb)
              | (go_at_call 85; (with_reducible refine (ho2 _ b0).mono ?_); rintro e w' ⟨rfl, hb⟩; replace S4 := S4.below hb; replace S5 := S5.below hb; replace b0 := below_any b0 hb b0.size; have f5 := S4.c5; have g5 := S5.c5; have f00 := S4.c0; have g00 := S5.c0; clear hb)
              | (go_at_call 53; (with_reducible refine (hbo _).mono ?_); rintro e w' ⟨rfl, hb⟩; replace S4 := S4.below hb; replace S5 := S5.below hb; replace b0 := below_any b0 hb b0.size; have f5 := S4.c5; have g5 := S5.c5; have f00 := S4.c0; have g00 := S5.c0; clear hb)
              | (go_at_call 17; (with_reducible refine (hsm _ b0).mono ?_); rintro e w' ⟨rfl, hb⟩; replace S4 := S4.below hb; replace S5 := S5.below hb; replace b0 := below_any b0 hb b0.size; have f5 := S4.c5; have g5 := S5.c5; have f00 := S4.c0; have g00 := S5.c0; clear hb)
              | (go_at_call 51; (with_reducible refine (truthT _ _).mono ?_); rintro e w' ⟨rfl, rfl⟩))
            go_ret
            exact ⟨rfl, b0⟩
  · have el : (lang == 1) = false := by simpa using hlang
    cases e5 : (k == 5 && k2 == 5) with
    | true =>
      have h55 : k = 5 ∧ k2 = 5 := by simpa using e5
      have hv : equalP lang (.mk k b n t x q) (.mk k2 b2 n2 t2 x2 q2) = (if q.length = q2.length then eachEqual lang q q2 else 0) := by unfold equalP; rw [if_neg (by omega), if_neg hnn, if_neg (fun h => hlang h.1), if_pos h55]
      rw [hv]
      rw [e5] at hbo
      generalize (if q.length = q2.length then eachEqual lang q q2 else 0) = r at hls ⊢
      clear hv hnn n0 n1 h55 e5 hg1 hg2 ho1 ho2 hsm hlang
      go_enter Tryz.func44, Tryz.ntmps44
      go_wp2_with fail
      rw [← H0.out]
      go_wp2_with (first
        | ((with_reducible refine wpList_load6g (.tmp 4) w.heap.size S4 ?_ ?_ ?_ ?_); rfl; rfl; rfl)
        | ((with_reducible refine wpList_load6g (.tmp 5) (w.heap.size + 1) S5 ?_ ?_ ?_ ?_); rfl; rfl; rfl)
        | (go_at_call 50; (with_reducible refine (hn1 _).mono ?_); rintro e w' ⟨rfl, hb⟩; replace S4 := S4.below hb; replace S5 := S5.below hb; replace b0 := below_any b0 hb b0.size; have f5 := S4.c5; have g5 := S5.c5; have f00 := S4.c0; have g00 := S5.c0; clear hb)
        | (go_at_call 53; (with_reducible refine (hbo _).mono ?_); rintro e w' ⟨rfl, hb⟩; replace S4 := S4.below hb; replace S5 := S5.below hb; replace b0 := below_any b0 hb b0.size; have f5 := S4.c5; have g5 := S5.c5; have f00 := S4.c0; have g00 := S5.c0; clear hb)
        | (go_at_call 86; (with_reducible refine (hls _ b0).mono ?_); rintro e w' ⟨rfl, hb⟩; replace S4 := S4.below hb; replace S5 := S5.below hb; replace b0 := below_any b0 hb b0.size; have f5 := S4.c5; have g5 := S5.c5; have f00 := S4.c0; have g00 := S5.c0; clear hb))
      go_ret
      exact ⟨rfl, b0⟩
    | false =>
      have hv : equalP lang (.mk k b n t x q) (.mk k2 b2 n2 t2 x2 q2) = tI (sameP (.mk k b n t x q) (.mk k2 b2 n2 t2 x2 q2)) := by unfold equalP; rw [if_neg (by omega), if_neg hnn, if_neg (fun h => hlang h.1), if_neg (by rintro ⟨u, v⟩; rw [u, v] at e5; cases e5)]
      rw [hv]
      rw [e5] at hbo
      generalize sameP (.mk k b n t x q) (.mk k2 b2 n2 t2 x2 q2) = r at hsm ⊢
      clear hv hnn n0 n1 e5 hg1 hg2 ho1 ho2 hls hlang
      go_enter Tryz.func44, Tryz.ntmps44
      go_wp2_with fail
      rw [← H0.out]
      go_wp2_with (first
        | ((with_reducible refine wpList_load6g (.tmp 4) w.heap.size S4 ?_ ?_ ?_ ?_); rfl; rfl; rfl)
        | ((with_reducible refine wpList_load6g (.tmp 5) (w.heap.size + 1) S5 ?_ ?_ ?_ ?_); rfl; rfl; rfl)
        | (go_at_call 50; (with_reducible refine (hn1 _).mono ?_); rintro e w' ⟨rfl, hb⟩; replace S4 := S4.below hb; replace S5 := S5.below hb; replace b0 := below_any b0 hb b0.size; have f5 := S4.c5; have g5 := S5.c5; have f00 := S4.c0; have g00 := S5.c0; clear hb)
        | (go_at_call 53; (with_reducible refine (hbo _).mono ?_); rintro e w' ⟨rfl, hb⟩; replace S4 := S4.below hb; replace S5 := S5.below hb; replace b0 := below_any b0 hb b0.size; have f5 := S4.c5; have g5 := S5.c5; have f00 := S4.c0; have g00 := S5.c0; clear hb)
        | (go_at_call 17; (with_reducible refine (hsm _ b0).mono ?_); rintro e w' ⟨rfl, hb⟩; replace S4 := S4.below hb; replace S5 := S5.below hb; replace b0 := below_any b0 hb b0.size; have f5 := S4.c5; have g5 := S5.c5; have f00 := S4.c0; have g00 := S5.c0; clear hb)
        | (go_at_call 51; (with_reducible refine (truthT _ _).mono ?_); rintro e w' ⟨rfl, rfl⟩))
      go_ret
      exact ⟨rfl, b0⟩
end Go.Proofs.YtoifjjgakblhhaaGreatDoor
