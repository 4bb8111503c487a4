/- Mul, Neg, OfInt. -/
import Derived.Test.YtoifjjgakblhhaaGreatDoorB7m
import Derived.Test.YtoifjjgakblhhaaGreatDoorB8m
namespace Go.Proofs.YtoifjjgakblhhaaGreatDoor
open Go.RowKit

set_option maxRecDepth 20000 in
set_option maxHeartbeats 1600000 in
theorem reckonTimes (s t : ByteArray) (w : World) (hG : Gd w) (hs : s.size < 4294967281) (ht : t.size < 4294967281) (h : chk s.data.toList = true) (h2 : chk t.data.toList = true) (x : ByteArray) (k : Int)
    (hv : said (txt (dmul s.data.toList t.data.toList)) = .tuple #[.string x, .int .i64 k]) :
    Calls Tryz.prog 159 #[.string s, .string t, .func (Fn.func 162) #[] #[]] w fun e w' => e = .returned (.tuple #[.string x, .int .i64 k]) ∧ Below w.heap.size w w' := by
  have hc : ∀ W, Gd W → Calls Tryz.prog 128 #[.string s, .string t] W fun e w' => ∃ c d f g, e = .returned (.tuple #[.agg c, .agg d, .bool true]) ∧ IsNum c (dsign s.data.toList) f ∧ wval f = damt s.data.toList ∧
      IsNum d (dsign t.data.toList) g ∧ wval g = damt t.data.toList ∧ Below W.heap.size W w' := fun W hW => bothYes s t W hW hs ht h h2
  have HC := Lib.hid hc
  have hop : ∀ (c d : Array Value) (f g : Nat → Nat) W, IsNum c (dsign s.data.toList) f → wval f = damt s.data.toList → IsNum d (dsign t.data.toList) g → wval g = damt t.data.toList →
      Calls Tryz.prog 162 #[.agg c, .agg d] W fun e w' => ∃ c' r h, e = .returned (.agg c') ∧ IsNum c' r h ∧ Aside (sv r (wval h) = dmul s.data.toList t.data.toList) ∧ Below W.heap.size W w' := by
    intro c d f g W h1 e1 h3 e2
    obtain ⟨_, x1, x2, _⟩ := chk_dec _ h
    obtain ⟨_, y1, y2, _⟩ := chk_dec _ h2
    refine (timesNum c d _ _ f g W h1 h3 (mid_of f h1.lt (by rw [e1]; exact x1) (by rw [e1]; exact x2)) (mid_of g h3.lt (by rw [e2]; exact y1) (by rw [e2]; exact y2))).mono ?_
    rintro e w' ⟨c', k, rfl, hr, hval, hb⟩
    refine ⟨c', _, k, rfl, hr, ?_, hb⟩
    unfold Aside dmul
    rw [← e1, ← e2, ← hval, Nat.mul_div_cancel _ (by decide)]
  have HOP := Lib.hid hop
  have HV := Lib.hid hv
  clear hc hop hv h h2 hs ht
  go_enter Tryz.func159, Tryz.ntmps159
  go_wp2_with (first
    | (go_at_call 128; (with_reducible refine (HC.out _ hG).mono ?_); rintro e w1 ⟨c, d, f, g, rfl, hn, hx, hm, hy, hb⟩; have HX := Lib.hid hx; have HY := Lib.hid hy; clear hx hy; have l1 : Lies ((w1.alloc (.cells #[.bool false, .int .u32 0, .int .u32 0, .int .u32 0, .int .u32 0, .int .u32 0, .int .u32 0, .int .u32 0, .int .u32 0, .int .u32 0, .int .u32 0, .int .u32 0, .int .u32 0, .int .u32 0, .int .u32 0, .int .u32 0, .int .u32 0] 136)).alloc (.cells #[.bool false, .int .u32 0, .int .u32 0, .int .u32 0, .int .u32 0, .int .u32 0, .int .u32 0, .int .u32 0, .int .u32 0, .int .u32 0, .int .u32 0, .int .u32 0, .int .u32 0, .int .u32 0, .int .u32 0, .int .u32 0, .int .u32 0] 136)) w1.heap.size zero59 false (fun _ => 0) := (lies_zero _ rfl).alloc _; have l2 : Lies ((w1.alloc (.cells #[.bool false, .int .u32 0, .int .u32 0, .int .u32 0, .int .u32 0, .int .u32 0, .int .u32 0, .int .u32 0, .int .u32 0, .int .u32 0, .int .u32 0, .int .u32 0, .int .u32 0, .int .u32 0, .int .u32 0, .int .u32 0, .int .u32 0] 136)).alloc (.cells #[.bool false, .int .u32 0, .int .u32 0, .int .u32 0, .int .u32 0, .int .u32 0, .int .u32 0, .int .u32 0, .int .u32 0, .int .u32 0, .int .u32 0, .int .u32 0, .int .u32 0, .int .u32 0, .int .u32 0, .int .u32 0, .int .u32 0] 136)) (w1.heap.size + 1) zero59 false (fun _ => 0) := lies_zero _ (by simp); have hb1 : Below w.heap.size w ((w1.alloc (.cells #[.bool false, .int .u32 0, .int .u32 0, .int .u32 0, .int .u32 0, .int .u32 0, .int .u32 0, .int .u32 0, .int .u32 0, .int .u32 0, .int .u32 0, .int .u32 0, .int .u32 0, .int .u32 0, .int .u32 0, .int .u32 0, .int .u32 0] 136)).alloc (.cells #[.bool false, .int .u32 0, .int .u32 0, .int .u32 0, .int .u32 0, .int .u32 0, .int .u32 0, .int .u32 0, .int .u32 0, .int .u32 0, .int .u32 0, .int .u32 0, .int .u32 0, .int .u32 0, .int .u32 0, .int .u32 0, .int .u32 0] 136)) := (hb.alloc hb.size _).alloc (by have := hb.size; simp; omega) _; have hsz := hb.size)
    | ((with_reducible refine wpList_storeN (.tmp 8) (.tmp 15) w1.heap.size (by assumption) hn ?_ ?_ ?_ ?_ ?_); rfl; rfl; rfl; rfl; intro w2 ho p1; have p2 := l2.only ho (by omega); have hb2 := below_only hb1 ho hsz (Nat.le_of_lt (Nat.lt_of_le_of_lt hsz l1.lt)))
    | ((with_reducible refine wpList_storeN (.tmp 9) (.tmp 16) (w1.heap.size + 1) (by assumption) hm ?_ ?_ ?_ ?_ ?_); rfl; rfl; rfl; rfl; intro w3 ho3 q2; have q1 := p1.only ho3 (by omega); have hb3 := below_only hb2 ho3 (by omega) (Nat.le_of_lt (Nat.lt_of_le_of_lt hsz p1.lt)))
    | ((with_reducible refine wpList_loadN (.tmp 8) w1.heap.size (by assumption) ?_ ?_ ?_ ?_); rfl; rfl; rfl)
    | ((with_reducible refine wpList_loadN (.tmp 9) (w1.heap.size + 1) (by assumption) ?_ ?_ ?_ ?_); rfl; rfl; rfl)
    | (go_at_call 162; (with_reducible refine (HOP.out c d f g _ hn HX.out hm HY.out).mono ?_); rintro e w4 ⟨c', r, h, rfl, hr, hsv, hb4⟩; have hb5 := below_any hb3 hb4 (Nat.le_of_lt (Nat.lt_of_le_of_lt hsz q1.lt)))
    | (go_at_call 180; (with_reducible refine (textNum c' r h _ _ hr hsv.out x k HV.out).mono ?_); rintro e w5 ⟨rfl, hb6⟩; have hb7 := below_any hb5 hb6 hb5.size))
  go_ret2
  exact ⟨rfl, hb7⟩

set_option maxHeartbeats 800000 in
theorem mulYes (s t : ByteArray) (w : World) (hG : Gd w) (hs : s.size < 4294967281) (ht : t.size < 4294967281) (h : chk s.data.toList = true) (h2 : chk t.data.toList = true) (x : ByteArray) (k : Int)
    (hv : said (txt (dmul s.data.toList t.data.toList)) = .tuple #[.string x, .int .i64 k]) :
    Calls Tryz.prog 140 #[.string s, .string t] w fun e w' => e = .returned (.tuple #[.string x, .int .i64 k]) ∧ Below w.heap.size w w' := by
  have hc : ∀ W, Gd W → Calls Tryz.prog 159 #[.string s, .string t, .func (Fn.func 162) #[] #[]] W fun e w' => e = .returned (.tuple #[.string x, .int .i64 k]) ∧ Below W.heap.size W w' := fun W hW => reckonTimes s t W hW hs ht h h2 x k hv
  have HC := Lib.hid hc
  clear hc hv h h2 hs ht
  go_enter Tryz.func140, Tryz.ntmps140
  go_wp2_with (go_at_call 159; (with_reducible refine (HC.out _ hG).mono ?_); rintro e w1 ⟨rfl, hb⟩)
  go_ret2
  exact ⟨rfl, hb⟩
theorem mulNo (s t : ByteArray) (w : World) (hG : Gd w) (hs : s.size < 4294967281) (ht : t.size < 4294967281) (h : chk s.data.toList = false ∨ chk t.data.toList = false) :
    Calls Tryz.prog 140 #[.string s, .string t] w fun e w' => e = .returned (.tuple #[.string ⟨#[]⟩, .int .i64 1]) ∧ Below w.heap.size w w' := by
  have hc : ∀ W, Gd W → Calls Tryz.prog 159 #[.string s, .string t, .func (Fn.func 162) #[] #[]] W fun e w' => e = .returned (.tuple #[.string ⟨#[]⟩, .int .i64 1]) ∧ Below W.heap.size W w' := fun W hW => reckonBad _ s t W hW hs ht h
  have HC := Lib.hid hc
  clear hc h hs ht
  go_enter Tryz.func140, Tryz.ntmps140
  go_wp2_with (go_at_call 159; (with_reducible refine (HC.out _ hG).mono ?_); rintro e w1 ⟨rfl, hb⟩)
  go_ret2
  exact ⟨rfl, hb⟩

/-- The table of powers of ten is as the library's text lays it. -/
def Tab (w : World) : Prop := Lib.TabIs Tryz.prog w "internal/strconv.uint64pow10" .u64 Lib.pow10Tab

theorem var_below {P : Program} {w w' : World} {name : String} {cs : Array Value} (h : w.var? P name = some cs) (k : Below w.heap.size w w') : w'.var? P name = some cs := by
  unfold World.var? at *
  cases hg : P.globalNamed name with
  | none => rw [hg] at h; cases h
  | some g =>
    rw [hg] at h
    simp only [Option.bind_some] at h ⊢
    have hlt : g < w.heap.size := by
      by_cases e : g < w.heap.size
      · exact e
      · rw [Array.getElem?_eq_none (by omega)] at h; cases h
    rw [k.block g hlt]; exact h
theorem Tab.below {w w' : World} (h : Tab w) (k : Below w.heap.size w w') : Tab w' := by
  exact var_below h k

theorem ofIntAt (n : Int) (h0 : -9223372036854775808 ≤ n) (h1 : n ≤ 9223372036854775807) (w : World) (hT : Tab w) (X : ByteArray) (hX : X = bs (Lib.itoa n)) (hs : X.size ≤ 20) :
    Calls Tryz.prog 130 #[.int .i64 n] w fun e w' => e = .returned (.string (X ++ ⟨#[46, 48]⟩)) ∧ Below w.heap.size w w' := by
  have hc : ∀ W, Tab W → Calls Tryz.prog 153 #[.int .i64 n, .int .i64 10] W fun e w' => e = .returned (.string X) ∧ Below W.heap.size W w' := fun W hW => by
    refine (Tryz.strconv_FormatInt_10 n h0 h1 W hW).mono ?_
    rintro e w' ⟨rfl, k, os, rfl⟩
    refine ⟨by rw [hX], ?_⟩
    exact (below_drewN (Below.refl _ _) k).trans ⟨rfl, rfl, rfl, by simp [Sort.grow], fun i hi => by simp only [Sort.grow]; rw [Array.getElem?_append_left (by exact hi)]⟩
  have HC := Lib.hid hc
  clear hc hX
  go_enter Tryz.func130, Tryz.ntmps130
  go_wp2_with (go_at_call 153; (with_reducible refine (HC.out _ hT).mono ?_); rintro e w1 ⟨rfl, hb⟩)
  go_ret
  exact ⟨rfl, hb⟩

end Go.Proofs.YtoifjjgakblhhaaGreatDoor
