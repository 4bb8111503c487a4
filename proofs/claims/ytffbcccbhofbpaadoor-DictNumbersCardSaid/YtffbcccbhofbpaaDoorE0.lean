/- The encoding of the whole number 3: nine bytes. -/
import Derived.Test.YtffbcccbhofbpaaDoorD4
import Derived.WalkKit
import Derived.OwnWalk
import Derived.Deep.LoopGhost
import Derived.Deep.RegionWith
namespace Go.Proofs.YtffbcccbhofbpaaDoor
open Go.RowKit

set_option maxRecDepth 4000 in
set_option maxHeartbeats 1600000 in
theorem mayWhole (b : Bool) (n : Int) (t x : ByteArray) (p : Option Addr) (len cap : Nat) (d : Int) (w : World) :
    Calls Tryd.prog 78 #[.agg #[.int .i64 2, .bool b, .int .i64 n, .string t, .string x, .slice p len cap], .int .i64 d] w fun e w' => e = .returned (.bool (bareP b 0 t x len)) ∧ Below w.heap.size w w' := by
  have l0 : Six ((w.alloc (.cells #[.int .i64 2, .bool b, .int .i64 n, .string t, .string x, .slice p len cap] 89)).alloc (.cells #[.int .i64 2, .bool b, .int .i64 n, .string t, .string x, .slice p len cap] 89)) w.heap.size 2 b n t x p len cap := (six_new w rfl).alloc _
  have l1 : Six ((w.alloc (.cells #[.int .i64 2, .bool b, .int .i64 n, .string t, .string x, .slice p len cap] 89)).alloc (.cells #[.int .i64 2, .bool b, .int .i64 n, .string t, .string x, .slice p len cap] 89)) (w.heap.size + 1) 2 b n t x p len cap := six_new _ (by simp)
  have b0 := below2 w (.cells #[.int .i64 2, .bool b, .int .i64 n, .string t, .string x, .slice p len cap] 89) (.cells #[.int .i64 2, .bool b, .int .i64 n, .string t, .string x, .slice p len cap] 89)
  have l00 := six_new (k := 2) (b := b) (n := n) (t := t) (x := x) (p := p) (len := len) (cap := cap) w rfl
  go_enter Tryd.func78, Tryd.ntmps78
  go_wp2_with (first
    | ((with_reducible refine wpList_load6 (.tmp 2) w.heap.size (by assumption) ?_ ?_ ?_ ?_); rfl; rfl; rfl)
    | ((with_reducible refine wpList_load6g (.tmp 5) (w.heap.size + 1) (by assumption) ?_ ?_ ?_ ?_); rfl; rfl; rfl)
    | (go_at_call 79; (with_reducible refine (kindOfAt 2 b n t x _ 147 rfl _).mono ?_); rintro e w2 ⟨rfl, hb2⟩; have k2 := l0.below hb2; have m2 := l1.below hb2; have b2 := below_any b0 hb2 (by have := l0.lt; omega); have z2 : w.heap.size ≤ w2.heap.size := by have := k2.lt; omega
       clear l0 l1 l00 hb2 b0
       have c1 := m2.c2; have f1 := m2.free 2; have m3 := m2.set2 0; have b3 := below_set (o := 2) b2 none (.int .i64 0) (show w.heap.size ≤ w.heap.size + 1 by omega) z2; have z3 : w.heap.size ≤ (w2.setCell ⟨w.heap.size + 1, 2, none⟩ (.int .i64 0)).heap.size := by simpa [World.setCell] using z2)
    | (simp only [ta147_159, ta147_145, ta147_147, ta147_148, ta147_149, ta147_151, ta147_152, ta147_153, ta147_154, ta147_156, ta147_157, Result.andThen_ok])
    | (go_at_call 87; (with_reducible refine (isBareAt 2 _ _ _ _ _ _ _ _).mono ?_); rintro e w9 ⟨rfl, hb9⟩; have b9 := below_any b3 hb9 z3))
  go_ret
  exact ⟨rfl, b9⟩

theorem info5b : (Tryd.prog.info? 5).map (fun i => (i.zero, i.size, i.bytes)) = some (some (.int .u8 0), 1, 1) := by kernel_rfl
/-- A row of bytes of one's own. -/
structure OwnX (base : Nat) (xs : List Value) (v : Value) (w0 w : World) : Prop where
  row : w.ownsRow base 5 1 v xs.length xs
  lo : base ≤ w.heap.size
  bel : Below base w0 w
theorem OwnX.after {base : Nat} {xs : List Value} {v : Value} {w0 w w1 : World} (h : OwnX base xs v w0 w) (hb : Below w.heap.size w w1) : OwnX base xs v w0 w1 := by
  obtain ⟨hr, hlo, hbel⟩ := h
  refine ⟨⟨hr.1, ?_⟩, Nat.le_trans hlo hb.size, below_any hbel hb hlo⟩
  rcases hr.2 with h0 | ⟨g, cap, cur, e, h1, h2, h3⟩
  · exact .inl h0
  · exact .inr ⟨g, cap, cur, e, h1, (hb.block g (lt_of_heap h2)).trans h2, h3⟩
theorem OwnX.start (w : World) : OwnX w.heap.size [] (.slice none 0 0) w w := ⟨World.ownsRow_nil _ _ _ _, Nat.le_refl _, Below.refl _ _⟩
/-- The first bytes of the encoding. -/
def enc3 (j : Nat) : List Value := ([2, 0, 0, 0, 0, 0, 0, 0, 3].take (j + 1)).map fun (n : Int) => Value.int .u8 n
set_option maxRecDepth 20000 in
set_option maxHeartbeats 3200000 in
theorem encodeInt8 (base : Nat) (v : Value) (w0 w : World) (h : OwnX base (enc3 0) v w0 w) :
    Calls Tryd.prog 81 #[v, .int .u64 3, .int .i64 8] w fun e w' => ∃ v', e = .returned v' ∧ OwnX base (enc3 8) v' w0 w' := by
  obtain ⟨i0, hi, hz0, hz1, hz2⟩ := info_parts info5b
  go_enter Tryd.func81, Tryd.ntmps81
  go_wp2_with fail
  go_loopg [0, 7] 8 (fun gg s0 s7 wr => ∃ j : Nat, j + gg = 8 ∧ s7 = .int .i64 (7 - (j : Int)) ∧ OwnX base (enc3 j) s0 w0 wr)
  case atStart => exact ⟨0, by omega, rfl, h⟩
  case round =>
    clear h
    obtain ⟨j, hj, rfl, O⟩ := hrel
    have hj4 : j = 0 ∨ j = 1 ∨ j = 2 ∨ j = 3 ∨ j = 4 ∨ j = 5 ∨ j = 6 ∨ j = 7 ∨ j = 8 := by omega
    obtain ⟨hown, hlo, hbel⟩ := O
    rcases hj4 with rfl | rfl | rfl | rfl | rfl | rfl | rfl | rfl | rfl
    case inr.inr.inr.inr.inr.inr.inr.inr =>
      go_wp2_with fail
      go_ret
      exact ⟨_, rfl, hown, hlo, hbel⟩
    all_goals
      go_wp2_with (at_builtin; refine wpList_append_own _ rfl _ _ 103 rfl base 5 i0 (.int .u8 0) 1 1 Tryd.underlying103 hi hz0 hz1 hz2 rfl (by decide) _ _ _ rfl (hown.alloc _) ⟨wr.heap.size, 0, none⟩ 1 1 [_] rfl rfl (cell_one_new _ _ _) ?_ ?_ ?_ ?_ ?_)
      all_goals (try (first | rfl | (unfold maxLen; simp [enc3]; done) | (simp [enc3]; omega) | (simp [enc3]; done) | omega | (intro u hu; simp at hu; subst hu; rfl)))
      intro v' w1 hown' hgrow _
      have b1 : Below base w0 w1 := (hbel.alloc hlo _).grown hgrow (by simp; omega) (fun k hk => by have := (hown.lt k hk).1; omega)
      have l1 : base ≤ w1.heap.size := by have := hgrow.size; simp at this; omega
      clear hgrow
      go_wp2_with fail
      go_roundg (gk - 1)
      case measure => omega
      case rel => first | exact ⟨1, by omega, rfl, hown', l1, b1⟩ | exact ⟨2, by omega, rfl, hown', l1, b1⟩ | exact ⟨3, by omega, rfl, hown', l1, b1⟩ | exact ⟨4, by omega, rfl, hown', l1, b1⟩ | exact ⟨5, by omega, rfl, hown', l1, b1⟩ | exact ⟨6, by omega, rfl, hown', l1, b1⟩ | exact ⟨7, by omega, rfl, hown', l1, b1⟩ | exact ⟨8, by omega, rfl, hown', l1, b1⟩
set_option maxRecDepth 20000 in
set_option maxHeartbeats 3200000 in
theorem encode3 (w : World) :
    Calls Tryd.prog 76 #[.slice none 0 0, .agg #[.int .i64 2, .bool false, .int .i64 3, .string ⟨#[]⟩, .string ⟨#[]⟩, .slice none 0 0]] w fun e w' => ∃ v, e = .returned v ∧ OwnX w.heap.size (enc3 8) v w w' := by
  obtain ⟨i0, hi, hz0, hz1, hz2⟩ := info_parts info5b
  obtain ⟨W0, hW0⟩ : ∃ W0, W0 = w.alloc (.cells #[.int .i64 2, .bool false, .int .i64 3, .string ⟨#[]⟩, .string ⟨#[]⟩, .slice none 0 0] 89) := ⟨_, rfl⟩
  have S : Six W0 w.heap.size 2 false 3 ⟨#[]⟩ ⟨#[]⟩ none 0 0 := by rw [hW0]; exact six_new _ rfl
  have b0 : Below w.heap.size w W0 := by rw [hW0]; exact below1 _ _
  have hown : W0.ownsRow w.heap.size 5 1 (.slice none 0 0) 0 [] := World.ownsRow_nil _ _ _ _
  have f0 := S.c0
  have f2 := S.c2
  have z0 : w.heap.size ≤ W0.heap.size := b0.size
  have HS : Hid (W0.heap.size = w.heap.size + 1) := Lib.hid (by rw [hW0]; simp)
  have H0 := Lib.hid hW0
  clear hW0
  go_enter Tryd.func76, Tryd.ntmps76
  go_wp2_with (at_builtin; refine Hid.out ?_)
  refine Lib.hid ?_
  rw [← H0.out]
  refine wpList_append_own _ rfl _ _ 103 rfl w.heap.size 5 i0 (.int .u8 0) 1 1 Tryd.underlying103 hi hz0 hz1 hz2 rfl (by decide) (.slice none 0 0) 0 [] rfl (hown.alloc _) ⟨w.heap.size + 1, 0, none⟩ 1 1 [.int .u8 2] rfl rfl ?_ ?_ ?_ ?_ ?_ ?_
  all_goals (try (first | rfl | (unfold maxLen; omega) | omega | (simp; omega) | (intro u hu; simp at hu; subst hu; rfl) | (rw [← HS.out]; exact cell_one_new _ _ _) | (simp; done)))
  intro v1 w1 hown1 hgrow _
  have O : OwnX w.heap.size (enc3 0) v1 w w1 := ⟨hown1, by have := hgrow.size; simp at this; omega, (b0.alloc z0 _).grown hgrow (by simp; omega) (fun k hk => by cases hk)⟩
  have S1 : Six w1 w.heap.size 2 false 3 ⟨#[]⟩ ⟨#[]⟩ none 0 0 := (hgrow.block w.heap.size (by simp; omega) (by simp [Value.ownBlock])).trans (heap_old _ S)
  have g2 := S1.c2
  clear hgrow hown1 hown f0 f2
  go_wp2_with (first
    | ((with_reducible refine wpList_load6 (.tmp 3) w.heap.size S1 ?_ ?_ ?_ ?_); rfl; rfl; rfl)
    | (go_at_call 79; (with_reducible refine (kindOfAt 2 _ _ _ _ _ 147 rfl _).mono ?_); rintro e w2 ⟨rfl, hb2⟩; replace O := O.after hb2; have S2 := S1.below hb2; have f3 := S2.c2; clear hb2)
    | (simp only [ta147_145, ta147_147, ta147_148, ta147_149, ta147_151, ta147_152, ta147_153, ta147_154, ta147_156, ta147_157, ta147_159, Result.andThen_ok])
    | (go_at_call 81; (with_reducible refine (encodeInt8 w.heap.size _ w _ O).mono ?_); rintro e w3 ⟨v3, rfl, O3⟩))
  go_ret
  exact ⟨_, rfl, O3⟩
set_option maxRecDepth 20000 in
set_option maxHeartbeats 3200000 in
theorem check3 (w : World) :
    Calls Tryd.prog 75 #[.agg #[.int .i64 2, .bool false, .int .i64 3, .string ⟨#[]⟩, .string ⟨#[]⟩, .slice none 0 0]] w fun e w' => e = .returned (.bool true) ∧ Below w.heap.size w w' := by
  obtain ⟨W0, hW0⟩ : ∃ W0, W0 = w.alloc (.cells #[.int .i64 2, .bool false, .int .i64 3, .string ⟨#[]⟩, .string ⟨#[]⟩, .slice none 0 0] 89) := ⟨_, rfl⟩
  have S : Six W0 w.heap.size 2 false 3 ⟨#[]⟩ ⟨#[]⟩ none 0 0 := by rw [hW0]; exact six_new _ rfl
  have b0 : Below w.heap.size w W0 := by rw [hW0]; exact below1 _ _
  have hm := mayWhole false 3 ⟨#[]⟩ ⟨#[]⟩ none 0 0 0
  have e : bareP false 0 ⟨#[]⟩ ⟨#[]⟩ 0 = true := by decide
  rw [e] at hm
  have H0 := Lib.hid hW0
  clear hW0
  go_enter Tryd.func75, Tryd.ntmps75
  go_wp2_with (first
    | (rw [← H0.out]; (with_reducible refine wpList_load6 (.tmp 1) w.heap.size S ?_ ?_ ?_ ?_); rfl; rfl; rfl)
    | (go_at_call 78; (with_reducible refine (hm _).mono ?_); rintro e w2 ⟨rfl, hb2⟩; have b2 := below_any b0 hb2 b0.size))
  go_ret
  exact ⟨rfl, b2⟩
set_option maxRecDepth 20000 in
set_option maxHeartbeats 3200000 in
theorem Encode3 (w : World) :
    Calls Tryd.prog 68 #[.agg #[.int .i64 2, .bool false, .int .i64 3, .string ⟨#[]⟩, .string ⟨#[]⟩, .slice none 0 0]] w fun e w' => ∃ v, e = .returned (.tuple #[v, .int .i64 0]) ∧ Below w.heap.size w w' ∧ w'.ownsRow w.heap.size 5 1 v 9 (enc3 8) := by
  obtain ⟨W0, hW0⟩ : ∃ W0, W0 = w.alloc (.cells #[.int .i64 2, .bool false, .int .i64 3, .string ⟨#[]⟩, .string ⟨#[]⟩, .slice none 0 0] 89) := ⟨_, rfl⟩
  have S : Six W0 w.heap.size 2 false 3 ⟨#[]⟩ ⟨#[]⟩ none 0 0 := by rw [hW0]; exact six_new _ rfl
  have b0 : Below w.heap.size w W0 := by rw [hW0]; exact below1 _ _
  have H0 := Lib.hid hW0
  clear hW0
  go_enter Tryd.func68, Tryd.ntmps68
  go_wp2_with (first
    | ((try rw [← H0.out]); (with_reducible refine wpList_load6 (.tmp 1) w.heap.size S ?_ ?_ ?_ ?_); rfl; rfl; rfl)
    | (go_at_call 75; (with_reducible refine (check3 _).mono ?_); rintro e w2 ⟨rfl, hb2⟩; have b2 := below_any b0 hb2 b0.size; replace S := S.below hb2)
    | (go_at_call 76; (with_reducible refine (encode3 _).mono ?_); rintro e w3 ⟨v3, rfl, O3⟩))
  go_ret2
  refine ⟨_, rfl, below_any b2 O3.bel b2.size, ?_⟩
  obtain ⟨hr, _, _⟩ := O3
  refine ⟨hr.1, ?_⟩
  rcases hr.2 with h0 | ⟨g, cap, cur, e, h1, h2, h3⟩
  · exact .inl h0
  · exact .inr ⟨g, cap, cur, e, Nat.le_trans b2.size h1, h2, h3⟩
end Go.Proofs.YtffbcccbhofbpaaDoor
