/- Texts of one kind, one behind the other: each says ahead of itself what it shows. -/
import Derived.Test.YtoifjjgakblhhaaGreatDoorGr
import Derived.Test.YtoifjjgakblhhaaGreatDoorB3m
import Derived.WalkKit
import Derived.OwnWalk
import Derived.Maps.AppendAt
import Derived.Lib.AppendStr
import Derived.Test.YtoifjjgakblhhaaGreatDoorGq
/- How a text's length is encoded: four bytes behind what was there. -/
namespace Go.Proofs.YtoifjjgakblhhaaGreatDoor
open Go.RowKit

theorem info5b : (Tryz.prog.info? 5).map (fun i => (i.zero, i.size, i.bytes)) = some (some (.int .u8 0), 1, 1) := by kernel_rfl
/-- A row of bytes of one's own. -/
structure Own (base n : Nat) (v : Value) (w0 w : World) : Prop where
  row : ∃ xs, w.ownsRow base 5 1 v n xs
  lo : base ≤ w.heap.size
  bel : Below base w0 w

set_option maxRecDepth 20000 in
set_option maxHeartbeats 3200000 in
theorem encodeInt3 (base n : Nat) (v : Value) (w0 w : World) (h : Own base n v w0 w) (hn : n ≤ 1000) :
    Calls Tryz.prog 107 #[v, .int .u64 3, .int .i64 4] w fun e w' => ∃ v', e = .returned v' ∧ Own base (n + 4) v' w0 w' := by
  obtain ⟨i0, hi, hz0, hz1, hz2⟩ := info_parts info5b
  go_enter Tryz.func107, Tryz.ntmps107
  go_wp2_with fail
  go_loopg [0, 7] 4 (fun gg s0 s7 wr => ∃ j : Nat, j + gg = 4 ∧ s7 = .int .i64 (3 - (j : Int)) ∧ Own base (n + j) s0 w0 wr)
  case atStart => exact ⟨0, by omega, rfl, h⟩
  case round =>
    clear h
    obtain ⟨j, hj, rfl, O⟩ := hrel
    have hj4 : j = 0 ∨ j = 1 ∨ j = 2 ∨ j = 3 ∨ j = 4 := by omega
    obtain ⟨⟨xs, hown⟩, hlo, hbel⟩ := O
    rcases hj4 with rfl | rfl | rfl | rfl | rfl
    case inr.inr.inr.inr =>
      go_wp2_with fail
      go_ret
      exact ⟨_, rfl, ⟨xs, hown⟩, hlo, hbel⟩
    all_goals
      go_wp2_with (at_builtin; refine wpList_append_own _ rfl _ _ 40 rfl base 5 i0 (.int .u8 0) 1 1 Tryz.underlying40 hi hz0 hz1 hz2 rfl (by decide) _ _ _ rfl (hown.alloc _) ⟨wr.heap.size, 0, none⟩ 1 1 [_] rfl rfl (cell_one_new _ _ _) ?_ ?_ ?_ ?_ ?_)
      all_goals (try (first | rfl | (unfold maxLen; omega) | omega | (simp; omega) | (intro u hu; simp at hu; subst hu; rfl)))
      intro v' w1 hown' hgrow _
      have b1 : Below base w0 w1 := (hbel.alloc hlo _).grown hgrow (by simp; omega) (fun k hk => by have := (hown.lt k hk).1; omega)
      have l1 : base ≤ w1.heap.size := by have := hgrow.size; simp at this; omega
      clear hgrow
      go_wp2_with fail
      go_roundg (gk - 1)
      case measure => omega
      case rel => first | exact ⟨1, by omega, rfl, ⟨_, hown'⟩, l1, b1⟩ | exact ⟨2, by omega, rfl, ⟨_, hown'⟩, l1, b1⟩ | exact ⟨3, by omega, rfl, ⟨_, hown'⟩, l1, b1⟩ | exact ⟨4, by omega, rfl, ⟨_, hown'⟩, l1, b1⟩
end Go.Proofs.YtoifjjgakblhhaaGreatDoor

/- How the text 1.0 is encoded, and the decimal 1.0: eight bytes. -/
namespace Go.Proofs.YtoifjjgakblhhaaGreatDoor
open Go.RowKit

/-- The text 1.0. -/
def oneT : ByteArray := ⟨#[49, 46, 48]⟩
theorem Own.say {base n m : Nat} {v v' : Value} {w0 w w1 : World} {xs : List Value} (h : Own base n v w0 w) (hown : w1.ownsRow base 5 1 v' m xs) (hg : w.grownBy w1 v.ownBlock) : Own base m v' w0 w1 := by
  obtain ⟨⟨ys, hr⟩, hlo, hbel⟩ := h
  exact ⟨⟨xs, hown⟩, Nat.le_trans hlo hg.size, hbel.grown hg hlo (fun k hk => (hr.lt k hk).1)⟩

set_option maxRecDepth 20000 in
set_option maxHeartbeats 3200000 in
theorem encodeText1 (base n : Nat) (v : Value) (w0 w : World) (h : Own base n v w0 w) (hn : n ≤ 100) :
    Calls Tryz.prog 108 #[v, .string oneT] w fun e w' => ∃ v', e = .returned v' ∧ Own base (n + 7) v' w0 w' := by
  obtain ⟨i0, hi, hz0, hz1, hz2⟩ := info_parts info5b
  unfold oneT
  go_enter Tryz.func108, Tryz.ntmps108
  go_wp2_with (first
    | (go_at_call 107; (with_reducible refine (encodeInt3 base n v w0 w h (by omega)).mono ?_); rintro e w1 ⟨v1, rfl, O⟩; have O2 := O; obtain ⟨⟨xs, hown⟩, hlo, hbel⟩ := O2)
    | (at_builtin; refine Lib.wpList_append_own_string _ rfl _ _ 40 9 rfl base 5 i0 Tryz.underlying40 Tryz.underlying9 hi hz0 hz1 hz2 _ _ _ rfl hown _ rfl ?_ ?_ hlo ?_))
  all_goals (try (first | rfl | (show n + 4 + 3 ≤ maxLen; unfold maxLen; omega) | (show n + 4 + 3 ≤ 140737488355328; omega)))
  intro v' w2 hown' hgrow _
  have O2 := O.say hown' hgrow
  clear O hgrow
  go_wp2_with fail
  go_ret
  exact ⟨_, rfl, O2⟩
end Go.Proofs.YtoifjjgakblhhaaGreatDoor

/- The encoding of the decimal 1.0: eight bytes. -/
namespace Go.Proofs.YtoifjjgakblhhaaGreatDoor
open Go.RowKit

theorem Own.alloc {base n : Nat} {v : Value} {w0 w : World} (h : Own base n v w0 w) (o : Obj) : Own base n v w0 (w.alloc o) := by
  obtain ⟨⟨xs, hr⟩, hlo, hbel⟩ := h
  exact ⟨⟨xs, hr.alloc o⟩, by simp; omega, hbel.alloc hlo o⟩
theorem Own.after {base n : Nat} {v : Value} {w0 w w1 : World} (h : Own base n v w0 w) (hb : Below w.heap.size w w1) : Own base n v w0 w1 := by
  obtain ⟨⟨xs, hr⟩, hlo, hbel⟩ := h
  refine ⟨⟨xs, hr.1, ?_⟩, Nat.le_trans hlo hb.size, below_any hbel hb hlo⟩
  rcases hr.2 with h0 | ⟨g, cap, cur, e, h1, h2, h3⟩
  · exact .inl h0
  · exact .inr ⟨g, cap, cur, e, h1, (hb.block g (lt_of_heap h2)).trans h2, h3⟩
theorem Own.slice {base n : Nat} {v : Value} {w0 w : World} (h : Own base n v w0 w) (hn : n ≠ 0) : ∃ p cap, v = .slice p n cap := by
  obtain ⟨⟨xs, hr⟩, _, _⟩ := h
  rcases hr.2 with ⟨_, h0⟩ | ⟨g, cap, cur, e, _⟩
  · exact absurd h0 hn
  · exact ⟨_, cap, e⟩
theorem Own.start (w : World) : Own w.heap.size 0 (.slice none 0 0) w w := ⟨⟨[], World.ownsRow_nil _ _ _ _⟩, Nat.le_refl _, Below.refl _ _⟩

set_option maxRecDepth 20000 in
set_option maxHeartbeats 3200000 in
theorem encodeOne (w : World) :
    Calls Tryz.prog 68 #[.slice none 0 0, .agg #[.int .i64 3, .bool false, .int .i64 0, .string oneT, .string ⟨#[]⟩, .slice none 0 0]] w fun e w' => ∃ p cap, e = .returned (.slice p 8 cap) ∧ Below w.heap.size w w' := by
  obtain ⟨i0, hi, hz0, hz1, hz2⟩ := info_parts info5b
  obtain ⟨W0, hW0⟩ : ∃ W0, W0 = w.alloc (.cells #[.int .i64 3, .bool false, .int .i64 0, .string oneT, .string ⟨#[]⟩, .slice none 0 0] 28) := ⟨_, rfl⟩
  have S : Six W0 w.heap.size 3 false 0 oneT ⟨#[]⟩ none 0 0 := by rw [hW0]; exact six_new _ rfl
  have b0 : Below w.heap.size w W0 := by rw [hW0]; exact below1 _ _
  have O := Own.start W0
  have f0 := S.c0
  have HS : Hid (W0.heap.size = w.heap.size + 1) := Lib.hid (by rw [hW0]; simp)
  have H0 := Lib.hid hW0
  have hown := World.ownsRow_nil W0 W0.heap.size 5 1
  clear hW0
  go_enter Tryz.func68, Tryz.ntmps68
  go_wp2_with (at_builtin; rw [← H0.out]; refine wpList_append_own _ rfl _ _ 40 rfl W0.heap.size 5 i0 (.int .u8 0) 1 1 Tryz.underlying40 hi hz0 hz1 hz2 rfl (by decide) _ _ _ rfl (hown.alloc _) ⟨w.heap.size + 1, 0, none⟩ 1 1 [.int .u8 3] rfl rfl ?_ ?_ ?_ ?_ ?_ ?_)
  all_goals (try (first | rfl | (unfold maxLen; omega) | omega | (simp; omega) | (intro u hu; simp at hu; subst hu; rfl) | (rw [← HS.out]; exact cell_one_new _ _ _) | (simp; done)))
  intro v1 w1 hown1 hgrow _
  replace O := (O.alloc (.cells #[.int .u8 3] 5)).say hown1 hgrow
  clear hgrow hown1 hown
  have S1 := S.below O.bel
  go_wp2_with (first
    | ((with_reducible refine wpList_load6 (.tmp 3) w.heap.size S1 ?_ ?_ ?_ ?_); rfl; rfl; rfl)
    | (go_at_call 72; (with_reducible refine (kindOfAt 3 _ _ _ _ _ 85 rfl _).mono ?_); rintro e w2 ⟨rfl, hb2⟩; replace O := O.after hb2; have S2 := S.below O.bel; have f3 := S2.c3; clear hb2)
    | (simp only [ta85_80, ta85_81, ta85_82, ta85_83, ta85_84, ta85_85, ta85_87, ta85_88, ta85_89, ta85_90, ta85_91, Result.andThen_ok])
    | (go_at_call 108; (with_reducible refine (encodeText1 W0.heap.size _ _ W0 _ O (by omega)).mono ?_); rintro e w3 ⟨v3, rfl, O3⟩))
  go_ret
  obtain ⟨p, cap, rfl⟩ := O3.slice (by omega)
  exact ⟨p, cap, rfl, below_any b0 O3.bel b0.size⟩
end Go.Proofs.YtoifjjgakblhhaaGreatDoor

/- The text of the decimal 1.0. -/
namespace Go.Proofs.YtoifjjgakblhhaaGreatDoor
open Go.RowKit

set_option maxRecDepth 20000 in
set_option maxHeartbeats 3200000 in
theorem showOne (w : World) :
    Calls Tryz.prog 40 #[.slice none 0 0, .agg #[.int .i64 3, .bool false, .int .i64 0, .string oneT, .string ⟨#[]⟩, .slice none 0 0]] w fun e w' => ∃ g cap, e = .returned (.slice (some ⟨g, 0, none⟩) 3 cap) ∧ (∀ j, j < 3 → w'.cell? ⟨g, j, none⟩ = (Lib.strCells oneT)[j]?) ∧ Below w.heap.size w w' := by
  obtain ⟨i0, hi, hz0, hz1, hz2⟩ := info_parts info5b
  obtain ⟨W0, hW0⟩ : ∃ W0, W0 = w.alloc (.cells #[.int .i64 3, .bool false, .int .i64 0, .string oneT, .string ⟨#[]⟩, .slice none 0 0] 28) := ⟨_, rfl⟩
  have S : Six W0 w.heap.size 3 false 0 oneT ⟨#[]⟩ none 0 0 := by rw [hW0]; exact six_new _ rfl
  have b0 : Below w.heap.size w W0 := by rw [hW0]; exact below1 _ _
  have H0 := Lib.hid hW0
  clear hW0
  go_enter Tryz.func40, Tryz.ntmps40
  go_wp2_with (first
    | (rw [← H0.out]; (with_reducible refine wpList_load6 (.tmp 3) w.heap.size S ?_ ?_ ?_ ?_); rfl; rfl; rfl)
    | (go_at_call 72; (with_reducible refine (kindOfAt 3 _ _ _ _ _ 85 rfl _).mono ?_); rintro e w2 ⟨rfl, hb2⟩; have b2 := below_any b0 hb2 b0.size; have S2 := S.below hb2; have f3 := S2.c3; have hown := World.ownsRow_nil w2 w2.heap.size 5 1; clear hb2)
    | (simp only [ta85_80, ta85_81, ta85_82, ta85_83, ta85_84, ta85_85, ta85_87, ta85_88, ta85_89, ta85_90, ta85_91, Result.andThen_ok])
    | (at_builtin; refine Lib.wpList_append_own_string _ rfl _ _ 40 9 rfl w2.heap.size 5 i0 Tryz.underlying40 Tryz.underlying9 hi hz0 hz1 hz2 (.slice none 0 0) 0 [] rfl hown oneT rfl ?_ ?_ (Nat.le_refl _) ?_))
  all_goals (try (first | rfl | (show 0 + 3 ≤ maxLen; unfold maxLen; omega) | (show 0 + 3 ≤ 140737488355328; omega)))
  intro v' w3 hown' hgrow _
  have b3 : Below w.heap.size w w3 := b2.grown hgrow b2.size (fun k hk => by simp [Value.ownBlock] at hk)
  clear hgrow hown
  have hown2 : w3.ownsRow w2.heap.size 5 1 v' 3 (Lib.strCells oneT) := hown'
  rcases hown2.2 with ⟨_, h0⟩ | ⟨g, cap, cur, rfl, _⟩
  · exact absurd h0 (by omega)
  · have hc := fun j hj => hown2.cellAt j hj
    clear hown' hown2
    go_wp2_with fail
    go_ret
    exact ⟨g, cap, rfl, fun j hj => hc j (by omega), b3⟩

theorem one_may : mayP (.mk 3 false 0 oneT ⟨#[]⟩ []) 0 = true := by
  unfold mayP fitsP
  decide +kernel
theorem whole_may : mayP (.mk 2 false 1 ⟨#[]⟩ ⟨#[]⟩ []) 0 = true := by
  unfold mayP fitsP
  decide +kernel
theorem one_equal : equalTop 0 (.mk 2 false 1 ⟨#[]⟩ ⟨#[]⟩ []) (.mk 3 false 0 oneT ⟨#[]⟩ []) = 1 := by
  unfold equalTop
  rw [one_may, whole_may]
  unfold equalP
  decide +kernel
theorem one_same : sameP (.mk 2 false 1 ⟨#[]⟩ ⟨#[]⟩ []) (.mk 3 false 0 oneT ⟨#[]⟩ []) = false := by
  unfold sameP
  simp

set_option maxRecDepth 20000 in
set_option maxHeartbeats 3200000 in
theorem textOne (w : World) (hG : Gd w) :
    Calls Tryz.prog 15 #[.agg #[.int .i64 3, .bool false, .int .i64 0, .string oneT, .string ⟨#[]⟩, .slice none 0 0]] w fun e w' => e = .returned (.string oneT) ∧ Below w.heap.size w w' := by
  obtain ⟨W0, hW0⟩ : ∃ W0, W0 = w.alloc (.cells #[.int .i64 3, .bool false, .int .i64 0, .string oneT, .string ⟨#[]⟩, .slice none 0 0] 28) := ⟨_, rfl⟩
  have S : Six W0 w.heap.size 3 false 0 oneT ⟨#[]⟩ none 0 0 := by rw [hW0]; exact six_new _ rfl
  have b0 : Below w.heap.size w W0 := by rw [hW0]; exact below1 _ _
  have hc := fun W (h : Below w.heap.size w W) => checkAtV (.mk 3 false 0 oneT ⟨#[]⟩ []) 3 false 0 oneT ⟨#[]⟩ [] (.slice none 0 0) W rfl (hG.below h) (by decide) (by decide) (by unfold Held; exact ⟨none, 0, rfl⟩)
  rw [one_may] at hc
  have H0 := Lib.hid hW0
  clear hW0
  go_enter Tryz.func15, Tryz.ntmps15
  go_wp2_with (first
    | ((try rw [← H0.out]); (with_reducible refine wpList_load6 (.tmp 1) w.heap.size S ?_ ?_ ?_ ?_); rfl; rfl; rfl)
    | (go_at_call 13; (with_reducible refine (hc _ b0).mono ?_); rintro e w' ⟨rfl, hb⟩; replace S := S.below hb; replace b0 := below_any b0 hb b0.size; clear hb)
    | (go_at_call 40; (with_reducible refine (showOne _).mono ?_); rintro e w3 ⟨g, cap, rfl, hcs, hb3⟩; have b3 := below_any b0 hb3 b0.size; have hconv := run_convert_bytes_back (P := Tryz.prog) w3 40 9 5 ⟨g, 0, none⟩ cap [49, 46, 48] Tryz.underlying40 Tryz.underlying5 Tryz.underlying9 (fun j hj => by rw [Addr.add_mid, Nat.zero_add, hcs j hj]; match j, hj with | 0, _ => rfl | 1, _ => rfl | 2, _ => rfl); clear hb3 hcs; have hconv : (convert 40 9 (.slice (some ⟨g, 0, none⟩) 3 cap)).run Tryz.prog w3 = .ok (.string oneT) w3 := hconv))
  go_ret
  exact ⟨rfl, b3⟩
end Go.Proofs.YtoifjjgakblhhaaGreatDoor

/- What each law of package value ends in: it holds. -/
namespace Go.Proofs.YtoifjjgakblhhaaGreatDoor
open Go.RowKit

set_option maxRecDepth 20000 in
set_option maxHeartbeats 3200000 in
theorem encodeC1 (w : World) (hG : Gd w) :
    Calls Tryz.prog 28 #[.agg #[.int .i64 3, .bool false, .int .i64 0, .string oneT, .string ⟨#[]⟩, .slice none 0 0]] w fun e w' => ∃ p cap, e = .returned (.tuple #[.slice p 8 cap, .int .i64 0]) ∧ Below w.heap.size w w' := by
  obtain ⟨W0, hW0⟩ : ∃ W0, W0 = w.alloc (.cells #[.int .i64 3, .bool false, .int .i64 0, .string oneT, .string ⟨#[]⟩, .slice none 0 0] 28) := ⟨_, rfl⟩
  have S : Six W0 w.heap.size 3 false 0 oneT ⟨#[]⟩ none 0 0 := by rw [hW0]; exact six_new _ rfl
  have b0 : Below w.heap.size w W0 := by rw [hW0]; exact below1 _ _
  have hc := fun W (h : Below w.heap.size w W) => checkAtV (.mk 3 false 0 oneT ⟨#[]⟩ []) 3 false 0 oneT ⟨#[]⟩ [] (.slice none 0 0) W rfl (hG.below h) (by decide) (by decide) (by unfold Held; exact ⟨none, 0, rfl⟩)
  rw [one_may] at hc
  have H0 := Lib.hid hW0
  clear hW0
  go_enter Tryz.func28, Tryz.ntmps28
  go_wp2_with (first
    | ((try rw [← H0.out]); (with_reducible refine wpList_load6 (.tmp 1) w.heap.size S ?_ ?_ ?_ ?_); rfl; rfl; rfl)
    | (go_at_call 13; (with_reducible refine (hc _ b0).mono ?_); rintro e w' ⟨rfl, hb⟩; replace S := S.below hb; replace b0 := below_any b0 hb b0.size; clear hb)
    | (go_at_call 68; (with_reducible refine (encodeOne _).mono ?_); rintro e w3 ⟨p, cap, rfl, hb3⟩; have b3 := below_any b0 hb3 b0.size; clear hb3))
  go_ret2
  exact ⟨_, _, rfl, b3⟩

set_option maxRecDepth 20000 in
set_option maxHeartbeats 3200000 in
theorem wakesAt (w : World) (hG : Gd w) (hT : Tab w) :
    Calls Tryz.prog 11 #[] w fun e w' => e = .returned (.bool true) ∧ Below w.heap.size w w' := by
  obtain ⟨W0, hW0⟩ : ∃ W0, W0 = (w.alloc (.cells #[.int .i64 2, .bool false, .int .i64 1, .string ⟨#[]⟩, .string ⟨#[]⟩, .slice none 0 0] 28)).alloc (.cells #[.int .i64 3, .bool false, .int .i64 0, .string oneT, .string ⟨#[]⟩, .slice none 0 0] 28) := ⟨_, rfl⟩
  have S4 : Six W0 w.heap.size 2 false 1 ⟨#[]⟩ ⟨#[]⟩ none 0 0 := by rw [hW0]; exact (six_new _ rfl).alloc _
  have S5 : Six W0 (w.heap.size + 1) 3 false 0 oneT ⟨#[]⟩ none 0 0 := by rw [hW0]; exact six_new _ (by simp)
  have b0 : Below w.heap.size w W0 := by rw [hW0]; exact below2 _ _ _
  have hd : ∀ W : World, Held W (.slice none 0 0) [] := fun W => by unfold Held; exact ⟨none, 0, rfl⟩
  have f1 : Fine 1 ⟨#[]⟩ ⟨#[]⟩ (List.length (α := Val) []) := ⟨by decide, by decide, by decide, by decide, by decide⟩
  have f2 : Fine 0 oneT ⟨#[]⟩ (List.length (α := Val) []) := ⟨by decide, by decide, by decide, by decide, by decide⟩
  have hc1 := fun W (h : Below w.heap.size w W) => checkAtV (.mk 2 false 1 ⟨#[]⟩ ⟨#[]⟩ []) 2 false 1 ⟨#[]⟩ ⟨#[]⟩ [] (.slice none 0 0) W rfl (hG.below h) (by decide) (by decide) (hd W)
  have hc2 := fun W (h : Below w.heap.size w W) => checkAtV (.mk 3 false 0 oneT ⟨#[]⟩ []) 3 false 0 oneT ⟨#[]⟩ [] (.slice none 0 0) W rfl (hG.below h) (by decide) (by decide) (hd W)
  have he : ∀ W, Below w.heap.size w W → Calls Tryz.prog 19 #[.int .i64 0, .agg #[.int .i64 2, .bool false, .int .i64 1, .string ⟨#[]⟩, .string ⟨#[]⟩, .slice none 0 0], .agg #[.int .i64 3, .bool false, .int .i64 0, .string oneT, .string ⟨#[]⟩, .slice none 0 0]] W fun e w' => e = .returned (.int .i64 (equalTop 0 (.mk 2 false 1 ⟨#[]⟩ ⟨#[]⟩ []) (.mk 3 false 0 oneT ⟨#[]⟩ []))) ∧ Below W.heap.size W w' := fun W h => EqualC 0 2 false 1 ⟨#[]⟩ ⟨#[]⟩ [] none 0 3 false 0 oneT ⟨#[]⟩ [] none 0 W (hG.below h) (hT.below h) f1 f2 (hd W) (hd W)
  have hs : ∀ W, Calls Tryz.prog 17 #[.agg #[.int .i64 2, .bool false, .int .i64 1, .string ⟨#[]⟩, .string ⟨#[]⟩, .slice none 0 0], .agg #[.int .i64 3, .bool false, .int .i64 0, .string oneT, .string ⟨#[]⟩, .slice none 0 0]] W fun e w' => e = .returned (.bool (sameP (.mk 2 false 1 ⟨#[]⟩ ⟨#[]⟩ []) (.mk 3 false 0 oneT ⟨#[]⟩ []))) ∧ Below W.heap.size W w' := fun W => sameAtV 2 false 1 ⟨#[]⟩ ⟨#[]⟩ [] none 0 3 false 0 oneT ⟨#[]⟩ [] none 0 W f1 (hd W) (hd W)
  have hx := fun W (h : Below w.heap.size w W) => encodeC1 W (hG.below h)
  have ht := fun W (h : Below w.heap.size w W) => textOne W (hG.below h)
  rw [whole_may] at hc1
  rw [one_may] at hc2
  rw [one_equal] at he
  rw [one_same] at hs
  have H0 := Lib.hid hW0
  clear hW0 hd f1 f2 hG hT
  have ho : (⟨#[49, 46, 48]⟩ : ByteArray) = oneT := rfl
  go_enter Tryz.func11, Tryz.ntmps11
  rw [ho]
  go_wp2_with (first
    | ((try rw [← H0.out]); (with_reducible refine wpList_load6g (.tmp 1) w.heap.size S4 ?_ ?_ ?_ ?_); rfl; rfl; rfl)
    | ((try rw [← H0.out]); (with_reducible refine wpList_load6g (.tmp 2) (w.heap.size + 1) S5 ?_ ?_ ?_ ?_); rfl; rfl; rfl)
    | (go_at_call 28; (with_reducible refine (hx _ b0).mono ?_); rintro e w' ⟨p, cap, rfl, hb⟩; replace S4 := S4.below hb; replace S5 := S5.below hb; replace b0 := below_any b0 hb b0.size; clear hb)
    | (go_at_call 13; (with_reducible refine (hc1 _ b0).mono ?_); rintro e w' ⟨rfl, hb⟩; replace S4 := S4.below hb; replace S5 := S5.below hb; replace b0 := below_any b0 hb b0.size; clear hb)
    | (go_at_call 13; (with_reducible refine (hc2 _ b0).mono ?_); rintro e w' ⟨rfl, hb⟩; replace S4 := S4.below hb; replace S5 := S5.below hb; replace b0 := below_any b0 hb b0.size; clear hb)
    | (go_at_call 19; (with_reducible refine (he _ b0).mono ?_); rintro e w' ⟨rfl, hb⟩; replace S4 := S4.below hb; replace S5 := S5.below hb; replace b0 := below_any b0 hb b0.size; clear hb)
    | (go_at_call 17; (with_reducible refine (hs _).mono ?_); rintro e w' ⟨rfl, hb⟩; replace S4 := S4.below hb; replace S5 := S5.below hb; replace b0 := below_any b0 hb b0.size; clear hb)
    | (go_at_call 15; (with_reducible refine (ht _ b0).mono ?_); rintro e w' ⟨rfl, hb⟩; replace S4 := S4.below hb; replace S5 := S5.below hb; replace b0 := below_any b0 hb b0.size; clear hb))
  go_ret
  exact ⟨rfl, b0⟩
end Go.Proofs.YtoifjjgakblhhaaGreatDoor
