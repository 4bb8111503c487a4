/- Texts of one kind, one behind the other: each says ahead of itself what it shows. -/
import Derived.Test.YtoifjjgakblhhaaGreatDoorHat
import Derived.Test.YtoifjjgakblhhaaGreatDoorHam
import Derived.Test.YtoifjjgakblhhaaGreatDoorHai
import Derived.WalkKit
import Derived.OwnWalk
import Derived.Maps.AppendAt
import Derived.Lib.AppendStr
/- Whether lists are not too deep in one another: it answers; so does light. -/
namespace Go.Proofs.YtoifjjgakblhhaaGreatDoor
open Go.RowKit

/-- What deep answers of the list of a value that lies somewhere: one of the two. -/
def DeepAt (v : Val) : Prop := ∀ (W : World) (d : Int) (k : Int) (b : Bool) (n : Int) (t x : ByteArray) (q : List Val) (p : Option Addr) (cap : Nat), v = .mk k b n t x q → q.length ≤ 2097152 → Held W (.slice p q.length cap) q →
  Calls Tryz.prog 36 #[.slice p q.length cap, .int .i64 d] W fun e w' => ∃ r, e = .returned (.bool r) ∧ Below W.heap.size W w'

set_option maxRecDepth 20000 in
set_option maxHeartbeats 1600000 in
theorem deepSome (l : List Val) (g off cap : Nat) (d : Int) (w : World) (hl : Holds w g off l) (hn : l.length ≤ 2097152) (each : ∀ u ∈ l, DeepAt u) :
    Calls Tryz.prog 36 #[.slice (some ⟨g, off, none⟩) l.length cap, .int .i64 d] w fun e w' => ∃ r, e = .returned (.bool r) ∧ Below w.heap.size w w' := by
  obtain ⟨n, hln⟩ : ∃ n, n = l.length := ⟨_, rfl⟩
  rw [← hln] at hn ⊢
  have HL := Lib.hid hln
  have HH := Lib.hid hl
  have HE := Lib.hid each
  clear hl hln each
  go_enter Tryz.func36, Tryz.ntmps36
  go_wp2_with fail
  go_loopg [5] n (fun gg s5 wr => ∃ j : Nat, j + gg = n ∧ s5 = .int .i64 j ∧ Below w.heap.size w wr)
  case atStart => exact ⟨0, by omega, rfl, Below.refl _ _⟩
  case round =>
    obtain ⟨j, hjg, rfl, hb⟩ := hrel
    by_cases hlt : (j : Int) < n
    · have hj1 : j < l.length := by have := HL.out; omega
      obtain ⟨k, b, i, t, x, q, p, cp, o⟩ := (Holds.at_ l off HH.out j hj1).opens
      have o1 := o.below hb
      have c5 := o1.c5
      have hc := fun D => HE.out l[j] (List.getElem_mem hj1) wr D k b i t x q p cp o.e o.hf.hn o1.hl
      have z := hb.size
      clear o o1
      by_cases hd : 100 < d
      · go_wp2_with fail
        go_ret
        first | exact hb | exact ⟨_, rfl, hb⟩ | exact ⟨rfl, hb⟩ | exact ⟨.inl rfl, hb⟩ | exact ⟨.inr rfl, hb⟩
      · go_wp2_with (go_at_call 36; (with_reducible refine (hc _).mono ?_); rintro e w1 ⟨r, rfl, hb1⟩; replace hb := below_any hb hb1 z; clear hb1)
        · go_ret
          first | exact hb | exact ⟨_, rfl, hb⟩ | exact ⟨rfl, hb⟩ | exact ⟨.inl rfl, hb⟩ | exact ⟨.inr rfl, hb⟩
        · go_roundg (gk - 1)
          case measure => omega
          case rel => exact ⟨j + 1, by omega, by go_num, hb⟩
    · go_wp2_with fail
      go_ret
      first | exact hb | exact ⟨_, rfl, hb⟩ | exact ⟨rfl, hb⟩ | exact ⟨.inl rfl, hb⟩ | exact ⟨.inr rfl, hb⟩
theorem deep_list (q : List Val) (p : Option Addr) (cap : Nat) (d : Int) (w : World) (hl : Held w (.slice p q.length cap) q) (hn : q.length ≤ 2097152) (each : ∀ u ∈ q, DeepAt u) :
    Calls Tryz.prog 36 #[.slice p q.length cap, .int .i64 d] w fun e w' => ∃ r, e = .returned (.bool r) ∧ Below w.heap.size w w' := by
  cases q with
  | nil =>
    go_enter Tryz.func36, Tryz.ntmps36
    go_wp2_with fail
    go_loopg [5] 0 (fun gg s5 wr => gg = 0 ∧ s5 = .int .i64 0 ∧ wr = w)
    case atStart => exact ⟨rfl, rfl, rfl⟩
    case round =>
      obtain ⟨_, rfl, rfl⟩ := hrel
      go_wp2_with fail
      go_ret
      first | exact Below.refl _ _ | exact ⟨_, rfl, Below.refl _ _⟩ | exact ⟨.inr rfl, Below.refl _ _⟩
  | cons v r =>
    obtain ⟨g, off, rfl, hh⟩ := hl.form
    exact deepSome (v :: r) g off cap d w hh hn each
mutual
theorem deepVal : (v : Val) → DeepAt v
  | .mk k b n t x q => fun W d k1 b1 n1 t1 x1 q1 p cap e hn hl => by
    cases e
    exact deep_list q p cap d W hl hn (deepEach q)
theorem deepEach : (q : List Val) → ∀ u ∈ q, DeepAt u
  | [], _, h => absurd h (by simp)
  | v :: r, u, h => by
    rcases List.mem_cons.1 h with h | h
    · rw [h]; exact deepVal v
    · exact deepEach r u h
end
set_option maxHeartbeats 1600000 in
theorem lightC (q : List Val) (p : Option Addr) (cap : Nat) (w : World) (hl : Held w (.slice p q.length cap) q) (hn : q.length ≤ 2097152) :
    Calls Tryz.prog 10 #[.slice p q.length cap] w fun e w' => ∃ r, e = .returned (.bool r) ∧ Below w.heap.size w w' := by
  have h1 := (size_list q p cap w hl hn (sizeEach q))
  have h2 := fun W (h : Below w.heap.size w W) => deep_list q p cap 0 W (Held.below q hl h) hn (deepEach q)
  generalize sizeAll q 0 = z at h1
  clear hl hn
  by_cases hz : z ≤ 9000
  · go_enter Tryz.func10, Tryz.ntmps10
    go_wp2_with (first
      | (go_at_call 35; (with_reducible refine h1.mono ?_); rintro e w1 ⟨rfl, m, rfl⟩; have b0 : Below w.heap.size w (w.drewN m) := below_drewN (Below.refl _ _) m)
      | (go_at_call 36; (with_reducible refine (h2 _ b0).mono ?_); rintro e w2 ⟨r, rfl, hb2⟩; replace b0 := below_any b0 hb2 b0.size))
    go_ret
    first | exact b0 | exact ⟨_, rfl, b0⟩ | exact ⟨rfl, b0⟩ | exact ⟨.inl rfl, b0⟩ | exact ⟨.inr rfl, b0⟩
  · go_enter Tryz.func10, Tryz.ntmps10
    go_wp2_with (go_at_call 35; (with_reducible refine h1.mono ?_); rintro e w1 ⟨rfl, m, rfl⟩; have b0 : Below w.heap.size w (w.drewN m) := below_drewN (Below.refl _ _) m)
    go_ret
    first | exact b0 | exact ⟨_, rfl, b0⟩ | exact ⟨rfl, b0⟩ | exact ⟨.inl rfl, b0⟩ | exact ⟨.inr rfl, b0⟩
end Go.Proofs.YtoifjjgakblhhaaGreatDoor

/- How a text's length is encoded: four bytes behind what was there. -/
namespace Go.Proofs.YtoifjjgakblhhaaGreatDoor
open Go.RowKit

theorem info5b : (Tryz.prog.info? 5).map (fun i => (i.zero, i.size, i.bytes)) = some (some (.int .u8 0), 1, 1) := by kernel_rfl
/-- A row of bytes of one's own. -/
structure Own (base n : Nat) (v : Value) (w0 w : World) : Prop where
  row : ∃ xs, w.ownsRow base 5 1 v n xs
  lo : base ≤ w.heap.size
  bel : Below base w0 w

set_option maxRecDepth 20000 in
set_option maxHeartbeats 3200000 in
theorem encodeInt3 (base n : Nat) (v : Value) (w0 w : World) (h : Own base n v w0 w) (hn : n ≤ 1000) :
    Calls Tryz.prog 107 #[v, .int .u64 3, .int .i64 4] w fun e w' => ∃ v', e = .returned v' ∧ Own base (n + 4) v' w0 w' := by
  obtain ⟨i0, hi, hz0, hz1, hz2⟩ := info_parts info5b
  go_enter Tryz.func107, Tryz.ntmps107
  go_wp2_with fail
  go_loopg [0, 7] 4 (fun gg s0 s7 wr => ∃ j : Nat, j + gg = 4 ∧ s7 = .int .i64 (3 - (j : Int)) ∧ Own base (n + j) s0 w0 wr)
  case atStart => exact ⟨0, by omega, rfl, h⟩
  case round =>
    clear h
    obtain ⟨j, hj, rfl, O⟩ := hrel
    have hj4 : j = 0 ∨ j = 1 ∨ j = 2 ∨ j = 3 ∨ j = 4 := by omega
    obtain ⟨⟨xs, hown⟩, hlo, hbel⟩ := O
    rcases hj4 with rfl | rfl | rfl | rfl | rfl
    case inr.inr.inr.inr =>
      go_wp2_with fail
      go_ret
      exact ⟨_, rfl, ⟨xs, hown⟩, hlo, hbel⟩
    all_goals
      go_wp2_with (at_builtin; refine wpList_append_own _ rfl _ _ 40 rfl base 5 i0 (.int .u8 0) 1 1 Tryz.underlying40 hi hz0 hz1 hz2 rfl (by decide) _ _ _ rfl (hown.alloc _) ⟨wr.heap.size, 0, none⟩ 1 1 [_] rfl rfl (cell_one_new _ _ _) ?_ ?_ ?_ ?_ ?_)
      all_goals (try (first | rfl | (unfold maxLen; omega) | omega | (simp; omega) | (intro u hu; simp at hu; subst hu; rfl)))
      intro v' w1 hown' hgrow _
      have b1 : Below base w0 w1 := (hbel.alloc hlo _).grown hgrow (by simp; omega) (fun k hk => by have := (hown.lt k hk).1; omega)
      have l1 : base ≤ w1.heap.size := by have := hgrow.size; simp at this; omega
      clear hgrow
      go_wp2_with fail
      go_roundg (gk - 1)
      case measure => omega
      case rel => first | exact ⟨1, by omega, rfl, ⟨_, hown'⟩, l1, b1⟩ | exact ⟨2, by omega, rfl, ⟨_, hown'⟩, l1, b1⟩ | exact ⟨3, by omega, rfl, ⟨_, hown'⟩, l1, b1⟩ | exact ⟨4, by omega, rfl, ⟨_, hown'⟩, l1, b1⟩
end Go.Proofs.YtoifjjgakblhhaaGreatDoor

/- How the text 1.0 is encoded, and the decimal 1.0: eight bytes. -/
namespace Go.Proofs.YtoifjjgakblhhaaGreatDoor
open Go.RowKit

/-- The text 1.0. -/
def oneT : ByteArray := ⟨#[49, 46, 48]⟩
theorem Own.say {base n m : Nat} {v v' : Value} {w0 w w1 : World} {xs : List Value} (h : Own base n v w0 w) (hown : w1.ownsRow base 5 1 v' m xs) (hg : w.grownBy w1 v.ownBlock) : Own base m v' w0 w1 := by
  obtain ⟨⟨ys, hr⟩, hlo, hbel⟩ := h
  exact ⟨⟨xs, hown⟩, Nat.le_trans hlo hg.size, hbel.grown hg hlo (fun k hk => (hr.lt k hk).1)⟩

set_option maxRecDepth 20000 in
set_option maxHeartbeats 3200000 in
theorem encodeText1 (base n : Nat) (v : Value) (w0 w : World) (h : Own base n v w0 w) (hn : n ≤ 100) :
    Calls Tryz.prog 108 #[v, .string oneT] w fun e w' => ∃ v', e = .returned v' ∧ Own base (n + 7) v' w0 w' := by
  obtain ⟨i0, hi, hz0, hz1, hz2⟩ := info_parts info5b
  unfold oneT
  go_enter Tryz.func108, Tryz.ntmps108
  go_wp2_with (first
    | (go_at_call 107; (with_reducible refine (encodeInt3 base n v w0 w h (by omega)).mono ?_); rintro e w1 ⟨v1, rfl, O⟩; have O2 := O; obtain ⟨⟨xs, hown⟩, hlo, hbel⟩ := O2)
    | (at_builtin; refine Lib.wpList_append_own_string _ rfl _ _ 40 9 rfl base 5 i0 Tryz.underlying40 Tryz.underlying9 hi hz0 hz1 hz2 _ _ _ rfl hown _ rfl ?_ ?_ hlo ?_))
  all_goals (try (first | rfl | (show n + 4 + 3 ≤ maxLen; unfold maxLen; omega) | (show n + 4 + 3 ≤ 140737488355328; omega)))
  intro v' w2 hown' hgrow _
  have O2 := O.say hown' hgrow
  clear O hgrow
  go_wp2_with fail
  go_ret
  exact ⟨_, rfl, O2⟩
end Go.Proofs.YtoifjjgakblhhaaGreatDoor

/- Whether two values are equal: equal, where one is none, or both are numbers. -/
namespace Go.Proofs.YtoifjjgakblhhaaGreatDoor
open Go.RowKit

set_option maxRecDepth 4000 in
set_option maxHeartbeats 3200000 in
theorem equalPlain (lang : Int) (k : Int) (b : Bool) (n : Int) (t x : ByteArray) (q : List Val) (p : Option Addr) (cap : Nat) (k2 : Int) (b2 : Bool) (n2 : Int) (t2 x2 : ByteArray) (q2 : List Val) (p2 : Option Addr) (cap2 : Nat) (w : World) (hG : Gd w) (hT : Tab w) (hf : Fine n t x q.length) (hf2 : Fine n2 t2 x2 q2.length) (hl : Held w (.slice p q.length cap) q) (hl2 : Held w (.slice p2 q2.length cap2) q2) (each : ∀ v ∈ q, EqualAt lang v) (h : k = 0 ∨ k2 = 0 ∨ (numB k = true ∧ numB k2 = true)) :
    Calls Tryz.prog 44 #[.int .i64 lang, .agg #[.int .i64 k, .bool b, .int .i64 n, .string t, .string x, .slice p q.length cap], .agg #[.int .i64 k2, .bool b2, .int .i64 n2, .string t2, .string x2, .slice p2 q2.length cap2]] w fun e w' => e = .returned (.int .i64 (equalP lang (.mk k b n t x q) (.mk k2 b2 n2 t2 x2 q2))) ∧ Below w.heap.size w w' := by
  obtain ⟨W0, hW0⟩ : ∃ W0, W0 = (w.alloc (.cells #[.int .i64 k, .bool b, .int .i64 n, .string t, .string x, .slice p q.length cap] 28)).alloc (.cells #[.int .i64 k2, .bool b2, .int .i64 n2, .string t2, .string x2, .slice p2 q2.length cap2] 28) := ⟨_, rfl⟩
  have S4 : Six W0 w.heap.size k b n t x p q.length cap := by rw [hW0]; exact (six_new _ rfl).alloc _
  have S5 : Six W0 (w.heap.size + 1) k2 b2 n2 t2 x2 p2 q2.length cap2 := by rw [hW0]; exact six_new _ (by simp)
  have b0 : Below w.heap.size w W0 := by rw [hW0]; exact below2 _ _ _
  have f0 := S4.c0
  have g0 := S5.c0
  have H0 := Lib.hid hW0
  have hn1 := fun W => isNumberAt k b n t x (.slice p q.length cap) W
  have hn2 := fun W => isNumberAt k2 b2 n2 t2 x2 (.slice p2 q2.length cap2) W
  have hcmp := fun W (h : Below w.heap.size w W) => cmpNumsAt k b n t x p q.length cap k2 b2 n2 t2 x2 p2 q2.length cap2 W (hG.below h) (hT.below h) hf hf2
  have hg1 := fun W => isGraphsAt k b n t x (.slice p q.length cap) W
  have hg2 := fun W => isGraphsAt k2 b2 n2 t2 x2 (.slice p2 q2.length cap2) W
  have ho1 := fun W (h : Below w.heap.size w W) => isOpenAt k b n t x q p cap k2 b2 n2 t2 x2 q2 p2 cap2 W hf (Held.below q hl h) (Held.below q2 hl2 h) _ rfl
  have ho2 := fun W (h : Below w.heap.size w W) => isOpenAt k2 b2 n2 t2 x2 q2 p2 cap2 k b n t x q p cap W hf2 (Held.below q2 hl2 h) (Held.below q hl h) _ rfl
  have hbo := fun W => bothAreAt 5 k b n t x (.slice p q.length cap) k2 b2 n2 t2 x2 (.slice p2 q2.length cap2) W
  have hls := fun W (h : Below w.heap.size w W) => eqListsAt lang q q2 p p2 cap cap2 W (hG.below h) (hT.below h) (Held.below q hl h) (Held.below q2 hl2 h) hf.hn each
  have hsm := fun W (h : Below w.heap.size w W) => sameAtV k b n t x q p cap k2 b2 n2 t2 x2 q2 p2 cap2 W hf (Held.below q hl h) (Held.below q2 hl2 h)
  clear hl hl2 hf hf2 hG hT each hW0
  cases e0 : (k == 0) with
  | true =>
    have hv : equalP lang (.mk k b n t x q) (.mk k2 b2 n2 t2 x2 q2) = 2 := by unfold equalP; rw [if_pos (.inl (by simpa using e0))]
    rw [hv]
    clear hv h hn1 hn2 hcmp hg1 hg2 ho1 ho2 hbo hls hsm
    go_enter Tryz.func44, Tryz.ntmps44
    go_wp2_with fail
    rw [← H0.out]
    go_wp2_with (first
      | ((with_reducible refine wpList_load6g (.tmp 4) w.heap.size S4 ?_ ?_ ?_ ?_); rfl; rfl; rfl)
      | ((with_reducible refine wpList_load6g (.tmp 5) (w.heap.size + 1) S5 ?_ ?_ ?_ ?_); rfl; rfl; rfl))
    go_ret
    exact ⟨rfl, b0⟩
  | false =>
    have n0 : ¬ k = 0 := by simpa using e0
    cases e1 : (k2 == 0) with
    | true =>
      have hv : equalP lang (.mk k b n t x q) (.mk k2 b2 n2 t2 x2 q2) = 2 := by unfold equalP; rw [if_pos (.inr (by simpa using e1))]
      rw [hv]
      clear hv h n0 hn1 hn2 hcmp hg1 hg2 ho1 ho2 hbo hls hsm
      go_enter Tryz.func44, Tryz.ntmps44
      go_wp2_with fail
      rw [← H0.out]
      go_wp2_with (first
        | ((with_reducible refine wpList_load6g (.tmp 4) w.heap.size S4 ?_ ?_ ?_ ?_); rfl; rfl; rfl)
        | ((with_reducible refine wpList_load6g (.tmp 5) (w.heap.size + 1) S5 ?_ ?_ ?_ ?_); rfl; rfl; rfl))
      go_ret
      exact ⟨rfl, b0⟩
    | false =>
      have n1 : ¬ k2 = 0 := by simpa using e1
      rcases h with h | h | ⟨h1, h2⟩
      · exact absurd h n0
      · exact absurd h n1
      · have hv : equalP lang (.mk k b n t x q) (.mk k2 b2 n2 t2 x2 q2) = tI (cmpZ (numV k n t) (numV k2 n2 t2) == 0) := by unfold equalP; rw [if_neg (by omega), if_pos ⟨h1, h2⟩]
        rw [hv]
        unfold numB at h1 h2
        rw [h1] at hn1
        rw [h2] at hn2
        generalize cmpZ (numV k n t) (numV k2 n2 t2) = r at hcmp ⊢
        clear hv h1 h2 n0 n1 hg1 hg2 ho1 ho2 hbo hls hsm
        go_enter Tryz.func44, Tryz.ntmps44
        go_wp2_with fail
        rw [← H0.out]
        go_wp2_with (first
          | ((with_reducible refine wpList_load6g (.tmp 4) w.heap.size S4 ?_ ?_ ?_ ?_); rfl; rfl; rfl)
          | ((with_reducible refine wpList_load6g (.tmp 5) (w.heap.size + 1) S5 ?_ ?_ ?_ ?_); rfl; rfl; rfl)
          | (go_at_call 50; (with_reducible refine (hn1 _).mono ?_); rintro e w' ⟨rfl, hb⟩; replace S4 := S4.below hb; replace S5 := S5.below hb; replace b0 := below_any b0 hb b0.size; have f5 := S4.c5; have g5 := S5.c5; have f00 := S4.c0; have g00 := S5.c0; clear hb)
          | (go_at_call 50; (with_reducible refine (hn2 _).mono ?_); rintro e w' ⟨rfl, hb⟩; replace S4 := S4.below hb; replace S5 := S5.below hb; replace b0 := below_any b0 hb b0.size; have f5 := S4.c5; have g5 := S5.c5; have f00 := S4.c0; have g00 := S5.c0; clear hb)
          | (go_at_call 52; (with_reducible refine (hcmp _ b0).mono ?_); rintro e w' ⟨rfl, hb⟩; replace S4 := S4.below hb; replace S5 := S5.below hb; replace b0 := below_any b0 hb b0.size; have f5 := S4.c5; have g5 := S5.c5; have f00 := S4.c0; have g00 := S5.c0; clear hb)
          | (go_at_call 51; (with_reducible refine (truthT _ _).mono ?_); rintro e w' ⟨rfl, rfl⟩))
        go_ret
        exact ⟨rfl, b0⟩
end Go.Proofs.YtoifjjgakblhhaaGreatDoor

/- Whether two values are equal: equal, the first no number. -/
namespace Go.Proofs.YtoifjjgakblhhaaGreatDoor
open Go.RowKit

set_option maxRecDepth 4000 in
set_option maxHeartbeats 3200000 in
theorem equalNot1 (lang : Int) (k : Int) (b : Bool) (n : Int) (t x : ByteArray) (q : List Val) (p : Option Addr) (cap : Nat) (k2 : Int) (b2 : Bool) (n2 : Int) (t2 x2 : ByteArray) (q2 : List Val) (p2 : Option Addr) (cap2 : Nat) (w : World) (hG : Gd w) (hT : Tab w) (hf : Fine n t x q.length) (hf2 : Fine n2 t2 x2 q2.length) (hl : Held w (.slice p q.length cap) q) (hl2 : Held w (.slice p2 q2.length cap2) q2) (each : ∀ v ∈ q, EqualAt lang v) (n0 : ¬ k = 0) (n1 : ¬ k2 = 0) (h1 : numB k = false) :
    Calls Tryz.prog 44 #[.int .i64 lang, .agg #[.int .i64 k, .bool b, .int .i64 n, .string t, .string x, .slice p q.length cap], .agg #[.int .i64 k2, .bool b2, .int .i64 n2, .string t2, .string x2, .slice p2 q2.length cap2]] w fun e w' => e = .returned (.int .i64 (equalP lang (.mk k b n t x q) (.mk k2 b2 n2 t2 x2 q2))) ∧ Below w.heap.size w w' := by
  obtain ⟨W0, hW0⟩ : ∃ W0, W0 = (w.alloc (.cells #[.int .i64 k, .bool b, .int .i64 n, .string t, .string x, .slice p q.length cap] 28)).alloc (.cells #[.int .i64 k2, .bool b2, .int .i64 n2, .string t2, .string x2, .slice p2 q2.length cap2] 28) := ⟨_, rfl⟩
  have S4 : Six W0 w.heap.size k b n t x p q.length cap := by rw [hW0]; exact (six_new _ rfl).alloc _
  have S5 : Six W0 (w.heap.size + 1) k2 b2 n2 t2 x2 p2 q2.length cap2 := by rw [hW0]; exact six_new _ (by simp)
  have b0 : Below w.heap.size w W0 := by rw [hW0]; exact below2 _ _ _
  have f0 := S4.c0
  have g0 := S5.c0
  have H0 := Lib.hid hW0
  have hn1 := fun W => isNumberAt k b n t x (.slice p q.length cap) W
  have hn2 := fun W => isNumberAt k2 b2 n2 t2 x2 (.slice p2 q2.length cap2) W
  have hcmp := fun W (h : Below w.heap.size w W) => cmpNumsAt k b n t x p q.length cap k2 b2 n2 t2 x2 p2 q2.length cap2 W (hG.below h) (hT.below h) hf hf2
  have hg1 := fun W => isGraphsAt k b n t x (.slice p q.length cap) W
  have hg2 := fun W => isGraphsAt k2 b2 n2 t2 x2 (.slice p2 q2.length cap2) W
  have ho1 := fun W (h : Below w.heap.size w W) => isOpenAt k b n t x q p cap k2 b2 n2 t2 x2 q2 p2 cap2 W hf (Held.below q hl h) (Held.below q2 hl2 h) _ rfl
  have ho2 := fun W (h : Below w.heap.size w W) => isOpenAt k2 b2 n2 t2 x2 q2 p2 cap2 k b n t x q p cap W hf2 (Held.below q2 hl2 h) (Held.below q hl h) _ rfl
  have hbo := fun W => bothAreAt 5 k b n t x (.slice p q.length cap) k2 b2 n2 t2 x2 (.slice p2 q2.length cap2) W
  have hls := fun W (h : Below w.heap.size w W) => eqListsAt lang q q2 p p2 cap cap2 W (hG.below h) (hT.below h) (Held.below q hl h) (Held.below q2 hl2 h) hf.hn each
  have hsm := fun W (h : Below w.heap.size w W) => sameAtV k b n t x q p cap k2 b2 n2 t2 x2 q2 p2 cap2 W hf (Held.below q hl h) (Held.below q2 hl2 h)
  clear hl hl2 hf hf2 hG hT each hW0
  have e0 : (k == 0) = false := by simpa using n0
  have e1 : (k2 == 0) = false := by simpa using n1
  have m1 : numB k = false := h1
  have hnn : ¬ (numB k = true ∧ numB k2 = true) := by rintro ⟨u, v⟩; rw [m1] at u; cases u
  rw [show (k == 2 || k == 3) = numB k from rfl, m1] at hn1
  clear m1 hcmp
  by_cases hlang : lang = 1
  · have el : (lang == 1) = true := by simpa using hlang
    cases eg1 : graphB k with
    | true =>
      have hv : equalP lang (.mk k b n t x q) (.mk k2 b2 n2 t2 x2 q2) = 2 := by unfold equalP; rw [if_neg (by omega), if_neg hnn, if_pos ⟨hlang, by rw [eg1]; rfl⟩]
      rw [hv]
      rw [show (k == 5 || k == 6 || k == 7) = graphB k from rfl, eg1] at hg1
      clear hv hnn n0 n1 hg2 ho1 ho2 hbo hls hsm
      go_enter Tryz.func44, Tryz.ntmps44
      go_wp2_with fail
      rw [← H0.out]
      go_wp2_with (first
        | ((with_reducible refine wpList_load6g (.tmp 4) w.heap.size S4 ?_ ?_ ?_ ?_); rfl; rfl; rfl)
        | ((with_reducible refine wpList_load6g (.tmp 5) (w.heap.size + 1) S5 ?_ ?_ ?_ ?_); rfl; rfl; rfl)
        | (go_at_call 50; (with_reducible refine (hn1 _).mono ?_); rintro e w' ⟨rfl, hb⟩; replace S4 := S4.below hb; replace S5 := S5.below hb; replace b0 := below_any b0 hb b0.size; have f5 := S4.c5; have g5 := S5.c5; have f00 := S4.c0; have g00 := S5.c0; clear hb)
        | (go_at_call 84; (with_reducible refine (hg1 _).mono ?_); rintro e w' ⟨rfl, hb⟩; replace S4 := S4.below hb; replace S5 := S5.below hb; replace b0 := below_any b0 hb b0.size; have f5 := S4.c5; have g5 := S5.c5; have f00 := S4.c0; have g00 := S5.c0; clear hb))
      go_ret
      exact ⟨rfl, b0⟩
    | false =>
      have k5 : (k == 5) = false := by
        unfold graphB at eg1
        cases h5 : (k == 5) with
        | false => rfl
        | true => rw [h5] at eg1; cases eg1
      rw [show (k == 5 || k == 6 || k == 7) = graphB k from rfl, eg1] at hg1
      cases eg2 : graphB k2 with
      | true =>
        have hv : equalP lang (.mk k b n t x q) (.mk k2 b2 n2 t2 x2 q2) = 2 := by unfold equalP; rw [if_neg (by omega), if_neg hnn, if_pos ⟨hlang, by rw [eg1, eg2]; rfl⟩]
        rw [hv]
        rw [show (k2 == 5 || k2 == 6 || k2 == 7) = graphB k2 from rfl, eg2] at hg2
        clear hv hnn n0 n1 ho1 ho2 hbo hls hsm
        go_enter Tryz.func44, Tryz.ntmps44
        go_wp2_with fail
        rw [← H0.out]
        go_wp2_with (first
          | ((with_reducible refine wpList_load6g (.tmp 4) w.heap.size S4 ?_ ?_ ?_ ?_); rfl; rfl; rfl)
          | ((with_reducible refine wpList_load6g (.tmp 5) (w.heap.size + 1) S5 ?_ ?_ ?_ ?_); rfl; rfl; rfl)
          | (go_at_call 50; (with_reducible refine (hn1 _).mono ?_); rintro e w' ⟨rfl, hb⟩; replace S4 := S4.below hb; replace S5 := S5.below hb; replace b0 := below_any b0 hb b0.size; have f5 := S4.c5; have g5 := S5.c5; have f00 := S4.c0; have g00 := S5.c0; clear hb)
          | (go_at_call 84; (with_reducible refine (hg1 _).mono ?_); rintro e w' ⟨rfl, hb⟩; replace S4 := S4.below hb; replace S5 := S5.below hb; replace b0 := below_any b0 hb b0.size; have f5 := S4.c5; have g5 := S5.c5; have f00 := S4.c0; have g00 := S5.c0; clear hb)
          | (go_at_call 84; (with_reducible refine (hg2 _).mono ?_); rintro e w' ⟨rfl, hb⟩; replace S4 := S4.below hb; replace S5 := S5.below hb; replace b0 := below_any b0 hb b0.size; have f5 := S4.c5; have g5 := S5.c5; have f00 := S4.c0; have g00 := S5.c0; clear hb))
        go_ret
        exact ⟨rfl, b0⟩
      | false =>
        rw [show (k2 == 5 || k2 == 6 || k2 == 7) = graphB k2 from rfl, eg2] at hg2
        cases eo1 : openP k k2 (sameP (.mk k b n t x q) (.mk k2 b2 n2 t2 x2 q2)) with
        | true =>
          have hv : equalP lang (.mk k b n t x q) (.mk k2 b2 n2 t2 x2 q2) = 2 := by unfold equalP; rw [if_neg (by omega), if_neg hnn, if_pos ⟨hlang, by rw [eg1, eg2, eo1]; rfl⟩]
          rw [hv]
          rw [eo1] at ho1
          clear hv hnn n0 n1 ho2 hbo hls hsm
          go_enter Tryz.func44, Tryz.ntmps44
          go_wp2_with fail
          rw [← H0.out]
          go_wp2_with (first
            | ((with_reducible refine wpList_load6g (.tmp 4) w.heap.size S4 ?_ ?_ ?_ ?_); rfl; rfl; rfl)
            | ((with_reducible refine wpList_load6g (.tmp 5) (w.heap.size + 1) S5 ?_ ?_ ?_ ?_); rfl; rfl; rfl)
            | (go_at_call 50; (with_reducible refine (hn1 _).mono ?_); rintro e w' ⟨rfl, hb⟩; replace S4 := S4.below hb; replace S5 := S5.below hb; replace b0 := below_any b0 hb b0.size; have f5 := S4.c5; have g5 := S5.c5; have f00 := S4.c0; have g00 := S5.c0; clear hb)
            | (go_at_call 84; (with_reducible refine (hg1 _).mono ?_); rintro e w' ⟨rfl, hb⟩; replace S4 := S4.below hb; replace S5 := S5.below hb; replace b0 := below_any b0 hb b0.size; have f5 := S4.c5; have g5 := S5.c5; have f00 := S4.c0; have g00 := S5.c0; clear hb)
            | (go_at_call 84; (with_reducible refine (hg2 _).mono ?_); rintro e w' ⟨rfl, hb⟩; replace S4 := S4.below hb; replace S5 := S5.below hb; replace b0 := below_any b0 hb b0.size; have f5 := S4.c5; have g5 := S5.c5; have f00 := S4.c0; have g00 := S5.c0; clear hb)
            | (go_at_call 85; (with_reducible refine (ho1 _ b0).mono ?_); rintro e w' ⟨rfl, hb⟩; replace S4 := S4.below hb; replace S5 := S5.below hb; replace b0 := below_any b0 hb b0.size; have f5 := S4.c5; have g5 := S5.c5; have f00 := S4.c0; have g00 := S5.c0; clear hb))
          go_ret
          exact ⟨rfl, b0⟩
        | false =>
          rw [eo1] at ho1
          cases eo2 : openP k2 k (sameP (.mk k2 b2 n2 t2 x2 q2) (.mk k b n t x q)) with
          | true =>
            have hv : equalP lang (.mk k b n t x q) (.mk k2 b2 n2 t2 x2 q2) = 2 := by unfold equalP; rw [if_neg (by omega), if_neg hnn, if_pos ⟨hlang, by rw [eg1, eg2, eo1, eo2]; rfl⟩]
            rw [hv]
            rw [eo2] at ho2
            clear hv hnn n0 n1 hbo hls hsm
            go_enter Tryz.func44, Tryz.ntmps44
            go_wp2_with fail
            rw [← H0.out]
            go_wp2_with (first
              | ((with_reducible refine wpList_load6g (.tmp 4) w.heap.size S4 ?_ ?_ ?_ ?_); rfl; rfl; rfl)
              | ((with_reducible refine wpList_load6g (.tmp 5) (w.heap.size + 1) S5 ?_ ?_ ?_ ?_); rfl; rfl; rfl)
              | (go_at_call 50; (with_reducible refine (hn1 _).mono ?_); rintro e w' ⟨rfl, hb⟩; replace S4 := S4.below hb; replace S5 := S5.below hb; replace b0 := below_any b0 hb b0.size; have f5 := S4.c5; have g5 := S5.c5; have f00 := S4.c0; have g00 := S5.c0; clear hb)
              | (go_at_call 84; (with_reducible refine (hg1 _).mono ?_); rintro e w' ⟨rfl, hb⟩; replace S4 := S4.below hb; replace S5 := S5.below hb; replace b0 := below_any b0 hb b0.size; have f5 := S4.c5; have g5 := S5.c5; have f00 := S4.c0; have g00 := S5.c0; clear hb)
              | (go_at_call 84; (with_reducible refine (hg2 _).mono ?_); rintro e w' ⟨rfl, hb⟩; replace S4 := S4.below hb; replace S5 := S5.below hb; replace b0 := below_any b0 hb b0.size; have f5 := S4.c5; have g5 := S5.c5; have f00 := S4.c0; have g00 := S5.c0; clear hb)
              | (go_at_call 85; (with_reducible refine (ho1 _ b0).mono ?_); rintro e w' ⟨rfl, hb⟩; replace S4 := S4.below hb; replace S5 := S5.below hb; replace b0 := below_any b0 hb b0.size; have f5 := S4.c5; have g5 := S5.c5; have f00 := S4.c0; have g00 := S5.c0; clear hb)
              | (go_at_call 85; (with_reducible refine (ho2 _ b0).mono ?_); rintro e w' ⟨rfl, hb⟩; replace S4 := S4.below hb; replace S5 := S5.below hb; replace b0 := below_any b0 hb b0.size; have f5 := S4.c5; have g5 := S5.c5; have f00 := S4.c0; have g00 := S5.c0; clear hb))
            go_ret
            exact ⟨rfl, b0⟩
          | false =>
            rw [eo2] at ho2
            have hv : equalP lang (.mk k b n t x q) (.mk k2 b2 n2 t2 x2 q2) = tI (sameP (.mk k b n t x q) (.mk k2 b2 n2 t2 x2 q2)) := by unfold equalP; rw [if_neg (by omega), if_neg hnn, if_neg (by rintro ⟨_, h⟩; rw [eg1, eg2, eo1, eo2] at h; cases h), if_neg (by rintro ⟨h, _⟩; rw [h] at k5; cases k5)]
            rw [hv]
            rw [k5, Bool.false_and] at hbo
            generalize sameP (.mk k b n t x q) (.mk k2 b2 n2 t2 x2 q2) = r at hsm ⊢
            clear hv hnn n0 n1 hls
            go_enter Tryz.func44, Tryz.ntmps44
            go_wp2_with fail
            rw [← H0.out]
            go_wp2_with (first
              | ((with_reducible refine wpList_load6g (.tmp 4) w.heap.size S4 ?_ ?_ ?_ ?_); rfl; rfl; rfl)
              | ((with_reducible refine wpList_load6g (.tmp 5) (w.heap.size + 1) S5 ?_ ?_ ?_ ?_); rfl; rfl; rfl)
              | (go_at_call 50; (with_reducible refine (hn1 _).mono ?_); rintro e w' ⟨rfl, hb⟩; replace S4 := S4.below hb; replace S5 := S5.below hb; replace b0 := below_any b0 hb b0.size; have f5 := S4.c5; have g5 := S5.c5; have f00 := S4.c0; have g00 := S5.c0; clear hb)
              | (go_at_call 84; (with_reducible refine (hg1 _).mono ?_); rintro e w' ⟨rfl, hb⟩; replace S4 := S4.below hb; replace S5 := S5.below hb; replace b0 := below_any b0 hb b0.size; have f5 := S4.c5; have g5 := S5.c5; have f00 := S4.c0; have g00 := S5.c0; clear hb)
              | (go_at_call 84; (with_reducible refine (hg2 _).mono ?_); rintro e w' ⟨rfl, hb⟩; replace S4 := S4.below hb; replace S5 := S5.below hb; replace b0 := below_any b0 hb b0.size; have f5 := S4.c5; have g5 := S5.c5; have f00 := S4.c0; have g00 := S5.c0; clear hb)
              | (go_at_call 85; (with_reducible refine (ho1 _ b0).mono ?_); rintro e w' ⟨rfl, hb⟩; replace S4 := S4.below hb; replace S5 := S5.below hb; replace b0 := below_any b0 hb b0.size; have f5 := S4.c5; have g5 := S5.c5; have f00 := S4.c0; have g00 := S5.c0; clear hb)
              | (go_at_call 85; (with_reducible refine (ho2 _ b0).mono ?_); rintro e w' ⟨rfl, hb⟩; replace S4 := S4.below hb; replace S5 := S5.below hb; replace b0 := below_any b0 hb b0.size; have f5 := S4.c5; have g5 := S5.c5; have f00 := S4.c0; have g00 := S5.c0; clear hb)
              | (go_at_call 53; (with_reducible refine (hbo _).mono ?_); rintro e w' ⟨rfl, hb⟩; replace S4 := S4.below hb; replace S5 := S5.below hb; replace b0 := below_any b0 hb b0.size; have f5 := S4.c5; have g5 := S5.c5; have f00 := S4.c0; have g00 := S5.c0; clear hb)
              | (go_at_call 17; (with_reducible refine (hsm _ b0).mono ?_); rintro e w' ⟨rfl, hb⟩; replace S4 := S4.below hb; replace S5 := S5.below hb; replace b0 := below_any b0 hb b0.size; have f5 := S4.c5; have g5 := S5.c5; have f00 := S4.c0; have g00 := S5.c0; clear hb)
              | (go_at_call 51; (with_reducible refine (truthT _ _).mono ?_); rintro e w' ⟨rfl, rfl⟩))
            go_ret
            exact ⟨rfl, b0⟩
  · have el : (lang == 1) = false := by simpa using hlang
    cases e5 : (k == 5 && k2 == 5) with
    | true =>
      have h55 : k = 5 ∧ k2 = 5 := by simpa using e5
      have hv : equalP lang (.mk k b n t x q) (.mk k2 b2 n2 t2 x2 q2) = (if q.length = q2.length then eachEqual lang q q2 else 0) := by unfold equalP; rw [if_neg (by omega), if_neg hnn, if_neg (fun h => hlang h.1), if_pos h55]
      rw [hv]
      rw [e5] at hbo
      generalize (if q.length = q2.length then eachEqual lang q q2 else 0) = r at hls ⊢
      clear hv hnn n0 n1 h55 e5 hg1 hg2 ho1 ho2 hsm hlang
      go_enter Tryz.func44, Tryz.ntmps44
      go_wp2_with fail
      rw [← H0.out]
      go_wp2_with (first
        | ((with_reducible refine wpList_load6g (.tmp 4) w.heap.size S4 ?_ ?_ ?_ ?_); rfl; rfl; rfl)
        | ((with_reducible refine wpList_load6g (.tmp 5) (w.heap.size + 1) S5 ?_ ?_ ?_ ?_); rfl; rfl; rfl)
        | (go_at_call 50; (with_reducible refine (hn1 _).mono ?_); rintro e w' ⟨rfl, hb⟩; replace S4 := S4.below hb; replace S5 := S5.below hb; replace b0 := below_any b0 hb b0.size; have f5 := S4.c5; have g5 := S5.c5; have f00 := S4.c0; have g00 := S5.c0; clear hb)
        | (go_at_call 53; (with_reducible refine (hbo _).mono ?_); rintro e w' ⟨rfl, hb⟩; replace S4 := S4.below hb; replace S5 := S5.below hb; replace b0 := below_any b0 hb b0.size; have f5 := S4.c5; have g5 := S5.c5; have f00 := S4.c0; have g00 := S5.c0; clear hb)
        | (go_at_call 86; (with_reducible refine (hls _ b0).mono ?_); rintro e w' ⟨rfl, hb⟩; replace S4 := S4.below hb; replace S5 := S5.below hb; replace b0 := below_any b0 hb b0.size; have f5 := S4.c5; have g5 := S5.c5; have f00 := S4.c0; have g00 := S5.c0; clear hb))
      go_ret
      exact ⟨rfl, b0⟩
    | false =>
      have hv : equalP lang (.mk k b n t x q) (.mk k2 b2 n2 t2 x2 q2) = tI (sameP (.mk k b n t x q) (.mk k2 b2 n2 t2 x2 q2)) := by unfold equalP; rw [if_neg (by omega), if_neg hnn, if_neg (fun h => hlang h.1), if_neg (by rintro ⟨u, v⟩; rw [u, v] at e5; cases e5)]
      rw [hv]
      rw [e5] at hbo
      generalize sameP (.mk k b n t x q) (.mk k2 b2 n2 t2 x2 q2) = r at hsm ⊢
      clear hv hnn n0 n1 e5 hg1 hg2 ho1 ho2 hls hlang
      go_enter Tryz.func44, Tryz.ntmps44
      go_wp2_with fail
      rw [← H0.out]
      go_wp2_with (first
        | ((with_reducible refine wpList_load6g (.tmp 4) w.heap.size S4 ?_ ?_ ?_ ?_); rfl; rfl; rfl)
        | ((with_reducible refine wpList_load6g (.tmp 5) (w.heap.size + 1) S5 ?_ ?_ ?_ ?_); rfl; rfl; rfl)
        | (go_at_call 50; (with_reducible refine (hn1 _).mono ?_); rintro e w' ⟨rfl, hb⟩; replace S4 := S4.below hb; replace S5 := S5.below hb; replace b0 := below_any b0 hb b0.size; have f5 := S4.c5; have g5 := S5.c5; have f00 := S4.c0; have g00 := S5.c0; clear hb)
        | (go_at_call 53; (with_reducible refine (hbo _).mono ?_); rintro e w' ⟨rfl, hb⟩; replace S4 := S4.below hb; replace S5 := S5.below hb; replace b0 := below_any b0 hb b0.size; have f5 := S4.c5; have g5 := S5.c5; have f00 := S4.c0; have g00 := S5.c0; clear hb)
        | (go_at_call 17; (with_reducible refine (hsm _ b0).mono ?_); rintro e w' ⟨rfl, hb⟩; replace S4 := S4.below hb; replace S5 := S5.below hb; replace b0 := below_any b0 hb b0.size; have f5 := S4.c5; have g5 := S5.c5; have f00 := S4.c0; have g00 := S5.c0; clear hb)
        | (go_at_call 51; (with_reducible refine (truthT _ _).mono ?_); rintro e w' ⟨rfl, rfl⟩))
      go_ret
      exact ⟨rfl, b0⟩
end Go.Proofs.YtoifjjgakblhhaaGreatDoor
