/- Texts of one kind, one behind the other: each says ahead of itself what it shows. -/
import Derived.Test.YtoifjjgakblhhaaGreatDoorHas
import Derived.Test.YtoifjjgakblhhaaGreatDoorHaq
import Derived.Deep.LoopGhost
import Derived.Deep.Cut
import Derived.Deep.CutRange
import Derived.Deep.CutBlock
import Derived.Deep.DeepCutAuto
import Derived.Test.YtoifjjgakblhhaaGreatDoorHar
import Derived.Test.YtoifjjgakblhhaaGreatDoorHap
import Derived.Laws.Cover1
import Derived.Test.YtoifjjgakblhhaaGreatDoorHak
/- Whether lists are not too deep in one another: it answers; so does light. -/
namespace Go.Proofs.YtoifjjgakblhhaaGreatDoor
open Go.RowKit

/-- What deep answers of the list of a value that lies somewhere: one of the two. -/
def DeepAt (v : Val) : Prop := ∀ (W : World) (d : Int) (k : Int) (b : Bool) (n : Int) (t x : ByteArray) (q : List Val) (p : Option Addr) (cap : Nat), v = .mk k b n t x q → q.length ≤ 2097152 → Held W (.slice p q.length cap) q →
  Calls Tryz.prog 36 #[.slice p q.length cap, .int .i64 d] W fun e w' => ∃ r, e = .returned (.bool r) ∧ Below W.heap.size W w'

set_option maxRecDepth 20000 in
set_option maxHeartbeats 1600000 in
theorem deepSome (l : List Val) (g off cap : Nat) (d : Int) (w : World) (hl : Holds w g off l) (hn : l.length ≤ 2097152) (each : ∀ u ∈ l, DeepAt u) :
    Calls Tryz.prog 36 #[.slice (some ⟨g, off, none⟩) l.length cap, .int .i64 d] w fun e w' => ∃ r, e = .returned (.bool r) ∧ Below w.heap.size w w' := by
  obtain ⟨n, hln⟩ : ∃ n, n = l.length := ⟨_, rfl⟩
  rw [← hln] at hn ⊢
  have HL := Lib.hid hln
  have HH := Lib.hid hl
  have HE := Lib.hid each
  clear hl hln each
  go_enter Tryz.func36, Tryz.ntmps36
  go_wp2_with fail
  go_loopg [5] n (fun gg s5 wr => ∃ j : Nat, j + gg = n ∧ s5 = .int .i64 j ∧ Below w.heap.size w wr)
  case atStart => exact ⟨0, by omega, rfl, Below.refl _ _⟩
  case round =>
    obtain ⟨j, hjg, rfl, hb⟩ := hrel
    by_cases hlt : (j : Int) < n
    · have hj1 : j < l.length := by have := HL.out; omega
      obtain ⟨k, b, i, t, x, q, p, cp, o⟩ := (Holds.at_ l off HH.out j hj1).opens
      have o1 := o.below hb
      have c5 := o1.c5
      have hc := fun D => HE.out l[j] (List.getElem_mem hj1) wr D k b i t x q p cp o.e o.hf.hn o1.hl
      have z := hb.size
      clear o o1
      by_cases hd : 100 < d
      · go_wp2_with fail
        go_ret
        first | exact hb | exact ⟨_, rfl, hb⟩ | exact ⟨rfl, hb⟩ | exact ⟨.inl rfl, hb⟩ | exact ⟨.inr rfl, hb⟩
      · go_wp2_with (go_at_call 36; (with_reducible refine (hc _).mono ?_); rintro e w1 ⟨r, rfl, hb1⟩; replace hb := below_any hb hb1 z; clear hb1)
        · go_ret
          first | exact hb | exact ⟨_, rfl, hb⟩ | exact ⟨rfl, hb⟩ | exact ⟨.inl rfl, hb⟩ | exact ⟨.inr rfl, hb⟩
        · go_roundg (gk - 1)
          case measure => omega
          case rel => exact ⟨j + 1, by omega, by go_num, hb⟩
    · go_wp2_with fail
      go_ret
      first | exact hb | exact ⟨_, rfl, hb⟩ | exact ⟨rfl, hb⟩ | exact ⟨.inl rfl, hb⟩ | exact ⟨.inr rfl, hb⟩
theorem deep_list (q : List Val) (p : Option Addr) (cap : Nat) (d : Int) (w : World) (hl : Held w (.slice p q.length cap) q) (hn : q.length ≤ 2097152) (each : ∀ u ∈ q, DeepAt u) :
    Calls Tryz.prog 36 #[.slice p q.length cap, .int .i64 d] w fun e w' => ∃ r, e = .returned (.bool r) ∧ Below w.heap.size w w' := by
  cases q with
  | nil =>
    go_enter Tryz.func36, Tryz.ntmps36
    go_wp2_with fail
    go_loopg [5] 0 (fun gg s5 wr => gg = 0 ∧ s5 = .int .i64 0 ∧ wr = w)
    case atStart => exact ⟨rfl, rfl, rfl⟩
    case round =>
      obtain ⟨_, rfl, rfl⟩ := hrel
      go_wp2_with fail
      go_ret
      first | exact Below.refl _ _ | exact ⟨_, rfl, Below.refl _ _⟩ | exact ⟨.inr rfl, Below.refl _ _⟩
  | cons v r =>
    obtain ⟨g, off, rfl, hh⟩ := hl.form
    exact deepSome (v :: r) g off cap d w hh hn each
mutual
theorem deepVal : (v : Val) → DeepAt v
  | .mk k b n t x q => fun W d k1 b1 n1 t1 x1 q1 p cap e hn hl => by
    cases e
    exact deep_list q p cap d W hl hn (deepEach q)
theorem deepEach : (q : List Val) → ∀ u ∈ q, DeepAt u
  | [], _, h => absurd h (by simp)
  | v :: r, u, h => by
    rcases List.mem_cons.1 h with h | h
    · rw [h]; exact deepVal v
    · exact deepEach r u h
end
set_option maxHeartbeats 1600000 in
theorem lightC (q : List Val) (p : Option Addr) (cap : Nat) (w : World) (hl : Held w (.slice p q.length cap) q) (hn : q.length ≤ 2097152) :
    Calls Tryz.prog 10 #[.slice p q.length cap] w fun e w' => ∃ r, e = .returned (.bool r) ∧ Below w.heap.size w w' := by
  have h1 := (size_list q p cap w hl hn (sizeEach q))
  have h2 := fun W (h : Below w.heap.size w W) => deep_list q p cap 0 W (Held.below q hl h) hn (deepEach q)
  generalize sizeAll q 0 = z at h1
  clear hl hn
  by_cases hz : z ≤ 9000
  · go_enter Tryz.func10, Tryz.ntmps10
    go_wp2_with (first
      | (go_at_call 35; (with_reducible refine h1.mono ?_); rintro e w1 ⟨rfl, m, rfl⟩; have b0 : Below w.heap.size w (w.drewN m) := below_drewN (Below.refl _ _) m)
      | (go_at_call 36; (with_reducible refine (h2 _ b0).mono ?_); rintro e w2 ⟨r, rfl, hb2⟩; replace b0 := below_any b0 hb2 b0.size))
    go_ret
    first | exact b0 | exact ⟨_, rfl, b0⟩ | exact ⟨rfl, b0⟩ | exact ⟨.inl rfl, b0⟩ | exact ⟨.inr rfl, b0⟩
  · go_enter Tryz.func10, Tryz.ntmps10
    go_wp2_with (go_at_call 35; (with_reducible refine h1.mono ?_); rintro e w1 ⟨rfl, m, rfl⟩; have b0 : Below w.heap.size w (w.drewN m) := below_drewN (Below.refl _ _) m)
    go_ret
    first | exact b0 | exact ⟨_, rfl, b0⟩ | exact ⟨rfl, b0⟩ | exact ⟨.inl rfl, b0⟩ | exact ⟨.inr rfl, b0⟩
end Go.Proofs.YtoifjjgakblhhaaGreatDoor

/- How the text 1.0 is encoded, and the decimal 1.0: eight bytes. -/
namespace Go.Proofs.YtoifjjgakblhhaaGreatDoor
open Go.RowKit

/-- The text 1.0. -/
def oneT : ByteArray := ⟨#[49, 46, 48]⟩
theorem Own.say {base n m : Nat} {v v' : Value} {w0 w w1 : World} {xs : List Value} (h : Own base n v w0 w) (hown : w1.ownsRow base 5 1 v' m xs) (hg : w.grownBy w1 v.ownBlock) : Own base m v' w0 w1 := by
  obtain ⟨⟨ys, hr⟩, hlo, hbel⟩ := h
  exact ⟨⟨xs, hown⟩, Nat.le_trans hlo hg.size, hbel.grown hg hlo (fun k hk => (hr.lt k hk).1)⟩

set_option maxRecDepth 20000 in
set_option maxHeartbeats 3200000 in
theorem encodeText1 (base n : Nat) (v : Value) (w0 w : World) (h : Own base n v w0 w) (hn : n ≤ 100) :
    Calls Tryz.prog 108 #[v, .string oneT] w fun e w' => ∃ v', e = .returned v' ∧ Own base (n + 7) v' w0 w' := by
  obtain ⟨i0, hi, hz0, hz1, hz2⟩ := info_parts info5b
  unfold oneT
  go_enter Tryz.func108, Tryz.ntmps108
  go_wp2_with (first
    | (go_at_call 107; (with_reducible refine (encodeInt3 base n v w0 w h (by omega)).mono ?_); rintro e w1 ⟨v1, rfl, O⟩; have O2 := O; obtain ⟨⟨xs, hown⟩, hlo, hbel⟩ := O2)
    | (at_builtin; refine Lib.wpList_append_own_string _ rfl _ _ 40 9 rfl base 5 i0 Tryz.underlying40 Tryz.underlying9 hi hz0 hz1 hz2 _ _ _ rfl hown _ rfl ?_ ?_ hlo ?_))
  all_goals (try (first | rfl | (show n + 4 + 3 ≤ maxLen; unfold maxLen; omega) | (show n + 4 + 3 ≤ 140737488355328; omega)))
  intro v' w2 hown' hgrow _
  have O2 := O.say hown' hgrow
  clear O hgrow
  go_wp2_with fail
  go_ret
  exact ⟨_, rfl, O2⟩
end Go.Proofs.YtoifjjgakblhhaaGreatDoor

/- The encoding of the decimal 1.0: eight bytes. -/
namespace Go.Proofs.YtoifjjgakblhhaaGreatDoor
open Go.RowKit

theorem Own.alloc {base n : Nat} {v : Value} {w0 w : World} (h : Own base n v w0 w) (o : Obj) : Own base n v w0 (w.alloc o) := by
  obtain ⟨⟨xs, hr⟩, hlo, hbel⟩ := h
  exact ⟨⟨xs, hr.alloc o⟩, by simp; omega, hbel.alloc hlo o⟩
theorem Own.after {base n : Nat} {v : Value} {w0 w w1 : World} (h : Own base n v w0 w) (hb : Below w.heap.size w w1) : Own base n v w0 w1 := by
  obtain ⟨⟨xs, hr⟩, hlo, hbel⟩ := h
  refine ⟨⟨xs, hr.1, ?_⟩, Nat.le_trans hlo hb.size, below_any hbel hb hlo⟩
  rcases hr.2 with h0 | ⟨g, cap, cur, e, h1, h2, h3⟩
  · exact .inl h0
  · exact .inr ⟨g, cap, cur, e, h1, (hb.block g (lt_of_heap h2)).trans h2, h3⟩
theorem Own.slice {base n : Nat} {v : Value} {w0 w : World} (h : Own base n v w0 w) (hn : n ≠ 0) : ∃ p cap, v = .slice p n cap := by
  obtain ⟨⟨xs, hr⟩, _, _⟩ := h
  rcases hr.2 with ⟨_, h0⟩ | ⟨g, cap, cur, e, _⟩
  · exact absurd h0 hn
  · exact ⟨_, cap, e⟩
theorem Own.start (w : World) : Own w.heap.size 0 (.slice none 0 0) w w := ⟨⟨[], World.ownsRow_nil _ _ _ _⟩, Nat.le_refl _, Below.refl _ _⟩

set_option maxRecDepth 20000 in
set_option maxHeartbeats 3200000 in
theorem encodeOne (w : World) :
    Calls Tryz.prog 68 #[.slice none 0 0, .agg #[.int .i64 3, .bool false, .int .i64 0, .string oneT, .string ⟨#[]⟩, .slice none 0 0]] w fun e w' => ∃ p cap, e = .returned (.slice p 8 cap) ∧ Below w.heap.size w w' := by
  obtain ⟨i0, hi, hz0, hz1, hz2⟩ := info_parts info5b
  obtain ⟨W0, hW0⟩ : ∃ W0, W0 = w.alloc (.cells #[.int .i64 3, .bool false, .int .i64 0, .string oneT, .string ⟨#[]⟩, .slice none 0 0] 28) := ⟨_, rfl⟩
  have S : Six W0 w.heap.size 3 false 0 oneT ⟨#[]⟩ none 0 0 := by rw [hW0]; exact six_new _ rfl
  have b0 : Below w.heap.size w W0 := by rw [hW0]; exact below1 _ _
  have O := Own.start W0
  have f0 := S.c0
  have HS : Hid (W0.heap.size = w.heap.size + 1) := Lib.hid (by rw [hW0]; simp)
  have H0 := Lib.hid hW0
  have hown := World.ownsRow_nil W0 W0.heap.size 5 1
  clear hW0
  go_enter Tryz.func68, Tryz.ntmps68
  go_wp2_with (at_builtin; rw [← H0.out]; refine wpList_append_own _ rfl _ _ 40 rfl W0.heap.size 5 i0 (.int .u8 0) 1 1 Tryz.underlying40 hi hz0 hz1 hz2 rfl (by decide) _ _ _ rfl (hown.alloc _) ⟨w.heap.size + 1, 0, none⟩ 1 1 [.int .u8 3] rfl rfl ?_ ?_ ?_ ?_ ?_ ?_)
  all_goals (try (first | rfl | (unfold maxLen; omega) | omega | (simp; omega) | (intro u hu; simp at hu; subst hu; rfl) | (rw [← HS.out]; exact cell_one_new _ _ _) | (simp; done)))
  intro v1 w1 hown1 hgrow _
  replace O := (O.alloc (.cells #[.int .u8 3] 5)).say hown1 hgrow
  clear hgrow hown1 hown
  have S1 := S.below O.bel
  go_wp2_with (first
    | ((with_reducible refine wpList_load6 (.tmp 3) w.heap.size S1 ?_ ?_ ?_ ?_); rfl; rfl; rfl)
    | (go_at_call 72; (with_reducible refine (kindOfAt 3 _ _ _ _ _ 85 rfl _).mono ?_); rintro e w2 ⟨rfl, hb2⟩; replace O := O.after hb2; have S2 := S.below O.bel; have f3 := S2.c3; clear hb2)
    | (simp only [ta85_80, ta85_81, ta85_82, ta85_83, ta85_84, ta85_85, ta85_87, ta85_88, ta85_89, ta85_90, ta85_91, Result.andThen_ok])
    | (go_at_call 108; (with_reducible refine (encodeText1 W0.heap.size _ _ W0 _ O (by omega)).mono ?_); rintro e w3 ⟨v3, rfl, O3⟩))
  go_ret
  obtain ⟨p, cap, rfl⟩ := O3.slice (by omega)
  exact ⟨p, cap, rfl, below_any b0 O3.bel b0.size⟩
end Go.Proofs.YtoifjjgakblhhaaGreatDoor

/- The text of the decimal 1.0. -/
namespace Go.Proofs.YtoifjjgakblhhaaGreatDoor
open Go.RowKit

set_option maxRecDepth 20000 in
set_option maxHeartbeats 3200000 in
theorem showOne (w : World) :
    Calls Tryz.prog 40 #[.slice none 0 0, .agg #[.int .i64 3, .bool false, .int .i64 0, .string oneT, .string ⟨#[]⟩, .slice none 0 0]] w fun e w' => ∃ g cap, e = .returned (.slice (some ⟨g, 0, none⟩) 3 cap) ∧ (∀ j, j < 3 → w'.cell? ⟨g, j, none⟩ = (Lib.strCells oneT)[j]?) ∧ Below w.heap.size w w' := by
  obtain ⟨i0, hi, hz0, hz1, hz2⟩ := info_parts info5b
  obtain ⟨W0, hW0⟩ : ∃ W0, W0 = w.alloc (.cells #[.int .i64 3, .bool false, .int .i64 0, .string oneT, .string ⟨#[]⟩, .slice none 0 0] 28) := ⟨_, rfl⟩
  have S : Six W0 w.heap.size 3 false 0 oneT ⟨#[]⟩ none 0 0 := by rw [hW0]; exact six_new _ rfl
  have b0 : Below w.heap.size w W0 := by rw [hW0]; exact below1 _ _
  have H0 := Lib.hid hW0
  clear hW0
  go_enter Tryz.func40, Tryz.ntmps40
  go_wp2_with (first
    | (rw [← H0.out]; (with_reducible refine wpList_load6 (.tmp 3) w.heap.size S ?_ ?_ ?_ ?_); rfl; rfl; rfl)
    | (go_at_call 72; (with_reducible refine (kindOfAt 3 _ _ _ _ _ 85 rfl _).mono ?_); rintro e w2 ⟨rfl, hb2⟩; have b2 := below_any b0 hb2 b0.size; have S2 := S.below hb2; have f3 := S2.c3; have hown := World.ownsRow_nil w2 w2.heap.size 5 1; clear hb2)
    | (simp only [ta85_80, ta85_81, ta85_82, ta85_83, ta85_84, ta85_85, ta85_87, ta85_88, ta85_89, ta85_90, ta85_91, Result.andThen_ok])
    | (at_builtin; refine Lib.wpList_append_own_string _ rfl _ _ 40 9 rfl w2.heap.size 5 i0 Tryz.underlying40 Tryz.underlying9 hi hz0 hz1 hz2 (.slice none 0 0) 0 [] rfl hown oneT rfl ?_ ?_ (Nat.le_refl _) ?_))
  all_goals (try (first | rfl | (show 0 + 3 ≤ maxLen; unfold maxLen; omega) | (show 0 + 3 ≤ 140737488355328; omega)))
  intro v' w3 hown' hgrow _
  have b3 : Below w.heap.size w w3 := b2.grown hgrow b2.size (fun k hk => by simp [Value.ownBlock] at hk)
  clear hgrow hown
  have hown2 : w3.ownsRow w2.heap.size 5 1 v' 3 (Lib.strCells oneT) := hown'
  rcases hown2.2 with ⟨_, h0⟩ | ⟨g, cap, cur, rfl, _⟩
  · exact absurd h0 (by omega)
  · have hc := fun j hj => hown2.cellAt j hj
    clear hown' hown2
    go_wp2_with fail
    go_ret
    exact ⟨g, cap, rfl, fun j hj => hc j (by omega), b3⟩

theorem one_may : mayP (.mk 3 false 0 oneT ⟨#[]⟩ []) 0 = true := by
  unfold mayP fitsP
  decide +kernel
theorem whole_may : mayP (.mk 2 false 1 ⟨#[]⟩ ⟨#[]⟩ []) 0 = true := by
  unfold mayP fitsP
  decide +kernel
theorem one_equal : equalTop 0 (.mk 2 false 1 ⟨#[]⟩ ⟨#[]⟩ []) (.mk 3 false 0 oneT ⟨#[]⟩ []) = 1 := by
  unfold equalTop
  rw [one_may, whole_may]
  unfold equalP
  decide +kernel
theorem one_same : sameP (.mk 2 false 1 ⟨#[]⟩ ⟨#[]⟩ []) (.mk 3 false 0 oneT ⟨#[]⟩ []) = false := by
  unfold sameP
  simp

set_option maxRecDepth 20000 in
set_option maxHeartbeats 3200000 in
theorem textOne (w : World) (hG : Gd w) :
    Calls Tryz.prog 15 #[.agg #[.int .i64 3, .bool false, .int .i64 0, .string oneT, .string ⟨#[]⟩, .slice none 0 0]] w fun e w' => e = .returned (.string oneT) ∧ Below w.heap.size w w' := by
  obtain ⟨W0, hW0⟩ : ∃ W0, W0 = w.alloc (.cells #[.int .i64 3, .bool false, .int .i64 0, .string oneT, .string ⟨#[]⟩, .slice none 0 0] 28) := ⟨_, rfl⟩
  have S : Six W0 w.heap.size 3 false 0 oneT ⟨#[]⟩ none 0 0 := by rw [hW0]; exact six_new _ rfl
  have b0 : Below w.heap.size w W0 := by rw [hW0]; exact below1 _ _
  have hc := fun W (h : Below w.heap.size w W) => checkAtV (.mk 3 false 0 oneT ⟨#[]⟩ []) 3 false 0 oneT ⟨#[]⟩ [] (.slice none 0 0) W rfl (hG.below h) (by decide) (by decide) (by unfold Held; exact ⟨none, 0, rfl⟩)
  rw [one_may] at hc
  have H0 := Lib.hid hW0
  clear hW0
  go_enter Tryz.func15, Tryz.ntmps15
  go_wp2_with (first
    | ((try rw [← H0.out]); (with_reducible refine wpList_load6 (.tmp 1) w.heap.size S ?_ ?_ ?_ ?_); rfl; rfl; rfl)
    | (go_at_call 13; (with_reducible refine (hc _ b0).mono ?_); rintro e w' ⟨rfl, hb⟩; replace S := S.below hb; replace b0 := below_any b0 hb b0.size; clear hb)
    | (go_at_call 40; (with_reducible refine (showOne _).mono ?_); rintro e w3 ⟨g, cap, rfl, hcs, hb3⟩; have b3 := below_any b0 hb3 b0.size; have hconv := run_convert_bytes_back (P := Tryz.prog) w3 40 9 5 ⟨g, 0, none⟩ cap [49, 46, 48] Tryz.underlying40 Tryz.underlying5 Tryz.underlying9 (fun j hj => by rw [Addr.add_mid, Nat.zero_add, hcs j hj]; match j, hj with | 0, _ => rfl | 1, _ => rfl | 2, _ => rfl); clear hb3 hcs; have hconv : (convert 40 9 (.slice (some ⟨g, 0, none⟩) 3 cap)).run Tryz.prog w3 = .ok (.string oneT) w3 := hconv))
  go_ret
  exact ⟨rfl, b3⟩
end Go.Proofs.YtoifjjgakblhhaaGreatDoor

/- What each law of package value ends in: it holds. -/
namespace Go.Proofs.YtoifjjgakblhhaaGreatDoor
open Go.RowKit

set_option maxRecDepth 20000 in
set_option maxHeartbeats 3200000 in
theorem encodeC1 (w : World) (hG : Gd w) :
    Calls Tryz.prog 28 #[.agg #[.int .i64 3, .bool false, .int .i64 0, .string oneT, .string ⟨#[]⟩, .slice none 0 0]] w fun e w' => ∃ p cap, e = .returned (.tuple #[.slice p 8 cap, .int .i64 0]) ∧ Below w.heap.size w w' := by
  obtain ⟨W0, hW0⟩ : ∃ W0, W0 = w.alloc (.cells #[.int .i64 3, .bool false, .int .i64 0, .string oneT, .string ⟨#[]⟩, .slice none 0 0] 28) := ⟨_, rfl⟩
  have S : Six W0 w.heap.size 3 false 0 oneT ⟨#[]⟩ none 0 0 := by rw [hW0]; exact six_new _ rfl
  have b0 : Below w.heap.size w W0 := by rw [hW0]; exact below1 _ _
  have hc := fun W (h : Below w.heap.size w W) => checkAtV (.mk 3 false 0 oneT ⟨#[]⟩ []) 3 false 0 oneT ⟨#[]⟩ [] (.slice none 0 0) W rfl (hG.below h) (by decide) (by decide) (by unfold Held; exact ⟨none, 0, rfl⟩)
  rw [one_may] at hc
  have H0 := Lib.hid hW0
  clear hW0
  go_enter Tryz.func28, Tryz.ntmps28
  go_wp2_with (first
    | ((try rw [← H0.out]); (with_reducible refine wpList_load6 (.tmp 1) w.heap.size S ?_ ?_ ?_ ?_); rfl; rfl; rfl)
    | (go_at_call 13; (with_reducible refine (hc _ b0).mono ?_); rintro e w' ⟨rfl, hb⟩; replace S := S.below hb; replace b0 := below_any b0 hb b0.size; clear hb)
    | (go_at_call 68; (with_reducible refine (encodeOne _).mono ?_); rintro e w3 ⟨p, cap, rfl, hb3⟩; have b3 := below_any b0 hb3 b0.size; clear hb3))
  go_ret2
  exact ⟨_, _, rfl, b3⟩

set_option maxRecDepth 20000 in
set_option maxHeartbeats 3200000 in
theorem wakesAt (w : World) (hG : Gd w) (hT : Tab w) :
    Calls Tryz.prog 11 #[] w fun e w' => e = .returned (.bool true) ∧ Below w.heap.size w w' := by
  obtain ⟨W0, hW0⟩ : ∃ W0, W0 = (w.alloc (.cells #[.int .i64 2, .bool false, .int .i64 1, .string ⟨#[]⟩, .string ⟨#[]⟩, .slice none 0 0] 28)).alloc (.cells #[.int .i64 3, .bool false, .int .i64 0, .string oneT, .string ⟨#[]⟩, .slice none 0 0] 28) := ⟨_, rfl⟩
  have S4 : Six W0 w.heap.size 2 false 1 ⟨#[]⟩ ⟨#[]⟩ none 0 0 := by rw [hW0]; exact (six_new _ rfl).alloc _
  have S5 : Six W0 (w.heap.size + 1) 3 false 0 oneT ⟨#[]⟩ none 0 0 := by rw [hW0]; exact six_new _ (by simp)
  have b0 : Below w.heap.size w W0 := by rw [hW0]; exact below2 _ _ _
  have hd : ∀ W : World, Held W (.slice none 0 0) [] := fun W => by unfold Held; exact ⟨none, 0, rfl⟩
  have f1 : Fine 1 ⟨#[]⟩ ⟨#[]⟩ (List.length (α := Val) []) := ⟨by decide, by decide, by decide, by decide, by decide⟩
  have f2 : Fine 0 oneT ⟨#[]⟩ (List.length (α := Val) []) := ⟨by decide, by decide, by decide, by decide, by decide⟩
  have hc1 := fun W (h : Below w.heap.size w W) => checkAtV (.mk 2 false 1 ⟨#[]⟩ ⟨#[]⟩ []) 2 false 1 ⟨#[]⟩ ⟨#[]⟩ [] (.slice none 0 0) W rfl (hG.below h) (by decide) (by decide) (hd W)
  have hc2 := fun W (h : Below w.heap.size w W) => checkAtV (.mk 3 false 0 oneT ⟨#[]⟩ []) 3 false 0 oneT ⟨#[]⟩ [] (.slice none 0 0) W rfl (hG.below h) (by decide) (by decide) (hd W)
  have he : ∀ W, Below w.heap.size w W → Calls Tryz.prog 19 #[.int .i64 0, .agg #[.int .i64 2, .bool false, .int .i64 1, .string ⟨#[]⟩, .string ⟨#[]⟩, .slice none 0 0], .agg #[.int .i64 3, .bool false, .int .i64 0, .string oneT, .string ⟨#[]⟩, .slice none 0 0]] W fun e w' => e = .returned (.int .i64 (equalTop 0 (.mk 2 false 1 ⟨#[]⟩ ⟨#[]⟩ []) (.mk 3 false 0 oneT ⟨#[]⟩ []))) ∧ Below W.heap.size W w' := fun W h => EqualC 0 2 false 1 ⟨#[]⟩ ⟨#[]⟩ [] none 0 3 false 0 oneT ⟨#[]⟩ [] none 0 W (hG.below h) (hT.below h) f1 f2 (hd W) (hd W)
  have hs : ∀ W, Calls Tryz.prog 17 #[.agg #[.int .i64 2, .bool false, .int .i64 1, .string ⟨#[]⟩, .string ⟨#[]⟩, .slice none 0 0], .agg #[.int .i64 3, .bool false, .int .i64 0, .string oneT, .string ⟨#[]⟩, .slice none 0 0]] W fun e w' => e = .returned (.bool (sameP (.mk 2 false 1 ⟨#[]⟩ ⟨#[]⟩ []) (.mk 3 false 0 oneT ⟨#[]⟩ []))) ∧ Below W.heap.size W w' := fun W => sameAtV 2 false 1 ⟨#[]⟩ ⟨#[]⟩ [] none 0 3 false 0 oneT ⟨#[]⟩ [] none 0 W f1 (hd W) (hd W)
  have hx := fun W (h : Below w.heap.size w W) => encodeC1 W (hG.below h)
  have ht := fun W (h : Below w.heap.size w W) => textOne W (hG.below h)
  rw [whole_may] at hc1
  rw [one_may] at hc2
  rw [one_equal] at he
  rw [one_same] at hs
  have H0 := Lib.hid hW0
  clear hW0 hd f1 f2 hG hT
  have ho : (⟨#[49, 46, 48]⟩ : ByteArray) = oneT := rfl
  go_enter Tryz.func11, Tryz.ntmps11
  rw [ho]
  go_wp2_with (first
    | ((try rw [← H0.out]); (with_reducible refine wpList_load6g (.tmp 1) w.heap.size S4 ?_ ?_ ?_ ?_); rfl; rfl; rfl)
    | ((try rw [← H0.out]); (with_reducible refine wpList_load6g (.tmp 2) (w.heap.size + 1) S5 ?_ ?_ ?_ ?_); rfl; rfl; rfl)
    | (go_at_call 28; (with_reducible refine (hx _ b0).mono ?_); rintro e w' ⟨p, cap, rfl, hb⟩; replace S4 := S4.below hb; replace S5 := S5.below hb; replace b0 := below_any b0 hb b0.size; clear hb)
    | (go_at_call 13; (with_reducible refine (hc1 _ b0).mono ?_); rintro e w' ⟨rfl, hb⟩; replace S4 := S4.below hb; replace S5 := S5.below hb; replace b0 := below_any b0 hb b0.size; clear hb)
    | (go_at_call 13; (with_reducible refine (hc2 _ b0).mono ?_); rintro e w' ⟨rfl, hb⟩; replace S4 := S4.below hb; replace S5 := S5.below hb; replace b0 := below_any b0 hb b0.size; clear hb)
    | (go_at_call 19; (with_reducible refine (he _ b0).mono ?_); rintro e w' ⟨rfl, hb⟩; replace S4 := S4.below hb; replace S5 := S5.below hb; replace b0 := below_any b0 hb b0.size; clear hb)
    | (go_at_call 17; (with_reducible refine (hs _).mono ?_); rintro e w' ⟨rfl, hb⟩; replace S4 := S4.below hb; replace S5 := S5.below hb; replace b0 := below_any b0 hb b0.size; clear hb)
    | (go_at_call 15; (with_reducible refine (ht _ b0).mono ?_); rintro e w' ⟨rfl, hb⟩; replace S4 := S4.below hb; replace S5 := S5.below hb; replace b0 := below_any b0 hb b0.size; clear hb))
  go_ret
  exact ⟨rfl, b0⟩
end Go.Proofs.YtoifjjgakblhhaaGreatDoor

/- What a law's round keeps: its argument's box; the value that has nothing in it. -/
namespace Go.Proofs.YtoifjjgakblhhaaGreatDoor
open Go.RowKit

/-- What the law's round keeps: its argument's box; what lay below. -/
structure LInv (w : World) (L ln : Value) (W : World) : Prop where
  cell : W.cell? ⟨w.heap.size, 0, none⟩ = some L
  cell1 : W.cell? ⟨w.heap.size, 1, none⟩ = some ln
  lt : w.heap.size < W.heap.size
  bel : Below w.heap.size w W
theorem LInv.step {w W W2 : World} {L ln : Value} (h : LInv w L ln W) (k : Below W.heap.size W W2) : LInv w L ln W2 :=
  ⟨(k.cell (p := ⟨w.heap.size, 0, none⟩) h.lt).trans h.cell, (k.cell (p := ⟨w.heap.size, 1, none⟩) h.lt).trans h.cell1, Nat.lt_of_lt_of_le h.lt k.size, below_any h.bel k (Nat.le_of_lt h.lt)⟩
theorem LInv.start (w : World) (L ln : Value) : LInv w L ln (w.alloc (.cells #[L, ln] 24)) :=
  ⟨cell_of (heap_new _ _ rfl) _ rfl, cell_of (heap_new _ _ rfl) _ rfl, by simp, below1 _ _⟩
end Go.Proofs.YtoifjjgakblhhaaGreatDoor

/- How two values that go by their texts stand: kind 0. -/
namespace Go.Proofs.YtoifjjgakblhhaaGreatDoor
open Go.RowKit

end Go.Proofs.YtoifjjgakblhhaaGreatDoor

/- How two values that go by their texts stand: kind 4. -/
namespace Go.Proofs.YtoifjjgakblhhaaGreatDoor
open Go.RowKit

end Go.Proofs.YtoifjjgakblhhaaGreatDoor

/- How two values that go by their texts stand: kind 8. -/
namespace Go.Proofs.YtoifjjgakblhhaaGreatDoor
open Go.RowKit

end Go.Proofs.YtoifjjgakblhhaaGreatDoor

/- How two values that go by their texts stand: kind 9. -/
namespace Go.Proofs.YtoifjjgakblhhaaGreatDoor
open Go.RowKit

end Go.Proofs.YtoifjjgakblhhaaGreatDoor

/- How two values that go by their texts stand: kind 10. -/
namespace Go.Proofs.YtoifjjgakblhhaaGreatDoor
open Go.RowKit

end Go.Proofs.YtoifjjgakblhhaaGreatDoor

/- How two values that go by their texts stand: kind of a stranger. -/
namespace Go.Proofs.YtoifjjgakblhhaaGreatDoor
open Go.RowKit

end Go.Proofs.YtoifjjgakblhhaaGreatDoor

/- How two values of one rank stand; how any two values stand: Order. -/
namespace Go.Proofs.YtoifjjgakblhhaaGreatDoor
open Go.RowKit

end Go.Proofs.YtoifjjgakblhhaaGreatDoor

/- The document's own Order. -/
namespace Go.Proofs.YtoifjjgakblhhaaGreatDoor
open Go.RowKit

end Go.Proofs.YtoifjjgakblhhaaGreatDoor

/- How any two values stand: Order. -/
namespace Go.Proofs.YtoifjjgakblhhaaGreatDoor
open Go.RowKit


end Go.Proofs.YtoifjjgakblhhaaGreatDoor

/- Less, of any two values. -/
namespace Go.Proofs.YtoifjjgakblhhaaGreatDoor
open Go.RowKit

end Go.Proofs.YtoifjjgakblhhaaGreatDoor

/- What the round of the law ValueExact keeps; what is asked of two values, by both. -/
namespace Go.Proofs.YtoifjjgakblhhaaGreatDoor
open Go.RowKit

/-- What a round keeps of the first value and of its copy. -/
structure KA (SA : World → Prop) (w : World) (L ln : Value) (g off1 : Nat) (v : Val) (k : Int) (b : Bool) (m : Int) (t x : ByteArray) (q : List Val) (p : Option Addr) (cp : Nat) (ea : Nat) (pa : Option Addr) (ca : Nat) : Prop where
  sv : ∀ W, SA W → LInv w L ln W
  s4 : ∀ W, SA W → Six W ea k b m t x pa q.length ca
  ha : ∀ W, SA W → Held W (.slice pa q.length ca) q
  o1 : ∀ W, SA W → Opens W g off1 v k b m t x q p cp
  st : ∀ W W2, SA W → Below W.heap.size W W2 → SA W2
  dr : ∀ W, SA W → SA W.drew
theorem mkA {A0 w : World} {L ln : Value} {g off1 : Nat} {v : Val} {k : Int} {b : Bool} {m : Int} {t x : ByteArray} {q : List Val} {p : Option Addr} {cp : Nat} {ea : Nat} {pa : Option Addr} {ca : Nat} (I : LInv w L ln A0) (S4 : Six A0 ea k b m t x pa q.length ca) (ha : Held A0 (.slice pa q.length ca) q) (o1 : Opens A0 g off1 v k b m t x q p cp) :
    KA (fun W => Below A0.heap.size A0 W) w L ln g off1 v k b m t x q p cp ea pa ca :=
  ⟨fun W h => I.step h, fun W h => S4.below h, fun W h => Held.below q ha h, fun W h => o1.below h, fun W W2 h k => below_any h k h.size, fun W h => h.drew⟩
/-- And of the second one, and of its copy. -/
structure KB (SB : World → Prop) (w : World) (L ln : Value) (g off1 : Nat) (v : Val) (k : Int) (b : Bool) (m : Int) (t x : ByteArray) (q : List Val) (p : Option Addr) (cp : Nat) (ea : Nat) (pa : Option Addr) (ca : Nat) (off2 : Nat) (u : Val) (k2 : Int) (b2 : Bool) (m2 : Int) (t2 x2 : ByteArray) (q2 : List Val) (p2 : Option Addr) (cp2 : Nat) (eb : Nat) (pb : Option Addr) (cb : Nat) : Prop where
  sv : ∀ W, SB W → LInv w L ln W
  s4 : ∀ W, SB W → Six W ea k b m t x pa q.length ca
  ha : ∀ W, SB W → Held W (.slice pa q.length ca) q
  o1 : ∀ W, SB W → Opens W g off1 v k b m t x q p cp
  s6 : ∀ W, SB W → Six W eb k2 b2 m2 t2 x2 pb q2.length cb
  hb : ∀ W, SB W → Held W (.slice pb q2.length cb) q2
  o2 : ∀ W, SB W → Opens W g off2 u k2 b2 m2 t2 x2 q2 p2 cp2
  st : ∀ W W2, SB W → Below W.heap.size W W2 → SB W2
theorem mkB {SA : World → Prop} {B0 w : World} {L ln : Value} {g off1 : Nat} {v : Val} {k : Int} {b : Bool} {m : Int} {t x : ByteArray} {q : List Val} {p : Option Addr} {cp : Nat} {ea : Nat} {pa : Option Addr} {ca : Nat} {off2 : Nat} {u : Val} {k2 : Int} {b2 : Bool} {m2 : Int} {t2 x2 : ByteArray} {q2 : List Val} {p2 : Option Addr} {cp2 : Nat} {eb : Nat} {pb : Option Addr} {cb : Nat} (HA : KA SA w L ln g off1 v k b m t x q p cp ea pa ca) (JB : SA B0) (S6 : Six B0 eb k2 b2 m2 t2 x2 pb q2.length cb) (hb : Held B0 (.slice pb q2.length cb) q2) (o2 : Opens B0 g off2 u k2 b2 m2 t2 x2 q2 p2 cp2) :
    KB (fun W => Below B0.heap.size B0 W) w L ln g off1 v k b m t x q p cp ea pa ca off2 u k2 b2 m2 t2 x2 q2 p2 cp2 eb pb cb :=
  ⟨fun W h => HA.sv W (HA.st _ _ JB h), fun W h => HA.s4 W (HA.st _ _ JB h), fun W h => HA.ha W (HA.st _ _ JB h), fun W h => HA.o1 W (HA.st _ _ JB h), fun W h => S6.below h, fun W h => Held.below q2 hb h, fun W h => o2.below h, fun W W2 h k => below_any h k h.size⟩
/-- What both tell of two values. -/
structure Two (SB : World → Prop) (lang : Int) (k : Int) (b : Bool) (m : Int) (t x : ByteArray) (q : List Val) (p : Option Addr) (cp : Nat) (pa : Option Addr) (ca : Nat) (k2 : Int) (b2 : Bool) (m2 : Int) (t2 x2 : ByteArray) (q2 : List Val) (p2 : Option Addr) (cp2 : Nat) (pb : Option Addr) (cb : Nat) (r1 : Bool) (r2 r3 r4 : Int) : Prop where
  sa : ∀ W, SB W → Calls Tryz.prog 17 #[.agg #[.int .i64 k, .bool b, .int .i64 m, .string t, .string x, .slice pa q.length ca], .agg #[.int .i64 k2, .bool b2, .int .i64 m2, .string t2, .string x2, .slice pb q2.length cb]] W fun e w' => e = .returned (.bool r1) ∧ Below W.heap.size W w'
  sz : ∀ W, SB W → Calls Tryz.prog 18 #[.agg #[.int .i64 k, .bool b, .int .i64 m, .string t, .string x, .slice p q.length cp], .agg #[.int .i64 k2, .bool b2, .int .i64 m2, .string t2, .string x2, .slice p2 q2.length cp2]] W fun e w' => e = .returned (.bool r1) ∧ Below W.heap.size W w'
  ea : ∀ W, SB W → Calls Tryz.prog 19 #[.int .i64 lang, .agg #[.int .i64 k, .bool b, .int .i64 m, .string t, .string x, .slice pa q.length ca], .agg #[.int .i64 k2, .bool b2, .int .i64 m2, .string t2, .string x2, .slice pb q2.length cb]] W fun e w' => e = .returned (.int .i64 r2) ∧ Below W.heap.size W w'
  er : ∀ W, SB W → Calls Tryz.prog 20 #[.int .i64 lang, .agg #[.int .i64 k, .bool b, .int .i64 m, .string t, .string x, .slice p q.length cp], .agg #[.int .i64 k2, .bool b2, .int .i64 m2, .string t2, .string x2, .slice p2 q2.length cp2]] W fun e w' => e = .returned (.int .i64 r2) ∧ Below W.heap.size W w'
  la : ∀ W, SB W → Calls Tryz.prog 21 #[.int .i64 lang, .agg #[.int .i64 k, .bool b, .int .i64 m, .string t, .string x, .slice pa q.length ca], .agg #[.int .i64 k2, .bool b2, .int .i64 m2, .string t2, .string x2, .slice pb q2.length cb]] W fun e w' => e = .returned (.int .i64 r3) ∧ Below W.heap.size W w'
  lr : ∀ W, SB W → Calls Tryz.prog 22 #[.agg #[.int .i64 k, .bool b, .int .i64 m, .string t, .string x, .slice p q.length cp], .agg #[.int .i64 k2, .bool b2, .int .i64 m2, .string t2, .string x2, .slice p2 q2.length cp2]] W fun e w' => e = .returned (.int .i64 r3) ∧ Below W.heap.size W w'
  oa : ∀ W, SB W → Calls Tryz.prog 23 #[.int .i64 lang, .agg #[.int .i64 k, .bool b, .int .i64 m, .string t, .string x, .slice pa q.length ca], .agg #[.int .i64 k2, .bool b2, .int .i64 m2, .string t2, .string x2, .slice pb q2.length cb]] W fun e w' => e = .returned (.int .i64 r4) ∧ Below W.heap.size W w'
  orr : ∀ W, SB W → Calls Tryz.prog 24 #[.int .i64 lang, .agg #[.int .i64 k, .bool b, .int .i64 m, .string t, .string x, .slice p q.length cp], .agg #[.int .i64 k2, .bool b2, .int .i64 m2, .string t2, .string x2, .slice p2 q2.length cp2]] W fun e w' => e = .returned (.int .i64 r4) ∧ Below W.heap.size W w'
end Go.Proofs.YtoifjjgakblhhaaGreatDoor

/- Whole numbers reckoned: by the program. -/
namespace Go.Proofs.YtoifjjgakblhhaaGreatDoor
open Go.RowKit

/-- Does it fit in 64 bits? -/
def inI (m : Int) : Bool := decide (-9223372036854775808 ≤ m) && decide (m ≤ 9223372036854775807)
theorem inI_yes {m : Int} (h0 : -9223372036854775808 ≤ m) (h1 : m ≤ 9223372036854775807) : inI m = true := by unfold inI; simp [h0, h1]
theorem inI_no {m : Int} (h : ¬ (-9223372036854775808 ≤ m ∧ m ≤ 9223372036854775807)) : inI m = false := by
  unfold inI
  rw [Bool.and_eq_false_iff]
  by_cases h0 : -9223372036854775808 ≤ m
  · exact .inr (by simpa using fun h1 => h ⟨h0, h1⟩)
  · exact .inl (by simpa using h0)
theorem wrap_in {m : Int} (h : inI m = true) : wrap64 m = m := by
  unfold inI at h
  simp only [Bool.and_eq_true, decide_eq_true_eq] at h
  unfold wrap64
  omega
theorem wrap_range (m : Int) : -9223372036854775808 ≤ wrap64 m ∧ wrap64 m ≤ 9223372036854775807 := by unfold wrap64; omega
theorem add_says {a b s : Int} (a0 : -9223372036854775808 ≤ a) (a1 : a ≤ 9223372036854775807) (b0 : -9223372036854775808 ≤ b) (b1 : b ≤ 9223372036854775807) (hs : s = wrap64 (a + b)) : (decide (s < a) == decide (b < 0)) = inI (a + b) := by
  unfold wrap64 at hs
  by_cases h : -9223372036854775808 ≤ a + b ∧ a + b ≤ 9223372036854775807
  · rw [inI_yes h.1 h.2]
    by_cases hb : b < 0
    · have : s < a := by omega
      simp [hb, this]
    · have : ¬ s < a := by omega
      simp [hb, this]
  · rw [inI_no h]
    by_cases hb : b < 0
    · have : ¬ s < a := by omega
      simp [hb, this]
    · have : s < a := by omega
      simp [hb, this]
theorem sub_says {a b s : Int} (a0 : -9223372036854775808 ≤ a) (a1 : a ≤ 9223372036854775807) (b0 : -9223372036854775808 ≤ b) (b1 : b ≤ 9223372036854775807) (hs : s = wrap64 (a - b)) : (decide (s > a) == decide (b < 0)) = inI (a - b) := by
  unfold wrap64 at hs
  by_cases h : -9223372036854775808 ≤ a - b ∧ a - b ≤ 9223372036854775807
  · rw [inI_yes h.1 h.2]
    have e : s = a - b := by omega
    by_cases hb : b < 0
    · have : s > a := by omega
      simp [hb, this]
    · have : ¬ s > a := by omega
      simp [hb, this]
  · rw [inI_no h]
    by_cases hb : b < 0
    · have : ¬ s > a := by omega
      simp [hb, this]
    · have : s > a := by omega
      simp [hb, this]
theorem mul_says {a b s : Int} (a0 : -9223372036854775808 ≤ a) (a1 : a ≤ 9223372036854775807) (b0 : -9223372036854775808 ≤ b) (b1 : b ≤ 9223372036854775807) (ha : a ≠ 0) (hs : s = wrap64 (a * b)) :
    ((wrap64 (s.tdiv a) == b) && !((a == -1) && (b == -9223372036854775808))) = inI (a * b) := by
  have hw : ∃ k : Int, s = a * b + k * 18446744073709551616 := by
    unfold wrap64 at hs
    exact ⟨-((a * b + 9223372036854775808) / 18446744073709551616), by omega⟩
  obtain ⟨k, hk⟩ := hw
  have hr := wrap_range (a * b)
  rw [← hs] at hr
  by_cases hm : a = -1
  · subst hm
    by_cases hb : b = -9223372036854775808
    · subst hb
      rw [inI_no (by omega)]
      simp
    · have e : s = -b := by rw [hs]; unfold wrap64; omega
      rw [inI_yes (by omega) (by omega)]
      have e2 : s.tdiv (-1) = b := by rw [e, Int.tdiv_neg, Int.tdiv_one]; omega
      rw [e2, wrap_in (inI_yes b0 b1)]
      simp [hb]
  · have hma : (a == -1) = false := by simpa using hm
    rw [hma, Bool.false_and, Bool.not_false, Bool.and_true]
    by_cases h1 : a = 1
    · subst h1
      have e : s = b := by rw [hs, Int.one_mul]; exact wrap_in (inI_yes b0 b1)
      rw [Int.one_mul, inI_yes b0 b1, e, Int.tdiv_one, wrap_in (inI_yes b0 b1)]
      simp
    · have hq2 : 2 * (s.tdiv a).natAbs ≤ s.natAbs := by
        rw [Int.natAbs_tdiv]
        exact Nat.le_trans (Nat.mul_le_mul_right _ (show 2 ≤ a.natAbs by omega)) (Nat.mul_div_le _ _)
      rw [wrap_in (inI_yes (by omega) (by omega))]
      by_cases h : -9223372036854775808 ≤ a * b ∧ a * b ≤ 9223372036854775807
      · rw [inI_yes h.1 h.2]
        have e : s = a * b := by rw [hs]; exact wrap_in (inI_yes h.1 h.2)
        rw [e, Int.mul_tdiv_cancel_left b ha]
        simp
      · rw [inI_no h]
        have hne : s.tdiv a ≠ b := fun hq => by
          have hdm := Int.mul_tdiv_add_tmod s a
          rw [hq] at hdm
          have hlt : (s.tmod a).natAbs < a.natAbs := by
            rw [Int.natAbs_tmod]
            exact Nat.mod_lt _ (by omega)
          generalize a * b = M at hdm hk h
          omega
        simpa using hne
theorem quo_in {a b : Int} (a0 : -9223372036854775808 ≤ a) (a1 : a ≤ 9223372036854775807) (hb : b ≠ 0) : (!((a == -9223372036854775808) && (b == -1))) = inI (a.tdiv b) := by
  by_cases h : a = -9223372036854775808 ∧ b = -1
  · obtain ⟨rfl, rfl⟩ := h
    rw [inI_no (by decide)]
    simp
  · have hn : (a.tdiv b).natAbs ≤ a.natAbs := by
      rw [Int.natAbs_tdiv]
      exact Nat.div_le_self _ _
    have hr : a.tdiv b ≤ 9223372036854775807 := by
      by_cases hb1 : b = -1
      · subst hb1
        rw [Int.tdiv_neg, Int.tdiv_one]
        omega
      · by_cases hb2 : b = 1
        · subst hb2
          rw [Int.tdiv_one]
          exact a1
        · have hq2 : 2 * (a.tdiv b).natAbs ≤ a.natAbs := by
            rw [Int.natAbs_tdiv]
            exact Nat.le_trans (Nat.mul_le_mul_right _ (show 2 ≤ b.natAbs by omega)) (Nat.mul_div_le _ _)
          omega
    rw [inI_yes (by omega) hr]
    by_cases ha : a = -9223372036854775808
    · have hb1 : b ≠ -1 := fun e => h ⟨ha, e⟩
      simp [hb1]
    · simp [ha]

set_option maxRecDepth 20000 in
set_option maxHeartbeats 1600000 in
theorem addIntsAt (a b : Int) (w : World) (a0 : -9223372036854775808 ≤ a) (a1 : a ≤ 9223372036854775807) (b0 : -9223372036854775808 ≤ b) (b1 : b ≤ 9223372036854775807) :
    Calls Tryz.prog 134 #[.int .i64 a, .int .i64 b] w fun e w' => e = .returned (.tuple #[.int .i64 (wrap64 (a + b)), .bool (inI (a + b))]) ∧ w' = w := by
  have h := add_says a0 a1 b0 b1 (rfl : wrap64 (a + b) = _)
  have H := Lib.hid h
  clear h a0 a1 b0 b1
  go_enter Tryz.func134, Tryz.ntmps134
  go_wp2_with fail
  go_ret2
  exact ⟨by rw [← H.out]; rfl, rfl⟩
set_option maxRecDepth 20000 in
set_option maxHeartbeats 1600000 in
theorem subIntsAt (a b : Int) (w : World) (a0 : -9223372036854775808 ≤ a) (a1 : a ≤ 9223372036854775807) (b0 : -9223372036854775808 ≤ b) (b1 : b ≤ 9223372036854775807) :
    Calls Tryz.prog 135 #[.int .i64 a, .int .i64 b] w fun e w' => e = .returned (.tuple #[.int .i64 (wrap64 (a - b)), .bool (inI (a - b))]) ∧ w' = w := by
  have h := sub_says a0 a1 b0 b1 (rfl : wrap64 (a - b) = _)
  have H := Lib.hid h
  clear h a0 a1 b0 b1
  go_enter Tryz.func135, Tryz.ntmps135
  go_wp2_with fail
  go_ret2
  exact ⟨by rw [← H.out]; rfl, rfl⟩
set_option maxRecDepth 20000 in
set_option maxHeartbeats 1600000 in
theorem mulIntsAt (a b : Int) (w : World) (a0 : -9223372036854775808 ≤ a) (a1 : a ≤ 9223372036854775807) (b0 : -9223372036854775808 ≤ b) (b1 : b ≤ 9223372036854775807) :
    Calls Tryz.prog 136 #[.int .i64 a, .int .i64 b] w fun e w' => e = .returned (.tuple #[.int .i64 (wrap64 (a * b)), .bool (inI (a * b))]) ∧ w' = w := by
  by_cases ha : a = 0
  · subst ha
    have h1 : inI (0 * b) = true := by rw [Int.zero_mul]; decide
    rw [h1, Int.zero_mul, show wrap64 0 = 0 by unfold wrap64; omega]
    clear h1
    go_enter Tryz.func136, Tryz.ntmps136
    go_wp2_with fail
    go_ret2
    exact ⟨rfl, rfl⟩
  · have h := mul_says a0 a1 b0 b1 ha (rfl : wrap64 (a * b) = _)
    have hz : (a == 0) = false := by simpa using ha
    by_cases e2 : a = -1
    · subst e2
      have hq : wrap64 (-wrap64 (-b)) = b := by unfold wrap64; omega
      have r : inI (-b) = !(b == -9223372036854775808) := by
        rw [← show (-1 : Int) * b = -b by omega, ← h]
        have : (wrap64 (-1 * b)).tdiv (-1) = -wrap64 (-b) := by rw [Int.tdiv_neg, Int.tdiv_one, show (-1 : Int) * b = -b by omega]
        rw [this, hq]
        simp
      rw [show (-1 : Int) * b = -b by omega]
      have R := Lib.hid r
      clear h r hz a0 a1 b0 b1 ha
      go_enter Tryz.func136, Tryz.ntmps136
      go_wp2_with fail
      go_ret2
      exact ⟨by rw [R.out]; rfl, rfl⟩
    · have H := Lib.hid h
      have e2b : (a == -1) = false := by simpa using e2
      clear a0 a1 b0 b1 h
      go_enter Tryz.func136, Tryz.ntmps136
      go_wp2_with fail
      all_goals
        go_ret2
        refine ⟨?_, rfl⟩
        first
          | (rw [show inI (a * b) = true from by rw [← H.out]; simp [*]]; rfl)
          | (rw [show inI (a * b) = false from by rw [← H.out]; simp [*]]; rfl)
theorem divIntsRem (a b : Int) (w : World) (hb : b ≠ 0) : Calls Tryz.prog 137 #[.int .i64 21, .int .i64 a, .int .i64 b] w fun e w' => e = .returned (.tuple #[.int .i64 (a.tmod b), .bool true]) ∧ w' = w := by
  go_enter Tryz.func137, Tryz.ntmps137
  go_wp2_with fail
  go_ret2
  exact ⟨rfl, rfl⟩
set_option maxRecDepth 20000 in
set_option maxHeartbeats 1600000 in
theorem divIntsQuo (a b : Int) (w : World) (a0 : -9223372036854775808 ≤ a) (a1 : a ≤ 9223372036854775807) (hb : b ≠ 0) : Calls Tryz.prog 137 #[.int .i64 20, .int .i64 a, .int .i64 b] w fun e w' => e = .returned (.tuple #[.int .i64 (wrap64 (a.tdiv b)), .bool (inI (a.tdiv b))]) ∧ w' = w := by
  have h := quo_in a0 a1 hb
  clear a0 a1
  cases e1 : (a == -9223372036854775808) with
  | false =>
    have r : inI (a.tdiv b) = true := by rw [← h, e1]; rfl
    have R := Lib.hid r
    clear h r
    go_enter Tryz.func137, Tryz.ntmps137
    go_wp2_with fail
    go_ret2
    exact ⟨by rw [R.out]; rfl, rfl⟩
  | true =>
    cases e2 : (b == -1) with
    | false =>
      have r : inI (a.tdiv b) = true := by rw [← h, e1, e2]; rfl
      have R := Lib.hid r
      clear h r
      go_enter Tryz.func137, Tryz.ntmps137
      go_wp2_with fail
      go_ret2
      exact ⟨by rw [R.out]; rfl, rfl⟩
    | true =>
      have r : inI (a.tdiv b) = false := by rw [← h, e1, e2]; rfl
      have R := Lib.hid r
      clear h r
      go_enter Tryz.func137, Tryz.ntmps137
      go_wp2_with fail
      go_ret2
      exact ⟨by rw [R.out]; rfl, rfl⟩
end Go.Proofs.YtoifjjgakblhhaaGreatDoor
