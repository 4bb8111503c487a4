/- Texts of one kind, one behind the other: each says ahead of itself what it shows. -/
import Derived.Test.YtoifjjgakblhhaaGreatDoorHai
import Derived.Deep.QuietTactic
import Derived.BigQuiet
import Derived.Test.YtoifjjgakblhhaaGreatDoorHao
import Derived.Test.YtoifjjgakblhhaaGreatDoorHau
import Derived.Deep.LoopGhost
import Derived.Deep.Cut
import Derived.Deep.CutRange
import Derived.Deep.CutBlock
import Derived.Deep.DeepCutAuto
import Derived.Test.YtoifjjgakblhhaaGreatDoorHat
/- How large a list of values is, and whether it isn't too deep: both answer. -/
namespace Go.Proofs.YtoifjjgakblhhaaGreatDoor
open Go.RowKit

def addW (a b : Int) : Int := wrap64 (a + b)
mutual
def sizeOne : Val → Int → Int
  | .mk _ _ _ t x l, n => addW (addW (addW (addW n 1) (wrap64 ((t.size : Int)/ 64))) (wrap64 ((x.size : Int)/ 64))) (sizeAll l 0)
def sizeAll : List Val → Int → Int
  | [], n => n
  | v :: r, n => sizeAll r (sizeOne v n)
end
theorem sizeAll_take : (l : List Val) → (n : Int) → (j : Nat) → (h : j < l.length) → sizeAll (l.take (j + 1)) n = sizeOne (l[j]'h) (sizeAll (l.take j) n)
  | [], _, j, h => absurd h (by simp)
  | v :: r, n, 0, _ => by
    show sizeAll (v :: r.take 0) n = sizeOne v (sizeAll [] n)
    simp [sizeAll]
  | v :: r, n, j + 1, h => by
    show sizeAll (v :: r.take (j + 1)) n = sizeOne (r[j]'(by simpa using h)) (sizeAll (v :: r.take j) n)
    unfold sizeAll
    exact sizeAll_take r _ j (by simpa using h)
/-- What Size answers of the list of a value that lies somewhere. -/
def SizeAt (v : Val) : Prop := ∀ (W : World) (k : Int) (b : Bool) (n : Int) (t x : ByteArray) (q : List Val) (p : Option Addr) (cap : Nat), v = .mk k b n t x q → q.length ≤ 2097152 → Held W (.slice p q.length cap) q →
  Calls Tryz.prog 35 #[.slice p q.length cap] W fun e w' => e = .returned (.int .i64 (sizeAll q 0)) ∧ ∃ m, w' = W.drewN m

set_option maxRecDepth 20000 in
set_option maxHeartbeats 1600000 in
theorem sizeSome (l : List Val) (g off cap : Nat) (w : World) (hl : Holds w g off l) (hn : l.length ≤ 2097152) (each : ∀ u ∈ l, SizeAt u) :
    Calls Tryz.prog 35 #[.slice (some ⟨g, off, none⟩) l.length cap] w fun e w' => e = .returned (.int .i64 (sizeAll l 0)) ∧ ∃ m, w' = w.drewN m := by
  obtain ⟨n, hln⟩ : ∃ n, n = l.length := ⟨_, rfl⟩
  rw [← hln] at hn ⊢
  have HL := Lib.hid hln
  have HH := Lib.hid hl
  have HE := Lib.hid each
  clear hl hln each
  go_enter Tryz.func35, Tryz.ntmps35
  go_wp2_with fail
  go_loopg [3, 4] n (fun gg s3 s4 wr => ∃ (j m : Nat) (z : Int), j + gg = n ∧ s4 = .int .i64 j ∧ s3 = .int .i64 z ∧ Hid (z = sizeAll (l.take j) 0) ∧ Hid (wr = w.drewN m))
  case atStart => exact ⟨0, 0, 0, by omega, rfl, rfl, Lib.hid (by simp [sizeAll]), Lib.hid rfl⟩
  case round =>
    obtain ⟨j, m, z, hjg, rfl, rfl, HZ, HW⟩ := hrel
    by_cases hlt : (j : Int) < n
    · have hj1 : j < l.length := by have := HL.out; omega
      obtain ⟨k, b, i, t, x, q, p, cp, o⟩ := (Holds.at_ l off HH.out j hj1).opens
      have o1 := o.below (w' := wr) (by rw [HW.out]; exact below_drewN (Below.refl _ _) m)
      have c3 := o1.c3
      have c4 := o1.c4
      have c5 := o1.c5
      have HC : ∀ nn, Calls Tryz.prog 35 #[.slice p q.length cp] (wr.drewN nn) fun e w' => e = .returned (.int .i64 (sizeAll q 0)) ∧ ∃ m', w' = (wr.drewN nn).drewN m' := fun nn =>
        HE.out l[j] (List.getElem_mem hj1) _ k b i t x q p cp o.e o.hf.hn (o1.below (below_drewN (Below.refl _ _) nn)).hl
      have HC := Lib.hid HC
      have hz : sizeAll (l.take (j + 1)) 0 = addW (addW (addW (addW z 1) (wrap64 ((t.size : Int)/ 64))) (wrap64 ((x.size : Int)/ 64))) (sizeAll q 0) := by
        rw [sizeAll_take l 0 j hj1, o.e, ← HZ.out]
        unfold sizeOne
        rfl
      have HZ2 := Lib.hid hz
      clear hz o o1
      generalize sizeAll q 0 = zq at *
      go_wp2_with fail
      go_quiet ((go_at_call 35; exact Calls.quiet_of (HC.out _)))
      go_wp2_with fail
      go_roundg (gk - 1)
      case measure => omega
      case rel => exact ⟨j + 1, m + nq, _, by omega, by go_num, rfl, Lib.hid (by rw [HZ2.out]; rfl), Lib.hid (by rw [HW.out, World.drewN_drewN])⟩
    · go_wp2_with fail
      go_ret
      have e : j = l.length := by have := HL.out; omega
      exact ⟨by rw [HZ.out, e, List.take_length]; rfl, m, HW.out⟩
theorem size_list (q : List Val) (p : Option Addr) (cap : Nat) (w : World) (hl : Held w (.slice p q.length cap) q) (hn : q.length ≤ 2097152) (each : ∀ u ∈ q, SizeAt u) :
    Calls Tryz.prog 35 #[.slice p q.length cap] w fun e w' => e = .returned (.int .i64 (sizeAll q 0)) ∧ ∃ m, w' = w.drewN m := by
  cases q with
  | nil =>
    go_enter Tryz.func35, Tryz.ntmps35
    go_wp2_with fail
    go_loopg [3, 4] 0 (fun gg s3 s4 wr => gg = 0 ∧ s3 = .int .i64 0 ∧ s4 = .int .i64 0 ∧ wr = w)
    case atStart => exact ⟨rfl, rfl, rfl, rfl⟩
    case round =>
      obtain ⟨_, rfl, rfl, rfl⟩ := hrel
      go_wp2_with fail
      go_ret
      exact ⟨rfl, 0, rfl⟩
  | cons v r =>
    obtain ⟨g, off, rfl, hh⟩ := hl.form
    exact sizeSome (v :: r) g off cap w hh hn each
mutual
theorem sizeVal : (v : Val) → SizeAt v
  | .mk k b n t x q => fun W k1 b1 n1 t1 x1 q1 p cap e hn hl => by
    cases e
    exact size_list q p cap W hl hn (sizeEach q)
theorem sizeEach : (q : List Val) → ∀ u ∈ q, SizeAt u
  | [], _, h => absurd h (by simp)
  | v :: r, u, h => by
    rcases List.mem_cons.1 h with h | h
    · rw [h]; exact sizeVal v
    · exact sizeEach r u h
end
end Go.Proofs.YtoifjjgakblhhaaGreatDoor

/- Whether lists are not too deep in one another: it answers; so does light. -/
namespace Go.Proofs.YtoifjjgakblhhaaGreatDoor
open Go.RowKit

/-- What deep answers of the list of a value that lies somewhere: one of the two. -/
def DeepAt (v : Val) : Prop := ∀ (W : World) (d : Int) (k : Int) (b : Bool) (n : Int) (t x : ByteArray) (q : List Val) (p : Option Addr) (cap : Nat), v = .mk k b n t x q → q.length ≤ 2097152 → Held W (.slice p q.length cap) q →
  Calls Tryz.prog 36 #[.slice p q.length cap, .int .i64 d] W fun e w' => ∃ r, e = .returned (.bool r) ∧ Below W.heap.size W w'

set_option maxRecDepth 20000 in
set_option maxHeartbeats 1600000 in
theorem deepSome (l : List Val) (g off cap : Nat) (d : Int) (w : World) (hl : Holds w g off l) (hn : l.length ≤ 2097152) (each : ∀ u ∈ l, DeepAt u) :
    Calls Tryz.prog 36 #[.slice (some ⟨g, off, none⟩) l.length cap, .int .i64 d] w fun e w' => ∃ r, e = .returned (.bool r) ∧ Below w.heap.size w w' := by
  obtain ⟨n, hln⟩ : ∃ n, n = l.length := ⟨_, rfl⟩
  rw [← hln] at hn ⊢
  have HL := Lib.hid hln
  have HH := Lib.hid hl
  have HE := Lib.hid each
  clear hl hln each
  go_enter Tryz.func36, Tryz.ntmps36
  go_wp2_with fail
  go_loopg [5] n (fun gg s5 wr => ∃ j : Nat, j + gg = n ∧ s5 = .int .i64 j ∧ Below w.heap.size w wr)
  case atStart => exact ⟨0, by omega, rfl, Below.refl _ _⟩
  case round =>
    obtain ⟨j, hjg, rfl, hb⟩ := hrel
    by_cases hlt : (j : Int) < n
    · have hj1 : j < l.length := by have := HL.out; omega
      obtain ⟨k, b, i, t, x, q, p, cp, o⟩ := (Holds.at_ l off HH.out j hj1).opens
      have o1 := o.below hb
      have c5 := o1.c5
      have hc := fun D => HE.out l[j] (List.getElem_mem hj1) wr D k b i t x q p cp o.e o.hf.hn o1.hl
      have z := hb.size
      clear o o1
      by_cases hd : 100 < d
      · go_wp2_with fail
        go_ret
        first | exact hb | exact ⟨_, rfl, hb⟩ | exact ⟨rfl, hb⟩ | exact ⟨.inl rfl, hb⟩ | exact ⟨.inr rfl, hb⟩
      · go_wp2_with (go_at_call 36; (with_reducible refine (hc _).mono ?_); rintro e w1 ⟨r, rfl, hb1⟩; replace hb := below_any hb hb1 z; clear hb1)
        · go_ret
          first | exact hb | exact ⟨_, rfl, hb⟩ | exact ⟨rfl, hb⟩ | exact ⟨.inl rfl, hb⟩ | exact ⟨.inr rfl, hb⟩
        · go_roundg (gk - 1)
          case measure => omega
          case rel => exact ⟨j + 1, by omega, by go_num, hb⟩
    · go_wp2_with fail
      go_ret
      first | exact hb | exact ⟨_, rfl, hb⟩ | exact ⟨rfl, hb⟩ | exact ⟨.inl rfl, hb⟩ | exact ⟨.inr rfl, hb⟩
theorem deep_list (q : List Val) (p : Option Addr) (cap : Nat) (d : Int) (w : World) (hl : Held w (.slice p q.length cap) q) (hn : q.length ≤ 2097152) (each : ∀ u ∈ q, DeepAt u) :
    Calls Tryz.prog 36 #[.slice p q.length cap, .int .i64 d] w fun e w' => ∃ r, e = .returned (.bool r) ∧ Below w.heap.size w w' := by
  cases q with
  | nil =>
    go_enter Tryz.func36, Tryz.ntmps36
    go_wp2_with fail
    go_loopg [5] 0 (fun gg s5 wr => gg = 0 ∧ s5 = .int .i64 0 ∧ wr = w)
    case atStart => exact ⟨rfl, rfl, rfl⟩
    case round =>
      obtain ⟨_, rfl, rfl⟩ := hrel
      go_wp2_with fail
      go_ret
      first | exact Below.refl _ _ | exact ⟨_, rfl, Below.refl _ _⟩ | exact ⟨.inr rfl, Below.refl _ _⟩
  | cons v r =>
    obtain ⟨g, off, rfl, hh⟩ := hl.form
    exact deepSome (v :: r) g off cap d w hh hn each
mutual
theorem deepVal : (v : Val) → DeepAt v
  | .mk k b n t x q => fun W d k1 b1 n1 t1 x1 q1 p cap e hn hl => by
    cases e
    exact deep_list q p cap d W hl hn (deepEach q)
theorem deepEach : (q : List Val) → ∀ u ∈ q, DeepAt u
  | [], _, h => absurd h (by simp)
  | v :: r, u, h => by
    rcases List.mem_cons.1 h with h | h
    · rw [h]; exact deepVal v
    · exact deepEach r u h
end
set_option maxHeartbeats 1600000 in
theorem lightC (q : List Val) (p : Option Addr) (cap : Nat) (w : World) (hl : Held w (.slice p q.length cap) q) (hn : q.length ≤ 2097152) :
    Calls Tryz.prog 10 #[.slice p q.length cap] w fun e w' => ∃ r, e = .returned (.bool r) ∧ Below w.heap.size w w' := by
  have h1 := (size_list q p cap w hl hn (sizeEach q))
  have h2 := fun W (h : Below w.heap.size w W) => deep_list q p cap 0 W (Held.below q hl h) hn (deepEach q)
  generalize sizeAll q 0 = z at h1
  clear hl hn
  by_cases hz : z ≤ 9000
  · go_enter Tryz.func10, Tryz.ntmps10
    go_wp2_with (first
      | (go_at_call 35; (with_reducible refine h1.mono ?_); rintro e w1 ⟨rfl, m, rfl⟩; have b0 : Below w.heap.size w (w.drewN m) := below_drewN (Below.refl _ _) m)
      | (go_at_call 36; (with_reducible refine (h2 _ b0).mono ?_); rintro e w2 ⟨r, rfl, hb2⟩; replace b0 := below_any b0 hb2 b0.size))
    go_ret
    first | exact b0 | exact ⟨_, rfl, b0⟩ | exact ⟨rfl, b0⟩ | exact ⟨.inl rfl, b0⟩ | exact ⟨.inr rfl, b0⟩
  · go_enter Tryz.func10, Tryz.ntmps10
    go_wp2_with (go_at_call 35; (with_reducible refine h1.mono ?_); rintro e w1 ⟨rfl, m, rfl⟩; have b0 : Below w.heap.size w (w.drewN m) := below_drewN (Below.refl _ _) m)
    go_ret
    first | exact b0 | exact ⟨_, rfl, b0⟩ | exact ⟨rfl, b0⟩ | exact ⟨.inl rfl, b0⟩ | exact ⟨.inr rfl, b0⟩
end Go.Proofs.YtoifjjgakblhhaaGreatDoor

/- How the text 1.0 is encoded, and the decimal 1.0: eight bytes. -/
namespace Go.Proofs.YtoifjjgakblhhaaGreatDoor
open Go.RowKit

/-- The text 1.0. -/
def oneT : ByteArray := ⟨#[49, 46, 48]⟩
theorem Own.say {base n m : Nat} {v v' : Value} {w0 w w1 : World} {xs : List Value} (h : Own base n v w0 w) (hown : w1.ownsRow base 5 1 v' m xs) (hg : w.grownBy w1 v.ownBlock) : Own base m v' w0 w1 := by
  obtain ⟨⟨ys, hr⟩, hlo, hbel⟩ := h
  exact ⟨⟨xs, hown⟩, Nat.le_trans hlo hg.size, hbel.grown hg hlo (fun k hk => (hr.lt k hk).1)⟩

set_option maxRecDepth 20000 in
set_option maxHeartbeats 3200000 in
theorem encodeText1 (base n : Nat) (v : Value) (w0 w : World) (h : Own base n v w0 w) (hn : n ≤ 100) :
    Calls Tryz.prog 108 #[v, .string oneT] w fun e w' => ∃ v', e = .returned v' ∧ Own base (n + 7) v' w0 w' := by
  obtain ⟨i0, hi, hz0, hz1, hz2⟩ := info_parts info5b
  unfold oneT
  go_enter Tryz.func108, Tryz.ntmps108
  go_wp2_with (first
    | (go_at_call 107; (with_reducible refine (encodeInt3 base n v w0 w h (by omega)).mono ?_); rintro e w1 ⟨v1, rfl, O⟩; have O2 := O; obtain ⟨⟨xs, hown⟩, hlo, hbel⟩ := O2)
    | (at_builtin; refine Lib.wpList_append_own_string _ rfl _ _ 40 9 rfl base 5 i0 Tryz.underlying40 Tryz.underlying9 hi hz0 hz1 hz2 _ _ _ rfl hown _ rfl ?_ ?_ hlo ?_))
  all_goals (try (first | rfl | (show n + 4 + 3 ≤ maxLen; unfold maxLen; omega) | (show n + 4 + 3 ≤ 140737488355328; omega)))
  intro v' w2 hown' hgrow _
  have O2 := O.say hown' hgrow
  clear O hgrow
  go_wp2_with fail
  go_ret
  exact ⟨_, rfl, O2⟩
end Go.Proofs.YtoifjjgakblhhaaGreatDoor

/- The encoding of the decimal 1.0: eight bytes. -/
namespace Go.Proofs.YtoifjjgakblhhaaGreatDoor
open Go.RowKit

theorem Own.alloc {base n : Nat} {v : Value} {w0 w : World} (h : Own base n v w0 w) (o : Obj) : Own base n v w0 (w.alloc o) := by
  obtain ⟨⟨xs, hr⟩, hlo, hbel⟩ := h
  exact ⟨⟨xs, hr.alloc o⟩, by simp; omega, hbel.alloc hlo o⟩
theorem Own.after {base n : Nat} {v : Value} {w0 w w1 : World} (h : Own base n v w0 w) (hb : Below w.heap.size w w1) : Own base n v w0 w1 := by
  obtain ⟨⟨xs, hr⟩, hlo, hbel⟩ := h
  refine ⟨⟨xs, hr.1, ?_⟩, Nat.le_trans hlo hb.size, below_any hbel hb hlo⟩
  rcases hr.2 with h0 | ⟨g, cap, cur, e, h1, h2, h3⟩
  · exact .inl h0
  · exact .inr ⟨g, cap, cur, e, h1, (hb.block g (lt_of_heap h2)).trans h2, h3⟩
theorem Own.slice {base n : Nat} {v : Value} {w0 w : World} (h : Own base n v w0 w) (hn : n ≠ 0) : ∃ p cap, v = .slice p n cap := by
  obtain ⟨⟨xs, hr⟩, _, _⟩ := h
  rcases hr.2 with ⟨_, h0⟩ | ⟨g, cap, cur, e, _⟩
  · exact absurd h0 hn
  · exact ⟨_, cap, e⟩
theorem Own.start (w : World) : Own w.heap.size 0 (.slice none 0 0) w w := ⟨⟨[], World.ownsRow_nil _ _ _ _⟩, Nat.le_refl _, Below.refl _ _⟩

set_option maxRecDepth 20000 in
set_option maxHeartbeats 3200000 in
theorem encodeOne (w : World) :
    Calls Tryz.prog 68 #[.slice none 0 0, .agg #[.int .i64 3, .bool false, .int .i64 0, .string oneT, .string ⟨#[]⟩, .slice none 0 0]] w fun e w' => ∃ p cap, e = .returned (.slice p 8 cap) ∧ Below w.heap.size w w' := by
  obtain ⟨i0, hi, hz0, hz1, hz2⟩ := info_parts info5b
  obtain ⟨W0, hW0⟩ : ∃ W0, W0 = w.alloc (.cells #[.int .i64 3, .bool false, .int .i64 0, .string oneT, .string ⟨#[]⟩, .slice none 0 0] 28) := ⟨_, rfl⟩
  have S : Six W0 w.heap.size 3 false 0 oneT ⟨#[]⟩ none 0 0 := by rw [hW0]; exact six_new _ rfl
  have b0 : Below w.heap.size w W0 := by rw [hW0]; exact below1 _ _
  have O := Own.start W0
  have f0 := S.c0
  have HS : Hid (W0.heap.size = w.heap.size + 1) := Lib.hid (by rw [hW0]; simp)
  have H0 := Lib.hid hW0
  have hown := World.ownsRow_nil W0 W0.heap.size 5 1
  clear hW0
  go_enter Tryz.func68, Tryz.ntmps68
  go_wp2_with (at_builtin; rw [← H0.out]; refine wpList_append_own _ rfl _ _ 40 rfl W0.heap.size 5 i0 (.int .u8 0) 1 1 Tryz.underlying40 hi hz0 hz1 hz2 rfl (by decide) _ _ _ rfl (hown.alloc _) ⟨w.heap.size + 1, 0, none⟩ 1 1 [.int .u8 3] rfl rfl ?_ ?_ ?_ ?_ ?_ ?_)
  all_goals (try (first | rfl | (unfold maxLen; omega) | omega | (simp; omega) | (intro u hu; simp at hu; subst hu; rfl) | (rw [← HS.out]; exact cell_one_new _ _ _) | (simp; done)))
  intro v1 w1 hown1 hgrow _
  replace O := (O.alloc (.cells #[.int .u8 3] 5)).say hown1 hgrow
  clear hgrow hown1 hown
  have S1 := S.below O.bel
  go_wp2_with (first
    | ((with_reducible refine wpList_load6 (.tmp 3) w.heap.size S1 ?_ ?_ ?_ ?_); rfl; rfl; rfl)
    | (go_at_call 72; (with_reducible refine (kindOfAt 3 _ _ _ _ _ 85 rfl _).mono ?_); rintro e w2 ⟨rfl, hb2⟩; replace O := O.after hb2; have S2 := S.below O.bel; have f3 := S2.c3; clear hb2)
    | (simp only [ta85_80, ta85_81, ta85_82, ta85_83, ta85_84, ta85_85, ta85_87, ta85_88, ta85_89, ta85_90, ta85_91, Result.andThen_ok])
    | (go_at_call 108; (with_reducible refine (encodeText1 W0.heap.size _ _ W0 _ O (by omega)).mono ?_); rintro e w3 ⟨v3, rfl, O3⟩))
  go_ret
  obtain ⟨p, cap, rfl⟩ := O3.slice (by omega)
  exact ⟨p, cap, rfl, below_any b0 O3.bel b0.size⟩
end Go.Proofs.YtoifjjgakblhhaaGreatDoor

/- The text of the decimal 1.0. -/
namespace Go.Proofs.YtoifjjgakblhhaaGreatDoor
open Go.RowKit

set_option maxRecDepth 20000 in
set_option maxHeartbeats 3200000 in
theorem showOne (w : World) :
    Calls Tryz.prog 40 #[.slice none 0 0, .agg #[.int .i64 3, .bool false, .int .i64 0, .string oneT, .string ⟨#[]⟩, .slice none 0 0]] w fun e w' => ∃ g cap, e = .returned (.slice (some ⟨g, 0, none⟩) 3 cap) ∧ (∀ j, j < 3 → w'.cell? ⟨g, j, none⟩ = (Lib.strCells oneT)[j]?) ∧ Below w.heap.size w w' := by
  obtain ⟨i0, hi, hz0, hz1, hz2⟩ := info_parts info5b
  obtain ⟨W0, hW0⟩ : ∃ W0, W0 = w.alloc (.cells #[.int .i64 3, .bool false, .int .i64 0, .string oneT, .string ⟨#[]⟩, .slice none 0 0] 28) := ⟨_, rfl⟩
  have S : Six W0 w.heap.size 3 false 0 oneT ⟨#[]⟩ none 0 0 := by rw [hW0]; exact six_new _ rfl
  have b0 : Below w.heap.size w W0 := by rw [hW0]; exact below1 _ _
  have H0 := Lib.hid hW0
  clear hW0
  go_enter Tryz.func40, Tryz.ntmps40
  go_wp2_with (first
    | (rw [← H0.out]; (with_reducible refine wpList_load6 (.tmp 3) w.heap.size S ?_ ?_ ?_ ?_); rfl; rfl; rfl)
    | (go_at_call 72; (with_reducible refine (kindOfAt 3 _ _ _ _ _ 85 rfl _).mono ?_); rintro e w2 ⟨rfl, hb2⟩; have b2 := below_any b0 hb2 b0.size; have S2 := S.below hb2; have f3 := S2.c3; have hown := World.ownsRow_nil w2 w2.heap.size 5 1; clear hb2)
    | (simp only [ta85_80, ta85_81, ta85_82, ta85_83, ta85_84, ta85_85, ta85_87, ta85_88, ta85_89, ta85_90, ta85_91, Result.andThen_ok])
    | (at_builtin; refine Lib.wpList_append_own_string _ rfl _ _ 40 9 rfl w2.heap.size 5 i0 Tryz.underlying40 Tryz.underlying9 hi hz0 hz1 hz2 (.slice none 0 0) 0 [] rfl hown oneT rfl ?_ ?_ (Nat.le_refl _) ?_))
  all_goals (try (first | rfl | (show 0 + 3 ≤ maxLen; unfold maxLen; omega) | (show 0 + 3 ≤ 140737488355328; omega)))
  intro v' w3 hown' hgrow _
  have b3 : Below w.heap.size w w3 := b2.grown hgrow b2.size (fun k hk => by simp [Value.ownBlock] at hk)
  clear hgrow hown
  have hown2 : w3.ownsRow w2.heap.size 5 1 v' 3 (Lib.strCells oneT) := hown'
  rcases hown2.2 with ⟨_, h0⟩ | ⟨g, cap, cur, rfl, _⟩
  · exact absurd h0 (by omega)
  · have hc := fun j hj => hown2.cellAt j hj
    clear hown' hown2
    go_wp2_with fail
    go_ret
    exact ⟨g, cap, rfl, fun j hj => hc j (by omega), b3⟩

theorem one_may : mayP (.mk 3 false 0 oneT ⟨#[]⟩ []) 0 = true := by
  unfold mayP fitsP
  decide +kernel
theorem whole_may : mayP (.mk 2 false 1 ⟨#[]⟩ ⟨#[]⟩ []) 0 = true := by
  unfold mayP fitsP
  decide +kernel
theorem one_equal : equalTop 0 (.mk 2 false 1 ⟨#[]⟩ ⟨#[]⟩ []) (.mk 3 false 0 oneT ⟨#[]⟩ []) = 1 := by
  unfold equalTop
  rw [one_may, whole_may]
  unfold equalP
  decide +kernel
theorem one_same : sameP (.mk 2 false 1 ⟨#[]⟩ ⟨#[]⟩ []) (.mk 3 false 0 oneT ⟨#[]⟩ []) = false := by
  unfold sameP
  simp

set_option maxRecDepth 20000 in
set_option maxHeartbeats 3200000 in
theorem textOne (w : World) (hG : Gd w) :
    Calls Tryz.prog 15 #[.agg #[.int .i64 3, .bool false, .int .i64 0, .string oneT, .string ⟨#[]⟩, .slice none 0 0]] w fun e w' => e = .returned (.string oneT) ∧ Below w.heap.size w w' := by
  obtain ⟨W0, hW0⟩ : ∃ W0, W0 = w.alloc (.cells #[.int .i64 3, .bool false, .int .i64 0, .string oneT, .string ⟨#[]⟩, .slice none 0 0] 28) := ⟨_, rfl⟩
  have S : Six W0 w.heap.size 3 false 0 oneT ⟨#[]⟩ none 0 0 := by rw [hW0]; exact six_new _ rfl
  have b0 : Below w.heap.size w W0 := by rw [hW0]; exact below1 _ _
  have hc := fun W (h : Below w.heap.size w W) => checkAtV (.mk 3 false 0 oneT ⟨#[]⟩ []) 3 false 0 oneT ⟨#[]⟩ [] (.slice none 0 0) W rfl (hG.below h) (by decide) (by decide) (by unfold Held; exact ⟨none, 0, rfl⟩)
  rw [one_may] at hc
  have H0 := Lib.hid hW0
  clear hW0
  go_enter Tryz.func15, Tryz.ntmps15
  go_wp2_with (first
    | ((try rw [← H0.out]); (with_reducible refine wpList_load6 (.tmp 1) w.heap.size S ?_ ?_ ?_ ?_); rfl; rfl; rfl)
    | (go_at_call 13; (with_reducible refine (hc _ b0).mono ?_); rintro e w' ⟨rfl, hb⟩; replace S := S.below hb; replace b0 := below_any b0 hb b0.size; clear hb)
    | (go_at_call 40; (with_reducible refine (showOne _).mono ?_); rintro e w3 ⟨g, cap, rfl, hcs, hb3⟩; have b3 := below_any b0 hb3 b0.size; have hconv := run_convert_bytes_back (P := Tryz.prog) w3 40 9 5 ⟨g, 0, none⟩ cap [49, 46, 48] Tryz.underlying40 Tryz.underlying5 Tryz.underlying9 (fun j hj => by rw [Addr.add_mid, Nat.zero_add, hcs j hj]; match j, hj with | 0, _ => rfl | 1, _ => rfl | 2, _ => rfl); clear hb3 hcs; have hconv : (convert 40 9 (.slice (some ⟨g, 0, none⟩) 3 cap)).run Tryz.prog w3 = .ok (.string oneT) w3 := hconv))
  go_ret
  exact ⟨rfl, b3⟩
end Go.Proofs.YtoifjjgakblhhaaGreatDoor

/- What each law of package value ends in: it holds. -/
namespace Go.Proofs.YtoifjjgakblhhaaGreatDoor
open Go.RowKit

set_option maxRecDepth 20000 in
set_option maxHeartbeats 3200000 in
theorem encodeC1 (w : World) (hG : Gd w) :
    Calls Tryz.prog 28 #[.agg #[.int .i64 3, .bool false, .int .i64 0, .string oneT, .string ⟨#[]⟩, .slice none 0 0]] w fun e w' => ∃ p cap, e = .returned (.tuple #[.slice p 8 cap, .int .i64 0]) ∧ Below w.heap.size w w' := by
  obtain ⟨W0, hW0⟩ : ∃ W0, W0 = w.alloc (.cells #[.int .i64 3, .bool false, .int .i64 0, .string oneT, .string ⟨#[]⟩, .slice none 0 0] 28) := ⟨_, rfl⟩
  have S : Six W0 w.heap.size 3 false 0 oneT ⟨#[]⟩ none 0 0 := by rw [hW0]; exact six_new _ rfl
  have b0 : Below w.heap.size w W0 := by rw [hW0]; exact below1 _ _
  have hc := fun W (h : Below w.heap.size w W) => checkAtV (.mk 3 false 0 oneT ⟨#[]⟩ []) 3 false 0 oneT ⟨#[]⟩ [] (.slice none 0 0) W rfl (hG.below h) (by decide) (by decide) (by unfold Held; exact ⟨none, 0, rfl⟩)
  rw [one_may] at hc
  have H0 := Lib.hid hW0
  clear hW0
  go_enter Tryz.func28, Tryz.ntmps28
  go_wp2_with (first
    | ((try rw [← H0.out]); (with_reducible refine wpList_load6 (.tmp 1) w.heap.size S ?_ ?_ ?_ ?_); rfl; rfl; rfl)
    | (go_at_call 13; (with_reducible refine (hc _ b0).mono ?_); rintro e w' ⟨rfl, hb⟩; replace S := S.below hb; replace b0 := below_any b0 hb b0.size; clear hb)
    | (go_at_call 68; (with_reducible refine (encodeOne _).mono ?_); rintro e w3 ⟨p, cap, rfl, hb3⟩; have b3 := below_any b0 hb3 b0.size; clear hb3))
  go_ret2
  exact ⟨_, _, rfl, b3⟩

set_option maxRecDepth 20000 in
set_option maxHeartbeats 3200000 in
theorem wakesAt (w : World) (hG : Gd w) (hT : Tab w) :
    Calls Tryz.prog 11 #[] w fun e w' => e = .returned (.bool true) ∧ Below w.heap.size w w' := by
  obtain ⟨W0, hW0⟩ : ∃ W0, W0 = (w.alloc (.cells #[.int .i64 2, .bool false, .int .i64 1, .string ⟨#[]⟩, .string ⟨#[]⟩, .slice none 0 0] 28)).alloc (.cells #[.int .i64 3, .bool false, .int .i64 0, .string oneT, .string ⟨#[]⟩, .slice none 0 0] 28) := ⟨_, rfl⟩
  have S4 : Six W0 w.heap.size 2 false 1 ⟨#[]⟩ ⟨#[]⟩ none 0 0 := by rw [hW0]; exact (six_new _ rfl).alloc _
  have S5 : Six W0 (w.heap.size + 1) 3 false 0 oneT ⟨#[]⟩ none 0 0 := by rw [hW0]; exact six_new _ (by simp)
  have b0 : Below w.heap.size w W0 := by rw [hW0]; exact below2 _ _ _
  have hd : ∀ W : World, Held W (.slice none 0 0) [] := fun W => by unfold Held; exact ⟨none, 0, rfl⟩
  have f1 : Fine 1 ⟨#[]⟩ ⟨#[]⟩ (List.length (α := Val) []) := ⟨by decide, by decide, by decide, by decide, by decide⟩
  have f2 : Fine 0 oneT ⟨#[]⟩ (List.length (α := Val) []) := ⟨by decide, by decide, by decide, by decide, by decide⟩
  have hc1 := fun W (h : Below w.heap.size w W) => checkAtV (.mk 2 false 1 ⟨#[]⟩ ⟨#[]⟩ []) 2 false 1 ⟨#[]⟩ ⟨#[]⟩ [] (.slice none 0 0) W rfl (hG.below h) (by decide) (by decide) (hd W)
  have hc2 := fun W (h : Below w.heap.size w W) => checkAtV (.mk 3 false 0 oneT ⟨#[]⟩ []) 3 false 0 oneT ⟨#[]⟩ [] (.slice none 0 0) W rfl (hG.below h) (by decide) (by decide) (hd W)
  have he : ∀ W, Below w.heap.size w W → Calls Tryz.prog 19 #[.int .i64 0, .agg #[.int .i64 2, .bool false, .int .i64 1, .string ⟨#[]⟩, .string ⟨#[]⟩, .slice none 0 0], .agg #[.int .i64 3, .bool false, .int .i64 0, .string oneT, .string ⟨#[]⟩, .slice none 0 0]] W fun e w' => e = .returned (.int .i64 (equalTop 0 (.mk 2 false 1 ⟨#[]⟩ ⟨#[]⟩ []) (.mk 3 false 0 oneT ⟨#[]⟩ []))) ∧ Below W.heap.size W w' := fun W h => EqualC 0 2 false 1 ⟨#[]⟩ ⟨#[]⟩ [] none 0 3 false 0 oneT ⟨#[]⟩ [] none 0 W (hG.below h) (hT.below h) f1 f2 (hd W) (hd W)
  have hs : ∀ W, Calls Tryz.prog 17 #[.agg #[.int .i64 2, .bool false, .int .i64 1, .string ⟨#[]⟩, .string ⟨#[]⟩, .slice none 0 0], .agg #[.int .i64 3, .bool false, .int .i64 0, .string oneT, .string ⟨#[]⟩, .slice none 0 0]] W fun e w' => e = .returned (.bool (sameP (.mk 2 false 1 ⟨#[]⟩ ⟨#[]⟩ []) (.mk 3 false 0 oneT ⟨#[]⟩ []))) ∧ Below W.heap.size W w' := fun W => sameAtV 2 false 1 ⟨#[]⟩ ⟨#[]⟩ [] none 0 3 false 0 oneT ⟨#[]⟩ [] none 0 W f1 (hd W) (hd W)
  have hx := fun W (h : Below w.heap.size w W) => encodeC1 W (hG.below h)
  have ht := fun W (h : Below w.heap.size w W) => textOne W (hG.below h)
  rw [whole_may] at hc1
  rw [one_may] at hc2
  rw [one_equal] at he
  rw [one_same] at hs
  have H0 := Lib.hid hW0
  clear hW0 hd f1 f2 hG hT
  have ho : (⟨#[49, 46, 48]⟩ : ByteArray) = oneT := rfl
  go_enter Tryz.func11, Tryz.ntmps11
  rw [ho]
  go_wp2_with (first
    | ((try rw [← H0.out]); (with_reducible refine wpList_load6g (.tmp 1) w.heap.size S4 ?_ ?_ ?_ ?_); rfl; rfl; rfl)
    | ((try rw [← H0.out]); (with_reducible refine wpList_load6g (.tmp 2) (w.heap.size + 1) S5 ?_ ?_ ?_ ?_); rfl; rfl; rfl)
    | (go_at_call 28; (with_reducible refine (hx _ b0).mono ?_); rintro e w' ⟨p, cap, rfl, hb⟩; replace S4 := S4.below hb; replace S5 := S5.below hb; replace b0 := below_any b0 hb b0.size; clear hb)
    | (go_at_call 13; (with_reducible refine (hc1 _ b0).mono ?_); rintro e w' ⟨rfl, hb⟩; replace S4 := S4.below hb; replace S5 := S5.below hb; replace b0 := below_any b0 hb b0.size; clear hb)
    | (go_at_call 13; (with_reducible refine (hc2 _ b0).mono ?_); rintro e w' ⟨rfl, hb⟩; replace S4 := S4.below hb; replace S5 := S5.below hb; replace b0 := below_any b0 hb b0.size; clear hb)
    | (go_at_call 19; (with_reducible refine (he _ b0).mono ?_); rintro e w' ⟨rfl, hb⟩; replace S4 := S4.below hb; replace S5 := S5.below hb; replace b0 := below_any b0 hb b0.size; clear hb)
    | (go_at_call 17; (with_reducible refine (hs _).mono ?_); rintro e w' ⟨rfl, hb⟩; replace S4 := S4.below hb; replace S5 := S5.below hb; replace b0 := below_any b0 hb b0.size; clear hb)
    | (go_at_call 15; (with_reducible refine (ht _ b0).mono ?_); rintro e w' ⟨rfl, hb⟩; replace S4 := S4.below hb; replace S5 := S5.below hb; replace b0 := below_any b0 hb b0.size; clear hb))
  go_ret
  exact ⟨rfl, b0⟩
end Go.Proofs.YtoifjjgakblhhaaGreatDoor

/- What a law's round keeps: its argument's box; the value that has nothing in it. -/
namespace Go.Proofs.YtoifjjgakblhhaaGreatDoor
open Go.RowKit

/-- What the law's round keeps: its argument's box; what lay below. -/
structure LInv (w : World) (L ln : Value) (W : World) : Prop where
  cell : W.cell? ⟨w.heap.size, 0, none⟩ = some L
  cell1 : W.cell? ⟨w.heap.size, 1, none⟩ = some ln
  lt : w.heap.size < W.heap.size
  bel : Below w.heap.size w W
theorem LInv.step {w W W2 : World} {L ln : Value} (h : LInv w L ln W) (k : Below W.heap.size W W2) : LInv w L ln W2 :=
  ⟨(k.cell (p := ⟨w.heap.size, 0, none⟩) h.lt).trans h.cell, (k.cell (p := ⟨w.heap.size, 1, none⟩) h.lt).trans h.cell1, Nat.lt_of_lt_of_le h.lt k.size, below_any h.bel k (Nat.le_of_lt h.lt)⟩
theorem LInv.start (w : World) (L ln : Value) : LInv w L ln (w.alloc (.cells #[L, ln] 24)) :=
  ⟨cell_of (heap_new _ _ rfl) _ rfl, cell_of (heap_new _ _ rfl) _ rfl, by simp, below1 _ _⟩
end Go.Proofs.YtoifjjgakblhhaaGreatDoor

/- How two values that go by their texts stand: kind 0. -/
namespace Go.Proofs.YtoifjjgakblhhaaGreatDoor
open Go.RowKit

set_option maxRecDepth 20000 in
set_option maxHeartbeats 12800000 in
theorem withinText0 (lang k : Int) (b : Bool) (n : Int) (t x : ByteArray) (q : List Val) (p : Option Addr) (cap : Nat) (k2 : Int) (b2 : Bool) (n2 : Int) (t2 x2 : ByteArray) (q2 : List Val) (p2 : Option Addr) (cap2 : Nat) (w : World) (hk0 : k = 0) :
    Calls Tryz.prog 55 #[.int .i64 lang, .agg #[.int .i64 k, .bool b, .int .i64 n, .string t, .string x, .slice p q.length cap], .agg #[.int .i64 k2, .bool b2, .int .i64 n2, .string t2, .string x2, .slice p2 q2.length cap2]] w fun e w' => e = .returned (.int .i64 (lexI (bytesI t.toList t2.toList) (bytesI x.toList x2.toList))) ∧ Below w.heap.size w w' := by
  obtain ⟨W0, hW0⟩ : ∃ W0, W0 = ((w.alloc (.cells #[.int .i64 lang] 3)).alloc (.cells #[.int .i64 k, .bool b, .int .i64 n, .string t, .string x, .slice p q.length cap] 28)).alloc (.cells #[.int .i64 k2, .bool b2, .int .i64 n2, .string t2, .string x2, .slice p2 q2.length cap2] 28) := ⟨_, rfl⟩
  have S4 : Six W0 (w.heap.size + 1) k b n t x p q.length cap := by rw [hW0]; exact (six_new _ (by simp)).alloc _
  have S5 : Six W0 (w.heap.size + 2) k2 b2 n2 t2 x2 p2 q2.length cap2 := by rw [hW0]; exact six_new _ (by simp)
  have b0 : Below w.heap.size w W0 := by rw [hW0]; exact below3 _ _ _ _
  have c0 : W0.cell? ⟨w.heap.size, 0, none⟩ = some (.int .i64 lang) := by
    rw [hW0]
    have e : (w.alloc (.cells #[.int .i64 lang] 3)).cell? ⟨w.heap.size, 0, none⟩ = some (.int .i64 lang) := cell_of (heap_new _ _ rfl) _ rfl
    exact ((below2 _ _ _).cell (p := ⟨w.heap.size, 0, none⟩) (by simp)).trans e
  have H0 := Lib.hid hW0
  clear hW0
  subst hk0
  go_enter Tryz.func55, Tryz.ntmps55
  go_wp2_with (first
    | (rw [← H0.out]; (with_reducible refine wpList_load6 (.tmp 4) (w.heap.size + 1) S4 ?_ ?_ ?_ ?_); rfl; rfl; rfl)
    | ((with_reducible refine wpList_load6 (.tmp 4) (w.heap.size + 1) S4 ?_ ?_ ?_ ?_); rfl; rfl; rfl)
    | ((with_reducible refine wpList_load6 (.tmp 5) (w.heap.size + 2) S5 ?_ ?_ ?_ ?_); rfl; rfl; rfl)
    | (go_at_call 72; (with_reducible refine (kindOfAt 0 b n t x _ 80 rfl _).mono ?_); rintro e w' ⟨rfl, hb⟩; replace S4 := S4.below hb; replace S5 := S5.below hb; replace c0 := (hb.cell (p := ⟨w.heap.size, 0, none⟩) (World.block_lt_of_cell? _ _ c0)).trans c0; replace b0 := below_any b0 hb b0.size; have f1 := S4.c1; have f2 := S4.c2; have f5 := S4.c5; have g1 := S5.c1; have g2 := S5.c2; have g5 := S5.c5; clear hb)
    | (simp only [ta80_91, ta80_83, ta80_84, ta80_81, ta80_82, ta80_85, Result.andThen_ok]))
  obtain ⟨N, hN⟩ : ∃ N, N = w'.heap.size := ⟨_, rfl⟩
  refine wp_region_held_drew (S := fun w' => Six w' (w.heap.size + 1) 0 b n t x p q.length cap ∧ Six w' (w.heap.size + 2) k2 b2 n2 t2 x2 p2 q2.length cap2 ∧ Below w.heap.size w w' ∧ Hid (N < w'.heap.size → w'.cell? ⟨N, 0, none⟩ = some (.int .i64 (bytesI t.toList t2.toList)) ∧ w'.cell? ⟨N, 1, none⟩ = some (.int .i64 (bytesI x.toList x2.toList)))) (by kernel_rfl) ⟨S4, S5, b0.drew, Lib.hid fun h => absurd h (by rw [hN]; exact Nat.lt_irrefl _)⟩ (fun hHeld => ?_)
  refine wpAnyH_take (i := 0) (v := .pointer (some ⟨w.heap.size + 1, 3, none⟩)) rfl (by kernel_rfl) (by kernel_rfl) (by kernel_rfl) (fun _ _ _ h => h) (Or.inl ⟨by rfl, fun W _ => by go_simp⟩) hHeld ?_
  try simp only [Act.put, List.getElem_toArray, List.getElem_cons_succ, List.getElem_cons_zero, List.setIfInBounds_toArray, List.set_cons_zero, List.set_cons_succ]
  refine wpAnyH_take (i := 1) (v := .string t) rfl (by kernel_rfl) (by kernel_rfl) (by kernel_rfl) (fun _ _ _ h => h) (Or.inl ⟨by rfl, fun W h => by have c0 := h.1.c3; go_simp⟩) hHeld ?_
  try simp only [Act.put, List.getElem_toArray, List.getElem_cons_succ, List.getElem_cons_zero, List.setIfInBounds_toArray, List.set_cons_zero, List.set_cons_succ]
  refine wpAnyH_take (i := 2) (v := .pointer (some ⟨w.heap.size + 2, 3, none⟩)) rfl (by kernel_rfl) (by kernel_rfl) (by kernel_rfl) (fun _ _ _ h => h) (Or.inl ⟨by rfl, fun W _ => by go_simp⟩) hHeld ?_
  try simp only [Act.put, List.getElem_toArray, List.getElem_cons_succ, List.getElem_cons_zero, List.setIfInBounds_toArray, List.set_cons_zero, List.set_cons_succ]
  refine wpAnyH_take (i := 3) (v := .string t2) rfl (by kernel_rfl) (by kernel_rfl) (by kernel_rfl) (fun _ _ _ h => h) (Or.inl ⟨by rfl, fun W h => by have c0 := h.2.1.c3; go_simp⟩) hHeld ?_
  try simp only [Act.put, List.getElem_toArray, List.getElem_cons_succ, List.getElem_cons_zero, List.setIfInBounds_toArray, List.set_cons_zero, List.set_cons_succ]
  refine wpAnyH_take (i := 5) (v := .pointer (some ⟨w.heap.size + 1, 4, none⟩)) rfl (by kernel_rfl) (by kernel_rfl) (by kernel_rfl) (fun _ _ _ h => h) (Or.inl ⟨by rfl, fun W _ => by go_simp⟩) hHeld ?_
  try simp only [Act.put, List.getElem_toArray, List.getElem_cons_succ, List.getElem_cons_zero, List.setIfInBounds_toArray, List.set_cons_zero, List.set_cons_succ]
  refine wpAnyH_take (i := 6) (v := .string x) rfl (by kernel_rfl) (by kernel_rfl) (by kernel_rfl) (fun _ _ _ h => h) (Or.inl ⟨by rfl, fun W h => by have c0 := h.1.c4; go_simp⟩) hHeld ?_
  try simp only [Act.put, List.getElem_toArray, List.getElem_cons_succ, List.getElem_cons_zero, List.setIfInBounds_toArray, List.set_cons_zero, List.set_cons_succ]
  refine wpAnyH_take (i := 7) (v := .pointer (some ⟨w.heap.size + 2, 4, none⟩)) rfl (by kernel_rfl) (by kernel_rfl) (by kernel_rfl) (fun _ _ _ h => h) (Or.inl ⟨by rfl, fun W _ => by go_simp⟩) hHeld ?_
  try simp only [Act.put, List.getElem_toArray, List.getElem_cons_succ, List.getElem_cons_zero, List.setIfInBounds_toArray, List.set_cons_zero, List.set_cons_succ]
  refine wpAnyH_take (i := 8) (v := .string x2) rfl (by kernel_rfl) (by kernel_rfl) (by kernel_rfl) (fun _ _ _ h => h) (Or.inl ⟨by rfl, fun W h => by have c0 := h.2.1.c4; go_simp⟩) hHeld ?_
  try simp only [Act.put, List.getElem_toArray, List.getElem_cons_succ, List.getElem_cons_zero, List.setIfInBounds_toArray, List.set_cons_zero, List.set_cons_succ]
  obtain ⟨u1, u2, u3, u4⟩ := hHeld
  refine wpAnyH_ready (rs := [4]) (by kernel_rfl) (by simp) ?_
  refine AllReadyH.cons rfl (fun K hK => ?_) AllReadyH.nil
  rw [if_pos (by rfl)]
  go_simp
  refine (strCmpAt t t2 _).mono ?_
  rintro e w3 ⟨rfl, rfl⟩
  refine hK.out _ _ ⟨u1, u2, u3, u4⟩ (fun hHeld => ?_)
  clear hK K u1 u2 u3 u4
  try simp only [Act.put, List.getElem_toArray, List.getElem_cons_succ, List.getElem_cons_zero, List.setIfInBounds_toArray, List.set_cons_zero, List.set_cons_succ]
  obtain ⟨u1, u2, u3, u4⟩ := hHeld
  refine wpAnyH_ready (rs := [9]) (by kernel_rfl) (by simp) ?_
  refine AllReadyH.cons rfl (fun K hK => ?_) AllReadyH.nil
  rw [if_pos (by rfl)]
  go_simp
  refine (strCmpAt x x2 _).mono ?_
  rintro e w3 ⟨rfl, rfl⟩
  refine hK.out _ _ ⟨u1, u2, u3, u4⟩ (fun hHeld => ?_)
  clear hK K u1 u2 u3 u4
  try simp only [Act.put, List.getElem_toArray, List.getElem_cons_succ, List.getElem_cons_zero, List.setIfInBounds_toArray, List.set_cons_zero, List.set_cons_succ]
  obtain ⟨u1, u2, u3, u4⟩ := hHeld
  refine wpAnyH_ready (rs := [10]) (by kernel_rfl) (by simp) ?_
  refine AllReadyH.cons rfl (fun K hK => ?_) AllReadyH.nil
  go_simp
  rw [← hN]
  have x4 : Six (w'.alloc (Obj.cells #[.int .i64 (bytesI t.toList t2.toList), .int .i64 (bytesI x.toList x2.toList)] 3)) (w.heap.size + 1) 0 b n t x p q.length cap := S4.alloc _
  have x5 : Six (w'.alloc (Obj.cells #[.int .i64 (bytesI t.toList t2.toList), .int .i64 (bytesI x.toList x2.toList)] 3)) (w.heap.size + 2) k2 b2 n2 t2 x2 p2 q2.length cap2 := S5.alloc _
  have xb : Below w.heap.size w (w'.alloc (Obj.cells #[.int .i64 (bytesI t.toList t2.toList), .int .i64 (bytesI x.toList x2.toList)] 3)).drew := (b0.alloc b0.size _).drew
  have y0 : (w'.alloc (Obj.cells #[.int .i64 (bytesI t.toList t2.toList), .int .i64 (bytesI x.toList x2.toList)] 3)).cell? ⟨N, 0, none⟩ = some (.int .i64 (bytesI t.toList t2.toList)) := cell_of (heap_new w' _ hN.symm) 0 rfl
  have y1 : (w'.alloc (Obj.cells #[.int .i64 (bytesI t.toList t2.toList), .int .i64 (bytesI x.toList x2.toList)] 3)).cell? ⟨N, 1, none⟩ = some (.int .i64 (bytesI x.toList x2.toList)) := cell_of (heap_new w' _ hN.symm) 1 rfl
  have ys : N < (w'.alloc (Obj.cells #[.int .i64 (bytesI t.toList t2.toList), .int .i64 (bytesI x.toList x2.toList)] 3)).drew.heap.size := by rw [hN]; show w'.heap.size < (w'.alloc _).heap.size; simp
  generalize (w'.alloc (Obj.cells #[.int .i64 (bytesI t.toList t2.toList), .int .i64 (bytesI x.toList x2.toList)] 3)) = V at x4 x5 xb y0 y1 ys ⊢
  clear u1 u2 u3 u4
  refine hK.out _ _ ⟨x4, x5, xb, Lib.hid fun _ => ⟨y0, y1⟩⟩ (fun hHeld => ?_)
  clear hK K
  try simp only [Act.put, List.getElem_toArray, List.getElem_cons_succ, List.getElem_cons_zero, List.setIfInBounds_toArray, List.set_cons_zero, List.set_cons_succ]
  obtain ⟨u1, u2, u3, u4⟩ := hHeld
  obtain ⟨v0, v1⟩ := u4.out ys
  refine wpAnyH_ready (rs := [11]) (by kernel_rfl) (by simp) ?_
  refine AllReadyH.cons rfl (fun K hK => ?_) AllReadyH.nil
  rw [if_pos (by rfl)]
  go_simp
  rw [hN] at v0 v1
  with_reducible refine (orAt _ _ _ _ v0 v1).mono ?_
  rintro e w3 ⟨rfl, rfl⟩
  refine hK.out _ _ ⟨u1, u2, u3, u4⟩ (fun hHeld => ?_)
  clear hK K u1 u2 u4 v0 v1
  try simp only [Act.put, List.getElem_toArray, List.getElem_cons_succ, List.getElem_cons_zero, List.setIfInBounds_toArray, List.set_cons_zero, List.set_cons_succ]
  refine wpAnyH_ready (rs := [12]) (by kernel_rfl) (by simp) ?_
  refine AllReadyH.cons rfl (fun K hK => ?_) AllReadyH.nil
  go_simp
  refine hK.out _ _ hHeld (fun _ => ?_)
  clear hK K hHeld
  try simp only [Act.put, List.getElem_toArray, List.getElem_cons_succ, List.getElem_cons_zero, List.setIfInBounds_toArray, List.set_cons_zero, List.set_cons_succ]
  refine wpAnyH_done (by kernel_rfl) ?_ _
  go_wp2_with fail
  go_ret
  exact ⟨rfl, u3⟩
end Go.Proofs.YtoifjjgakblhhaaGreatDoor
