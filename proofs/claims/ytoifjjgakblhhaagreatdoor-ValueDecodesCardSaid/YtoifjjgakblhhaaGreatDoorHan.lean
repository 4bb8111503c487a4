/- Texts of one kind, one behind the other: each says ahead of itself what it shows. -/
import Derived.Test.YtoifjjgakblhhaaGreatDoorHam
import Derived.Test.YtoifjjgakblhhaaGreatDoorHal
import Derived.Test.YtoifjjgakblhhaaGreatDoorHai
import Derived.Deep.LoopGhost
import Derived.Laws.BitsAllLaws
import Derived.Laws.BytesArg
import Derived.Test.YtoifjjgakblhhaaGreatDoorHak
import Derived.BigGuardPart
import Derived.Deep.DeepCutAuto
/- Equal, for values in one another. -/
namespace Go.Proofs.YtoifjjgakblhhaaGreatDoor
open Go.RowKit

theorem equal_step (lang : Int) (v : Val) (k : Int) (b : Bool) (n : Int) (t x : ByteArray) (q : List Val) (ev : v = .mk k b n t x q) (each : ∀ u ∈ q, EqualAt lang u) : EqualAt lang v := by
  subst ev
  intro w k1 b1 n1 t1 x1 q1 p cap k2 b2 n2 t2 x2 q2 p2 cap2 v2 e1 e2 hG hT hf hf2 hl hl2
  cases e1
  subst e2
  by_cases n0 : k = 0
  · exact equalPlain lang k b n t x q p cap k2 b2 n2 t2 x2 q2 p2 cap2 w hG hT hf hf2 hl hl2 each (.inl n0)
  · by_cases n1 : k2 = 0
    · exact equalPlain lang k b n t x q p cap k2 b2 n2 t2 x2 q2 p2 cap2 w hG hT hf hf2 hl hl2 each (.inr (.inl n1))
    · cases h1 : numB k with
      | false => exact equalNot1 lang k b n t x q p cap k2 b2 n2 t2 x2 q2 p2 cap2 w hG hT hf hf2 hl hl2 each n0 n1 h1
      | true =>
        cases h2 : numB k2 with
        | false => exact equalNot2 lang k b n t x q p cap k2 b2 n2 t2 x2 q2 p2 cap2 w hG hT hf hf2 hl hl2 each n0 n1 h1 h2
        | true => exact equalPlain lang k b n t x q p cap k2 b2 n2 t2 x2 q2 p2 cap2 w hG hT hf hf2 hl hl2 each (.inr (.inr ⟨h1, h2⟩))
mutual
theorem equalAll (lang : Int) : (v : Val) → EqualAt lang v
  | .mk k b n t x q => equal_step lang _ k b n t x q rfl (equalEach lang q)
theorem equalEach (lang : Int) : (q : List Val) → ∀ u ∈ q, EqualAt lang u
  | [], _, h => absurd h (by simp)
  | v :: r, u, h => by
    rcases List.mem_cons.1 h with h | h
    · rw [h]; exact equalAll lang v
    · exact equalEach lang r u h
end
/-- Equal, of any two values. -/
def equalTop (lang : Int) (v v2 : Val) : Int := if mayP v 0 && mayP v2 0 then equalP lang v v2 else 2
theorem e3_top (lang : Int) (v v2 : Val) : E3 (equalTop lang v v2) := by
  unfold equalTop
  split
  · exact e3_equal _ _ _
  · exact .inr (.inr rfl)

set_option maxHeartbeats 1600000 in
theorem EqualC (lang : Int) (k : Int) (b : Bool) (n : Int) (t x : ByteArray) (q : List Val) (p : Option Addr) (cap : Nat) (k2 : Int) (b2 : Bool) (n2 : Int) (t2 x2 : ByteArray) (q2 : List Val) (p2 : Option Addr) (cap2 : Nat) (w : World) (hG : Gd w) (hT : Tab w) (hf : Fine n t x q.length) (hf2 : Fine n2 t2 x2 q2.length) (hl : Held w (.slice p q.length cap) q) (hl2 : Held w (.slice p2 q2.length cap2) q2) :
    Calls Tryz.prog 19 #[.int .i64 lang, .agg #[.int .i64 k, .bool b, .int .i64 n, .string t, .string x, .slice p q.length cap], .agg #[.int .i64 k2, .bool b2, .int .i64 n2, .string t2, .string x2, .slice p2 q2.length cap2]] w fun e w' => e = .returned (.int .i64 (equalTop lang (.mk k b n t x q) (.mk k2 b2 n2 t2 x2 q2))) ∧ Below w.heap.size w w' := by
  obtain ⟨W0, hW0⟩ : ∃ W0, W0 = (w.alloc (.cells #[.int .i64 k, .bool b, .int .i64 n, .string t, .string x, .slice p q.length cap] 28)).alloc (.cells #[.int .i64 k2, .bool b2, .int .i64 n2, .string t2, .string x2, .slice p2 q2.length cap2] 28) := ⟨_, rfl⟩
  have S4 : Six W0 w.heap.size k b n t x p q.length cap := by rw [hW0]; exact (six_new _ rfl).alloc _
  have S5 : Six W0 (w.heap.size + 1) k2 b2 n2 t2 x2 p2 q2.length cap2 := by rw [hW0]; exact six_new _ (by simp)
  have b0 : Below w.heap.size w W0 := by rw [hW0]; exact below2 _ _ _
  have f0 := S4.c0
  have g0 := S5.c0
  have H0 := Lib.hid hW0
  have hc1 := fun W (h : Below w.heap.size w W) => checkAtV (.mk k b n t x q) k b n t x q (.slice p q.length cap) W rfl (hG.below h) hf.ht hf.hx (Held.below q hl h)
  have hc2 := fun W (h : Below w.heap.size w W) => checkAtV (.mk k2 b2 n2 t2 x2 q2) k2 b2 n2 t2 x2 q2 (.slice p2 q2.length cap2) W rfl (hG.below h) hf2.ht hf2.hx (Held.below q2 hl2 h)
  have he := fun W (h : Below w.heap.size w W) => equalAll lang (.mk k b n t x q) W k b n t x q p cap k2 b2 n2 t2 x2 q2 p2 cap2 (.mk k2 b2 n2 t2 x2 q2) rfl rfl (hG.below h) (hT.below h) hf hf2 (Held.below q hl h) (Held.below q2 hl2 h)
  clear hl hl2 hf hf2 hG hT hW0
  unfold equalTop
  cases m1 : mayP (.mk k b n t x q) 0 with
  | false =>
    rw [m1] at hc1
    rw [Bool.false_and, if_neg (by simp)]
    clear hc2 he
    go_enter Tryz.func19, Tryz.ntmps19
    go_wp2_with fail
    rw [← H0.out]
    go_wp2_with (first
      | ((with_reducible refine wpList_load6g (.tmp 4) w.heap.size S4 ?_ ?_ ?_ ?_); rfl; rfl; rfl)
      | ((with_reducible refine wpList_load6g (.tmp 5) (w.heap.size + 1) S5 ?_ ?_ ?_ ?_); rfl; rfl; rfl)
      | (go_at_call 13; (with_reducible refine (hc1 _ b0).mono ?_); rintro e w' ⟨rfl, hb⟩; replace S4 := S4.below hb; replace S5 := S5.below hb; replace b0 := below_any b0 hb b0.size; have f5 := S4.c5; have g5 := S5.c5; have f00 := S4.c0; have g00 := S5.c0; clear hb))
    go_ret
    exact ⟨rfl, b0⟩
  | true =>
    rw [m1] at hc1
    rw [Bool.true_and]
    cases m2 : mayP (.mk k2 b2 n2 t2 x2 q2) 0 with
    | false =>
      rw [m2] at hc2
      rw [if_neg (by simp)]
      clear he
      go_enter Tryz.func19, Tryz.ntmps19
      go_wp2_with fail
      rw [← H0.out]
      go_wp2_with (first
        | ((with_reducible refine wpList_load6g (.tmp 4) w.heap.size S4 ?_ ?_ ?_ ?_); rfl; rfl; rfl)
        | ((with_reducible refine wpList_load6g (.tmp 5) (w.heap.size + 1) S5 ?_ ?_ ?_ ?_); rfl; rfl; rfl)
        | (go_at_call 13; (with_reducible refine (hc1 _ b0).mono ?_); rintro e w' ⟨rfl, hb⟩; replace S4 := S4.below hb; replace S5 := S5.below hb; replace b0 := below_any b0 hb b0.size; have f5 := S4.c5; have g5 := S5.c5; have f00 := S4.c0; have g00 := S5.c0; clear hb)
        | (go_at_call 13; (with_reducible refine (hc2 _ b0).mono ?_); rintro e w' ⟨rfl, hb⟩; replace S4 := S4.below hb; replace S5 := S5.below hb; replace b0 := below_any b0 hb b0.size; have f5 := S4.c5; have g5 := S5.c5; have f00 := S4.c0; have g00 := S5.c0; clear hb))
      go_ret
      exact ⟨rfl, b0⟩
    | true =>
      rw [m2] at hc2
      rw [if_pos rfl]
      generalize equalP lang (.mk k b n t x q) (.mk k2 b2 n2 t2 x2 q2) = r at he ⊢
      go_enter Tryz.func19, Tryz.ntmps19
      go_wp2_with fail
      rw [← H0.out]
      go_wp2_with (first
        | ((with_reducible refine wpList_load6g (.tmp 4) w.heap.size S4 ?_ ?_ ?_ ?_); rfl; rfl; rfl)
        | ((with_reducible refine wpList_load6g (.tmp 5) (w.heap.size + 1) S5 ?_ ?_ ?_ ?_); rfl; rfl; rfl)
        | (go_at_call 13; (with_reducible refine (hc1 _ b0).mono ?_); rintro e w' ⟨rfl, hb⟩; replace S4 := S4.below hb; replace S5 := S5.below hb; replace b0 := below_any b0 hb b0.size; have f5 := S4.c5; have g5 := S5.c5; have f00 := S4.c0; have g00 := S5.c0; clear hb)
        | (go_at_call 13; (with_reducible refine (hc2 _ b0).mono ?_); rintro e w' ⟨rfl, hb⟩; replace S4 := S4.below hb; replace S5 := S5.below hb; replace b0 := below_any b0 hb b0.size; have f5 := S4.c5; have g5 := S5.c5; have f00 := S4.c0; have g00 := S5.c0; clear hb)
        | (go_at_call 44; (with_reducible refine (he _ b0).mono ?_); rintro e w' ⟨rfl, hb⟩; replace S4 := S4.below hb; replace S5 := S5.below hb; replace b0 := below_any b0 hb b0.size; have f5 := S4.c5; have g5 := S5.c5; have f00 := S4.c0; have g00 := S5.c0; clear hb))
      go_ret
      exact ⟨rfl, b0⟩
end Go.Proofs.YtoifjjgakblhhaaGreatDoor

/- The encoding of the decimal 1.0: eight bytes. -/
namespace Go.Proofs.YtoifjjgakblhhaaGreatDoor
open Go.RowKit

theorem Own.alloc {base n : Nat} {v : Value} {w0 w : World} (h : Own base n v w0 w) (o : Obj) : Own base n v w0 (w.alloc o) := by
  obtain ⟨⟨xs, hr⟩, hlo, hbel⟩ := h
  exact ⟨⟨xs, hr.alloc o⟩, by simp; omega, hbel.alloc hlo o⟩
theorem Own.after {base n : Nat} {v : Value} {w0 w w1 : World} (h : Own base n v w0 w) (hb : Below w.heap.size w w1) : Own base n v w0 w1 := by
  obtain ⟨⟨xs, hr⟩, hlo, hbel⟩ := h
  refine ⟨⟨xs, hr.1, ?_⟩, Nat.le_trans hlo hb.size, below_any hbel hb hlo⟩
  rcases hr.2 with h0 | ⟨g, cap, cur, e, h1, h2, h3⟩
  · exact .inl h0
  · exact .inr ⟨g, cap, cur, e, h1, (hb.block g (lt_of_heap h2)).trans h2, h3⟩
theorem Own.slice {base n : Nat} {v : Value} {w0 w : World} (h : Own base n v w0 w) (hn : n ≠ 0) : ∃ p cap, v = .slice p n cap := by
  obtain ⟨⟨xs, hr⟩, _, _⟩ := h
  rcases hr.2 with ⟨_, h0⟩ | ⟨g, cap, cur, e, _⟩
  · exact absurd h0 hn
  · exact ⟨_, cap, e⟩
theorem Own.start (w : World) : Own w.heap.size 0 (.slice none 0 0) w w := ⟨⟨[], World.ownsRow_nil _ _ _ _⟩, Nat.le_refl _, Below.refl _ _⟩

set_option maxRecDepth 20000 in
set_option maxHeartbeats 3200000 in
theorem encodeOne (w : World) :
    Calls Tryz.prog 68 #[.slice none 0 0, .agg #[.int .i64 3, .bool false, .int .i64 0, .string oneT, .string ⟨#[]⟩, .slice none 0 0]] w fun e w' => ∃ p cap, e = .returned (.slice p 8 cap) ∧ Below w.heap.size w w' := by
  obtain ⟨i0, hi, hz0, hz1, hz2⟩ := info_parts info5b
  obtain ⟨W0, hW0⟩ : ∃ W0, W0 = w.alloc (.cells #[.int .i64 3, .bool false, .int .i64 0, .string oneT, .string ⟨#[]⟩, .slice none 0 0] 28) := ⟨_, rfl⟩
  have S : Six W0 w.heap.size 3 false 0 oneT ⟨#[]⟩ none 0 0 := by rw [hW0]; exact six_new _ rfl
  have b0 : Below w.heap.size w W0 := by rw [hW0]; exact below1 _ _
  have O := Own.start W0
  have f0 := S.c0
  have HS : Hid (W0.heap.size = w.heap.size + 1) := Lib.hid (by rw [hW0]; simp)
  have H0 := Lib.hid hW0
  have hown := World.ownsRow_nil W0 W0.heap.size 5 1
  clear hW0
  go_enter Tryz.func68, Tryz.ntmps68
  go_wp2_with (at_builtin; rw [← H0.out]; refine wpList_append_own _ rfl _ _ 40 rfl W0.heap.size 5 i0 (.int .u8 0) 1 1 Tryz.underlying40 hi hz0 hz1 hz2 rfl (by decide) _ _ _ rfl (hown.alloc _) ⟨w.heap.size + 1, 0, none⟩ 1 1 [.int .u8 3] rfl rfl ?_ ?_ ?_ ?_ ?_ ?_)
  all_goals (try (first | rfl | (unfold maxLen; omega) | omega | (simp; omega) | (intro u hu; simp at hu; subst hu; rfl) | (rw [← HS.out]; exact cell_one_new _ _ _) | (simp; done)))
  intro v1 w1 hown1 hgrow _
  replace O := (O.alloc (.cells #[.int .u8 3] 5)).say hown1 hgrow
  clear hgrow hown1 hown
  have S1 := S.below O.bel
  go_wp2_with (first
    | ((with_reducible refine wpList_load6 (.tmp 3) w.heap.size S1 ?_ ?_ ?_ ?_); rfl; rfl; rfl)
    | (go_at_call 72; (with_reducible refine (kindOfAt 3 _ _ _ _ _ 85 rfl _).mono ?_); rintro e w2 ⟨rfl, hb2⟩; replace O := O.after hb2; have S2 := S.below O.bel; have f3 := S2.c3; clear hb2)
    | (simp only [ta85_80, ta85_81, ta85_82, ta85_83, ta85_84, ta85_85, ta85_87, ta85_88, ta85_89, ta85_90, ta85_91, Result.andThen_ok])
    | (go_at_call 108; (with_reducible refine (encodeText1 W0.heap.size _ _ W0 _ O (by omega)).mono ?_); rintro e w3 ⟨v3, rfl, O3⟩))
  go_ret
  obtain ⟨p, cap, rfl⟩ := O3.slice (by omega)
  exact ⟨p, cap, rfl, below_any b0 O3.bel b0.size⟩
end Go.Proofs.YtoifjjgakblhhaaGreatDoor

/- The text of the decimal 1.0. -/
namespace Go.Proofs.YtoifjjgakblhhaaGreatDoor
open Go.RowKit

set_option maxRecDepth 20000 in
set_option maxHeartbeats 3200000 in
theorem showOne (w : World) :
    Calls Tryz.prog 40 #[.slice none 0 0, .agg #[.int .i64 3, .bool false, .int .i64 0, .string oneT, .string ⟨#[]⟩, .slice none 0 0]] w fun e w' => ∃ g cap, e = .returned (.slice (some ⟨g, 0, none⟩) 3 cap) ∧ (∀ j, j < 3 → w'.cell? ⟨g, j, none⟩ = (Lib.strCells oneT)[j]?) ∧ Below w.heap.size w w' := by
  obtain ⟨i0, hi, hz0, hz1, hz2⟩ := info_parts info5b
  obtain ⟨W0, hW0⟩ : ∃ W0, W0 = w.alloc (.cells #[.int .i64 3, .bool false, .int .i64 0, .string oneT, .string ⟨#[]⟩, .slice none 0 0] 28) := ⟨_, rfl⟩
  have S : Six W0 w.heap.size 3 false 0 oneT ⟨#[]⟩ none 0 0 := by rw [hW0]; exact six_new _ rfl
  have b0 : Below w.heap.size w W0 := by rw [hW0]; exact below1 _ _
  have H0 := Lib.hid hW0
  clear hW0
  go_enter Tryz.func40, Tryz.ntmps40
  go_wp2_with (first
    | (rw [← H0.out]; (with_reducible refine wpList_load6 (.tmp 3) w.heap.size S ?_ ?_ ?_ ?_); rfl; rfl; rfl)
    | (go_at_call 72; (with_reducible refine (kindOfAt 3 _ _ _ _ _ 85 rfl _).mono ?_); rintro e w2 ⟨rfl, hb2⟩; have b2 := below_any b0 hb2 b0.size; have S2 := S.below hb2; have f3 := S2.c3; have hown := World.ownsRow_nil w2 w2.heap.size 5 1; clear hb2)
    | (simp only [ta85_80, ta85_81, ta85_82, ta85_83, ta85_84, ta85_85, ta85_87, ta85_88, ta85_89, ta85_90, ta85_91, Result.andThen_ok])
    | (at_builtin; refine Lib.wpList_append_own_string _ rfl _ _ 40 9 rfl w2.heap.size 5 i0 Tryz.underlying40 Tryz.underlying9 hi hz0 hz1 hz2 (.slice none 0 0) 0 [] rfl hown oneT rfl ?_ ?_ (Nat.le_refl _) ?_))
  all_goals (try (first | rfl | (show 0 + 3 ≤ maxLen; unfold maxLen; omega) | (show 0 + 3 ≤ 140737488355328; omega)))
  intro v' w3 hown' hgrow _
  have b3 : Below w.heap.size w w3 := b2.grown hgrow b2.size (fun k hk => by simp [Value.ownBlock] at hk)
  clear hgrow hown
  have hown2 : w3.ownsRow w2.heap.size 5 1 v' 3 (Lib.strCells oneT) := hown'
  rcases hown2.2 with ⟨_, h0⟩ | ⟨g, cap, cur, rfl, _⟩
  · exact absurd h0 (by omega)
  · have hc := fun j hj => hown2.cellAt j hj
    clear hown' hown2
    go_wp2_with fail
    go_ret
    exact ⟨g, cap, rfl, fun j hj => hc j (by omega), b3⟩

theorem one_may : mayP (.mk 3 false 0 oneT ⟨#[]⟩ []) 0 = true := by
  unfold mayP fitsP
  decide +kernel
theorem whole_may : mayP (.mk 2 false 1 ⟨#[]⟩ ⟨#[]⟩ []) 0 = true := by
  unfold mayP fitsP
  decide +kernel
theorem one_equal : equalTop 0 (.mk 2 false 1 ⟨#[]⟩ ⟨#[]⟩ []) (.mk 3 false 0 oneT ⟨#[]⟩ []) = 1 := by
  unfold equalTop
  rw [one_may, whole_may]
  unfold equalP
  decide +kernel
theorem one_same : sameP (.mk 2 false 1 ⟨#[]⟩ ⟨#[]⟩ []) (.mk 3 false 0 oneT ⟨#[]⟩ []) = false := by
  unfold sameP
  simp

set_option maxRecDepth 20000 in
set_option maxHeartbeats 3200000 in
theorem textOne (w : World) (hG : Gd w) :
    Calls Tryz.prog 15 #[.agg #[.int .i64 3, .bool false, .int .i64 0, .string oneT, .string ⟨#[]⟩, .slice none 0 0]] w fun e w' => e = .returned (.string oneT) ∧ Below w.heap.size w w' := by
  obtain ⟨W0, hW0⟩ : ∃ W0, W0 = w.alloc (.cells #[.int .i64 3, .bool false, .int .i64 0, .string oneT, .string ⟨#[]⟩, .slice none 0 0] 28) := ⟨_, rfl⟩
  have S : Six W0 w.heap.size 3 false 0 oneT ⟨#[]⟩ none 0 0 := by rw [hW0]; exact six_new _ rfl
  have b0 : Below w.heap.size w W0 := by rw [hW0]; exact below1 _ _
  have hc := fun W (h : Below w.heap.size w W) => checkAtV (.mk 3 false 0 oneT ⟨#[]⟩ []) 3 false 0 oneT ⟨#[]⟩ [] (.slice none 0 0) W rfl (hG.below h) (by decide) (by decide) (by unfold Held; exact ⟨none, 0, rfl⟩)
  rw [one_may] at hc
  have H0 := Lib.hid hW0
  clear hW0
  go_enter Tryz.func15, Tryz.ntmps15
  go_wp2_with (first
    | ((try rw [← H0.out]); (with_reducible refine wpList_load6 (.tmp 1) w.heap.size S ?_ ?_ ?_ ?_); rfl; rfl; rfl)
    | (go_at_call 13; (with_reducible refine (hc _ b0).mono ?_); rintro e w' ⟨rfl, hb⟩; replace S := S.below hb; replace b0 := below_any b0 hb b0.size; clear hb)
    | (go_at_call 40; (with_reducible refine (showOne _).mono ?_); rintro e w3 ⟨g, cap, rfl, hcs, hb3⟩; have b3 := below_any b0 hb3 b0.size; have hconv := run_convert_bytes_back (P := Tryz.prog) w3 40 9 5 ⟨g, 0, none⟩ cap [49, 46, 48] Tryz.underlying40 Tryz.underlying5 Tryz.underlying9 (fun j hj => by rw [Addr.add_mid, Nat.zero_add, hcs j hj]; match j, hj with | 0, _ => rfl | 1, _ => rfl | 2, _ => rfl); clear hb3 hcs; have hconv : (convert 40 9 (.slice (some ⟨g, 0, none⟩) 3 cap)).run Tryz.prog w3 = .ok (.string oneT) w3 := hconv))
  go_ret
  exact ⟨rfl, b3⟩
end Go.Proofs.YtoifjjgakblhhaaGreatDoor

/- What each law of package value ends in: it holds. -/
namespace Go.Proofs.YtoifjjgakblhhaaGreatDoor
open Go.RowKit

set_option maxRecDepth 20000 in
set_option maxHeartbeats 3200000 in
theorem encodeC1 (w : World) (hG : Gd w) :
    Calls Tryz.prog 28 #[.agg #[.int .i64 3, .bool false, .int .i64 0, .string oneT, .string ⟨#[]⟩, .slice none 0 0]] w fun e w' => ∃ p cap, e = .returned (.tuple #[.slice p 8 cap, .int .i64 0]) ∧ Below w.heap.size w w' := by
  obtain ⟨W0, hW0⟩ : ∃ W0, W0 = w.alloc (.cells #[.int .i64 3, .bool false, .int .i64 0, .string oneT, .string ⟨#[]⟩, .slice none 0 0] 28) := ⟨_, rfl⟩
  have S : Six W0 w.heap.size 3 false 0 oneT ⟨#[]⟩ none 0 0 := by rw [hW0]; exact six_new _ rfl
  have b0 : Below w.heap.size w W0 := by rw [hW0]; exact below1 _ _
  have hc := fun W (h : Below w.heap.size w W) => checkAtV (.mk 3 false 0 oneT ⟨#[]⟩ []) 3 false 0 oneT ⟨#[]⟩ [] (.slice none 0 0) W rfl (hG.below h) (by decide) (by decide) (by unfold Held; exact ⟨none, 0, rfl⟩)
  rw [one_may] at hc
  have H0 := Lib.hid hW0
  clear hW0
  go_enter Tryz.func28, Tryz.ntmps28
  go_wp2_with (first
    | ((try rw [← H0.out]); (with_reducible refine wpList_load6 (.tmp 1) w.heap.size S ?_ ?_ ?_ ?_); rfl; rfl; rfl)
    | (go_at_call 13; (with_reducible refine (hc _ b0).mono ?_); rintro e w' ⟨rfl, hb⟩; replace S := S.below hb; replace b0 := below_any b0 hb b0.size; clear hb)
    | (go_at_call 68; (with_reducible refine (encodeOne _).mono ?_); rintro e w3 ⟨p, cap, rfl, hb3⟩; have b3 := below_any b0 hb3 b0.size; clear hb3))
  go_ret2
  exact ⟨_, _, rfl, b3⟩

set_option maxRecDepth 20000 in
set_option maxHeartbeats 3200000 in
theorem wakesAt (w : World) (hG : Gd w) (hT : Tab w) :
    Calls Tryz.prog 11 #[] w fun e w' => e = .returned (.bool true) ∧ Below w.heap.size w w' := by
  obtain ⟨W0, hW0⟩ : ∃ W0, W0 = (w.alloc (.cells #[.int .i64 2, .bool false, .int .i64 1, .string ⟨#[]⟩, .string ⟨#[]⟩, .slice none 0 0] 28)).alloc (.cells #[.int .i64 3, .bool false, .int .i64 0, .string oneT, .string ⟨#[]⟩, .slice none 0 0] 28) := ⟨_, rfl⟩
  have S4 : Six W0 w.heap.size 2 false 1 ⟨#[]⟩ ⟨#[]⟩ none 0 0 := by rw [hW0]; exact (six_new _ rfl).alloc _
  have S5 : Six W0 (w.heap.size + 1) 3 false 0 oneT ⟨#[]⟩ none 0 0 := by rw [hW0]; exact six_new _ (by simp)
  have b0 : Below w.heap.size w W0 := by rw [hW0]; exact below2 _ _ _
  have hd : ∀ W : World, Held W (.slice none 0 0) [] := fun W => by unfold Held; exact ⟨none, 0, rfl⟩
  have f1 : Fine 1 ⟨#[]⟩ ⟨#[]⟩ (List.length (α := Val) []) := ⟨by decide, by decide, by decide, by decide, by decide⟩
  have f2 : Fine 0 oneT ⟨#[]⟩ (List.length (α := Val) []) := ⟨by decide, by decide, by decide, by decide, by decide⟩
  have hc1 := fun W (h : Below w.heap.size w W) => checkAtV (.mk 2 false 1 ⟨#[]⟩ ⟨#[]⟩ []) 2 false 1 ⟨#[]⟩ ⟨#[]⟩ [] (.slice none 0 0) W rfl (hG.below h) (by decide) (by decide) (hd W)
  have hc2 := fun W (h : Below w.heap.size w W) => checkAtV (.mk 3 false 0 oneT ⟨#[]⟩ []) 3 false 0 oneT ⟨#[]⟩ [] (.slice none 0 0) W rfl (hG.below h) (by decide) (by decide) (hd W)
  have he : ∀ W, Below w.heap.size w W → Calls Tryz.prog 19 #[.int .i64 0, .agg #[.int .i64 2, .bool false, .int .i64 1, .string ⟨#[]⟩, .string ⟨#[]⟩, .slice none 0 0], .agg #[.int .i64 3, .bool false, .int .i64 0, .string oneT, .string ⟨#[]⟩, .slice none 0 0]] W fun e w' => e = .returned (.int .i64 (equalTop 0 (.mk 2 false 1 ⟨#[]⟩ ⟨#[]⟩ []) (.mk 3 false 0 oneT ⟨#[]⟩ []))) ∧ Below W.heap.size W w' := fun W h => EqualC 0 2 false 1 ⟨#[]⟩ ⟨#[]⟩ [] none 0 3 false 0 oneT ⟨#[]⟩ [] none 0 W (hG.below h) (hT.below h) f1 f2 (hd W) (hd W)
  have hs : ∀ W, Calls Tryz.prog 17 #[.agg #[.int .i64 2, .bool false, .int .i64 1, .string ⟨#[]⟩, .string ⟨#[]⟩, .slice none 0 0], .agg #[.int .i64 3, .bool false, .int .i64 0, .string oneT, .string ⟨#[]⟩, .slice none 0 0]] W fun e w' => e = .returned (.bool (sameP (.mk 2 false 1 ⟨#[]⟩ ⟨#[]⟩ []) (.mk 3 false 0 oneT ⟨#[]⟩ []))) ∧ Below W.heap.size W w' := fun W => sameAtV 2 false 1 ⟨#[]⟩ ⟨#[]⟩ [] none 0 3 false 0 oneT ⟨#[]⟩ [] none 0 W f1 (hd W) (hd W)
  have hx := fun W (h : Below w.heap.size w W) => encodeC1 W (hG.below h)
  have ht := fun W (h : Below w.heap.size w W) => textOne W (hG.below h)
  rw [whole_may] at hc1
  rw [one_may] at hc2
  rw [one_equal] at he
  rw [one_same] at hs
  have H0 := Lib.hid hW0
  clear hW0 hd f1 f2 hG hT
  have ho : (⟨#[49, 46, 48]⟩ : ByteArray) = oneT := rfl
  go_enter Tryz.func11, Tryz.ntmps11
  rw [ho]
  go_wp2_with (first
    | ((try rw [← H0.out]); (with_reducible refine wpList_load6g (.tmp 1) w.heap.size S4 ?_ ?_ ?_ ?_); rfl; rfl; rfl)
    | ((try rw [← H0.out]); (with_reducible refine wpList_load6g (.tmp 2) (w.heap.size + 1) S5 ?_ ?_ ?_ ?_); rfl; rfl; rfl)
    | (go_at_call 28; (with_reducible refine (hx _ b0).mono ?_); rintro e w' ⟨p, cap, rfl, hb⟩; replace S4 := S4.below hb; replace S5 := S5.below hb; replace b0 := below_any b0 hb b0.size; clear hb)
    | (go_at_call 13; (with_reducible refine (hc1 _ b0).mono ?_); rintro e w' ⟨rfl, hb⟩; replace S4 := S4.below hb; replace S5 := S5.below hb; replace b0 := below_any b0 hb b0.size; clear hb)
    | (go_at_call 13; (with_reducible refine (hc2 _ b0).mono ?_); rintro e w' ⟨rfl, hb⟩; replace S4 := S4.below hb; replace S5 := S5.below hb; replace b0 := below_any b0 hb b0.size; clear hb)
    | (go_at_call 19; (with_reducible refine (he _ b0).mono ?_); rintro e w' ⟨rfl, hb⟩; replace S4 := S4.below hb; replace S5 := S5.below hb; replace b0 := below_any b0 hb b0.size; clear hb)
    | (go_at_call 17; (with_reducible refine (hs _).mono ?_); rintro e w' ⟨rfl, hb⟩; replace S4 := S4.below hb; replace S5 := S5.below hb; replace b0 := below_any b0 hb b0.size; clear hb)
    | (go_at_call 15; (with_reducible refine (ht _ b0).mono ?_); rintro e w' ⟨rfl, hb⟩; replace S4 := S4.below hb; replace S5 := S5.below hb; replace b0 := below_any b0 hb b0.size; clear hb))
  go_ret
  exact ⟨rfl, b0⟩
end Go.Proofs.YtoifjjgakblhhaaGreatDoor

/- The reader: take, int, count, text. -/
namespace Go.Proofs.YtoifjjgakblhhaaGreatDoor
open Go.RowKit

/-- The reader's block, and the bytes that are left. -/
def Rd (w : World) (R : Nat) (l : List UInt8) : Prop := ∃ p cap, w.heap[R]? = some (.cells #[.slice p l.length cap] 71) ∧ l.length ≤ cap ∧ cap ≤ maxLen ∧
  ((p = none ∧ l = []) ∨ ∃ g off, p = some ⟨g, off, none⟩ ∧ g ≠ R ∧ (∃ cs : Array Value, w.heap[g]? = some (Obj.cells cs 5)) ∧ ∀ j c, l[j]? = some c → w.cell? ⟨g, off + j, none⟩ = some (.int .u8 c.toNat))
theorem Rd.lt {w : World} {R : Nat} {l : List UInt8} (h : Rd w R l) : R < w.heap.size := by
  obtain ⟨p, cap, h, _⟩ := h
  exact lt_of_heap h
theorem Rd.below {w w' : World} {R : Nat} {l : List UInt8} (h : Rd w R l) (b : Below w.heap.size w w') : Rd w' R l := by
  obtain ⟨p, cap, h1, h2, h3, h4⟩ := h
  refine ⟨p, cap, (b.block R (lt_of_heap h1)).trans h1, h2, h3, ?_⟩
  rcases h4 with h4 | ⟨g, off, e, hne, ⟨cs, hcs⟩, hc⟩
  · exact .inl h4
  · exact .inr ⟨g, off, e, hne, ⟨cs, (b.block g (lt_of_heap hcs)).trans hcs⟩, fun j c hj => (b.cell (p := ⟨g, off + j, none⟩) (World.block_lt_of_cell? w _ (hc j c hj))).trans (hc j c hj)⟩
theorem Bts.only {w w' : World} {R : Nat} {A : Value} {l : List UInt8} (h : Bts w A l) (o : Only R w w') (hne : ∀ g, A.ownBlock = some g → g ≠ R) : Bts w' A l := by
  obtain ⟨p, cap, rfl, h⟩ := h
  refine ⟨p, cap, rfl, ?_⟩
  rcases h with h | ⟨g, off, rfl, h⟩
  · exact .inl h
  · exact .inr ⟨g, off, rfl, fun j c hj => (World.cell?_of_block (w := w) (a := ⟨g, off + j, none⟩) (o.block g (World.block_lt_of_cell? w _ (h j c hj)) (hne g rfl))).trans (h j c hj)⟩

set_option maxRecDepth 20000 in
set_option maxHeartbeats 3200000 in
theorem takeNo (R : Nat) (l : List UInt8) (n : Nat) (w : World) (h : Rd w R l) (hn : l.length < n) (hn2 : n ≤ 4294967296) (hl : l.length ≤ 1000000000) :
    Calls Tryz.prog 144 #[.pointer (some ⟨R, 0, none⟩), .int .i64 n] w fun e w' => e = .returned (.tuple #[.slice none 0 0, .bool false]) ∧ w' = w := by
  obtain ⟨p, cap, h1, h2, h3, h4⟩ := h
  have c0 : w.cell? ⟨R, 0, none⟩ = some (.slice p l.length cap) := cell_of h1 _ rfl
  have hlt : (l.length : Int) < n := by omega
  clear h4 h1 h2
  go_enter Tryz.func144, Tryz.ntmps144
  go_wp2_with fail
  go_ret2
  simp
/-- What take tells where there is enough. -/
def TakePost (R : Nat) (l : List UInt8) (n : Nat) (w : World) (e : Ending) (w' : World) : Prop := ∃ T, e = .returned (.tuple #[T, .bool true]) ∧ Bts w' T (l.take n) ∧ Rd w' R (l.drop n) ∧ Only R w w'
set_option maxRecDepth 20000 in
set_option maxHeartbeats 3200000 in
theorem takeYes (R : Nat) (l : List UInt8) (n : Nat) (w : World) (h : Rd w R l) (hn : n ≤ l.length) (hl : l.length ≤ 1000000000) :
    Calls Tryz.prog 144 #[.pointer (some ⟨R, 0, none⟩), .int .i64 n] w (TakePost R l n w) := by
  obtain ⟨p, cap, h1, h2, h3, h4⟩ := h
  have c0 : w.cell? ⟨R, 0, none⟩ = some (.slice p l.length cap) := cell_of h1 _ rfl
  have f0 : w.frozen? ⟨R, 0, none⟩ = false := free_of h1 _
  have hlt : (n : Int) ≤ l.length := by omega
  have hnc : n ≤ cap := by omega
  have hcm : cap ≤ 9223372036854775807 := by unfold maxLen at h3; omega
  have et : (l.take n).length = n := by rw [List.length_take]; omega
  have ed : (l.drop n).length = l.length - n := List.length_drop
  rcases h4 with ⟨rfl, rfl⟩ | ⟨g, off, rfl, hne, ⟨cs, hcs⟩, hc⟩
  · obtain rfl : n = 0 := by simpa using hn
    have hset := heap_set h1 0 (.slice none 0 cap)
    have H1 := Lib.hid h1
    have HS := Lib.hid hset
    clear h1 hset
    go_enter Tryz.func144, Tryz.ntmps144
    go_wp2_with fail
    all_goals go_ret2
    all_goals exact ⟨_, rfl, ⟨none, _, rfl, .inl rfl⟩, ⟨none, _, heap_set H1.out 0 _, Nat.zero_le _, by omega, .inl ⟨rfl, rfl⟩⟩, (Only.refl R w).setCell 0 none _⟩
  · have H1 := Lib.hid h1
    have HC := Lib.hid hc
    have hb : ∀ W, Only R w W → ∀ j c, l[j]? = some c → W.cell? ⟨g, off + j, none⟩ = some (.int .u8 c.toNat) := fun W o j c hj =>
      (World.cell?_of_block (w := w) (a := ⟨g, off + j, none⟩) (o.block g (World.block_lt_of_cell? w _ (hc j c hj)) hne)).trans (hc j c hj)
    have HB := Lib.hid hb
    have hcs2 : ∀ W, Only R w W → W.heap[g]? = some (Obj.cells cs 5) := fun W o => (o.block g (lt_of_heap hcs) hne).trans hcs
    have HC2 := Lib.hid hcs2
    clear h1 hc hb hcs hcs2
    by_cases hcn : cap = n
    · subst hcn
      have hl2 : l.length = cap := by omega
      have HL2 := Lib.hid hl2
      go_enter Tryz.func144, Tryz.ntmps144
      go_wp2_with fail
      go_ret2
      refine ⟨_, rfl, ⟨some ⟨g, off, none⟩, cap, by rw [et]; rfl, .inr ⟨g, off, rfl, fun j c hj => HB.out _ ((Only.refl R w).setCell 0 none _) j c (by rw [List.getElem?_take] at hj; split at hj; exact hj; cases hj)⟩⟩, ?_, (Only.refl R w).setCell 0 none _⟩
      refine ⟨_, 0, by rw [ed, HL2.out]; simpa using heap_set H1.out 0 _, by rw [ed]; omega, by omega, .inr ⟨g, off, rfl, hne, ⟨cs, HC2.out _ ((Only.refl R w).setCell 0 none _)⟩, fun j c hj => ?_⟩⟩
      have := (List.getElem?_eq_some_iff.1 hj).1
      omega
    · go_enter Tryz.func144, Tryz.ntmps144
      go_wp2_with fail
      go_ret2
      refine ⟨_, rfl, ⟨some ⟨g, off, none⟩, cap, by rw [et]; rfl, .inr ⟨g, off, rfl, fun j c hj => HB.out _ ((Only.refl R w).setCell 0 none _) j c (by rw [List.getElem?_take] at hj; split at hj; exact hj; cases hj)⟩⟩, ?_, (Only.refl R w).setCell 0 none _⟩
      refine ⟨_, cap - n, by rw [ed]; exact heap_set H1.out 0 _, by rw [ed]; omega, by omega, .inr ⟨g, off + n, rfl, hne, ⟨cs, HC2.out _ ((Only.refl R w).setCell 0 none _)⟩, fun j c hj => ?_⟩⟩
      rw [List.getElem?_drop] at hj
      rw [Nat.add_assoc]
      exact HB.out _ ((Only.refl R w).setCell 0 none _) (n + j) c hj
end Go.Proofs.YtoifjjgakblhhaaGreatDoor

/- The reader: int, count, text. -/
namespace Go.Proofs.YtoifjjgakblhhaaGreatDoor
open Go.RowKit

theorem orStep (x y : Nat) (hx : x < 72057594037927936) (hy : y < 256) : Value.int IntKind.u64 (bits BinOp.or IntKind.u64 ((x : Int) * 256) (y : Int)) = Value.int IntKind.u64 ((x * 256 + y : Nat) : Int) := by
  have e : ((x : Int) * 256) = ((x * 256 : Nat) : Int) := by simp
  rw [e, u64_or_nat (x * 256) y (by omega) (by omega)]
  have h := Nat.two_pow_add_eq_or_of_lt (i := 8) (b := y) (by omega) x
  rw [show 2 ^ 8 * x = x * 256 by omega] at h
  rw [← h]
theorem convNil (W : World) (c : Nat) : (convert 40 9 (.slice none 0 c)).run Tryz.prog W = .ok (.string ⟨#[]⟩) W :=
  run_convert_bytes_nil (P := Tryz.prog) (w := W) 40 5 Tryz.underlying40 Tryz.underlying5 0 c 9 Tryz.underlying9
/-- What int tells. -/
def IntPost (R : Nat) (l : List UInt8) (k : Nat) (w : World) (e : Ending) (w' : World) : Prop :=
  (l.length < k ∧ e = .returned (.tuple #[.int .u64 0, .bool false]) ∧ w' = w) ∨ (k ≤ l.length ∧ e = .returned (.tuple #[.int .u64 (numW (l.take k)), .bool true]) ∧ Rd w' R (l.drop k) ∧ Only R w w')
set_option maxRecDepth 20000 in
set_option maxHeartbeats 3200000 in
theorem intAt (R : Nat) (l : List UInt8) (k : Nat) (w : World) (h : Rd w R l) (hk : k ≤ 8) (hl : l.length ≤ 1000000000) :
    Calls Tryz.prog 111 #[.pointer (some ⟨R, 0, none⟩), .int .i64 k] w (IntPost R l k w) := by
  by_cases hlk : l.length < k
  · have ht := takeNo R l k w h hlk (by omega) hl
    go_enter Tryz.func111, Tryz.ntmps111
    go_wp2_with (go_at_call 144; (with_reducible refine ht.mono ?_); rintro e w1 ⟨rfl, rfl⟩)
    go_loopg [8, 19] 0 (fun gg s8 s19 wr => gg = 0 ∧ s8 = .int .u64 0 ∧ s19 = .int .i64 0 ∧ wr = w1)
    case atStart => exact ⟨rfl, rfl, rfl, rfl⟩
    case round =>
      obtain ⟨_, rfl, rfl, rfl⟩ := hrel
      go_wp2_with fail
      go_ret2
      exact .inl ⟨hlk, rfl, rfl⟩
  · have ht := takeYes R l k w h (by omega) hl
    have et : (l.take k).length = k := by rw [List.length_take]; omega
    obtain ⟨m, hm⟩ : ∃ m, m = l.take k := ⟨_, rfl⟩
    unfold TakePost at ht
    rw [← hm] at ht et
    have HM := Lib.hid hm
    clear hm
    go_enter Tryz.func111, Tryz.ntmps111
    go_upto_region 2 with (go_at_call 144; (with_reducible refine ht.mono ?_); rintro e w1 ⟨T, rfl, hT, hR, hO⟩)
    obtain ⟨p, cap, rfl, hc⟩ := hT
    rw [et]
    have HC := Lib.hid hc
    have HR := Lib.hid (And.intro hR hO)
    clear hc hR hO ht
    go_wp2_with fail
    go_loopg [8, 19] k (fun gg s8 s19 wr => ∃ j : Nat, j + gg = k ∧ s8 = .int .u64 (numW (m.take j)) ∧ s19 = .int .i64 j ∧ wr = w1)
    case atStart => exact ⟨0, by omega, rfl, rfl, rfl⟩
    case round =>
      obtain ⟨j, hjg, rfl, rfl, rfl⟩ := hrel
      by_cases hlt : (j : Int) < k
      · have hj1 : j < m.length := by omega
        obtain ⟨g, off, rfl, c1⟩ : ∃ g off, p = some ⟨g, off, none⟩ ∧ ∀ j c, m[j]? = some c → wr.cell? ⟨g, off + j, none⟩ = some (.int .u8 c.toNat) := by
          rcases HC.out with h | h
          · rw [h] at hj1; simp at hj1
          · exact h
        obtain ⟨a, ha⟩ : ∃ a, a = m[j] := ⟨_, rfl⟩
        have d1 := c1 j a (by rw [ha]; exact List.getElem?_eq_getElem hj1)
        have hs : numW (m.take (j + 1)) = numW (m.take j) * 256 + a.toNat := by rw [List.take_succ_eq_append_getElem hj1, numW_snoc, ha]
        have hb : numW (m.take j) < 256 ^ 7 := by
          have h1 := numW_lt (m.take j)
          rw [List.length_take] at h1
          exact Nat.lt_of_lt_of_le h1 (Nat.pow_le_pow_right (by decide) (by omega))
        have hb2 : numW (m.take j) < 72057594037927936 := hb
        have ha2 : a.toNat < 256 := UInt8.toNat_lt a
        have HS := Lib.hid hs
        clear c1 hb ha hs
        obtain ⟨x, hx⟩ : ∃ x, x = numW (m.take j) := ⟨_, rfl⟩
        obtain ⟨y, hy⟩ : ∃ y, y = a.toNat := ⟨_, rfl⟩
        rw [← hx] at hb2 ⊢
        rw [← hy] at ha2 d1
        rw [← hx, ← hy] at HS
        clear hx hy
        go_wp2_with fail
        go_roundg (gk - 1)
        case measure => omega
        case rel => exact ⟨j + 1, by omega, by rw [HS.out]; exact orStep x y hb2 ha2, by go_num, rfl⟩
      · have e : m.take j = m := by rw [List.take_of_length_le]; omega
        rw [e]
        go_wp2_with fail
        go_ret2
        exact .inr ⟨by omega, by rw [← HM.out]; rfl, HR.out.1, HR.out.2⟩
/-- What count tells. -/
def CountPost (R : Nat) (l : List UInt8) (most : Nat) (w : World) (e : Ending) (w' : World) : Prop :=
  (¬(4 ≤ l.length ∧ numW (l.take 4) ≤ most) ∧ (∃ z, e = .returned (.tuple #[.int .i64 z, .bool false])) ∧ Only R w w') ∨ ((4 ≤ l.length ∧ numW (l.take 4) ≤ most) ∧ e = .returned (.tuple #[.int .i64 (numW (l.take 4)), .bool true]) ∧ Rd w' R (l.drop 4) ∧ Only R w w')
theorem num4 (l : List UInt8) : numW (l.take 4) < 4294967296 := by
  have h1 := numW_lt (l.take 4)
  rw [List.length_take] at h1
  have h2 : 256 ^ min 4 l.length ≤ 256 ^ 4 := Nat.pow_le_pow_right (by decide) (Nat.min_le_left _ _)
  exact Nat.lt_of_lt_of_le h1 h2
set_option maxRecDepth 20000 in
set_option maxHeartbeats 3200000 in
theorem countAt (R : Nat) (l : List UInt8) (most : Nat) (w : World) (h : Rd w R l) (hm : most ≤ 1048576) (hl : l.length ≤ 1000000000) :
    Calls Tryz.prog 145 #[.pointer (some ⟨R, 0, none⟩), .int .i64 most] w (CountPost R l most w) := by
  have hi : Calls Tryz.prog 111 #[.pointer (some ⟨R, 0, none⟩), .int .i64 4] w (IntPost R l 4 w) := intAt R l 4 w h (by omega) hl
  have hn := num4 l
  unfold IntPost at hi
  unfold CountPost
  obtain ⟨x, hx⟩ : ∃ x, x = numW (l.take 4) := ⟨_, rfl⟩
  rw [← hx] at hi hn ⊢
  clear hx
  by_cases h4 : 4 ≤ l.length
  · have hi' : Calls Tryz.prog 111 #[.pointer (some ⟨R, 0, none⟩), .int .i64 4] w fun e w' => e = .returned (.tuple #[.int .u64 x, .bool true]) ∧ Rd w' R (l.drop 4) ∧ Only R w w' := hi.mono (by
      rintro e w' (⟨h, _⟩ | ⟨_, he, h⟩)
      · omega
      · exact ⟨he, h⟩)
    clear hi
    by_cases hx2 : x ≤ most
    · have hx3 : (x : Int) ≤ most := by omega
      go_enter Tryz.func145, Tryz.ntmps145
      go_wp2_with (go_at_call 111; (with_reducible refine hi'.mono ?_); rintro e w1 ⟨rfl, hR, hO⟩)
      go_ret2
      exact .inr ⟨⟨h4, hx2⟩, rfl, hR, hO⟩
    · have hx3 : ¬(x : Int) ≤ most := by omega
      go_enter Tryz.func145, Tryz.ntmps145
      go_wp2_with (go_at_call 111; (with_reducible refine hi'.mono ?_); rintro e w1 ⟨rfl, hR, hO⟩)
      go_ret2
      exact .inl ⟨fun h => hx2 h.2, ⟨_, rfl⟩, hO⟩
  · have hi' : Calls Tryz.prog 111 #[.pointer (some ⟨R, 0, none⟩), .int .i64 4] w fun e w' => e = .returned (.tuple #[.int .u64 0, .bool false]) ∧ w' = w := hi.mono (by
      rintro e w' (⟨_, he, h⟩ | ⟨h, _⟩)
      · exact ⟨he, h⟩
      · omega)
    clear hi
    go_enter Tryz.func145, Tryz.ntmps145
    go_wp2_with (go_at_call 111; (with_reducible refine hi'.mono ?_); rintro e w1 ⟨rfl, rfl⟩)
    go_ret2
    exact .inl ⟨fun h => h4 h.1, ⟨_, rfl⟩, Only.refl _ _⟩
/-- What text tells. -/
def TextPost (R : Nat) (l : List UInt8) (w : World) (e : Ending) (w' : World) : Prop :=
  (rdT l = none ∧ (∃ t : ByteArray, e = .returned (.tuple #[.string t, .bool false])) ∧ Only R w w') ∨ (∃ t r, rdT l = some (t, r) ∧ t.size ≤ 1048576 ∧ r.length ≤ l.length ∧ e = .returned (.tuple #[.string t, .bool true]) ∧ Rd w' R r ∧ Only R w w')
set_option maxRecDepth 20000 in
set_option maxHeartbeats 3200000 in
theorem textAtR (R : Nat) (l : List UInt8) (w : World) (h : Rd w R l) (hl : l.length ≤ 1000000000) :
    Calls Tryz.prog 112 #[.pointer (some ⟨R, 0, none⟩)] w (TextPost R l w) := by
  have hc : Calls Tryz.prog 145 #[.pointer (some ⟨R, 0, none⟩), .int .i64 1048576] w (CountPost R l 1048576 w) := countAt R l 1048576 w h (by omega) hl
  unfold CountPost at hc
  unfold TextPost
  by_cases h4 : 4 ≤ l.length ∧ numW (l.take 4) ≤ 1048576
  · have hc' : Calls Tryz.prog 145 #[.pointer (some ⟨R, 0, none⟩), .int .i64 1048576] w fun e w' => e = .returned (.tuple #[.int .i64 (numW (l.take 4)), .bool true]) ∧ Rd w' R (l.drop 4) ∧ Only R w w' := hc.mono (by
      rintro e w' (⟨h, _⟩ | ⟨_, he, h⟩)
      · exact absurd h4 h
      · exact ⟨he, h⟩)
    have ld : (l.drop 4).length ≤ 1000000000 := by rw [List.length_drop]; omega
    have ht1 := fun W hR => takeYes R (l.drop 4) (numW (l.take 4)) W hR
    have ht0 := fun W hR hn => takeNo R (l.drop 4) (numW (l.take 4)) W hR hn (by omega) ld
    unfold TakePost at ht1
    obtain ⟨x, hx⟩ : ∃ x, x = numW (l.take 4) := ⟨_, rfl⟩
    have hx2 : x ≤ 1048576 := by rw [hx]; exact h4.2
    rw [← hx] at hc' ht1 ht0
    have HX := Lib.hid hx
    clear hc hx
    by_cases hle : x ≤ (l.drop 4).length
    · have ht : ∀ W, Rd W R (l.drop 4) → _ := fun W hR => ht1 W hR hle ld
      have hr : rdT l = some (⟨((l.drop 4).take x).toArray⟩, (l.drop 4).drop x) := by
        unfold rdT
        rw [← HX.out, if_pos ⟨h4.1, hx2, hle⟩]
      have et : ((l.drop 4).take x).length = x := by rw [List.length_take]; omega
      have lr : ((l.drop 4).drop x).length ≤ l.length := by rw [List.length_drop, List.length_drop]; omega
      have HR := Lib.hid (And.intro hr lr)
      obtain ⟨m, hm⟩ : ∃ m, m = (l.drop 4).take x := ⟨_, rfl⟩
      rw [← hm] at et ht
      have HM := Lib.hid hm
      clear ht1 ht0 hr lr hm
      go_enter Tryz.func112, Tryz.ntmps112
      go_upto_region 5 with (first
        | (go_at_call 145; (with_reducible refine hc'.mono ?_); rintro e w1 ⟨rfl, hR, hO⟩)
        | (go_at_call 144; (with_reducible refine (ht _ hR).mono ?_); rintro e w2 ⟨T, rfl, hT, hR2, hO2⟩))
      obtain ⟨p, cap, rfl, hb⟩ := hT
      rw [et]
      have hconv : (convert 40 9 (.slice p x cap)).run Tryz.prog w2 = .ok (.string ⟨m.toArray⟩) w2 := by
        rcases hb with hb | ⟨g, off, rfl, hb⟩
        · have : x = 0 := by rw [hb] at et; simpa using et.symm
          subst this
          rw [hb]
          cases p with
          | none => exact convNil w2 cap
          | some a => exact run_convert_bytes_back (P := Tryz.prog) w2 40 9 5 a cap [] Tryz.underlying40 Tryz.underlying5 Tryz.underlying9 (fun j hj => absurd hj (by simp))
        · have := run_convert_bytes_back (P := Tryz.prog) w2 40 9 5 ⟨g, off, none⟩ cap m Tryz.underlying40 Tryz.underlying5 Tryz.underlying9 (fun j hj => by
            rw [Addr.add_mid]
            exact hb j _ (List.getElem?_eq_getElem hj))
          rw [et] at this
          exact this
      have HO := Lib.hid (And.intro hR2 (hO.trans hO2))
      clear hb hR hO hR2 hO2 ht hc'
      go_wp2_with fail
      go_ret2
      refine .inr ⟨⟨m.toArray⟩, (l.drop 4).drop x, by rw [HM.out]; exact HR.out.1, ?_, HR.out.2, rfl, HO.out.1, HO.out.2⟩
      show m.length ≤ 1048576
      omega
    · have ht : ∀ W, Rd W R (l.drop 4) → _ := fun W hR => ht0 W hR (by omega)
      have hr : rdT l = none := by
        unfold rdT
        rw [← HX.out, if_neg (fun h => hle h.2.2)]
      have HR := Lib.hid hr
      have hnil := fun W => convNil W 0
      clear ht1 ht0 hr
      go_enter Tryz.func112, Tryz.ntmps112
      go_wp2_with (first
        | (go_at_call 145; (with_reducible refine hc'.mono ?_); rintro e w1 ⟨rfl, hR, hO⟩)
        | (go_at_call 144; (with_reducible refine (ht _ hR).mono ?_); rintro e w2 ⟨rfl, rfl⟩; have hnil := hnil w2))
      go_ret2
      exact .inl ⟨HR.out, ⟨_, rfl⟩, hO⟩
  · have hc' : Calls Tryz.prog 145 #[.pointer (some ⟨R, 0, none⟩), .int .i64 1048576] w fun e w' => (∃ z, e = .returned (.tuple #[.int .i64 z, .bool false])) ∧ Only R w w' := hc.mono (by
      rintro e w' (⟨_, he, h⟩ | ⟨h, _⟩)
      · exact ⟨he, h⟩
      · exact absurd h h4)
    have hr : rdT l = none := by
      unfold rdT
      rw [if_neg (fun h => h4 ⟨h.1, h.2.1⟩)]
    clear hc
    go_enter Tryz.func112, Tryz.ntmps112
    go_wp2_with (go_at_call 145; (with_reducible refine hc'.mono ?_); rintro e w1 ⟨⟨z, rfl⟩, hO⟩)
    go_ret2
    exact .inl ⟨hr, ⟨_, rfl⟩, hO⟩
end Go.Proofs.YtoifjjgakblhhaaGreatDoor

/- wakes: a sum and a quotient. -/
namespace Go.Proofs.YtoifjjgakblhhaaGreatDoor
open Go.RowKit

theorem chk01 : chk [48, 46, 49] = true := by kernel_rfl
theorem chk02 : chk [48, 46, 50] = true := by kernel_rfl
theorem chk10 : chk [49, 46, 48] = true := by kernel_rfl
theorem chk30 : chk [51, 46, 48] = true := by kernel_rfl
theorem sum03 : txt (dval [48, 46, 49] + dval [48, 46, 50]) = some [48, 46, 51] := by kernel_rfl
theorem quo03 : txt (dquo [49, 46, 48] [51, 46, 48]) = some [48, 46, 51, 51, 51, 51, 51, 51, 51, 51, 51, 51, 51, 51, 51, 51, 51, 51, 51, 51, 51, 51] := by kernel_rfl
theorem amt30 : damt [51, 46, 48] ≠ 0 := by decide +kernel
theorem int7 : Lib.itoa (-7) = [45, 55] := by kernel_rfl

end Go.Proofs.YtoifjjgakblhhaaGreatDoor

/- What a law of texts keeps from call to call. -/
namespace Go.Proofs.YtoifjjgakblhhaaGreatDoor
open Go.RowKit

theorem readDec (s : ByteArray) (w : World) (hG : Gd w) (hs : s.size < 4294967281) (h : chk s.data.toList = true) :
    Calls Tryz.prog 116 #[.string s] w fun e w' => e = .returned (.tuple #[.string s, .int .i64 0]) ∧ Below w.heap.size w w' := by
  have h' : readP s.data.toList = some (some s.data.toList) := by simpa [chk] using h
  have := readAt s w hG hs
  rw [h'] at this
  exact this
theorem checkB (s : ByteArray) (d : Bool) (w : World) (hG : Gd w) (hs : s.size < 4294967281) (h : Hid (d = chk s.data.toList)) :
    Calls Tryz.prog 73 #[.string s] w fun e w' => e = .returned (.bool d) ∧ Below w.heap.size w w' := by
  rw [h.out]; exact checkAt s w hG hs

/-- The strings of the argument, in memory. -/
def Strs (w : World) (b off n : Nat) (S : Nat → ByteArray) : Prop := ∀ i, i < n → w.cell? ⟨b, off + i, none⟩ = some (.string (S i))
theorem Strs.below {w w' : World} {b off n : Nat} {S : Nat → ByteArray} (h : Strs w b off n S) (k : Below w.heap.size w w') : Strs w' b off n S := fun i hi =>
  (k.cell (p := ⟨b, off + i, none⟩) (World.block_lt_of_cell? w _ (h i hi))).trans (h i hi)

theorem chk_len {l : List UInt8} (h : chk l = true) : l.length ≤ 62 := by
  obtain ⟨n, a, b, hsp, ha, hb, la, lb, hw, _⟩ := chk_parts l h
  unfold wr at hw
  simp only at hw
  split at hw
  · cases hw
  · rename_i hl
    have h1 : (orN (Lib.trimLeftB a 48)).length ≤ 40 := orN_len (by omega) (by omega)
    have h2 : (orN (Lib.trimRightB b 48)).length ≤ 20 := orN_len (by omega) (by omega)
    rw [← Option.some.inj hw]
    simp only [List.length_append, List.length_cons]
    split <;> simp <;> omega
theorem said_ok {z : Int} {x : ByteArray} {k : Int} (h : said (txt z) = .tuple #[.string x, .int .i64 k]) (hk : k = 0) : ∃ l, txt z = some l ∧ x = bs l := by
  cases e : txt z with
  | none => rw [e, hk] at h; simp [said] at h
  | some l => rw [e] at h; simp [said] at h; exact ⟨l, rfl, h.1.symm⟩
theorem said_k {z : Int} {x : ByteArray} {k : Int} (h : said (txt z) = .tuple #[.string x, .int .i64 k]) : k = 0 ∨ k = 2 := by
  cases e : txt z with
  | none => rw [e] at h; simp [said] at h; exact .inr h.2.symm
  | some l => rw [e] at h; simp [said] at h; exact .inl h.2.symm

/-- What holds at every call of a law's round. -/
structure Inv (w : World) (b off n cap : Nat) (S : Nat → ByteArray) (wr : World) : Prop where
  cell : wr.cell? ⟨w.heap.size, 0, none⟩ = some (.slice (some ⟨b, off, none⟩) n cap)
  lt : w.heap.size < wr.heap.size
  bel : Below w.heap.size w wr
  g : Gd wr
  t : Tab wr
  s : Strs wr b off n S
theorem Inv.step {w wr w' : World} {b off n cap : Nat} {S : Nat → ByteArray} (h : Inv w b off n cap S wr) (k : Below wr.heap.size wr w') : Inv w b off n cap S w' :=
  ⟨(k.cell (p := ⟨w.heap.size, 0, none⟩) h.lt).trans h.cell, Nat.lt_of_lt_of_le h.lt k.size, below_any h.bel k (Nat.le_of_lt h.lt), h.g.below k, h.t.below k, h.s.below k⟩
theorem Inv.start {w : World} {b off n cap : Nat} {S : Nat → ByteArray} (v2 : Value) (hG : Gd w) (hT : Tab w) (hS : Strs w b off n S) :
    Inv w b off n cap S (w.alloc (.cells #[.slice (some ⟨b, off, none⟩) n cap, v2] 25)) := by
  have hb0 : Below w.heap.size w (w.alloc (.cells #[.slice (some ⟨b, off, none⟩) n cap, v2] 25)) := (Below.refl _ _).alloc (Nat.le_refl _) _
  exact ⟨cell_of (heap_new _ _ rfl) _ rfl, by simp, hb0, hG.below hb0, hT.below hb0, hS.below hb0⟩
end Go.Proofs.YtoifjjgakblhhaaGreatDoor
