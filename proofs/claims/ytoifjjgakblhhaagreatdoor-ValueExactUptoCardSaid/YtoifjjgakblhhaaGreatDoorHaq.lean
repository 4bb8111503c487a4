/- Texts of one kind, one behind the other: each says ahead of itself what it shows. -/
import Derived.Test.YtoifjjgakblhhaaGreatDoorHap
import Derived.Test.YtoifjjgakblhhaaGreatDoorHag
import Derived.Deep.LoopGhost
import Derived.Test.YtoifjjgakblhhaaGreatDoorHaf
import Derived.Test.YtoifjjgakblhhaaGreatDoorHai
import Derived.Test.YtoifjjgakblhhaaGreatDoorHao
import Derived.Test.YtoifjjgakblhhaaGreatDoorHaa
import Derived.Test.YtoifjjgakblhhaaGreatDoorHal
import Derived.Deep.CutBlock
/- How a value is shown: lists, given how their elements are; all kinds put together; Text. -/
namespace Go.Proofs.YtoifjjgakblhhaaGreatDoor
open Go.RowKit

mutual
/-- Nodes' and edges' numbers are not below nothing. -/
def okS : Val → Prop
  | .mk k _ n _ _ l => (k = 6 ∨ k = 7 → 0 ≤ n) ∧ (k = 5 → okAll l)
def okAll : List Val → Prop
  | [] => True
  | v :: r => okS v ∧ okAll r
end
theorem okAll_mem : {l : List Val} → {v : Val} → okAll l → v ∈ l → okS v
  | [], _, _, h => absurd h (by simp)
  | u :: r, v, hf, h => by
    unfold okAll at hf
    rcases List.mem_cons.1 h with h | h
    · rw [h]; exact hf.1
    · exact okAll_mem hf.2 h
mutual
theorem okS_may : (v : Val) → (d : Nat) → mayP v d = true → okS v
  | .mk k b n t x l, d, h => by
    unfold okS
    refine ⟨fun hk => ?_, fun hk => ?_⟩
    · unfold mayP fitsP at h
      rcases hk with rfl | rfl <;> simpa using (by simp at h; exact h.1 : 0 ≤ n)
    · unfold mayP fitsP at h
      subst hk
      simp only [show ¬ (5 : Int) = 0 by decide, show ¬ (5 : Int) = 1 by decide, show ¬ (5 : Int) = 2 by decide, show ¬ (5 : Int) = 3 by decide, show ¬ (5 : Int) = 4 by decide, if_false, if_true, Bool.and_eq_true] at h
      exact okAll_each l (d + 1) h.1.2
theorem okAll_each : (l : List Val) → (d : Nat) → eachP l d = true → okAll l
  | [], _, _ => by unfold okAll; trivial
  | v :: r, d, h => by
    unfold eachP at h
    simp only [Bool.and_eq_true] at h
    unfold okAll
    exact ⟨okS_may v d h.1, okAll_each r d h.2⟩
end
def ShowAt (v : Val) : Prop := ∀ (w0 w : World) (A : Value) (l : List UInt8) (k : Int) (b : Bool) (n : Int) (t x : ByteArray) (q : List Val) (p : Option Addr) (cap : Nat), v = .mk k b n t x q → Fine n t x q.length → Held w0 (.slice p q.length cap) q → OwnB w0 A l w → Tab w0 → okS v → fineV v → l.length + 27 * wOne v ≤ 800000000 →
  Calls Tryz.prog 40 #[A, .agg #[.int .i64 k, .bool b, .int .i64 n, .string t, .string x, .slice p q.length cap]] w (ShowPost w0 l v)
/-- What showList tells. -/
def SLPost (w0 : World) (l : List UInt8) (q : List Val) (e : Ending) (w' : World) : Prop := ∃ A', e = .returned A' ∧ OwnB w0 A' (l ++ [91] ++ showAll q true ++ [93]) w'

theorem fine_take : (l : List Val) → (j : Nat) → fineAll l → fineAll (l.take j)
  | [], _, _ => by rw [List.take_nil]; unfold fineAll; trivial
  | v :: r, 0, _ => by unfold fineAll; trivial
  | v :: r, j + 1, h => by
    show fineAll (v :: r.take j)
    unfold fineAll at h ⊢
    exact ⟨h.1, fine_take r j h.2⟩
set_option maxRecDepth 20000 in
set_option maxHeartbeats 6400000 in
theorem showListNil (w0 w : World) (A : Value) (l : List UInt8) (p : Option Addr) (cap : Nat) (h : OwnB w0 A l w) (hl : l.length ≤ 800000000) :
    Calls Tryz.prog 83 #[A, .slice p 0 cap] w (SLPost w0 l []) := by
  go_enter Tryz.func83, Tryz.ntmps83
  go_wp2_with (at_builtin; refine wpListB_one (c := 91) rfl (.tmp 7) (.tmp 8) rfl rfl rfl (h.alloc _) ((Fresh.new (c := 91) h rfl).cell) (by omega) ?_; intro A1 w1 O1 hg1; have HO1 := Lib.hid O1; clear O1 hg1)
  go_loopg [0, 12] 0 (fun gg s0 s12 wr => gg = 0 ∧ s12 = .int .i64 0 ∧ OwnB w0 s0 (l ++ [91]) wr)
  case atStart => exact ⟨rfl, rfl, HO1.out⟩
  case round =>
    obtain ⟨_, rfl, OR⟩ := hrel
    go_wp2_with (at_builtin; refine wpListB_one (c := 93) rfl (.tmp 25) (.tmp 26) rfl rfl rfl (OR.alloc _) ((Fresh.new (c := 93) OR rfl).cell) (by simp only [List.length_append, List.length_cons, List.length_nil]; omega) ?_; intro A2 w2 O2 hg2; have HO2 := Lib.hid O2; clear O2 hg2)
    go_ret
    exact ⟨_, rfl, by simpa [showAll] using HO2.out⟩
set_option maxRecDepth 20000 in
set_option maxHeartbeats 6400000 in
theorem showListSome (w0 w : World) (A : Value) (l : List UInt8) (g off cap : Nat) (q : List Val) (h : OwnB w0 A l w) (hh : Holds w0 g off q) (hn : q.length ≤ 2097152) (hT : Tab w0) (hok : okAll q) (hfin : fineAll q) (hw : l.length + 27 * wAll q ≤ 799999990) (each : ∀ u ∈ q, ShowAt u) :
    Calls Tryz.prog 83 #[A, .slice (some ⟨g, off, none⟩) q.length cap] w (SLPost w0 l q) := by
  have hl : l.length ≤ 800000000 := by omega
  have HH := Lib.hid hh
  have HWT := Lib.hid hw
  have HE := Lib.hid each
  have HTT := Lib.hid hT
  have HK := Lib.hid hok
  have HF := Lib.hid hfin
  clear hh hw each hT hok hfin
  go_enter Tryz.func83, Tryz.ntmps83
  go_wp2_with (at_builtin; refine wpListB_one (c := 91) rfl (.tmp 7) (.tmp 8) rfl rfl rfl (h.alloc _) ((Fresh.new (c := 91) h rfl).cell) (by omega) ?_; intro A1 w1 O1 hg1; have HO1 := Lib.hid O1; clear O1 hg1)
  go_loopg [0, 12] q.length (fun gg s0 s12 wr => ∃ j : Nat, j + gg = q.length ∧ s12 = .int .i64 j ∧ OwnB w0 s0 (l ++ [91] ++ showAll (q.take j) true) wr)
  case atStart => exact ⟨0, by omega, rfl, by simpa [showAll] using HO1.out⟩
  case round =>
    obtain ⟨j, hjg, rfl, OR⟩ := hrel
    by_cases hlt : (j : Int) < q.length
    · have hj1 : j < q.length := by omega
      obtain ⟨k', b', m', t', x', q', p', cp', o⟩ := (Holds.at_ q off HH.out j hj1).opens
      have o1 := o.below OR.bel
      have c0 := o1.c0
      have c1 := o1.c1
      have c2 := o1.c2
      have c3 := o1.c3
      have c4 := o1.c4
      have c5 := o1.c5
      have S6 : Six (wr.alloc (.cells #[.int .i64 k', .bool b', .int .i64 m', .string t', .string x', .slice p' q'.length cp'] 28)) wr.heap.size k' b' m' t' x' p' q'.length cp' := six_new _ rfl
      have OA := OR.alloc (.cells #[.int .i64 k', .bool b', .int .i64 m', .string t', .string x', .slice p' q'.length cp'] 28)
      have hlen : (l ++ [91] ++ showAll (q.take j) true).length + 2 + 27 * wOne q[j] ≤ 800000000 := by
        have h1 := wAll_take q j hj1
        have h2 := showAll_len (q.take j) true (fine_take q j HF.out)
        have h3 := HWT.out
        simp only [List.length_append, List.length_cons, List.length_nil]
        omega
      have hc : ∀ W A2 l2, OwnB w0 A2 l2 W → l2.length + 27 * wOne q[j] ≤ 800000000 → Calls Tryz.prog 40 #[A2, .agg #[.int .i64 k', .bool b', .int .i64 m', .string t', .string x', .slice p' q'.length cp']] W (ShowPost w0 l2 q[j]) := fun W A2 l2 h1 h2 =>
        HE.out q[j] (List.getElem_mem hj1) w0 W A2 l2 k' b' m' t' x' q' p' cp' o.e o.hf o.hl h1 HTT.out (okAll_mem HK.out (List.getElem_mem hj1)) (fine_mem HF.out (List.getElem_mem hj1)) h2
      have he := showAll_take q true j hj1
      by_cases hj0 : (0 : Int) < j
      · have he2 : l ++ [91] ++ showAll (q.take (j + 1)) true = l ++ [91] ++ showAll (q.take j) true ++ txtB ⟨#[44, 32]⟩ ++ showP q[j] := by
          rw [he, show (true && j == 0) = false by simp; omega]
          simp [txtB]
        have HEE := Lib.hid he2
        have hlen2 : (l ++ [91] ++ showAll (q.take j) true ++ txtB ⟨#[44, 32]⟩).length + 27 * wOne q[j] ≤ 800000000 := by
          have e2 : (txtB ⟨#[44, 32]⟩).length = 2 := rfl
          rw [List.length_append, e2]
          omega
        have hl9 : (l ++ [91] ++ showAll (q.take j) true).length ≤ 1000000000 := by omega
        have HLN := Lib.hid hlen2
        clear o o1 he he2 hlen OR hlen2
        go_wp2_with (first
          | ((with_reducible refine wpList_loadMid6 (.tmp 15) g (off + j * 6) k' b' m' t' x' (.slice p' q'.length cp') c0 c1 c2 c3 c4 c5 ?_ ?_ ?_ ?_); rfl; rfl; rfl)
          | (at_builtin; refine wpListB_str rfl (.tmp 19) _ rfl rfl rfl OA hl9 (by decide) ?_; intro A2 w2 O2 hg2; have S7 := S6.bx (OA.bx hg2); clear OA S6 hg2)
          | ((with_reducible refine wpList_load6 (.tmp 6) wr.heap.size S7 ?_ ?_ ?_ ?_); rfl; rfl; rfl)
          | (go_at_call 40; (with_reducible refine (hc _ _ _ O2 HLN.out).mono ?_); rintro e w3 ⟨v3, rfl, O7⟩; have O8 := Lib.hid O7; clear O7))
        clear S7 hc c0 c1 c2 c3 c4 c5
        go_roundg (gk - 1)
        case measure => omega
        case rel => exact ⟨j + 1, by omega, by go_num, by rw [HEE.out]; exact O8.out⟩
      · have he2 : l ++ [91] ++ showAll (q.take (j + 1)) true = l ++ [91] ++ showAll (q.take j) true ++ showP q[j] := by
          rw [he, show (true && j == 0) = true by simp; omega]
          simp
        have HEE := Lib.hid he2
        have hlen2 : (l ++ [91] ++ showAll (q.take j) true).length + 27 * wOne q[j] ≤ 800000000 := by omega
        have HLN := Lib.hid hlen2
        clear o o1 he he2 hlen OR hlen2
        go_wp2_with (first
          | ((with_reducible refine wpList_loadMid6 (.tmp 15) g (off + j * 6) k' b' m' t' x' (.slice p' q'.length cp') c0 c1 c2 c3 c4 c5 ?_ ?_ ?_ ?_); rfl; rfl; rfl)
          | ((with_reducible refine wpList_load6 (.tmp 6) wr.heap.size S6 ?_ ?_ ?_ ?_); rfl; rfl; rfl)
          | (go_at_call 40; (with_reducible refine (hc _ _ _ OA HLN.out).mono ?_); rintro e w3 ⟨v3, rfl, O7⟩; have O8 := Lib.hid O7; clear O7))
        clear S6 OA hc c0 c1 c2 c3 c4 c5
        go_roundg (gk - 1)
        case measure => omega
        case rel => exact ⟨j + 1, by omega, by go_num, by rw [HEE.out]; exact O8.out⟩
    · have e : q.take j = q := by rw [List.take_of_length_le]; omega
      rw [e] at OR
      have hl9 : (l ++ [91] ++ showAll q true).length ≤ 1000000000 := by
        have h2 := showAll_len q true HF.out
        have h3 := HWT.out
        simp only [List.length_append, List.length_cons, List.length_nil]
        omega
      go_wp2_with (at_builtin; refine wpListB_one (c := 93) rfl (.tmp 25) (.tmp 26) rfl rfl rfl (OR.alloc _) ((Fresh.new (c := 93) OR rfl).cell) hl9 ?_; intro A2 w2 O2 hg2; have HO2 := Lib.hid O2; clear O2 hg2)
      go_ret
      exact ⟨_, rfl, HO2.out⟩

set_option maxRecDepth 20000 in
set_option maxHeartbeats 6400000 in
theorem showLst (w0 w : World) (A : Value) (l : List UInt8) (b : Bool) (n : Int) (t x : ByteArray) (p : Option Addr) (q : List Val) (cap : Nat) (hf : Fine n t x q.length) (h : OwnB w0 A l w) (hl : l.length ≤ 800000000) (hS0 : ∀ W, OwnB w0 A l W → Calls Tryz.prog 83 #[A, .slice p q.length cap] W (SLPost w0 l q)) :
    Calls Tryz.prog 40 #[A, .agg #[.int .i64 5, .bool b, .int .i64 n, .string t, .string x, .slice p q.length cap]] w (ShowPost w0 l (.mk 5 b n t x q)) := by
  obtain ⟨W0, hW0⟩ : ∃ W0, W0 = w.alloc (.cells #[.int .i64 5, .bool b, .int .i64 n, .string t, .string x, .slice p q.length cap] 28) := ⟨_, rfl⟩
  have S : Six W0 w.heap.size 5 b n t x p q.length cap := by rw [hW0]; exact six_new _ rfl
  have O : OwnB w0 A l W0 := by rw [hW0]; exact h.alloc _
  have hlo : w0.heap.size ≤ w.heap.size := h.lo
  have H0 := Lib.hid hW0
  have HF := Lib.hid hf
  have htz := hf.ht
  have hxz := hf.hx
  have hS := Lib.hid hS0
  clear hS0
  unfold SLPost at hS
  clear hW0 h hf
  go_enter Tryz.func40, Tryz.ntmps40
  go_wp2_with (first
    | (rw [← H0.out]; (with_reducible refine wpList_load6 (.tmp 3) w.heap.size S ?_ ?_ ?_ ?_); rfl; rfl; rfl)
    | (go_at_call 72; (with_reducible refine (kindOfAt 5 _ _ _ _ _ 91 rfl _).mono ?_); rintro e w2 ⟨rfl, hb2⟩; have O2 := O.after hb2; have S2 := S.below hb2; have f0 := S2.c0; have f1 := S2.c1; have f2 := S2.c2; have f3 := S2.c3; have f4 := S2.c4; have f5 := S2.c5; clear hb2 O S)
    | (simp only [ta91_80, ta91_81, ta91_82, ta91_83, ta91_84, ta91_85, ta91_87, ta91_88, ta91_89, ta91_90, ta91_91, Result.andThen_ok])
    | (go_at_call 83; (with_reducible refine (hS.out _ O2).mono ?_); rintro e w3 ⟨A3, rfl, O3⟩; clear f0 f1 f2 f3 f4 f5 O2 S2))
  have HO := Lib.hid O3
  clear O3
  go_wp2_with fail
  go_ret
  exact ⟨_, rfl, by unfold showP; simpa using HO.out⟩

theorem showStep (v : Val) (k : Int) (b : Bool) (n : Int) (t x : ByteArray) (q : List Val) (ev : v = .mk k b n t x q) (each : ∀ u ∈ q, ShowAt u) : ShowAt v := by
  subst ev
  intro w0 w A l k1 b1 n1 t1 x1 q1 p cap e hf hl hO hT hok hfi hw
  cases e
  have hw' := hw
  unfold wOne at hw'
  have hl8 : l.length ≤ 800000000 := by omega
  by_cases h0 : k = 0
  · subst h0; exact showNull w0 w A l b n t x p q cap hf hO hl8
  by_cases h1 : k = 1
  · subst h1
    cases b with
    | true => exact showBoolTrue w0 w A l n t x p q cap hf hO hl8
    | false => exact showBoolFalse w0 w A l n t x p q cap hf hO hl8
  by_cases h2 : k = 2
  · subst h2; exact showWhole w0 w A l b n t x p q cap hf hO hl8 hT
  by_cases h3 : k = 3
  · subst h3; exact showExact w0 w A l b n t x p q cap hf hO hl8
  by_cases h4 : k = 4
  · subst h4; exact showText w0 w A l b n t x p q cap hf hO hl8
  by_cases h5 : k = 5
  · subst h5
    refine showLst w0 w A l b n t x p q cap hf hO hl8 (fun W hW => ?_)
    unfold okS at hok
    unfold fineV at hfi
    cases q with
    | nil => exact showListNil w0 W A l p cap hW hl8
    | cons v r =>
      obtain ⟨g, off, rfl, hh⟩ := hl.form
      exact showListSome w0 W A l g off cap (v :: r) hW hh hf.hn hT (hok.2 rfl) hfi.2 (by omega) each
  by_cases h6 : k = 6
  · subst h6
    unfold okS at hok
    exact showNode w0 w A l b n t x p q cap hf hO hl8 hT (hok.1 (.inl rfl))
  by_cases h7 : k = 7
  · subst h7
    unfold okS at hok
    exact showEdge w0 w A l b n t x p q cap hf hO hl8 hT (hok.1 (.inr rfl))
  by_cases h8 : k = 8
  · subst h8; exact showIri w0 w A l b n t x p q cap hf hO hl8
  by_cases h9 : k = 9
  · subst h9; exact showBlank w0 w A l b n t x p q cap hf hO hl8
  by_cases h10 : k = 10
  · subst h10; exact showLit w0 w A l b n t x p q cap hf hO hl8
  exact showStranger w0 w A l k b n t x p q cap hf hO hl8 (by simp [kindT, h0, h1, h2, h3, h4, h5, h6, h7, h8, h9, h10])
mutual
theorem showVal : (v : Val) → ShowAt v
  | .mk k b n t x q => showStep _ k b n t x q rfl (showEach q)
theorem showEach : (q : List Val) → ∀ u ∈ q, ShowAt u
  | [], _, h => absurd h (by simp)
  | v :: r, u, h => by
    rcases List.mem_cons.1 h with h | h
    · rw [h]; exact showVal v
    · exact showEach r u h
end
theorem convB (w2 : World) (A : Value) (m : List UInt8) (h : Bts w2 A m) : (convert 40 9 A).run Tryz.prog w2 = .ok (.string (bs m)) w2 := by
  obtain ⟨p, cap, rfl, h1⟩ := h
  rcases h1 with rfl | ⟨g, off, rfl, hc⟩
  · cases p with
    | none => exact run_convert_bytes_nil (P := Tryz.prog) (w := w2) 40 5 Tryz.underlying40 Tryz.underlying5 0 cap 9 Tryz.underlying9
    | some a => exact run_convert_bytes_back (P := Tryz.prog) w2 40 9 5 a cap [] Tryz.underlying40 Tryz.underlying5 Tryz.underlying9 (fun j hj => absurd hj (by simp))
  · exact run_convert_bytes_back (P := Tryz.prog) w2 40 9 5 ⟨g, off, none⟩ cap m Tryz.underlying40 Tryz.underlying5 Tryz.underlying9 (fun j hj => by
      rw [Addr.add_mid]
      exact hc j _ (List.getElem?_eq_getElem hj))
/-- The text of a value. -/
def textP (v : Val) : List UInt8 := if mayP v 0 then showP v else []
set_option maxRecDepth 20000 in
set_option maxHeartbeats 3200000 in
theorem textOf (v : Val) (k : Int) (b : Bool) (n : Int) (t x : ByteArray) (q : List Val) (p : Option Addr) (cap : Nat) (w : World) (hG : Gd w) (hT : Tab w) (ev : v = .mk k b n t x q) (hf : Fine n t x q.length) (hl : Held w (.slice p q.length cap) q) (hfi : fineV v) (hw : 27 * wOne v ≤ 800000000) :
    Calls Tryz.prog 15 #[.agg #[.int .i64 k, .bool b, .int .i64 n, .string t, .string x, .slice p q.length cap]] w fun e w' => e = .returned (.string (bs (textP v))) ∧ Below w.heap.size w w' := by
  obtain ⟨W0, hW0⟩ : ∃ W0, W0 = w.alloc (.cells #[.int .i64 k, .bool b, .int .i64 n, .string t, .string x, .slice p q.length cap] 28) := ⟨_, rfl⟩
  have S : Six W0 w.heap.size k b n t x p q.length cap := by rw [hW0]; exact six_new _ rfl
  have b0 : Below w.heap.size w W0 := by rw [hW0]; exact below1 _ _
  have hc := fun W (h : Below w.heap.size w W) => checkAtV v k b n t x q (.slice p q.length cap) W ev (hG.below h) hf.ht hf.hx (Held.below q hl h)
  have he := fun W (h : Below w.heap.size w W) (ho : okS v) => showVal v W W (.slice none 0 0) [] k b n t x q p cap ev hf (Held.below q hl h) (OwnB.start W) (hT.below h) ho hfi (by simpa using hw)
  unfold ShowPost at he
  have H0 := Lib.hid hW0
  obtain ⟨X, hX⟩ : ∃ X, X = bs (textP v) := ⟨_, rfl⟩
  rw [← hX]
  have HX := Lib.hid hX
  clear hW0 hl hf hG ev hX hfi
  cases hm : mayP v 0 with
  | false =>
    rw [hm] at hc
    have hx0 : X = ⟨#[]⟩ := by rw [HX.out]; unfold textP; rw [hm]; rfl
    go_enter Tryz.func15, Tryz.ntmps15
    go_wp2_with (first
      | ((try rw [← H0.out]); (with_reducible refine wpList_load6 (.tmp 1) w.heap.size S ?_ ?_ ?_ ?_); rfl; rfl; rfl)
      | (go_at_call 13; (with_reducible refine (hc _ b0).mono ?_); rintro e w' ⟨rfl, hb⟩; replace S := S.below hb; replace b0 := below_any b0 hb b0.size; clear hb))
    go_ret
    exact ⟨by rw [hx0]; rfl, b0⟩
  | true =>
    rw [hm] at hc
    have hx0 : X = bs (showP v) := by rw [HX.out]; unfold textP; rw [hm]; rfl
    have HX0 := Lib.hid hx0
    have hok := okS_may v 0 hm
    clear hx0
    go_enter Tryz.func15, Tryz.ntmps15
    go_wp2_with (first
      | ((try rw [← H0.out]); (with_reducible refine wpList_load6 (.tmp 1) w.heap.size S ?_ ?_ ?_ ?_); rfl; rfl; rfl)
      | (go_at_call 13; (with_reducible refine (hc _ b0).mono ?_); rintro e w' ⟨rfl, hb⟩; replace S := S.below hb; replace b0 := below_any b0 hb b0.size; clear hb)
      | (go_at_call 40; (with_reducible refine (he _ b0 hok).mono ?_); rintro e w3 ⟨A3, rfl, O3⟩; have b3 := below_any b0 O3.bel b0.size; have hconv := convB w3 A3 _ O3.bts; rw [List.nil_append, ← HX0.out] at hconv; clear O3))
    go_ret
    exact ⟨rfl, b3⟩
end Go.Proofs.YtoifjjgakblhhaaGreatDoor

/- The document's own answer: whether a text may be an address, a name. -/
namespace Go.Proofs.YtoifjjgakblhhaaGreatDoor
open Go.RowKit

set_option maxHeartbeats 1600000 in
theorem refIri (s : ByteArray) (w : World) (hs : s.size ≤ maxLen) :
    Calls Tryz.prog 79 #[.string s] w fun e w' => e = .returned (.bool (addrP s)) ∧ w = w' := by
  unfold maxLen at hs
  by_cases h0 : s.size = 0
  · have hv : addrP s = false := by
      unfold addrP
      rw [decide_eq_false_iff_not]
      omega
    rw [hv]
    go_enter Tryz.func79, Tryz.ntmps79
    go_wp2_with fail
    go_ret
    exact ⟨rfl, rfl⟩
  · by_cases hbig : (1048576 : Int) < s.size
    · have hv : addrP s = false := by
        unfold addrP
        rw [decide_eq_false_iff_not]
        omega
      have h1 : ¬ (s.size : Int) < 1 := by omega
      rw [hv]
      go_enter Tryz.func79, Tryz.ntmps79
      go_wp2_with fail
      go_ret
      exact ⟨rfl, rfl⟩
    · have h1 : ¬ (s.size : Int) < 1 := by omega
      go_enter Tryz.func79, Tryz.ntmps79
      go_wp2_with fail
      go_loop [3] (fun i => ∃ k : Nat, k ≤ s.size ∧ i = .int .i64 k ∧ ∀ j (h : j < s.size), j < k → addrC s[j] = true) (fun i => s.size - (intOf i).toNat)
      case atStart => exact ⟨0, Nat.zero_le _, rfl, fun j _ h => absurd h (by omega)⟩
      case round =>
        obtain ⟨k, hk, rfl, hall⟩ := hrel
        have HA := Lib.hid hall
        clear hall
        by_cases hlt : k < s.size
        · by_cases h1 : (s[k].toNat : Int) ≤ 32
          · go_wp2_with fail
            go_ret
            exact ⟨by rw [addr_no hlt (by simp [addrC]; omega)]; rfl, rfl⟩
          · by_cases h2 : (s[k].toNat : Int) = 60
            · go_wp2_with fail
              go_ret
              exact ⟨by rw [addr_no hlt (by simp [addrC]; omega)]; rfl, rfl⟩
            · by_cases h3 : (s[k].toNat : Int) = 62
              · go_wp2_with fail
                go_ret
                exact ⟨by rw [addr_no hlt (by simp [addrC]; omega)]; rfl, rfl⟩
              · go_wp2_with fail
                go_round
                case rel => exact ⟨k + 1, by omega, by go_num, pastAll (p := fun _ => addrC) hlt HA.out (by simp [addrC]; omega)⟩
                case measure => simp [intOf]; omega
        · go_wp2_with fail
          go_ret
          have hv : addrP s = true := by
            unfold addrP
            rw [decide_eq_true_eq]
            exact ⟨by omega, by omega, fun j hj => HA.out j hj (by omega)⟩
          exact ⟨by rw [hv]; rfl, rfl⟩
set_option maxHeartbeats 3200000 in
theorem refName (s : ByteArray) (w : World) (hs : s.size ≤ maxLen) :
    Calls Tryz.prog 80 #[.string s] w fun e w' => e = .returned (.bool (nameP s)) ∧ w = w' := by
  unfold maxLen at hs
  by_cases h0 : s.size = 0
  · have hv : nameP s = false := by
      unfold nameP
      rw [decide_eq_false_iff_not]
      omega
    rw [hv]
    go_enter Tryz.func80, Tryz.ntmps80
    go_wp2_with fail
    go_ret
    exact ⟨rfl, rfl⟩
  have hpos : 0 < s.size := by omega
  have hlow : ¬ (s.size : Int) < 1 := by omega
  by_cases hbig : (64 : Int) < s.size
  · have hv : nameP s = false := by
      unfold nameP
      rw [decide_eq_false_iff_not]
      omega
    rw [hv]
    go_enter Tryz.func80, Tryz.ntmps80
    go_wp2_with fail
    go_ret
    exact ⟨rfl, rfl⟩
  by_cases hd : (48 : Int) ≤ s[0].toNat ∧ (s[0].toNat : Int) ≤ 57
  · have hv : nameP s = false := name_no hpos (by simp [nameC, letterB]; omega)
    rw [hv]
    obtain ⟨d1, d2⟩ := hd
    go_enter Tryz.func80, Tryz.ntmps80
    go_wp2_with fail
    go_ret
    exact ⟨rfl, rfl⟩
  have HD := Lib.hid hd
  have hdd : ¬ (48 : Int) ≤ s[0].toNat ∨ ¬ (s[0].toNat : Int) ≤ 57 := by omega
  clear hd
  rcases hdd with hdd | hdd
  all_goals
    go_enter Tryz.func80, Tryz.ntmps80
    go_wp2_with fail
    all_goals
      go_loop [3] (fun i => ∃ k : Nat, k ≤ s.size ∧ i = .int .i64 k ∧ ∀ j (h : j < s.size), j < k → nameC j s[j] = true) (fun i => s.size - (intOf i).toNat)
      case atStart => exact ⟨0, Nat.zero_le _, rfl, fun j _ h => absurd h (by omega)⟩
      case round =>
        clear hdd
        obtain ⟨k, hk, rfl, hall⟩ := hrel
        have HA := Lib.hid hall
        clear hall
        by_cases hlt : k < s.size
        · by_cases a1 : (97 : Int) ≤ s[k].toNat
          · by_cases a2 : (s[k].toNat : Int) ≤ 122
            · go_wp2_with fail
              go_round
              case rel => exact ⟨k + 1, by omega, by go_num, pastAll (p := nameC) hlt HA.out (by simp [nameC, letterB]; omega)⟩
              case measure => simp [intOf]; omega
            · have a3 : (65 : Int) ≤ s[k].toNat := by omega
              have a4 : ¬ (s[k].toNat : Int) ≤ 90 := by omega
              have a5 : (48 : Int) ≤ s[k].toNat := by omega
              have a6 : ¬ (s[k].toNat : Int) ≤ 57 := by omega
              have a7 : ¬ (s[k].toNat : Int) = 95 := by omega
              have e7 : ((s[k].toNat : Int) == 95) = false := by simpa using a7
              go_wp2_with fail
              go_ret
              exact ⟨by rw [name_no hlt (by simp [nameC, letterB, digitB]; omega)]; rfl, rfl⟩
          · by_cases a3 : (65 : Int) ≤ s[k].toNat
            · by_cases a4 : (s[k].toNat : Int) ≤ 90
              · go_wp2_with fail
                go_round
                case rel => exact ⟨k + 1, by omega, by go_num, pastAll (p := nameC) hlt HA.out (by simp [nameC, letterB]; omega)⟩
                case measure => simp [intOf]; omega
              · have a5 : (48 : Int) ≤ s[k].toNat := by omega
                have a6 : ¬ (s[k].toNat : Int) ≤ 57 := by omega
                by_cases a7 : (s[k].toNat : Int) = 95
                · have e7 : ((s[k].toNat : Int) == 95) = true := by simpa using a7
                  go_wp2_with fail
                  go_round
                  case rel => exact ⟨k + 1, by omega, by go_num, pastAll (p := nameC) hlt HA.out (by simp [nameC, letterB]; omega)⟩
                  case measure => simp [intOf]; omega
                · have e7 : ((s[k].toNat : Int) == 95) = false := by simpa using a7
                  go_wp2_with fail
                  go_ret
                  exact ⟨by rw [name_no hlt (by simp [nameC, letterB, digitB]; omega)]; rfl, rfl⟩
            · by_cases a5 : (48 : Int) ≤ s[k].toNat
              · by_cases a6 : (s[k].toNat : Int) ≤ 57
                · have hk0 : k ≠ 0 := by
                    rintro rfl
                    exact HD.out ⟨a5, a6⟩
                  go_wp2_with fail
                  go_round
                  case rel => exact ⟨k + 1, by omega, by go_num, pastAll (p := nameC) hlt HA.out (by simp [nameC, digitB, hk0]; omega)⟩
                  case measure => simp [intOf]; omega
                · have a7 : ¬ (s[k].toNat : Int) = 95 := by omega
                  have e7 : ((s[k].toNat : Int) == 95) = false := by simpa using a7
                  go_wp2_with fail
                  go_ret
                  exact ⟨by rw [name_no hlt (by simp [nameC, letterB, digitB]; omega)]; rfl, rfl⟩
              · have a7 : ¬ (s[k].toNat : Int) = 95 := by omega
                have e7 : ((s[k].toNat : Int) == 95) = false := by simpa using a7
                go_wp2_with fail
                go_ret
                exact ⟨by rw [name_no hlt (by simp [nameC, letterB, digitB]; omega)]; rfl, rfl⟩
        · go_wp2_with fail
          go_ret
          have hv : nameP s = true := by
            unfold nameP
            rw [decide_eq_true_eq]
            exact ⟨hpos, by omega, fun j hj => HA.out j hj (by omega)⟩
          exact ⟨by rw [hv]; rfl, rfl⟩
end Go.Proofs.YtoifjjgakblhhaaGreatDoor

/- The document's own answer: whether a value may be, kind by kind, but for lists. -/
namespace Go.Proofs.YtoifjjgakblhhaaGreatDoor
open Go.RowKit

theorem bareP_as (b : Bool) (n : Int) (t x : ByteArray) (len : Nat) : bareP b n t x len = (!b && !(n != 0) && !(!t.toList.isEmpty) && !(!x.toList.isEmpty) && !(decide (0 < len))) := by
  have e1 : decide (n = 0) = !(n != 0) := by cases h : (n != 0) <;> simp_all
  have e2 : decide (t.size = 0) = !(!t.toList.isEmpty) := by
    rw [Bool.not_not, Bool.eq_iff_iff, decide_eq_true_eq]
    exact (empty_iff t).symm
  have e3 : decide (x.size = 0) = !(!x.toList.isEmpty) := by
    rw [Bool.not_not, Bool.eq_iff_iff, decide_eq_true_eq]
    exact (empty_iff x).symm
  have e4 : decide (len = 0) = !(decide (0 < len)) := by
    rw [Bool.eq_iff_iff]
    simp
  unfold bareP
  rw [e1, e2, e3, e4]
theorem emptyB : (!(⟨#[]⟩ : ByteArray).toList.isEmpty) = false := by
  have := (empty_iff ⟨#[]⟩).2 rfl
  rw [this]
  rfl

theorem fitsK0 (b : Bool) (n : Int) (t x : ByteArray) (len : Nat) (r : Bool) : fitsP 0 b n t x len r = (!b && !(n != 0) && !(!t.toList.isEmpty) && !(!x.toList.isEmpty) && !(decide (0 < len))) := by
  rw [show fitsP 0 b n t x len r = bareP b n t x len from rfl]
  rw [bareP_as]
set_option maxRecDepth 20000 in
set_option maxHeartbeats 6400000 in
theorem refMay0 (b : Bool) (n : Int) (t x : ByteArray) (p : Option Addr) (len cap d : Nat) (r0 : Bool) (w : World) (hd : (d : Int) ≤ 60) (ht : t.size ≤ 2097152) (hx : x.size ≤ 2097152) :
    Calls Tryz.prog 39 #[.agg #[.int .i64 0, .bool b, .int .i64 n, .string t, .string x, .slice p len cap], .int .i64 d] w fun e w' => e = .returned (.bool (fitsP 0 b n t x len r0)) ∧ Below w.heap.size w w' := by
  have S := six_new (k := 0) (b := b) (n := n) (t := t) (x := x) (p := p) (len := len) (cap := cap) w rfl
  have b0 := below1 w (.cells #[.int .i64 0, .bool b, .int .i64 n, .string t, .string x, .slice p len cap] 28)
  have f0 := S.c0
  have f1 := S.c1
  have f2 := S.c2
  have f3 := S.c3
  have f4 := S.c4
  have f5 := S.c5
  rw [fitsK0]
  obtain ⟨r, hr⟩ : ∃ r, r = (!b && !(n != 0) && !(!t.toList.isEmpty) && !(!x.toList.isEmpty) && !(decide (0 < len))) := ⟨_, rfl⟩
  rw [← hr]
  obtain ⟨w1, hw1⟩ : ∃ w1, w1 = w.alloc (.cells #[.int .i64 0, .bool b, .int .i64 n, .string t, .string x, .slice p len cap] 28) := ⟨_, rfl⟩
  rw [← hw1] at S b0
  have HW := Lib.hid hw1
  have HR := Lib.hid hr
  clear hw1 hr
  go_enter Tryz.func39, Tryz.ntmps39
  go_upto_region 9 with fail
  rw [← HW.out]
  clear f0 f1 f2 f3 f4 f5
  have f0 := S.c0
  have f2 := S.c2
  have f3 := S.c3
  have f4 := S.c4
  have HR2 := HR.out
  clear HR
  generalize (n != 0) = nb at HR2 ⊢
  generalize (!t.toList.isEmpty) = tb at HR2 ⊢
  generalize (!x.toList.isEmpty) = xb at HR2 ⊢
  generalize decide (0 < len) = lb at HR2 ⊢
  have HR3 := Lib.hid HR2
  clear HR2 ht hx
  go_wp2_with fail
  all_goals
    go_ret
    exact ⟨by rw [HR3.out]; simp_all <;> (intros; omega), b0⟩

theorem fitsK1 (b : Bool) (n : Int) (t x : ByteArray) (len : Nat) (r : Bool) : fitsP 1 b n t x len r = (!(n != 0) && !(!t.toList.isEmpty) && !(!x.toList.isEmpty) && !(decide (0 < len))) := by
  rw [show fitsP 1 b n t x len r = bareP false n t x len from rfl]
  rw [bareP_as]
  simp
set_option maxRecDepth 20000 in
set_option maxHeartbeats 6400000 in
theorem refMay1 (b : Bool) (n : Int) (t x : ByteArray) (p : Option Addr) (len cap d : Nat) (r0 : Bool) (w : World) (hd : (d : Int) ≤ 60) (ht : t.size ≤ 2097152) (hx : x.size ≤ 2097152) :
    Calls Tryz.prog 39 #[.agg #[.int .i64 1, .bool b, .int .i64 n, .string t, .string x, .slice p len cap], .int .i64 d] w fun e w' => e = .returned (.bool (fitsP 1 b n t x len r0)) ∧ Below w.heap.size w w' := by
  have S := six_new (k := 1) (b := b) (n := n) (t := t) (x := x) (p := p) (len := len) (cap := cap) w rfl
  have b0 := below1 w (.cells #[.int .i64 1, .bool b, .int .i64 n, .string t, .string x, .slice p len cap] 28)
  have f0 := S.c0
  have f1 := S.c1
  have f2 := S.c2
  have f3 := S.c3
  have f4 := S.c4
  have f5 := S.c5
  rw [fitsK1]
  obtain ⟨r, hr⟩ : ∃ r, r = (!(n != 0) && !(!t.toList.isEmpty) && !(!x.toList.isEmpty) && !(decide (0 < len))) := ⟨_, rfl⟩
  rw [← hr]
  obtain ⟨w1, hw1⟩ : ∃ w1, w1 = w.alloc (.cells #[.int .i64 1, .bool b, .int .i64 n, .string t, .string x, .slice p len cap] 28) := ⟨_, rfl⟩
  rw [← hw1] at S b0
  have HW := Lib.hid hw1
  have HR := Lib.hid hr
  clear hw1 hr
  go_enter Tryz.func39, Tryz.ntmps39
  go_upto_region 9 with fail
  rw [← HW.out]
  clear f0 f1 f2 f3 f4 f5
  have f0 := S.c0
  have f2 := S.c2
  have f3 := S.c3
  have f4 := S.c4
  have HR2 := HR.out
  clear HR
  generalize (n != 0) = nb at HR2 ⊢
  generalize (!t.toList.isEmpty) = tb at HR2 ⊢
  generalize (!x.toList.isEmpty) = xb at HR2 ⊢
  generalize decide (0 < len) = lb at HR2 ⊢
  have HR3 := Lib.hid HR2
  clear HR2 ht hx
  go_wp2_with fail
  all_goals
    go_ret
    exact ⟨by rw [HR3.out]; simp_all <;> (intros; omega), b0⟩

theorem fitsK2 (b : Bool) (n : Int) (t x : ByteArray) (len : Nat) (r : Bool) : fitsP 2 b n t x len r = (!b && !(!t.toList.isEmpty) && !(!x.toList.isEmpty) && !(decide (0 < len))) := by
  rw [show fitsP 2 b n t x len r = bareP b 0 t x len from rfl]
  rw [bareP_as]
  simp
set_option maxRecDepth 20000 in
set_option maxHeartbeats 6400000 in
theorem refMay2 (b : Bool) (n : Int) (t x : ByteArray) (p : Option Addr) (len cap d : Nat) (r0 : Bool) (w : World) (hd : (d : Int) ≤ 60) (ht : t.size ≤ 2097152) (hx : x.size ≤ 2097152) :
    Calls Tryz.prog 39 #[.agg #[.int .i64 2, .bool b, .int .i64 n, .string t, .string x, .slice p len cap], .int .i64 d] w fun e w' => e = .returned (.bool (fitsP 2 b n t x len r0)) ∧ Below w.heap.size w w' := by
  have S := six_new (k := 2) (b := b) (n := n) (t := t) (x := x) (p := p) (len := len) (cap := cap) w rfl
  have b0 := below1 w (.cells #[.int .i64 2, .bool b, .int .i64 n, .string t, .string x, .slice p len cap] 28)
  have f0 := S.c0
  have f1 := S.c1
  have f2 := S.c2
  have f3 := S.c3
  have f4 := S.c4
  have f5 := S.c5
  rw [fitsK2]
  obtain ⟨r, hr⟩ : ∃ r, r = (!b && !(!t.toList.isEmpty) && !(!x.toList.isEmpty) && !(decide (0 < len))) := ⟨_, rfl⟩
  rw [← hr]
  obtain ⟨w1, hw1⟩ : ∃ w1, w1 = w.alloc (.cells #[.int .i64 2, .bool b, .int .i64 n, .string t, .string x, .slice p len cap] 28) := ⟨_, rfl⟩
  rw [← hw1] at S b0
  have HW := Lib.hid hw1
  have HR := Lib.hid hr
  clear hw1 hr
  go_enter Tryz.func39, Tryz.ntmps39
  go_upto_region 9 with fail
  rw [← HW.out]
  clear f0 f1 f2 f3 f4 f5
  have f0 := S.c0
  have f2 := S.c2
  have f3 := S.c3
  have f4 := S.c4
  have HR2 := HR.out
  clear HR
  generalize (n != 0) = nb at HR2 ⊢
  generalize (!t.toList.isEmpty) = tb at HR2 ⊢
  generalize (!x.toList.isEmpty) = xb at HR2 ⊢
  generalize decide (0 < len) = lb at HR2 ⊢
  have HR3 := Lib.hid HR2
  clear HR2 ht hx
  go_wp2_with fail
  all_goals
    go_ret
    exact ⟨by rw [HR3.out]; simp_all <;> (intros; omega), b0⟩

theorem fitsK3 (b : Bool) (n : Int) (t x : ByteArray) (len : Nat) (r : Bool) : fitsP 3 b n t x len r = (chk t.data.toList && (!b && !(n != 0) && !(!x.toList.isEmpty) && !(decide (0 < len)))) := by
  rw [show fitsP 3 b n t x len r = (chk t.data.toList && bareP b n ⟨#[]⟩ x len) from rfl]
  rw [bareP_as]
  rw [emptyB]
  simp
set_option maxRecDepth 20000 in
set_option maxHeartbeats 6400000 in
theorem refMay3 (b : Bool) (n : Int) (t x : ByteArray) (p : Option Addr) (len cap d : Nat) (r0 : Bool) (w : World) (hd : (d : Int) ≤ 60) (ht : t.size ≤ 2097152) (hx : x.size ≤ 2097152) :
    Calls Tryz.prog 39 #[.agg #[.int .i64 3, .bool b, .int .i64 n, .string t, .string x, .slice p len cap], .int .i64 d] w fun e w' => e = .returned (.bool (fitsP 3 b n t x len r0)) ∧ Below w.heap.size w w' := by
  have S := six_new (k := 3) (b := b) (n := n) (t := t) (x := x) (p := p) (len := len) (cap := cap) w rfl
  have b0 := below1 w (.cells #[.int .i64 3, .bool b, .int .i64 n, .string t, .string x, .slice p len cap] 28)
  have f0 := S.c0
  have f1 := S.c1
  have f2 := S.c2
  have f3 := S.c3
  have f4 := S.c4
  have f5 := S.c5
  rw [fitsK3]
  obtain ⟨r, hr⟩ : ∃ r, r = (chk t.data.toList && (!b && !(n != 0) && !(!x.toList.isEmpty) && !(decide (0 < len)))) := ⟨_, rfl⟩
  rw [← hr]
  have hC := fun W => refCheck t W (by omega)
  obtain ⟨w1, hw1⟩ : ∃ w1, w1 = w.alloc (.cells #[.int .i64 3, .bool b, .int .i64 n, .string t, .string x, .slice p len cap] 28) := ⟨_, rfl⟩
  rw [← hw1] at S b0
  have HW := Lib.hid hw1
  have HR := Lib.hid hr
  clear hw1 hr
  go_enter Tryz.func39, Tryz.ntmps39
  go_upto_region 9 with fail
  rw [← HW.out]
  clear f0 f1 f2 f3 f4 f5
  have f0 := S.c0
  have f2 := S.c2
  have f3 := S.c3
  have f4 := S.c4
  have HR2 := HR.out
  clear HR
  generalize (n != 0) = nb at HR2 ⊢
  generalize (!t.toList.isEmpty) = tb at HR2 ⊢
  generalize (!x.toList.isEmpty) = xb at HR2 ⊢
  generalize decide (0 < len) = lb at HR2 ⊢
  generalize chk t.data.toList = C at HR2 hC ⊢
  have HR3 := Lib.hid HR2
  clear HR2 ht hx
  go_wp2_with (go_at_call 78; (with_reducible refine (hC _).mono ?_); rintro e w' ⟨rfl, hb⟩; replace b0 := below_any b0 hb b0.size)
  all_goals
    go_ret
    exact ⟨by rw [HR3.out]; simp_all <;> (intros; omega), b0⟩
end Go.Proofs.YtoifjjgakblhhaaGreatDoor

/- The document's own answer: whether a value may be, kind by kind: more kinds. -/
namespace Go.Proofs.YtoifjjgakblhhaaGreatDoor
open Go.RowKit


theorem fitsK4 (b : Bool) (n : Int) (t x : ByteArray) (len : Nat) (r : Bool) : fitsP 4 b n t x len r = (decide ((t.size : Int) ≤ 1048576) && (!b && !(n != 0) && !(!x.toList.isEmpty) && !(decide (0 < len)))) := by
  rw [show fitsP 4 b n t x len r = (decide (t.size ≤ 1048576) && bareP b n ⟨#[]⟩ x len) from rfl]
  rw [bareP_as]
  rw [emptyB, show decide (t.size ≤ 1048576) = decide ((t.size : Int) ≤ 1048576) from decide_eq_decide.2 (by omega)]
  simp
set_option maxRecDepth 20000 in
set_option maxHeartbeats 6400000 in
theorem refMay4 (b : Bool) (n : Int) (t x : ByteArray) (p : Option Addr) (len cap d : Nat) (r0 : Bool) (w : World) (hd : (d : Int) ≤ 60) (ht : t.size ≤ 2097152) (hx : x.size ≤ 2097152) :
    Calls Tryz.prog 39 #[.agg #[.int .i64 4, .bool b, .int .i64 n, .string t, .string x, .slice p len cap], .int .i64 d] w fun e w' => e = .returned (.bool (fitsP 4 b n t x len r0)) ∧ Below w.heap.size w w' := by
  have S := six_new (k := 4) (b := b) (n := n) (t := t) (x := x) (p := p) (len := len) (cap := cap) w rfl
  have b0 := below1 w (.cells #[.int .i64 4, .bool b, .int .i64 n, .string t, .string x, .slice p len cap] 28)
  have f0 := S.c0
  have f1 := S.c1
  have f2 := S.c2
  have f3 := S.c3
  have f4 := S.c4
  have f5 := S.c5
  rw [fitsK4]
  obtain ⟨r, hr⟩ : ∃ r, r = (decide ((t.size : Int) ≤ 1048576) && (!b && !(n != 0) && !(!x.toList.isEmpty) && !(decide (0 < len)))) := ⟨_, rfl⟩
  rw [← hr]
  obtain ⟨w1, hw1⟩ : ∃ w1, w1 = w.alloc (.cells #[.int .i64 4, .bool b, .int .i64 n, .string t, .string x, .slice p len cap] 28) := ⟨_, rfl⟩
  rw [← hw1] at S b0
  have HW := Lib.hid hw1
  have HR := Lib.hid hr
  clear hw1 hr
  go_enter Tryz.func39, Tryz.ntmps39
  go_upto_region 9 with fail
  rw [← HW.out]
  clear f0 f1 f2 f3 f4 f5
  have f0 := S.c0
  have f2 := S.c2
  have f3 := S.c3
  have f4 := S.c4
  have HR2 := HR.out
  clear HR
  generalize (n != 0) = nb at HR2 ⊢
  generalize (!t.toList.isEmpty) = tb at HR2 ⊢
  generalize (!x.toList.isEmpty) = xb at HR2 ⊢
  generalize decide (0 < len) = lb at HR2 ⊢
  have HR3 := Lib.hid HR2
  clear HR2 ht hx
  go_wp2_with fail
  all_goals
    go_ret
    exact ⟨by rw [HR3.out]; simp_all <;> (intros; omega), b0⟩

theorem fitsK6 (b : Bool) (n : Int) (t x : ByteArray) (len : Nat) (r : Bool) : fitsP 6 b n t x len r = (decide (0 ≤ n) && (!b && !(!t.toList.isEmpty) && !(!x.toList.isEmpty) && !(decide (0 < len)))) := by
  rw [show fitsP 6 b n t x len r = (decide (0 ≤ n) && bareP b 0 t x len) from rfl]
  rw [bareP_as]
  simp
set_option maxRecDepth 20000 in
set_option maxHeartbeats 6400000 in
theorem refMay6 (b : Bool) (n : Int) (t x : ByteArray) (p : Option Addr) (len cap d : Nat) (r0 : Bool) (w : World) (hd : (d : Int) ≤ 60) (ht : t.size ≤ 2097152) (hx : x.size ≤ 2097152) :
    Calls Tryz.prog 39 #[.agg #[.int .i64 6, .bool b, .int .i64 n, .string t, .string x, .slice p len cap], .int .i64 d] w fun e w' => e = .returned (.bool (fitsP 6 b n t x len r0)) ∧ Below w.heap.size w w' := by
  have S := six_new (k := 6) (b := b) (n := n) (t := t) (x := x) (p := p) (len := len) (cap := cap) w rfl
  have b0 := below1 w (.cells #[.int .i64 6, .bool b, .int .i64 n, .string t, .string x, .slice p len cap] 28)
  have f0 := S.c0
  have f1 := S.c1
  have f2 := S.c2
  have f3 := S.c3
  have f4 := S.c4
  have f5 := S.c5
  rw [fitsK6]
  obtain ⟨r, hr⟩ : ∃ r, r = (decide (0 ≤ n) && (!b && !(!t.toList.isEmpty) && !(!x.toList.isEmpty) && !(decide (0 < len)))) := ⟨_, rfl⟩
  rw [← hr]
  obtain ⟨w1, hw1⟩ : ∃ w1, w1 = w.alloc (.cells #[.int .i64 6, .bool b, .int .i64 n, .string t, .string x, .slice p len cap] 28) := ⟨_, rfl⟩
  rw [← hw1] at S b0
  have HW := Lib.hid hw1
  have HR := Lib.hid hr
  clear hw1 hr
  go_enter Tryz.func39, Tryz.ntmps39
  go_upto_region 9 with fail
  rw [← HW.out]
  clear f0 f1 f2 f3 f4 f5
  have f0 := S.c0
  have f2 := S.c2
  have f3 := S.c3
  have f4 := S.c4
  have HR2 := HR.out
  clear HR
  generalize (n != 0) = nb at HR2 ⊢
  generalize (!t.toList.isEmpty) = tb at HR2 ⊢
  generalize (!x.toList.isEmpty) = xb at HR2 ⊢
  generalize decide (0 < len) = lb at HR2 ⊢
  have HR3 := Lib.hid HR2
  clear HR2 ht hx
  go_wp2_with fail
  all_goals
    go_ret
    exact ⟨by rw [HR3.out]; simp_all <;> (intros; omega), b0⟩

theorem fitsK7 (b : Bool) (n : Int) (t x : ByteArray) (len : Nat) (r : Bool) : fitsP 7 b n t x len r = (decide (0 ≤ n) && (!b && !(!t.toList.isEmpty) && !(!x.toList.isEmpty) && !(decide (0 < len)))) := by
  rw [show fitsP 7 b n t x len r = (decide (0 ≤ n) && bareP b 0 t x len) from rfl]
  rw [bareP_as]
  simp
set_option maxRecDepth 20000 in
set_option maxHeartbeats 6400000 in
theorem refMay7 (b : Bool) (n : Int) (t x : ByteArray) (p : Option Addr) (len cap d : Nat) (r0 : Bool) (w : World) (hd : (d : Int) ≤ 60) (ht : t.size ≤ 2097152) (hx : x.size ≤ 2097152) :
    Calls Tryz.prog 39 #[.agg #[.int .i64 7, .bool b, .int .i64 n, .string t, .string x, .slice p len cap], .int .i64 d] w fun e w' => e = .returned (.bool (fitsP 7 b n t x len r0)) ∧ Below w.heap.size w w' := by
  have S := six_new (k := 7) (b := b) (n := n) (t := t) (x := x) (p := p) (len := len) (cap := cap) w rfl
  have b0 := below1 w (.cells #[.int .i64 7, .bool b, .int .i64 n, .string t, .string x, .slice p len cap] 28)
  have f0 := S.c0
  have f1 := S.c1
  have f2 := S.c2
  have f3 := S.c3
  have f4 := S.c4
  have f5 := S.c5
  rw [fitsK7]
  obtain ⟨r, hr⟩ : ∃ r, r = (decide (0 ≤ n) && (!b && !(!t.toList.isEmpty) && !(!x.toList.isEmpty) && !(decide (0 < len)))) := ⟨_, rfl⟩
  rw [← hr]
  obtain ⟨w1, hw1⟩ : ∃ w1, w1 = w.alloc (.cells #[.int .i64 7, .bool b, .int .i64 n, .string t, .string x, .slice p len cap] 28) := ⟨_, rfl⟩
  rw [← hw1] at S b0
  have HW := Lib.hid hw1
  have HR := Lib.hid hr
  clear hw1 hr
  go_enter Tryz.func39, Tryz.ntmps39
  go_upto_region 9 with fail
  rw [← HW.out]
  clear f0 f1 f2 f3 f4 f5
  have f0 := S.c0
  have f2 := S.c2
  have f3 := S.c3
  have f4 := S.c4
  have HR2 := HR.out
  clear HR
  generalize (n != 0) = nb at HR2 ⊢
  generalize (!t.toList.isEmpty) = tb at HR2 ⊢
  generalize (!x.toList.isEmpty) = xb at HR2 ⊢
  generalize decide (0 < len) = lb at HR2 ⊢
  have HR3 := Lib.hid HR2
  clear HR2 ht hx
  go_wp2_with fail
  all_goals
    go_ret
    exact ⟨by rw [HR3.out]; simp_all <;> (intros; omega), b0⟩
end Go.Proofs.YtoifjjgakblhhaaGreatDoor
