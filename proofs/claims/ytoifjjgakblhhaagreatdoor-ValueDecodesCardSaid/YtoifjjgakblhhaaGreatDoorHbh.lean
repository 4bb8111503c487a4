/- Texts of one kind, one behind the other: each says ahead of itself what it shows. -/
import Derived.Test.YtoifjjgakblhhaaGreatDoorHbg
import Derived.Test.YtoifjjgakblhhaaGreatDoorHba
import Derived.Test.YtoifjjgakblhhaaGreatDoorHbb
import Derived.Test.YtoifjjgakblhhaaGreatDoorHbc
import Derived.Laws.AppendOwnNone
import Derived.Test.YtoifjjgakblhhaaGreatDoorHai
import Derived.Test.YtoifjjgakblhhaaGreatDoorTie
import Derived.Test.YtoifjjgakblhhaaGreatDoorCards
import Derived.SevenTiedAt
import Derived.ProofKit
import Derived.LaidMore
import Derived.OpenShut
import Derived.Lay
import Derived.Carry
import Derived.HandedShaped
import Derived.Shelf.Vars
import Derived.Stop.Joined
import Derived.Stop.LaidErr
import Derived.Lib.SmallJoins
import Derived.Deep.DeepHandedRow
/- The document's own Decode. -/
namespace Go.Proofs.YtoifjjgakblhhaaGreatDoor
open Go.RowKit

/-- A slice of bytes that came in: what it reads as, with its capacity. -/
def Raw (w : World) (A : Value) (l : List UInt8) : Prop := ∃ p cap, A = .slice p l.length cap ∧ l.length ≤ cap ∧ cap ≤ maxLen ∧
  (l = [] ∨ ∃ g off, p = some ⟨g, off, none⟩ ∧ ∀ j c, l[j]? = some c → w.cell? ⟨g, off + j, none⟩ = some (.int .u8 c.toNat))
theorem Raw.below {w w' : World} {A : Value} {l : List UInt8} (h : Raw w A l) (b : Below w.heap.size w w') : Raw w' A l := by
  obtain ⟨p, cap, e, h1, h2, h3⟩ := h
  refine ⟨p, cap, e, h1, h2, ?_⟩
  rcases h3 with h3 | ⟨g, off, e2, hc⟩
  · exact .inl h3
  · exact .inr ⟨g, off, e2, fun j c hj => (b.cell (p := ⟨g, off + j, none⟩) (World.block_lt_of_cell? w _ (hc j c hj))).trans (hc j c hj)⟩
theorem Rz.new {w : World} {A : Value} {l : List UInt8} (h : Raw w A l) (R : Nat) (hR : R = w.heap.size) : Rz (w.alloc (.cells #[A, .bool false] 76)) R l false := by
  have h' := h.below (w' := w.alloc (.cells #[A, .bool false] 76)) (below1 _ _)
  obtain ⟨p, cap, rfl, h1, h2, h3⟩ := h
  obtain ⟨p', cap', e, _, _, h4⟩ := h'
  cases e
  subst hR
  refine ⟨p, cap, heap_new _ _ rfl, h1, h2, ?_⟩
  by_cases hl : l = []
  · exact .inl hl
  · rcases h4 with h4 | ⟨g, off, e2, hc⟩
    · exact absurd h4 hl
    · refine .inr ⟨g, off, e2, ?_, hc⟩
      rcases h3 with h3 | ⟨g2, off2, e4, hc2⟩
      · exact absurd h3 hl
      · rw [e4] at e2
        cases e2
        have hpos := List.length_pos_iff.2 hl
        exact World.block_lt_of_cell? w _ (hc2 0 l[0] (List.getElem?_eq_getElem hpos))
theorem Rz.c0 {w : World} {R : Nat} {l : List UInt8} {bad : Bool} (h : Rz w R l bad) : ∃ p cap, w.cell? ⟨R, 0, none⟩ = some (.slice p l.length cap) := by
  obtain ⟨p, cap, h, _⟩ := h
  exact ⟨p, cap, cell_of h _ rfl⟩

set_option maxRecDepth 20000 in
set_option maxHeartbeats 6400000 in
theorem dezNo (l : List UInt8) (A : Value) (w : World) (hs : Raw w A l) (hl : l.length ≤ 1048576) (hv : rzV 61 l = none) : Calls Tryz.prog 33 #[A] w (DecPost w l) := by
  obtain ⟨pA, capA, eA⟩ : ∃ p cap, A = .slice p l.length cap := by
    obtain ⟨p, cap, e, _⟩ := hs
    exact ⟨p, cap, e⟩
  subst eA
  obtain ⟨W1, hW1⟩ : ∃ W1, W1 = (w.alloc (.cells #[.int .i64 0, .bool false, .int .i64 0, .string ⟨#[]⟩, .string ⟨#[]⟩, .slice none 0 0] 28)).alloc (.cells #[.slice pA l.length capA, .bool false] 76) := ⟨_, rfl⟩
  have S : Six W1 w.heap.size 0 false 0 ⟨#[]⟩ ⟨#[]⟩ none 0 0 := by rw [hW1]; exact (six_new _ rfl).alloc _
  have b1 : Below w.heap.size w W1 := by rw [hW1]; exact below2 _ _ _
  have hR : Rz W1 (w.heap.size + 1) l false := by rw [hW1]; exact Rz.new (hs.below (below1 _ _)) _ (by simp)
  have z1 : W1.heap.size = w.heap.size + 2 := by rw [hW1]; simp
  have hval : Calls Tryz.prog 71 #[.pointer (some ⟨w.heap.size + 1, 0, none⟩), .int .i64 0] W1 (RzPost 61 (w.heap.size + 1) l false W1) := valueZ (w.heap.size + 1) 61 0 rfl l false W1 hR hl
  have H1 := Lib.hid hW1
  clear hW1 hs hR
  have hd : decP l = none := by rw [← dec_dez l hl]; unfold dezP; rw [hv]
  have HD := Lib.hid hd
  have hval' : Calls Tryz.prog 71 #[.pointer (some ⟨w.heap.size + 1, 0, none⟩), .int .i64 0] W1 fun e w' => (∃ (k : Int) (b : Bool) (n : Int) (t x : ByteArray) (p : Option Addr) (len cap : Nat), e = .returned (.agg #[.int .i64 k, .bool b, .int .i64 n, .string t, .string x, .slice p len cap])) ∧ (∃ l', Rz w' (w.heap.size + 1) l' true) ∧ Only (w.heap.size + 1) W1 w' := hval.mono (by
    rintro e w' (⟨_, he, ⟨l', _, h2⟩, h3⟩ | ⟨_, _, _, _, _, _, _, _, _, _, h, _⟩)
    · exact ⟨he, ⟨l', h2⟩, h3⟩
    · rw [hv] at h; cases h)
  clear hval hv hd
  go_enter Tryz.func33, Tryz.ntmps33
  go_upto_region 3 with (go_at_call 71; (try rw [← H1.out]); (with_reducible refine hval'.mono ?_); rintro e w2 ⟨⟨k, b, n, t, x, p, len, cap, rfl⟩, ⟨l', hR2⟩, hO⟩)
  have b2 := below_only b1 hO (by omega) (by omega)
  replace S := S.only hO (by omega)
  have b3 := b2.alloc b2.size (.cells #[.int .i64 k, .bool b, .int .i64 n, .string t, .string x, .slice p len cap] 28)
  replace S := S.alloc (.cells #[.int .i64 k, .bool b, .int .i64 n, .string t, .string x, .slice p len cap] 28)
  have rc1 := (hR2.below (below1 w2 (.cells #[.int .i64 k, .bool b, .int .i64 n, .string t, .string x, .slice p len cap] 28))).c1
  generalize w2.alloc (.cells #[.int .i64 k, .bool b, .int .i64 n, .string t, .string x, .slice p len cap] 28) = W3 at S b3 rc1 ⊢
  clear b2 hO b1 hR2
  go_wp2_with (first
    | ((with_reducible refine wpList_store6 (k' := 0) (b' := false) (n' := 0) (t' := ⟨#[]⟩) (x' := ⟨#[]⟩) (p' := none) (len' := 0) (cap' := 0) (.tmp 2) (.tmp 28) w.heap.size S ?_ ?_ ?_ ?_ ?_); rfl; rfl; rfl; rfl; intro w9 on9 S9))
  exact bodyPost_ret (results_six_tmp (p := 2) (q := 3) Tryz.results33 _ (.int .i64 6) rfl rfl S9) rfl (.inl ⟨HD.out, rfl, below_only b3 on9 (Nat.le_refl _) b3.size⟩)

set_option maxRecDepth 20000 in
set_option maxHeartbeats 6400000 in
theorem dezMore (l : List UInt8) (A : Value) (w : World) (hs : Raw w A l) (hl : l.length ≤ 1048576) (k : Int) (b : Bool) (n : Int) (t x : ByteArray) (q : List Val) (r : List UInt8) (hv : rzV 61 l = some (.mk k b n t x q, r)) (hr : r ≠ []) : Calls Tryz.prog 33 #[A] w (DecPost w l) := by
  obtain ⟨pA, capA, eA⟩ : ∃ p cap, A = .slice p l.length cap := by
    obtain ⟨p, cap, e, _⟩ := hs
    exact ⟨p, cap, e⟩
  subst eA
  obtain ⟨W1, hW1⟩ : ∃ W1, W1 = (w.alloc (.cells #[.int .i64 0, .bool false, .int .i64 0, .string ⟨#[]⟩, .string ⟨#[]⟩, .slice none 0 0] 28)).alloc (.cells #[.slice pA l.length capA, .bool false] 76) := ⟨_, rfl⟩
  have S : Six W1 w.heap.size 0 false 0 ⟨#[]⟩ ⟨#[]⟩ none 0 0 := by rw [hW1]; exact (six_new _ rfl).alloc _
  have b1 : Below w.heap.size w W1 := by rw [hW1]; exact below2 _ _ _
  have hR : Rz W1 (w.heap.size + 1) l false := by rw [hW1]; exact Rz.new (hs.below (below1 _ _)) _ (by simp)
  have z1 : W1.heap.size = w.heap.size + 2 := by rw [hW1]; simp
  have hval : Calls Tryz.prog 71 #[.pointer (some ⟨w.heap.size + 1, 0, none⟩), .int .i64 0] W1 (RzPost 61 (w.heap.size + 1) l false W1) := valueZ (w.heap.size + 1) 61 0 rfl l false W1 hR hl
  have H1 := Lib.hid hW1
  clear hW1 hs hR
  have hd : decP l = none := by
    rw [← dec_dez l hl]; unfold dezP
    rw [hv]
    cases r with
    | nil => exact absurd rfl hr
    | cons c s => rfl
  have hrl : 0 < r.length := List.length_pos_iff.2 hr
  have HD := Lib.hid hd
  have hval' : Calls Tryz.prog 71 #[.pointer (some ⟨w.heap.size + 1, 0, none⟩), .int .i64 0] W1 fun e w' => ∃ (p : Option Addr) (cap : Nat), e = .returned (.agg #[.int .i64 k, .bool b, .int .i64 n, .string t, .string x, .slice p q.length cap]) ∧ r.length ≤ l.length ∧ Fine n t x q.length ∧ HeldF w' (fun g => W1.heap.size ≤ g ∧ g < w'.heap.size) (.slice p q.length cap) q ∧ Rz w' (w.heap.size + 1) r false ∧ Only (w.heap.size + 1) W1 w' := hval.mono (by
    rintro e w' (⟨h, _⟩ | ⟨k1, b1, n1, t1, x1, q1, p, cap, r1, _, h, h1, h2, he, h3⟩)
    · rw [hv] at h; rcases h with h | h <;> cases h
    · rw [hv] at h
      simp only [Option.some.injEq, Prod.mk.injEq, Val.mk.injEq] at h
      obtain ⟨⟨rfl, rfl, rfl, rfl, rfl, rfl⟩, rfl⟩ := h
      exact ⟨p, cap, he, h1, h2, h3⟩)
  clear hval hv hd hr
  go_enter Tryz.func33, Tryz.ntmps33
  go_upto_region 3 with (go_at_call 71; (try rw [← H1.out]); (with_reducible refine hval'.mono ?_); rintro e w2 ⟨p, cap, rfl, h1, hf, hh, hR2, hO⟩)
  have b2 := below_only b1 hO (by omega) (by omega)
  replace S := S.only hO (by omega)
  have b3 := b2.alloc b2.size (.cells #[.int .i64 k, .bool b, .int .i64 n, .string t, .string x, .slice p q.length cap] 28)
  replace S := S.alloc (.cells #[.int .i64 k, .bool b, .int .i64 n, .string t, .string x, .slice p q.length cap] 28)
  have S5 : Six (w2.alloc (.cells #[.int .i64 k, .bool b, .int .i64 n, .string t, .string x, .slice p q.length cap] 28)) w2.heap.size k b n t x p q.length cap := six_new _ rfl
  have bb : Below w2.heap.size w2 (w2.alloc (.cells #[.int .i64 k, .bool b, .int .i64 n, .string t, .string x, .slice p q.length cap] 28)) := below1 _ _
  obtain ⟨pr, capr, cr⟩ := (hR2.below bb).c0
  have rc1 := (hR2.below bb).c1
  have hh3 : HeldF (w2.alloc (.cells #[.int .i64 k, .bool b, .int .i64 n, .string t, .string x, .slice p q.length cap] 28)) (fun g => W1.heap.size ≤ g ∧ g < (w2.alloc (.cells #[.int .i64 k, .bool b, .int .i64 n, .string t, .string x, .slice p q.length cap] 28)).heap.size) (.slice p q.length cap) q := hh.stays (fun g hg => ⟨⟨hg.1, Nat.lt_of_lt_of_le hg.2 bb.size⟩, bb.block g hg.2⟩) q
  generalize w2.alloc (.cells #[.int .i64 k, .bool b, .int .i64 n, .string t, .string x, .slice p q.length cap] 28) = W3 at S S5 b3 cr rc1 hh3 ⊢
  have HH := Lib.hid hh3
  have HF := Lib.hid hf
  clear b2 hO b1 bb hh hR2 hh3 hf
  have hrl2 : ¬((r.length : Int) = 0) := by omega
  have hrl3 : (0 : Int) < r.length := by omega
  go_wp2_with (first
    | ((with_reducible refine wpList_load6 (.tmp 5) w2.heap.size S5 ?_ ?_ ?_ ?_); rfl; rfl; rfl)
    | ((with_reducible refine wpList_load6g (.tmp 5) w2.heap.size S5 ?_ ?_ ?_ ?_); rfl; rfl; rfl)
    | ((with_reducible refine wpList_store6 (k' := 0) (b' := false) (n' := 0) (t' := ⟨#[]⟩) (x' := ⟨#[]⟩) (p' := none) (len' := 0) (cap' := 0) (.tmp 2) (.tmp 28) w.heap.size S ?_ ?_ ?_ ?_ ?_); rfl; rfl; rfl; rfl; intro w9 on9 S9))
  exact bodyPost_ret (results_six_tmp (p := 2) (q := 3) Tryz.results33 _ (.int .i64 6) rfl rfl S9) rfl (.inl ⟨HD.out, rfl, below_only b3 on9 (Nat.le_refl _) b3.size⟩)

set_option maxRecDepth 20000 in
set_option maxHeartbeats 6400000 in
theorem dezBad (l : List UInt8) (A : Value) (w : World) (hs : Raw w A l) (hl : l.length ≤ 1048576) (k : Int) (b : Bool) (n : Int) (t x : ByteArray) (q : List Val) (r : List UInt8) (hv : rzV 61 l = some (.mk k b n t x q, r)) (hr : r.length = 0) (hm : mayP (.mk k b n t x q) 0 = false) : Calls Tryz.prog 33 #[A] w (DecPost w l) := by
  obtain ⟨pA, capA, eA⟩ : ∃ p cap, A = .slice p l.length cap := by
    obtain ⟨p, cap, e, _⟩ := hs
    exact ⟨p, cap, e⟩
  subst eA
  obtain ⟨W1, hW1⟩ : ∃ W1, W1 = (w.alloc (.cells #[.int .i64 0, .bool false, .int .i64 0, .string ⟨#[]⟩, .string ⟨#[]⟩, .slice none 0 0] 28)).alloc (.cells #[.slice pA l.length capA, .bool false] 76) := ⟨_, rfl⟩
  have S : Six W1 w.heap.size 0 false 0 ⟨#[]⟩ ⟨#[]⟩ none 0 0 := by rw [hW1]; exact (six_new _ rfl).alloc _
  have b1 : Below w.heap.size w W1 := by rw [hW1]; exact below2 _ _ _
  have hR : Rz W1 (w.heap.size + 1) l false := by rw [hW1]; exact Rz.new (hs.below (below1 _ _)) _ (by simp)
  have z1 : W1.heap.size = w.heap.size + 2 := by rw [hW1]; simp
  have hval : Calls Tryz.prog 71 #[.pointer (some ⟨w.heap.size + 1, 0, none⟩), .int .i64 0] W1 (RzPost 61 (w.heap.size + 1) l false W1) := valueZ (w.heap.size + 1) 61 0 rfl l false W1 hR hl
  have H1 := Lib.hid hW1
  clear hW1 hs hR
  have hd : decP l = none := by
    have := List.length_eq_zero_iff.1 hr
    subst this
    rw [← dec_dez l hl]; unfold dezP
    rw [hv]
    simp [hm]
  have HD := Lib.hid hd
  have hval' : Calls Tryz.prog 71 #[.pointer (some ⟨w.heap.size + 1, 0, none⟩), .int .i64 0] W1 fun e w' => ∃ (p : Option Addr) (cap : Nat), e = .returned (.agg #[.int .i64 k, .bool b, .int .i64 n, .string t, .string x, .slice p q.length cap]) ∧ r.length ≤ l.length ∧ Fine n t x q.length ∧ HeldF w' (fun g => W1.heap.size ≤ g ∧ g < w'.heap.size) (.slice p q.length cap) q ∧ Rz w' (w.heap.size + 1) r false ∧ Only (w.heap.size + 1) W1 w' := hval.mono (by
    rintro e w' (⟨h, _⟩ | ⟨k1, b1, n1, t1, x1, q1, p, cap, r1, _, h, h1, h2, he, h3⟩)
    · rw [hv] at h; rcases h with h | h <;> cases h
    · rw [hv] at h
      simp only [Option.some.injEq, Prod.mk.injEq, Val.mk.injEq] at h
      obtain ⟨⟨rfl, rfl, rfl, rfl, rfl, rfl⟩, rfl⟩ := h
      exact ⟨p, cap, he, h1, h2, h3⟩)
  clear hval hv hd
  go_enter Tryz.func33, Tryz.ntmps33
  go_upto_region 3 with (go_at_call 71; (try rw [← H1.out]); (with_reducible refine hval'.mono ?_); rintro e w2 ⟨p, cap, rfl, h1, hf, hh, hR2, hO⟩)
  have b2 := below_only b1 hO (by omega) (by omega)
  replace S := S.only hO (by omega)
  have b3 := b2.alloc b2.size (.cells #[.int .i64 k, .bool b, .int .i64 n, .string t, .string x, .slice p q.length cap] 28)
  replace S := S.alloc (.cells #[.int .i64 k, .bool b, .int .i64 n, .string t, .string x, .slice p q.length cap] 28)
  have S5 : Six (w2.alloc (.cells #[.int .i64 k, .bool b, .int .i64 n, .string t, .string x, .slice p q.length cap] 28)) w2.heap.size k b n t x p q.length cap := six_new _ rfl
  have bb : Below w2.heap.size w2 (w2.alloc (.cells #[.int .i64 k, .bool b, .int .i64 n, .string t, .string x, .slice p q.length cap] 28)) := below1 _ _
  obtain ⟨pr, capr, cr⟩ := (hR2.below bb).c0
  have rc1 := (hR2.below bb).c1
  have hh3 : HeldF (w2.alloc (.cells #[.int .i64 k, .bool b, .int .i64 n, .string t, .string x, .slice p q.length cap] 28)) (fun g => W1.heap.size ≤ g ∧ g < (w2.alloc (.cells #[.int .i64 k, .bool b, .int .i64 n, .string t, .string x, .slice p q.length cap] 28)).heap.size) (.slice p q.length cap) q := hh.stays (fun g hg => ⟨⟨hg.1, Nat.lt_of_lt_of_le hg.2 bb.size⟩, bb.block g hg.2⟩) q
  generalize w2.alloc (.cells #[.int .i64 k, .bool b, .int .i64 n, .string t, .string x, .slice p q.length cap] 28) = W3 at S S5 b3 cr rc1 hh3 ⊢
  have HH := Lib.hid hh3
  have HF := Lib.hid hf
  clear b2 hO b1 bb hh hR2 hh3 hf
  rw [hr] at cr
  have hck : ∀ W, Below W3.heap.size W3 W → Calls Tryz.prog 14 #[.agg #[.int .i64 k, .bool b, .int .i64 n, .string t, .string x, .slice p q.length cap]] W fun e w' => e = .returned (.bool false) ∧ Below W.heap.size W w' := fun W h => by
    have := refMay k b n t x q p cap W HF.out (Held.below q HH.out.held h)
    rwa [hm] at this
  go_wp2_with (first
    | ((with_reducible refine wpList_load6 (.tmp 5) w2.heap.size S5 ?_ ?_ ?_ ?_); rfl; rfl; rfl)
    | ((with_reducible refine wpList_load6g (.tmp 5) w2.heap.size S5 ?_ ?_ ?_ ?_); rfl; rfl; rfl)
    | (go_at_call 14; (with_reducible refine (hck _ (Below.refl _ _)).mono ?_); rintro e w4 ⟨rfl, hb⟩; replace S := S.below hb; replace b3 := below_any b3 hb b3.size)
    | ((with_reducible refine wpList_store6 (k' := 0) (b' := false) (n' := 0) (t' := ⟨#[]⟩) (x' := ⟨#[]⟩) (p' := none) (len' := 0) (cap' := 0) (.tmp 2) (.tmp 28) w.heap.size S ?_ ?_ ?_ ?_ ?_); rfl; rfl; rfl; rfl; intro w9 on9 S9))
  exact bodyPost_ret (results_six_tmp (p := 2) (q := 3) Tryz.results33 _ (.int .i64 6) rfl rfl S9) rfl (.inl ⟨HD.out, rfl, below_only b3 on9 (Nat.le_refl _) b3.size⟩)

set_option maxRecDepth 20000 in
set_option maxHeartbeats 6400000 in
theorem dezGood (l : List UInt8) (A : Value) (w : World) (hs : Raw w A l) (hl : l.length ≤ 1048576) (k : Int) (b : Bool) (n : Int) (t x : ByteArray) (q : List Val) (r : List UInt8) (hv : rzV 61 l = some (.mk k b n t x q, r)) (hr : r.length = 0) (hm : mayP (.mk k b n t x q) 0 = true) : Calls Tryz.prog 33 #[A] w (DecPost w l) := by
  obtain ⟨pA, capA, eA⟩ : ∃ p cap, A = .slice p l.length cap := by
    obtain ⟨p, cap, e, _⟩ := hs
    exact ⟨p, cap, e⟩
  subst eA
  obtain ⟨W1, hW1⟩ : ∃ W1, W1 = (w.alloc (.cells #[.int .i64 0, .bool false, .int .i64 0, .string ⟨#[]⟩, .string ⟨#[]⟩, .slice none 0 0] 28)).alloc (.cells #[.slice pA l.length capA, .bool false] 76) := ⟨_, rfl⟩
  have S : Six W1 w.heap.size 0 false 0 ⟨#[]⟩ ⟨#[]⟩ none 0 0 := by rw [hW1]; exact (six_new _ rfl).alloc _
  have b1 : Below w.heap.size w W1 := by rw [hW1]; exact below2 _ _ _
  have hR : Rz W1 (w.heap.size + 1) l false := by rw [hW1]; exact Rz.new (hs.below (below1 _ _)) _ (by simp)
  have z1 : W1.heap.size = w.heap.size + 2 := by rw [hW1]; simp
  have hval : Calls Tryz.prog 71 #[.pointer (some ⟨w.heap.size + 1, 0, none⟩), .int .i64 0] W1 (RzPost 61 (w.heap.size + 1) l false W1) := valueZ (w.heap.size + 1) 61 0 rfl l false W1 hR hl
  have H1 := Lib.hid hW1
  clear hW1 hs hR
  have hd : decP l = some (.mk k b n t x q) := by
    have := List.length_eq_zero_iff.1 hr
    subst this
    rw [← dec_dez l hl]; unfold dezP
    rw [hv]
    simp [hm]
  have HD := Lib.hid hd
  have hval' : Calls Tryz.prog 71 #[.pointer (some ⟨w.heap.size + 1, 0, none⟩), .int .i64 0] W1 fun e w' => ∃ (p : Option Addr) (cap : Nat), e = .returned (.agg #[.int .i64 k, .bool b, .int .i64 n, .string t, .string x, .slice p q.length cap]) ∧ r.length ≤ l.length ∧ Fine n t x q.length ∧ HeldF w' (fun g => W1.heap.size ≤ g ∧ g < w'.heap.size) (.slice p q.length cap) q ∧ Rz w' (w.heap.size + 1) r false ∧ Only (w.heap.size + 1) W1 w' := hval.mono (by
    rintro e w' (⟨h, _⟩ | ⟨k1, b1, n1, t1, x1, q1, p, cap, r1, _, h, h1, h2, he, h3⟩)
    · rw [hv] at h; rcases h with h | h <;> cases h
    · rw [hv] at h
      simp only [Option.some.injEq, Prod.mk.injEq, Val.mk.injEq] at h
      obtain ⟨⟨rfl, rfl, rfl, rfl, rfl, rfl⟩, rfl⟩ := h
      exact ⟨p, cap, he, h1, h2, h3⟩)
  clear hval hv hd
  go_enter Tryz.func33, Tryz.ntmps33
  go_upto_region 3 with (go_at_call 71; (try rw [← H1.out]); (with_reducible refine hval'.mono ?_); rintro e w2 ⟨p, cap, rfl, h1, hf, hh, hR2, hO⟩)
  have b2 := below_only b1 hO (by omega) (by omega)
  replace S := S.only hO (by omega)
  have b3 := b2.alloc b2.size (.cells #[.int .i64 k, .bool b, .int .i64 n, .string t, .string x, .slice p q.length cap] 28)
  replace S := S.alloc (.cells #[.int .i64 k, .bool b, .int .i64 n, .string t, .string x, .slice p q.length cap] 28)
  have S5 : Six (w2.alloc (.cells #[.int .i64 k, .bool b, .int .i64 n, .string t, .string x, .slice p q.length cap] 28)) w2.heap.size k b n t x p q.length cap := six_new _ rfl
  have bb : Below w2.heap.size w2 (w2.alloc (.cells #[.int .i64 k, .bool b, .int .i64 n, .string t, .string x, .slice p q.length cap] 28)) := below1 _ _
  obtain ⟨pr, capr, cr⟩ := (hR2.below bb).c0
  have rc1 := (hR2.below bb).c1
  have hh3 : HeldF (w2.alloc (.cells #[.int .i64 k, .bool b, .int .i64 n, .string t, .string x, .slice p q.length cap] 28)) (fun g => W1.heap.size ≤ g ∧ g < (w2.alloc (.cells #[.int .i64 k, .bool b, .int .i64 n, .string t, .string x, .slice p q.length cap] 28)).heap.size) (.slice p q.length cap) q := hh.stays (fun g hg => ⟨⟨hg.1, Nat.lt_of_lt_of_le hg.2 bb.size⟩, bb.block g hg.2⟩) q
  generalize w2.alloc (.cells #[.int .i64 k, .bool b, .int .i64 n, .string t, .string x, .slice p q.length cap] 28) = W3 at S S5 b3 cr rc1 hh3 ⊢
  have HH := Lib.hid hh3
  have HF := Lib.hid hf
  clear b2 hO b1 bb hh hR2 hh3 hf
  rw [hr] at cr
  have hck : ∀ W, Below W3.heap.size W3 W → Calls Tryz.prog 14 #[.agg #[.int .i64 k, .bool b, .int .i64 n, .string t, .string x, .slice p q.length cap]] W fun e w' => e = .returned (.bool true) ∧ Below W.heap.size W w' := fun W h => by
    have := refMay k b n t x q p cap W HF.out (Held.below q HH.out.held h)
    rwa [hm] at this
  go_wp2_with (first
    | ((with_reducible refine wpList_load6 (.tmp 5) w2.heap.size S5 ?_ ?_ ?_ ?_); rfl; rfl; rfl)
    | ((with_reducible refine wpList_load6g (.tmp 5) w2.heap.size S5 ?_ ?_ ?_ ?_); rfl; rfl; rfl)
    | (go_at_call 14; (with_reducible refine (hck _ (Below.refl _ _)).mono ?_); rintro e w4 ⟨rfl, hb⟩; replace S := S.below hb; replace S5 := S5.below hb; replace b3 := below_any b3 hb b3.size)
    | ((with_reducible refine wpList_store6 (k' := k) (b' := b) (n' := n) (t' := t) (x' := x) (p' := p) (len' := q.length) (cap' := cap) (.tmp 2) (.tmp 29) w.heap.size S ?_ ?_ ?_ ?_ ?_); rfl; rfl; rfl; rfl; intro w9 on9 S9))
  refine bodyPost_ret (results_six_tmp (p := 2) (q := 3) Tryz.results33 _ (.int .i64 0) rfl rfl S9) rfl (.inr ⟨k, b, n, t, x, q, p, cap, HD.out, HF.out, rfl, ?_, below_only b3 on9 (Nat.le_refl _) b3.size⟩)
  exact HH.out.stays (fun g hg => ⟨⟨by omega, Nat.lt_of_lt_of_le hg.2 (Nat.le_trans hb.size on9.size)⟩, (on9.block g (Nat.lt_of_lt_of_le hg.2 hb.size) (by omega)).trans (hb.block g hg.2)⟩) q
theorem dezAt (l : List UInt8) (A : Value) (w : World) (hs : Raw w A l) (hl : l.length ≤ 1048576) : Calls Tryz.prog 33 #[A] w (DecPost w l) := by
  cases hv : rzV 61 l with
  | none => exact dezNo l A w hs hl hv
  | some pp =>
    obtain ⟨⟨k, b, n, t, x, q⟩, r⟩ := pp
    by_cases hr : r = []
    · cases hm : mayP (.mk k b n t x q) 0 with
      | true => exact dezGood l A w hs hl k b n t x q r hv (by rw [hr]; rfl) hm
      | false => exact dezBad l A w hs hl k b n t x q r hv (by rw [hr]; rfl) hm
    · exact dezMore l A w hs hl k b n t x q r hv hr
end Go.Proofs.YtoifjjgakblhhaaGreatDoor

/- The law ValueDecodes, walked. -/
namespace Go.Proofs.YtoifjjgakblhhaaGreatDoor
open Go.RowKit

/-- A slice of bytes of the caller: nil, or a place with its cells. -/
def Inb (w : World) (A : Value) (l : List UInt8) : Prop := (A = .slice none 0 0 ∧ l = []) ∨
  ∃ ad cap, A = .slice (some ad) l.length cap ∧ l.length ≤ cap ∧ cap ≤ maxLen ∧ (l = [] ∨ ∃ g off, ad = ⟨g, off, none⟩ ∧ ∀ j c, l[j]? = some c → w.cell? ⟨g, off + j, none⟩ = some (.int .u8 c.toNat))
theorem Inb.raw {w : World} {A : Value} {l : List UInt8} (h : Inb w A l) : Raw w A l := by
  rcases h with ⟨rfl, rfl⟩ | ⟨ad, cap, e, h1, h2, h3⟩
  · exact ⟨none, 0, rfl, Nat.le_refl _, Nat.zero_le _, .inl rfl⟩
  · refine ⟨some ad, cap, e, h1, h2, ?_⟩
    rcases h3 with h3 | ⟨g, off, rfl, hc⟩
    · exact .inl h3
    · exact .inr ⟨g, off, rfl, hc⟩
theorem Inb.below {w w' : World} {A : Value} {l : List UInt8} (h : Inb w A l) (b : Below w.heap.size w w') : Inb w' A l := by
  rcases h with h | ⟨ad, cap, e, h1, h2, h3⟩
  · exact .inl h
  · refine .inr ⟨ad, cap, e, h1, h2, ?_⟩
    rcases h3 with h3 | ⟨g, off, rfl, hc⟩
    · exact .inl h3
    · exact .inr ⟨g, off, rfl, fun j c hj => (b.cell (p := ⟨g, off + j, none⟩) (World.block_lt_of_cell? w _ (hc j c hj))).trans (hc j c hj)⟩
set_option maxRecDepth 20000 in
set_option maxHeartbeats 3200000 in
theorem copyNil (w : World) : Calls Tryz.prog 32 #[.slice none 0 0] w fun e w' => ∃ A, e = .returned A ∧ OwnB w A [] w' := by
  obtain ⟨i0, hi, hz0, hz1, hz2⟩ := info_parts info5
  have O := OwnB.start w
  have hown := O.own
  have HO := Lib.hid O
  clear O
  go_enter Tryz.func32, Tryz.ntmps32
  go_wp2_with (at_builtin; refine wpList_append_own_none rfl _ _ 40 rfl w.heap.size 5 i0 1 Tryz.underlying40 hi _ _ _ rfl hown rfl ?_)
  go_ret
  exact ⟨_, rfl, HO.out⟩
set_option maxRecDepth 20000 in
set_option maxHeartbeats 3200000 in
theorem copyBy (l : List UInt8) (ad : Addr) (cap : Nat) (w : World) (hc : ∀ j c, l[j]? = some c → w.cell? (ad.add j) = some (.int .u8 c.toNat)) (hl : l.length ≤ 1000000000) :
    Calls Tryz.prog 32 #[.slice (some ad) l.length cap] w fun e w' => ∃ A, e = .returned A ∧ OwnB w A l w' := by
  obtain ⟨i0, hi, hz0, hz1, hz2⟩ := info_parts info5
  have O := OwnB.start w
  have hown := O.own
  have hnews : ∀ j u, (vals l)[j]? = some u → w.cell? (ad.add j) = some u := fun j u hj => by
    unfold vals at hj
    rw [List.getElem?_map, Option.map_eq_some_iff] at hj
    obtain ⟨c, hcj, rfl⟩ := hj
    exact hc j c hcj
  have hone := vals_cells l
  have hl1 : (vals l).length = l.length * 1 := by rw [vals_length]; omega
  obtain ⟨X, hX⟩ : ∃ X, X = vals l := ⟨_, rfl⟩
  rw [← hX] at hnews hone hl1
  have HX := Lib.hid hX
  have HO := Lib.hid O
  clear hX hc O
  go_enter Tryz.func32, Tryz.ntmps32
  go_wp2_with (at_builtin; refine wpList_append_own _ rfl _ _ 40 rfl w.heap.size 5 i0 (.int .u8 0) 1 1 Tryz.underlying40 hi hz0 hz1 hz2 rfl (by decide) _ _ _ rfl hown ad l.length cap X rfl hl1 hnews hone ?_ ?_ (Nat.le_refl _) ?_)
  all_goals (try (first | (show 0 + l.length ≤ maxLen; unfold maxLen; omega) | (show (0 + l.length) * 1 ≤ 140737488355328; omega)))
  intro v1 w1 hown1 hgrow _
  have O1 := Lib.hid (HO.out.say (l' := l) hown1 hgrow (by simp) (by rw [HX.out]; rfl))
  clear hown1 hgrow hown hnews hone
  go_wp2_with fail
  go_ret
  exact ⟨_, rfl, O1.out⟩
theorem copyIn (l : List UInt8) (A : Value) (w : World) (h : Inb w A l) (hl : l.length ≤ 1000000000) :
    Calls Tryz.prog 32 #[A] w fun e w' => ∃ A, e = .returned A ∧ OwnB w A l w' := by
  rcases h with ⟨rfl, rfl⟩ | ⟨ad, cap, rfl, _, _, h3⟩
  · exact copyNil w
  · refine copyBy l ad cap w (fun j c hj => ?_) hl
    rcases h3 with rfl | ⟨g, off, rfl, hc⟩
    · simp at hj
    · rw [Addr.add_mid]
      exact hc j c hj
theorem DecPost.uni (l : List UInt8) : ∃ (er k : Int) (b : Bool) (n : Int) (t x : ByteArray) (q : List Val), ∀ w e w', DecPost w l e w' →
    ∃ p cap, e = .returned (.tuple #[.agg #[.int .i64 k, .bool b, .int .i64 n, .string t, .string x, .slice p q.length cap], .int .i64 er]) ∧ q.length ≤ 2097152 ∧ Held w' (.slice p q.length cap) q ∧ Below w.heap.size w w' := by
  cases hd : decP l with
  | none =>
    refine ⟨6, 0, false, 0, ⟨#[]⟩, ⟨#[]⟩, [], fun w e w' h => ?_⟩
    rcases h with ⟨_, h, hb⟩ | ⟨k1, b1, n1, t1, x1, q1, p1, cap1, h, _⟩
    · exact ⟨none, 0, h, by simp, by unfold Held; exact ⟨_, _, rfl⟩, hb⟩
    · rw [hd] at h; cases h
  | some v =>
    obtain ⟨k, b, n, t, x, q⟩ := v
    refine ⟨0, k, b, n, t, x, q, fun w e w' h => ?_⟩
    rcases h with ⟨h, _⟩ | ⟨k1, b1, n1, t1, x1, q1, p1, cap1, h, hf, he, hh, hb⟩
    · rw [hd] at h; cases h
    · rw [hd] at h
      simp only [Option.some.injEq, Val.mk.injEq] at h
      obtain ⟨rfl, rfl, rfl, rfl, rfl, rfl⟩ := h
      exact ⟨p1, cap1, he, hf.hn, hh.held, hb⟩

set_option maxRecDepth 20000 in
set_option maxHeartbeats 6400000 in
theorem decodesSome (ls : List (List UInt8)) (g off cap : Nat) (w : World) (hG : Gd w) (hT : Tab w) (hl : ∀ j, (h : j < ls.length) → ∃ A, w.cell? ⟨g, off + j, none⟩ = some A ∧ Inb w A ls[j]) :
    Calls Tryz.prog 6 #[.slice (some ⟨g, off, none⟩) ls.length cap] w fun e w' => e = .returned (.bool true) ∧ Below w.heap.size w w' := by
  have hwk := fun W (h : Below w.heap.size w W) => wakesAt W (hG.below h) (hT.below h)
  obtain ⟨n, hln⟩ : ∃ n, n = ls.length := ⟨_, rfl⟩
  rw [← hln]
  have HN := Lib.hid hln
  have HH := Lib.hid hl
  have HGG := Lib.hid hG
  clear hln hl hG hT
  go_enter Tryz.func6, Tryz.ntmps6
  go_wp2_with fail
  go_loopg [3] n (fun gg s3 wr => ∃ j : Nat, j + gg = n ∧ s3 = .int .i64 j ∧ Below w.heap.size w wr)
  case atStart => exact ⟨0, by omega, rfl, Below.refl _ _⟩
  case round =>
    obtain ⟨j, hjg, rfl, I⟩ := hrel
    by_cases hlt : (j : Int) < n
    · by_cases h20 : (j : Int) < 30
      · have hj1 : j < ls.length := by have := HN.out; omega
        obtain ⟨A, hcA, hIn⟩ := HH.out j hj1
        obtain ⟨p, m, c2, rfl, hm⟩ : ∃ p m c2, A = .slice p m c2 ∧ m = ls[j].length := by
          rcases hIn with ⟨e, e2⟩ | ⟨ad, c2, e, _⟩
          · exact ⟨none, 0, 0, e, by rw [e2]; rfl⟩
          · exact ⟨some ad, _, c2, e, rfl⟩
        have hcell : ∀ W, Below w.heap.size w W → W.cell? ⟨g, off + j, none⟩ = some (.slice p m c2) := fun W h => (h.cell (p := ⟨g, off + j, none⟩) (World.block_lt_of_cell? w _ hcA)).trans hcA
        have hp := hcell _ I
        have HC := Lib.hid hcell
        by_cases hbig : (3000 : Int) < m
        · clear hIn hcA hcell hm
          go_wp2_with fail
          go_roundg (gk - 1)
          case measure => omega
          case rel => exact ⟨j + 1, by omega, by go_num, I⟩
        · have hm3 : ls[j].length ≤ 3000 := by omega
          obtain ⟨er, k, b, n1, t, x, q, hu⟩ := DecPost.uni ls[j]
          have hcp : ∀ W, Below w.heap.size w W → Calls Tryz.prog 32 #[.slice p m c2] W fun e w' => ∃ A, e = .returned A ∧ OwnB W A ls[j] w' := fun W h => copyIn ls[j] _ W (hIn.below h) (by omega)
          have hde : ∀ W A w0, Below w.heap.size w W → OwnB w0 A ls[j] W → Calls Tryz.prog 31 #[A] W fun e w' => ∃ p cap, e = .returned (.tuple #[.agg #[.int .i64 k, .bool b, .int .i64 n1, .string t, .string x, .slice p q.length cap], .int .i64 er]) ∧ q.length ≤ 2097152 ∧ Held w' (.slice p q.length cap) q ∧ Below W.heap.size W w' := fun W A w0 h hA => (decodeAt ls[j] A W (HGG.out.below h) hA.src (by omega)).mono (fun e w' h => hu W e w' h)
          have hdz : ∀ W, Below w.heap.size w W → Calls Tryz.prog 33 #[.slice p m c2] W fun e w' => ∃ p cap, e = .returned (.tuple #[.agg #[.int .i64 k, .bool b, .int .i64 n1, .string t, .string x, .slice p q.length cap], .int .i64 er]) ∧ q.length ≤ 2097152 ∧ Held w' (.slice p q.length cap) q ∧ Below W.heap.size W w' := fun W h => (dezAt ls[j] _ W (hIn.below h).raw (by omega)).mono (fun e w' h => hu W e w' h)
          have HCP := Lib.hid hcp
          have HDE := Lib.hid hde
          have HDZ := Lib.hid hdz
          clear hIn hcA hcell hm hcp hde hdz hu hm3
          go_upto_region 6 with (first
            | (go_at_call 32; (with_reducible refine (HCP.out _ I).mono ?_); rintro e w3 ⟨A3, rfl, O3⟩; replace I := below_any I O3.bel I.size; replace hp := HC.out _ I)
            | (go_at_call 31; (with_reducible refine (HDE.out _ _ _ I O3).mono ?_); rintro e w4 ⟨p4, cap4, rfl, hq, hh4, hb⟩; replace I := below_any I hb I.size; replace hp := HC.out _ I; clear hb))
          have S4 : Six (w4.alloc (.cells #[.int .i64 k, .bool b, .int .i64 n1, .string t, .string x, .slice p4 q.length cap4] 28)) w4.heap.size k b n1 t x p4 q.length cap4 := six_new _ rfl
          replace I := below_any I (below1 w4 (.cells #[.int .i64 k, .bool b, .int .i64 n1, .string t, .string x, .slice p4 q.length cap4] 28)) I.size
          replace hh4 := Held.below q hh4 (below1 w4 (.cells #[.int .i64 k, .bool b, .int .i64 n1, .string t, .string x, .slice p4 q.length cap4] 28))
          replace hp := HC.out _ I
          generalize w4.alloc (.cells #[.int .i64 k, .bool b, .int .i64 n1, .string t, .string x, .slice p4 q.length cap4] 28) = W4 at S4 I hh4 hp ⊢
          clear O3
          have HH4 := Lib.hid hh4
          clear hh4
          go_upto_region 7 with (go_at_call 33; (with_reducible refine (HDZ.out _ I).mono ?_); rintro e w7 ⟨p7, cap7, rfl, _, hh7, hb⟩; replace I := below_any I hb I.size; replace S4 := S4.below hb; replace HH4 := Lib.hid (Held.below q HH4.out hb); clear hb)
          have S7 : Six (w7.alloc (.cells #[.int .i64 k, .bool b, .int .i64 n1, .string t, .string x, .slice p7 q.length cap7] 28)) w7.heap.size k b n1 t x p7 q.length cap7 := six_new _ rfl
          replace I := below_any I (below1 w7 (.cells #[.int .i64 k, .bool b, .int .i64 n1, .string t, .string x, .slice p7 q.length cap7] 28)) I.size
          replace S4 := S4.below (below1 w7 (.cells #[.int .i64 k, .bool b, .int .i64 n1, .string t, .string x, .slice p7 q.length cap7] 28))
          replace hh7 := Held.below q hh7 (below1 w7 (.cells #[.int .i64 k, .bool b, .int .i64 n1, .string t, .string x, .slice p7 q.length cap7] 28))
          have hh4 := Held.below q HH4.out (below1 w7 (.cells #[.int .i64 k, .bool b, .int .i64 n1, .string t, .string x, .slice p7 q.length cap7] 28))
          generalize w7.alloc (.cells #[.int .i64 k, .bool b, .int .i64 n1, .string t, .string x, .slice p7 q.length cap7] 28) = W7 at S4 S7 I hh4 hh7 ⊢
          have hs18 := sameZAll (.mk k b n1 t x q) W7 k b n1 t x q p4 cap4 (.mk k b n1 t x q) k b n1 t x q p7 cap7 rfl rfl hq hh4 hh7
          rw [sameP_self] at hs18
          have HS := Lib.hid hs18
          clear hs18 hh4 hh7 HH4 hp
          go_wp2_with (first
            | ((with_reducible refine wpList_load6g (.tmp 4) _ S4 ?_ ?_ ?_ ?_); rfl; rfl; rfl)
            | ((with_reducible refine wpList_load6g (.tmp 6) _ S7 ?_ ?_ ?_ ?_); rfl; rfl; rfl)
            | (go_at_call 18; (with_reducible refine HS.out.mono ?_); rintro e w8 ⟨rfl, hb⟩; replace I := below_any I hb I.size; clear hb))
          go_roundg (gk - 1)
          case measure => omega
          case rel => exact ⟨j + 1, by omega, by go_num, I⟩
      · go_wp2_with (go_at_call 11; (with_reducible refine (hwk _ I).mono ?_); rintro e w' ⟨rfl, hb⟩; replace I := below_any I hb I.size)
        go_ret
        exact ⟨rfl, I⟩
    · go_wp2_with (go_at_call 11; (with_reducible refine (hwk _ I).mono ?_); rintro e w' ⟨rfl, hb⟩; replace I := below_any I hb I.size)
      go_ret
      exact ⟨rfl, I⟩
end Go.Proofs.YtoifjjgakblhhaaGreatDoor

/- A list of lists of bytes that came in: where it lies, what it is; the law ValueDecodes on any of them. -/
namespace Go
theorem andShaped {H : Type} {enc : TypeId × Value → H} {a : Assume} {C : Checked} {os : Os} {f : FuncId} {fn : Func} {s : ChangeSpec} {conds : List PathCond} {apart fresh handsOn again : Bool} {X : World → Array Value → Prop}
    (hX : ∀ (w w' : World) (args : Array Value), w.heap = w'.heap → X w args → X w' args)
    (own : ownKnob C.prog.godebug = none) (started : os.Started) (noInit : C.prog.inits.idxOf? f = none) (hfn : C.prog.funcs[f]? = some fn)
    (witness : ∃ (w : World) (tape : Tape) (i : Input), w.os = os ∧ (w.forCall tape i).Shaped C.prog ∧ i.vars = [] ∧ Input.okWide C.prog (w.forCall tape i) .any w.heap.size f i ∧
      ((s.pre enc C.prog fn conds apart (w.forCall tape i).memory i.args ∧ X (w.forCall tape i).memory i.args) ∧ sizedMet enc C.prog fn (OpenSpec.ofChange s) apart (w.forCall tape i).memory i.args) ∧ a.holds C.prog (lone (Frame.enter C.prog f i.args .normal) [] (w.forCall tape i)))
    (contract : ∀ (W : World) (base : Nat) (args : Array Value) (ds gs : List (DataW H)) (before : List MemPlace),
      (∀ (j : Nat) t v, fn.params[j]? = some t → args[j]? = some v → Value.okWide C.prog W .any base t v) →
      DataW.Whole enc C.prog fn.params.toList s.vars apart W args.toList ds gs before →
      W.ShapedOpen C.prog → X W args →
      Calls C.prog f args W fun e W' => ∃ v, e = .returned v ∧ s.post enc C.prog fn apart fresh handsOn again W args v W') :
    ReturnsInHanded a C os f .any (fun w args => (s.pre enc C.prog fn conds apart w args ∧ X w args) ∧ sizedMet enc C.prog fn (OpenSpec.ofChange s) apart w args) (s.post enc C.prog fn apart fresh handsOn again) := by
  refine returnsInHanded_of_calls own started noInit witness ?_
  intro w tape i _ hsh _ hok hpre _
  obtain ⟨_, _, _, fn', hfn', _, _, _, _, hval⟩ := hok
  have e : fn' = fn := Option.some.inj (hfn'.symm.trans hfn)
  subst e
  obtain ⟨⟨⟨ds, gs, before, hw, hc⟩, hx⟩, hz⟩ := hpre
  have hw' := DataW.Whole.of_heap (w' := w.forCall tape i) (by rfl) hw
  refine (contract (w.forCall tape i) w.heap.size i.args ds gs before hval hw' hsh (hX _ _ _ (by rfl) hx)).mono fun e W' ⟨v, he, hp⟩ => ?_
  subst he
  exact ChangeSpec.post_blind hp
end Go
namespace Go.Proofs.YtoifjjgakblhhaaGreatDoor
open Go.ChangeShapes Go.WideShapes Go.ChangeAt Go.RowKit

theorem spot_none {W : World} {a : Addr} {v : Value} (h0 : W.cell? a = some v) : a.spot = none := by
  cases k : a.spot with
  | none => rfl
  | some m =>
    unfold World.cell? at h0
    rw [k] at h0
    split at h0 <;> simp at h0
theorem u8_wf {m : Int} (h : (Lit.int .u8 m).wf = true) : 0 ≤ m ∧ m < 256 := by
  simp [Lit.wf, IntKind.min, IntKind.max, IntKind.signed, IntKind.bits] at h
  omega
theorem bytes_of_trod {H : Type} {enc : TypeId × Value → H} {W : World} {n : Nat} {L : Value} {y : DataW H × List MemPlace} (h : DataW.trod enc Tryz.prog W 0 (fun _ => true) true n 40 [L] = some y) : ∃ l, Inb W L l := by
  rcases DataW.trod_slice Tryz.underlying40 h with ⟨e, _⟩ | ⟨a, len, cap, elems, rest, n1, hn, e, rfl, hb, hl, hm, hlen, hel, _, _⟩
  · obtain rfl : L = .slice none 0 0 := by simpa using e
    exact ⟨[], .inl ⟨rfl, rfl⟩⟩
  · obtain rfl : L = .slice (some a) len cap := by simpa using e
    rw [show Tryz.prog.cellsOf 5 = 1 by kernel_rfl] at hel
    have each : ∀ i, i < len → ∃ c : UInt8, W.cell? (a.add i) = some (.int .u8 c.toNat) := by
      intro i hi
      have h1 := hel i hi
      have hi' : i < elems.length := by omega
      rw [List.getElem?_eq_getElem hi', Option.bind_eq_some_iff] at h1
      obtain ⟨cs, hcs, hy⟩ := h1
      obtain ⟨c1, c2⟩ := mapM_cells hcs
      obtain ⟨v, rfl, _, hwf⟩ := DataW.trod_int Tryz.underlying5 hy
      obtain ⟨w1, w2⟩ := u8_wf hwf
      refine ⟨UInt8.ofNat v.toNat, ?_⟩
      have h3 := c2 0 (by omega)
      rw [show (a.add (i * 1)).add 0 = a.add i by rw [Nat.mul_one]; simp [Addr.add]] at h3
      rw [h3]
      have : ((UInt8.ofNat v.toNat).toNat : Int) = v := by
        rw [UInt8.toNat_ofNat']
        omega
      rw [this]
      rfl
    have build : ∀ m, m ≤ len → ∃ l : List UInt8, l.length = m ∧ ∀ j c, l[j]? = some c → W.cell? (a.add j) = some (.int .u8 c.toNat) := by
      intro m
      induction m with
      | zero => exact fun _ => ⟨[], rfl, fun j c hj => by simp at hj⟩
      | succ m ih =>
        intro hm1
        obtain ⟨l, hll, hc⟩ := ih (by omega)
        obtain ⟨c, hcc⟩ := each m (by omega)
        refine ⟨l ++ [c], by simp [hll], fun j d hj => ?_⟩
        by_cases hjm : j < l.length
        · rw [List.getElem?_append_left hjm] at hj
          exact hc j d hj
        · have hj2 := (List.getElem?_eq_some_iff.1 hj).1
          rw [List.length_append, List.length_singleton] at hj2
          obtain rfl : j = m := by omega
          rw [List.getElem?_append_right (by omega), show j - l.length = 0 by omega] at hj
          obtain rfl : c = d := by simpa using hj
          exact hcc
    obtain ⟨l, hll, hc⟩ := build len (Nat.le_refl _)
    subst hll
    refine ⟨l, .inr ⟨a, cap, rfl, hl, hm, ?_⟩⟩
    cases l with
    | nil => exact .inl rfl
    | cons c r =>
      have h0 := hc 0 c rfl
      have hsp := spot_none (a := a) (by rwa [show a.add 0 = a by simp [Addr.add]] at h0)
      obtain ⟨g, off, spot⟩ := a
      simp only at hsp
      subst hsp
      refine .inr ⟨g, off, rfl, fun j c hj => ?_⟩
      have := hc j c hj
      rwa [Addr.add_mid] at this
theorem lists_of_trod {H : Type} {enc : TypeId × Value → H} {W : World} {n : Nat} {L : Value} {y : DataW H × List MemPlace} (h : DataW.trod enc Tryz.prog W 0 (fun _ => true) true n 44 [L] = some y) :
    (∃ p cap, L = .slice p 0 cap) ∨ ∃ g off cap, ∃ ls : List (List UInt8), L = .slice (some ⟨g, off, none⟩) ls.length cap ∧ ∀ j, (h : j < ls.length) → ∃ A, W.cell? ⟨g, off + j, none⟩ = some A ∧ Inb W A ls[j] := by
  rcases DataW.trod_slice Tryz.underlying44 h with ⟨e, _⟩ | ⟨a, len, cap, elems, rest, n1, hn, e, rfl, hb, hl, hm, hlen, hel, _, _⟩
  · obtain rfl : L = .slice none 0 0 := by simpa using e
    exact .inl ⟨none, 0, rfl⟩
  · obtain rfl : L = .slice (some a) len cap := by simpa using e
    rw [show Tryz.prog.cellsOf 40 = 1 by kernel_rfl] at hel
    have each : ∀ i, i < len → ∃ A l, W.cell? (a.add i) = some A ∧ Inb W A l := by
      intro i hi
      have h1 := hel i hi
      have hi' : i < elems.length := by omega
      rw [List.getElem?_eq_getElem hi', Option.bind_eq_some_iff] at h1
      obtain ⟨cs, hcs, hy⟩ := h1
      obtain ⟨c1, c2⟩ := mapM_cells hcs
      obtain ⟨A, rfl⟩ : ∃ A, cs = [A] := List.length_eq_one_iff.1 c1
      obtain ⟨l, hin⟩ := bytes_of_trod hy
      refine ⟨A, l, ?_, hin⟩
      have h3 := c2 0 (by omega)
      rw [show (a.add (i * 1)).add 0 = a.add i by rw [Nat.mul_one]; simp [Addr.add]] at h3
      rw [h3]
      rfl
    by_cases h0 : len = 0
    · subst h0
      exact .inl ⟨_, _, rfl⟩
    · obtain ⟨A0, l0, hc0, _⟩ := each 0 (by omega)
      have hsp := spot_none (a := a) (by rwa [show a.add 0 = a by simp [Addr.add]] at hc0)
      obtain ⟨g, off, spot⟩ := a
      simp only at hsp
      subst hsp
      have build : ∀ m, m ≤ len → ∃ ls : List (List UInt8), ls.length = m ∧ ∀ j, (h : j < ls.length) → ∃ A, W.cell? ⟨g, off + j, none⟩ = some A ∧ Inb W A ls[j] := by
        intro m
        induction m with
        | zero => exact fun _ => ⟨[], rfl, fun j hj => by simp at hj⟩
        | succ m ih =>
          intro hm1
          obtain ⟨ls, hll, hc⟩ := ih (by omega)
          obtain ⟨A, l, hcc, hin⟩ := each m (by omega)
          refine ⟨ls ++ [l], by simp [hll], fun j hj => ?_⟩
          by_cases hjm : j < ls.length
          · rw [List.getElem_append_left hjm]
            exact hc j hjm
          · rw [List.length_append, List.length_singleton] at hj
            obtain rfl : j = m := by omega
            rw [Addr.add_mid] at hcc
            refine ⟨A, hcc, ?_⟩
            rw [List.getElem_append_right (by omega)]
            simpa using hin
      obtain ⟨ls, hll, hc⟩ := build len (Nat.le_refl _)
      subst hll
      exact .inr ⟨g, off, cap, ls, rfl, hc⟩
set_option maxRecDepth 20000 in
set_option maxHeartbeats 3200000 in
theorem decodesNone (p : Option Addr) (cap : Nat) (w : World) (hG : Gd w) (hT : Tab w) :
    Calls Tryz.prog 6 #[.slice p 0 cap] w fun e w' => e = .returned (.bool true) ∧ Below w.heap.size w w' := by
  have hwk := fun W (h : Below w.heap.size w W) => wakesAt W (hG.below h) (hT.below h)
  go_enter Tryz.func6, Tryz.ntmps6
  go_wp2_with fail
  go_loopg [3] 0 (fun gg s3 wr => s3 = .int .i64 0 ∧ gg = 0 ∧ Below w.heap.size w wr)
  case atStart => exact ⟨rfl, rfl, Below.refl _ _⟩
  case round =>
    obtain ⟨rfl, _, I⟩ := hrel
    go_wp2_with (go_at_call 11; (with_reducible refine (hwk _ I).mono ?_); rintro e w1 ⟨rfl, hb1⟩; replace I := below_any I hb1 I.size)
    go_ret
    exact ⟨rfl, I⟩
theorem decodesAny (L : Value) (w : World) (hG : Gd w) (hT : Tab w) (hl : (∃ p cap, L = .slice p 0 cap) ∨ ∃ g off cap, ∃ ls : List (List UInt8), L = .slice (some ⟨g, off, none⟩) ls.length cap ∧ ∀ j, (h : j < ls.length) → ∃ A, w.cell? ⟨g, off + j, none⟩ = some A ∧ Inb w A ls[j]) :
    Calls Tryz.prog 6 #[L] w fun e w' => e = .returned (.bool true) ∧ Below w.heap.size w w' := by
  rcases hl with ⟨p, cap, rfl⟩ | ⟨g, off, cap, ls, rfl, hc⟩
  · exact decodesNone p cap w hG hT
  · exact decodesSome ls g off cap w hG hT hc
end Go.Proofs.YtoifjjgakblhhaaGreatDoor
