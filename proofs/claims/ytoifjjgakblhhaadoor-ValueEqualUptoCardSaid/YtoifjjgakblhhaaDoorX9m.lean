/- The law ValueEqual, walked. -/
import Derived.Test.YtoifjjgakblhhaaDoorX2m
import Derived.Test.YtoifjjgakblhhaaDoorX3m
import Derived.Test.YtoifjjgakblhhaaDoorGx
namespace Go.Proofs.YtoifjjgakblhhaaDoor
open Go.RowKit

/-- What the law's round keeps: its argument's box; what lay below. -/
structure VInv (w : World) (L ln : Value) (W : World) : Prop where
  cell : W.cell? ⟨w.heap.size, 0, none⟩ = some L
  cell1 : W.cell? ⟨w.heap.size, 1, none⟩ = some ln
  lt : w.heap.size < W.heap.size
  bel : Below w.heap.size w W
theorem VInv.step {w W W2 : World} {L ln : Value} (h : VInv w L ln W) (k : Below W.heap.size W W2) : VInv w L ln W2 :=
  ⟨(k.cell (p := ⟨w.heap.size, 0, none⟩) h.lt).trans h.cell, (k.cell (p := ⟨w.heap.size, 1, none⟩) h.lt).trans h.cell1, Nat.lt_of_lt_of_le h.lt k.size, below_any h.bel k (Nat.le_of_lt h.lt)⟩
theorem VInv.start (w : World) (L ln : Value) : VInv w L ln (w.alloc (.cells #[L, ln] 24)) :=
  ⟨cell_of (heap_new _ _ rfl) _ rfl, cell_of (heap_new _ _ rfl) _ rfl, by simp, below1 _ _⟩
theorem wrapN {j : Nat} (h : j ≤ 2097152) : IntKind.i64.wrap (j : Int) = j := by rw [IntKind.wrap_i64]; omega
theorem ne_of {a b : Int} (h : a ≠ b) : (a == b) = false := by simpa using h
theorem neq_of {a b : Int} (h : a = b) : (a != b) = false := by simp [h]

set_option maxRecDepth 20000 in
set_option maxHeartbeats 40000000 in
theorem equalSome (l : List Val) (g off cap : Nat) (lang : Int) (w : World) (hG : Gd w) (hT : Tab w) (hl : Holds w g off l) (hl2 : Held w (.slice (some ⟨g, off, none⟩) l.length cap) l) (hn : l.length ≤ 2097152) :
    Calls Tryd.prog 3 #[.agg #[.slice (some ⟨g, off, none⟩) l.length cap, .int .i64 lang]] w fun e w' => e = .returned (.bool true) ∧ Below w.heap.size w w' := by
  have I0 := VInv.start w (.slice (some ⟨g, off, none⟩) l.length cap) (.int .i64 lang)
  obtain ⟨W1, hW1⟩ : ∃ W1, W1 = w.alloc (.cells #[.slice (some ⟨g, off, none⟩) l.length cap, .int .i64 lang] 24) := ⟨_, rfl⟩
  rw [← hW1] at I0
  have hli := lightC l (some ⟨g, off, none⟩) cap W1 (Held.below l hl2 I0.bel) hn
  have hwk := fun W (h : Below w.heap.size w W) => wakesAt W (hG.below h) (hT.below h)
  obtain ⟨n, hln⟩ : ∃ n, n = l.length := ⟨_, rfl⟩
  rw [← hln] at hn I0 hli hW1 ⊢
  have i0 := I0.cell
  have HW1 := Lib.hid hW1
  have HL := Lib.hid hln
  have HH := Lib.hid hl
  clear hl hln hW1 hl2
  go_enter Tryd.func3, Tryd.ntmps3
  go_wp2_with (first
    | (go_at_call 4; rw [← HW1.out]; (with_reducible refine hli.mono ?_); rintro e w' ⟨r, rfl, hb⟩; replace I0 := I0.step hb; clear hb)
    | (go_at_call 5; (with_reducible refine (hwk _ I0.bel).mono ?_); rintro e w' ⟨rfl, hb⟩; replace I0 := I0.step hb; clear hb))
  · go_ret
    exact ⟨rfl, I0.bel⟩
  cases r
  · contradiction
  go_loopg [3] (n + 1) (fun gg s3 wr => ∃ j : Nat, j + gg = n + 1 ∧ j ≤ n ∧ s3 = .int .i64 ((j : Int) + 1) ∧ VInv w (.slice (some ⟨g, off, none⟩) n cap) (.int .i64 lang) wr)
  case atStart => exact ⟨0, by omega, by omega, rfl, I0⟩
  case round =>
    clear I0 i0 hli
    obtain ⟨j, hjg, hjn, rfl, I⟩ := hrel
    have hp := I.cell
    by_cases hlt : (j : Int) + 1 < n
    · by_cases h20 : (j : Int) + 1 < 20
      · have hj1 : j < l.length := by have := HL.out; omega
        have hj2 : j + 1 < l.length := by have := HL.out; omega
        obtain ⟨k, b, m, t, x, q, p, cp, o1⟩ := (Holds.at_ l off HH.out j hj1).opens
        obtain ⟨k2, b2, m2, t2, x2, q2, p2, cp2, o2⟩ := (Holds.at_ l off HH.out (j + 1) hj2).opens
        have hab : ∀ W, VInv w (.slice (some ⟨g, off, none⟩) n cap) (.int .i64 lang) W → Calls Tryd.prog 6 #[.int .i64 lang, .agg #[.int .i64 k, .bool b, .int .i64 m, .string t, .string x, .slice p q.length cp], .agg #[.int .i64 k2, .bool b2, .int .i64 m2, .string t2, .string x2, .slice p2 q2.length cp2]] W fun e w' => e = .returned (.int .i64 (eqTop lang (.mk k b m t x q) (.mk k2 b2 m2 t2 x2 q2))) ∧ Below W.heap.size W w' := fun W h => EqualC lang k b m t x q p cp k2 b2 m2 t2 x2 q2 p2 cp2 W (hG.below h.bel) (hT.below h.bel) o1.hf o2.hf (o1.below h.bel).hl (o2.below h.bel).hl
        have hba : ∀ W, VInv w (.slice (some ⟨g, off, none⟩) n cap) (.int .i64 lang) W → Calls Tryd.prog 6 #[.int .i64 lang, .agg #[.int .i64 k2, .bool b2, .int .i64 m2, .string t2, .string x2, .slice p2 q2.length cp2], .agg #[.int .i64 k, .bool b, .int .i64 m, .string t, .string x, .slice p q.length cp]] W fun e w' => e = .returned (.int .i64 (eqTop lang (.mk k2 b2 m2 t2 x2 q2) (.mk k b m t x q))) ∧ Below W.heap.size W w' := fun W h => EqualC lang k2 b2 m2 t2 x2 q2 p2 cp2 k b m t x q p cp W (hG.below h.bel) (hT.below h.bel) o2.hf o1.hf (o2.below h.bel).hl (o1.below h.bel).hl
        have haa : ∀ W, VInv w (.slice (some ⟨g, off, none⟩) n cap) (.int .i64 lang) W → Calls Tryd.prog 6 #[.int .i64 lang, .agg #[.int .i64 k, .bool b, .int .i64 m, .string t, .string x, .slice p q.length cp], .agg #[.int .i64 k, .bool b, .int .i64 m, .string t, .string x, .slice p q.length cp]] W fun e w' => e = .returned (.int .i64 (eqTop lang (.mk k b m t x q) (.mk k b m t x q))) ∧ Below W.heap.size W w' := fun W h => EqualC lang k b m t x q p cp k b m t x q p cp W (hG.below h.bel) (hT.below h.bel) o1.hf o1.hf (o1.below h.bel).hl (o1.below h.bel).hl
        have lab := fun W (h : VInv w (.slice (some ⟨g, off, none⟩) n cap) (.int .i64 lang) W) => LessC lang k b m t x q p cp k2 b2 m2 t2 x2 q2 p2 cp2 W (hG.below h.bel) (hT.below h.bel) o1.hf o2.hf (o1.below h.bel).hl (o2.below h.bel).hl
        have lba := fun W (h : VInv w (.slice (some ⟨g, off, none⟩) n cap) (.int .i64 lang) W) => LessC lang k2 b2 m2 t2 x2 q2 p2 cp2 k b m t x q p cp W (hG.below h.bel) (hT.below h.bel) o2.hf o1.hf (o2.below h.bel).hl (o1.below h.bel).hl
        have hca := fun W (h : VInv w (.slice (some ⟨g, off, none⟩) n cap) (.int .i64 lang) W) => checkAtV (.mk k b m t x q) k b m t x q (.slice p q.length cp) W rfl (hG.below h.bel) o1.hf.ht o1.hf.hx (o1.below h.bel).hl
        rw [eqTop_comm lang (.mk k2 b2 m2 t2 x2 q2) (.mk k b m t x q)] at hba
        have hr3 := e3_eqTop lang (.mk k b m t x q) (.mk k2 b2 m2 t2 x2 q2)
        have h1 := eq_lessTop lang (.mk k b m t x q) (.mk k2 b2 m2 t2 x2 q2)
        have h2 := less_backTop (.mk k b m t x q) (.mk k2 b2 m2 t2 x2 q2)
        have hu := eqTop_self lang (.mk k b m t x q)
        have hu2 := eqTop_plain lang k b m t x q
        generalize eqTop lang (.mk k b m t x q) (.mk k2 b2 m2 t2 x2 q2) = r at hab hba hr3 h1
        generalize eqTop lang (.mk k b m t x q) (.mk k b m t x q) = u at haa hu hu2
        generalize lessTop (.mk k b m t x q) (.mk k2 b2 m2 t2 x2 q2) = s1 at lab h1 h2
        generalize lessTop (.mk k2 b2 m2 t2 x2 q2) (.mk k b m t x q) = s2 at lba h1 h2
        generalize mayP (.mk k b m t x q) 0 = M at hca hu2
        have o1' := o1.below I.bel
        have o2' := (o2.below I.bel).below (below1 wr (.cells #[.int .i64 k, .bool b, .int .i64 m, .string t, .string x, .slice p q.length cp] 28))
        have HO1 := Lib.hid o1
        clear o1 o2
        have o1 := o1'
        have o2 := o2'
        clear o1' o2'
        obtain ⟨W0, hW0⟩ : ∃ W0, W0 = (wr.alloc (.cells #[.int .i64 k, .bool b, .int .i64 m, .string t, .string x, .slice p q.length cp] 28)).alloc (.cells #[.int .i64 k2, .bool b2, .int .i64 m2, .string t2, .string x2, .slice p2 q2.length cp2] 28) := ⟨_, rfl⟩
        have J1 := I.step (below1 wr (.cells #[.int .i64 k, .bool b, .int .i64 m, .string t, .string x, .slice p q.length cp] 28))
        have j1 := J1.cell
        have J : VInv w (.slice (some ⟨g, off, none⟩) n cap) (.int .i64 lang) W0 := by rw [hW0]; exact J1.step (below1 _ _)
        have S4 : Six W0 wr.heap.size k b m t x p q.length cp := by rw [hW0]; exact (six_new _ rfl).alloc _
        have S5 : Six W0 (wr.heap.size + 1) k2 b2 m2 t2 x2 p2 q2.length cp2 := by rw [hW0]; exact six_new _ (by simp)
        have j2 : ((wr.alloc (.cells #[.int .i64 k, .bool b, .int .i64 m, .string t, .string x, .slice p q.length cp] 28)).alloc (.cells #[.int .i64 k2, .bool b2, .int .i64 m2, .string t2, .string x2, .slice p2 q2.length cp2] 28)).cell? ⟨w.heap.size, 1, none⟩ = some (.int .i64 lang) := by rw [← hW0]; exact J.cell1
        have H0 := Lib.hid hW0
        have u0 := ne_of hu
        clear hW0 J1 I hu
        have q0 : (r != r) = false := neq_of rfl
        by_cases r1 : r = 1
        · obtain ⟨n1, n2⟩ := h1 r1
          have e1 := ne_of n1
          have e2 := ne_of n2
          subst r1
          clear h1 h2 n1 n2 hr3
          cases em : M with
          | false =>
            subst em
            go_wp2_with (first
              | ((try rw [← H0.out]); (with_reducible refine wpList_load6g (.tmp 4) wr.heap.size S4 ?_ ?_ ?_ ?_); rfl; rfl; rfl)
              | ((try rw [← H0.out]); (with_reducible refine wpList_load6g (.tmp 5) (wr.heap.size + 1) S5 ?_ ?_ ?_ ?_); rfl; rfl; rfl)
              | ((with_reducible refine wpList_loadMid6 (.tmp 28) g (off + j * 6) k b m t x _ o1.c0 o1.c1 o1.c2 o1.c3 o1.c4 o1.c5 ?_ ?_ ?_ ?_); rfl; rfl; rfl)
              | ((with_reducible refine wpList_loadMid6 (.tmp 33) g (off + (j + 1) * 6) k2 b2 m2 t2 x2 _ o2.c0 o2.c1 o2.c2 o2.c3 o2.c4 o2.c5 ?_ ?_ ?_ ?_); rfl; rfl; rfl)
              | (go_at_call 6; (with_reducible refine (hab _ J).mono ?_); rintro e w' ⟨rfl, hb⟩; replace J := J.step hb; replace S4 := S4.below hb; replace S5 := S5.below hb; have l1 := J.cell1; have l0 := J.cell; have f0 := S4.c0; clear hb)
              | (go_at_call 6; (with_reducible refine (hba _ J).mono ?_); rintro e w' ⟨rfl, hb⟩; replace J := J.step hb; replace S4 := S4.below hb; replace S5 := S5.below hb; have l1 := J.cell1; have l0 := J.cell; have f0 := S4.c0; clear hb)
              | (go_at_call 6; (with_reducible refine (haa _ J).mono ?_); rintro e w' ⟨rfl, hb⟩; replace J := J.step hb; replace S4 := S4.below hb; replace S5 := S5.below hb; have l1 := J.cell1; have l0 := J.cell; have f0 := S4.c0; clear hb)
              | (go_at_call 7; (with_reducible refine (lab _ J).mono ?_); rintro e w' ⟨rfl, hb⟩; replace J := J.step hb; replace S4 := S4.below hb; replace S5 := S5.below hb; have l1 := J.cell1; have l0 := J.cell; have f0 := S4.c0; clear hb)
              | (go_at_call 7; (with_reducible refine (lba _ J).mono ?_); rintro e w' ⟨rfl, hb⟩; replace J := J.step hb; replace S4 := S4.below hb; replace S5 := S5.below hb; have l1 := J.cell1; have l0 := J.cell; have f0 := S4.c0; clear hb)
              | (go_at_call 8; (with_reducible refine (hca _ J).mono ?_); rintro e w' ⟨rfl, hb⟩; replace J := J.step hb; replace S4 := S4.below hb; replace S5 := S5.below hb; have l1 := J.cell1; have l0 := J.cell; have f0 := S4.c0; clear hb))
            go_roundg (gk - 1)
            case measure => omega
            case rel => exact ⟨j + 1, by omega, by omega, by go_num, J⟩
          | true =>
            subst em
            by_cases k1 : 1 ≤ k
            · by_cases k4 : k ≤ 4
              · obtain rfl : u = 1 := hu2 rfl k1 k4
                go_wp2_with (first
                  | ((try rw [← H0.out]); (with_reducible refine wpList_load6g (.tmp 4) wr.heap.size S4 ?_ ?_ ?_ ?_); rfl; rfl; rfl)
                  | ((try rw [← H0.out]); (with_reducible refine wpList_load6g (.tmp 5) (wr.heap.size + 1) S5 ?_ ?_ ?_ ?_); rfl; rfl; rfl)
                  | ((with_reducible refine wpList_loadMid6 (.tmp 28) g (off + j * 6) k b m t x _ o1.c0 o1.c1 o1.c2 o1.c3 o1.c4 o1.c5 ?_ ?_ ?_ ?_); rfl; rfl; rfl)
                  | ((with_reducible refine wpList_loadMid6 (.tmp 33) g (off + (j + 1) * 6) k2 b2 m2 t2 x2 _ o2.c0 o2.c1 o2.c2 o2.c3 o2.c4 o2.c5 ?_ ?_ ?_ ?_); rfl; rfl; rfl)
                  | (go_at_call 6; (with_reducible refine (hab _ J).mono ?_); rintro e w' ⟨rfl, hb⟩; replace J := J.step hb; replace S4 := S4.below hb; replace S5 := S5.below hb; have l1 := J.cell1; have l0 := J.cell; have f0 := S4.c0; clear hb)
                  | (go_at_call 6; (with_reducible refine (hba _ J).mono ?_); rintro e w' ⟨rfl, hb⟩; replace J := J.step hb; replace S4 := S4.below hb; replace S5 := S5.below hb; have l1 := J.cell1; have l0 := J.cell; have f0 := S4.c0; clear hb)
                  | (go_at_call 6; (with_reducible refine (haa _ J).mono ?_); rintro e w' ⟨rfl, hb⟩; replace J := J.step hb; replace S4 := S4.below hb; replace S5 := S5.below hb; have l1 := J.cell1; have l0 := J.cell; have f0 := S4.c0; clear hb)
                  | (go_at_call 7; (with_reducible refine (lab _ J).mono ?_); rintro e w' ⟨rfl, hb⟩; replace J := J.step hb; replace S4 := S4.below hb; replace S5 := S5.below hb; have l1 := J.cell1; have l0 := J.cell; have f0 := S4.c0; clear hb)
                  | (go_at_call 7; (with_reducible refine (lba _ J).mono ?_); rintro e w' ⟨rfl, hb⟩; replace J := J.step hb; replace S4 := S4.below hb; replace S5 := S5.below hb; have l1 := J.cell1; have l0 := J.cell; have f0 := S4.c0; clear hb)
                  | (go_at_call 8; (with_reducible refine (hca _ J).mono ?_); rintro e w' ⟨rfl, hb⟩; replace J := J.step hb; replace S4 := S4.below hb; replace S5 := S5.below hb; have l1 := J.cell1; have l0 := J.cell; have f0 := S4.c0; clear hb))
                go_roundg (gk - 1)
                case measure => omega
                case rel => exact ⟨j + 1, by omega, by omega, by go_num, J⟩
              · clear hu2
                have d1 : decide (1 ≤ k) = true := decide_eq_true k1
                have d4 : decide (k ≤ 4) = false := decide_eq_false k4
                go_wp2_with (first
                  | ((try rw [← H0.out]); (with_reducible refine wpList_load6g (.tmp 4) wr.heap.size S4 ?_ ?_ ?_ ?_); rfl; rfl; rfl)
                  | ((try rw [← H0.out]); (with_reducible refine wpList_load6g (.tmp 5) (wr.heap.size + 1) S5 ?_ ?_ ?_ ?_); rfl; rfl; rfl)
                  | ((with_reducible refine wpList_loadMid6 (.tmp 28) g (off + j * 6) k b m t x _ o1.c0 o1.c1 o1.c2 o1.c3 o1.c4 o1.c5 ?_ ?_ ?_ ?_); rfl; rfl; rfl)
                  | ((with_reducible refine wpList_loadMid6 (.tmp 33) g (off + (j + 1) * 6) k2 b2 m2 t2 x2 _ o2.c0 o2.c1 o2.c2 o2.c3 o2.c4 o2.c5 ?_ ?_ ?_ ?_); rfl; rfl; rfl)
                  | (go_at_call 6; (with_reducible refine (hab _ J).mono ?_); rintro e w' ⟨rfl, hb⟩; replace J := J.step hb; replace S4 := S4.below hb; replace S5 := S5.below hb; have l1 := J.cell1; have l0 := J.cell; have f0 := S4.c0; clear hb)
                  | (go_at_call 6; (with_reducible refine (hba _ J).mono ?_); rintro e w' ⟨rfl, hb⟩; replace J := J.step hb; replace S4 := S4.below hb; replace S5 := S5.below hb; have l1 := J.cell1; have l0 := J.cell; have f0 := S4.c0; clear hb)
                  | (go_at_call 6; (with_reducible refine (haa _ J).mono ?_); rintro e w' ⟨rfl, hb⟩; replace J := J.step hb; replace S4 := S4.below hb; replace S5 := S5.below hb; have l1 := J.cell1; have l0 := J.cell; have f0 := S4.c0; clear hb)
                  | (go_at_call 7; (with_reducible refine (lab _ J).mono ?_); rintro e w' ⟨rfl, hb⟩; replace J := J.step hb; replace S4 := S4.below hb; replace S5 := S5.below hb; have l1 := J.cell1; have l0 := J.cell; have f0 := S4.c0; clear hb)
                  | (go_at_call 7; (with_reducible refine (lba _ J).mono ?_); rintro e w' ⟨rfl, hb⟩; replace J := J.step hb; replace S4 := S4.below hb; replace S5 := S5.below hb; have l1 := J.cell1; have l0 := J.cell; have f0 := S4.c0; clear hb)
                  | (go_at_call 8; (with_reducible refine (hca _ J).mono ?_); rintro e w' ⟨rfl, hb⟩; replace J := J.step hb; replace S4 := S4.below hb; replace S5 := S5.below hb; have l1 := J.cell1; have l0 := J.cell; have f0 := S4.c0; clear hb))
                go_roundg (gk - 1)
                case measure => omega
                case rel => exact ⟨j + 1, by omega, by omega, by go_num, J⟩
            · clear hu2
              have d1 : decide (1 ≤ k) = false := decide_eq_false k1
              go_wp2_with (first
                | ((try rw [← H0.out]); (with_reducible refine wpList_load6g (.tmp 4) wr.heap.size S4 ?_ ?_ ?_ ?_); rfl; rfl; rfl)
                | ((try rw [← H0.out]); (with_reducible refine wpList_load6g (.tmp 5) (wr.heap.size + 1) S5 ?_ ?_ ?_ ?_); rfl; rfl; rfl)
                | ((with_reducible refine wpList_loadMid6 (.tmp 28) g (off + j * 6) k b m t x _ o1.c0 o1.c1 o1.c2 o1.c3 o1.c4 o1.c5 ?_ ?_ ?_ ?_); rfl; rfl; rfl)
                | ((with_reducible refine wpList_loadMid6 (.tmp 33) g (off + (j + 1) * 6) k2 b2 m2 t2 x2 _ o2.c0 o2.c1 o2.c2 o2.c3 o2.c4 o2.c5 ?_ ?_ ?_ ?_); rfl; rfl; rfl)
                | (go_at_call 6; (with_reducible refine (hab _ J).mono ?_); rintro e w' ⟨rfl, hb⟩; replace J := J.step hb; replace S4 := S4.below hb; replace S5 := S5.below hb; have l1 := J.cell1; have l0 := J.cell; have f0 := S4.c0; clear hb)
                | (go_at_call 6; (with_reducible refine (hba _ J).mono ?_); rintro e w' ⟨rfl, hb⟩; replace J := J.step hb; replace S4 := S4.below hb; replace S5 := S5.below hb; have l1 := J.cell1; have l0 := J.cell; have f0 := S4.c0; clear hb)
                | (go_at_call 6; (with_reducible refine (haa _ J).mono ?_); rintro e w' ⟨rfl, hb⟩; replace J := J.step hb; replace S4 := S4.below hb; replace S5 := S5.below hb; have l1 := J.cell1; have l0 := J.cell; have f0 := S4.c0; clear hb)
                | (go_at_call 7; (with_reducible refine (lab _ J).mono ?_); rintro e w' ⟨rfl, hb⟩; replace J := J.step hb; replace S4 := S4.below hb; replace S5 := S5.below hb; have l1 := J.cell1; have l0 := J.cell; have f0 := S4.c0; clear hb)
                | (go_at_call 7; (with_reducible refine (lba _ J).mono ?_); rintro e w' ⟨rfl, hb⟩; replace J := J.step hb; replace S4 := S4.below hb; replace S5 := S5.below hb; have l1 := J.cell1; have l0 := J.cell; have f0 := S4.c0; clear hb)
                | (go_at_call 8; (with_reducible refine (hca _ J).mono ?_); rintro e w' ⟨rfl, hb⟩; replace J := J.step hb; replace S4 := S4.below hb; replace S5 := S5.below hb; have l1 := J.cell1; have l0 := J.cell; have f0 := S4.c0; clear hb))
              go_roundg (gk - 1)
              case measure => omega
              case rel => exact ⟨j + 1, by omega, by omega, by go_num, J⟩
        · have p0 : ¬ r < 0 := by rcases hr3 with h | h | h <;> omega
          have p2 : ¬ 2 < r := by rcases hr3 with h | h | h <;> omega
          have d0 : decide (r < 0) = false := decide_eq_false p0
          have d2 : decide (2 < r) = false := decide_eq_false p2
          have e0 := ne_of r1
          clear hr3 h1
          by_cases s : s1 = 1
          · obtain rfl := h2 s
            subst s
            clear h2
            cases em : M with
            | false =>
              subst em
              go_wp2_with (first
                | ((try rw [← H0.out]); (with_reducible refine wpList_load6g (.tmp 4) wr.heap.size S4 ?_ ?_ ?_ ?_); rfl; rfl; rfl)
                | ((try rw [← H0.out]); (with_reducible refine wpList_load6g (.tmp 5) (wr.heap.size + 1) S5 ?_ ?_ ?_ ?_); rfl; rfl; rfl)
                | ((with_reducible refine wpList_loadMid6 (.tmp 28) g (off + j * 6) k b m t x _ o1.c0 o1.c1 o1.c2 o1.c3 o1.c4 o1.c5 ?_ ?_ ?_ ?_); rfl; rfl; rfl)
                | ((with_reducible refine wpList_loadMid6 (.tmp 33) g (off + (j + 1) * 6) k2 b2 m2 t2 x2 _ o2.c0 o2.c1 o2.c2 o2.c3 o2.c4 o2.c5 ?_ ?_ ?_ ?_); rfl; rfl; rfl)
                | (go_at_call 6; (with_reducible refine (hab _ J).mono ?_); rintro e w' ⟨rfl, hb⟩; replace J := J.step hb; replace S4 := S4.below hb; replace S5 := S5.below hb; have l1 := J.cell1; have l0 := J.cell; have f0 := S4.c0; clear hb)
                | (go_at_call 6; (with_reducible refine (hba _ J).mono ?_); rintro e w' ⟨rfl, hb⟩; replace J := J.step hb; replace S4 := S4.below hb; replace S5 := S5.below hb; have l1 := J.cell1; have l0 := J.cell; have f0 := S4.c0; clear hb)
                | (go_at_call 6; (with_reducible refine (haa _ J).mono ?_); rintro e w' ⟨rfl, hb⟩; replace J := J.step hb; replace S4 := S4.below hb; replace S5 := S5.below hb; have l1 := J.cell1; have l0 := J.cell; have f0 := S4.c0; clear hb)
                | (go_at_call 7; (with_reducible refine (lab _ J).mono ?_); rintro e w' ⟨rfl, hb⟩; replace J := J.step hb; replace S4 := S4.below hb; replace S5 := S5.below hb; have l1 := J.cell1; have l0 := J.cell; have f0 := S4.c0; clear hb)
                | (go_at_call 7; (with_reducible refine (lba _ J).mono ?_); rintro e w' ⟨rfl, hb⟩; replace J := J.step hb; replace S4 := S4.below hb; replace S5 := S5.below hb; have l1 := J.cell1; have l0 := J.cell; have f0 := S4.c0; clear hb)
                | (go_at_call 8; (with_reducible refine (hca _ J).mono ?_); rintro e w' ⟨rfl, hb⟩; replace J := J.step hb; replace S4 := S4.below hb; replace S5 := S5.below hb; have l1 := J.cell1; have l0 := J.cell; have f0 := S4.c0; clear hb))
              go_roundg (gk - 1)
              case measure => omega
              case rel => exact ⟨j + 1, by omega, by omega, by go_num, J⟩
            | true =>
              subst em
              by_cases k1 : 1 ≤ k
              · by_cases k4 : k ≤ 4
                · obtain rfl : u = 1 := hu2 rfl k1 k4
                  go_wp2_with (first
                    | ((try rw [← H0.out]); (with_reducible refine wpList_load6g (.tmp 4) wr.heap.size S4 ?_ ?_ ?_ ?_); rfl; rfl; rfl)
                    | ((try rw [← H0.out]); (with_reducible refine wpList_load6g (.tmp 5) (wr.heap.size + 1) S5 ?_ ?_ ?_ ?_); rfl; rfl; rfl)
                    | ((with_reducible refine wpList_loadMid6 (.tmp 28) g (off + j * 6) k b m t x _ o1.c0 o1.c1 o1.c2 o1.c3 o1.c4 o1.c5 ?_ ?_ ?_ ?_); rfl; rfl; rfl)
                    | ((with_reducible refine wpList_loadMid6 (.tmp 33) g (off + (j + 1) * 6) k2 b2 m2 t2 x2 _ o2.c0 o2.c1 o2.c2 o2.c3 o2.c4 o2.c5 ?_ ?_ ?_ ?_); rfl; rfl; rfl)
                    | (go_at_call 6; (with_reducible refine (hab _ J).mono ?_); rintro e w' ⟨rfl, hb⟩; replace J := J.step hb; replace S4 := S4.below hb; replace S5 := S5.below hb; have l1 := J.cell1; have l0 := J.cell; have f0 := S4.c0; clear hb)
                    | (go_at_call 6; (with_reducible refine (hba _ J).mono ?_); rintro e w' ⟨rfl, hb⟩; replace J := J.step hb; replace S4 := S4.below hb; replace S5 := S5.below hb; have l1 := J.cell1; have l0 := J.cell; have f0 := S4.c0; clear hb)
                    | (go_at_call 6; (with_reducible refine (haa _ J).mono ?_); rintro e w' ⟨rfl, hb⟩; replace J := J.step hb; replace S4 := S4.below hb; replace S5 := S5.below hb; have l1 := J.cell1; have l0 := J.cell; have f0 := S4.c0; clear hb)
                    | (go_at_call 7; (with_reducible refine (lab _ J).mono ?_); rintro e w' ⟨rfl, hb⟩; replace J := J.step hb; replace S4 := S4.below hb; replace S5 := S5.below hb; have l1 := J.cell1; have l0 := J.cell; have f0 := S4.c0; clear hb)
                    | (go_at_call 7; (with_reducible refine (lba _ J).mono ?_); rintro e w' ⟨rfl, hb⟩; replace J := J.step hb; replace S4 := S4.below hb; replace S5 := S5.below hb; have l1 := J.cell1; have l0 := J.cell; have f0 := S4.c0; clear hb)
                    | (go_at_call 8; (with_reducible refine (hca _ J).mono ?_); rintro e w' ⟨rfl, hb⟩; replace J := J.step hb; replace S4 := S4.below hb; replace S5 := S5.below hb; have l1 := J.cell1; have l0 := J.cell; have f0 := S4.c0; clear hb))
                  go_roundg (gk - 1)
                  case measure => omega
                  case rel => exact ⟨j + 1, by omega, by omega, by go_num, J⟩
                · clear hu2
                  have d1 : decide (1 ≤ k) = true := decide_eq_true k1
                  have d4 : decide (k ≤ 4) = false := decide_eq_false k4
                  go_wp2_with (first
                    | ((try rw [← H0.out]); (with_reducible refine wpList_load6g (.tmp 4) wr.heap.size S4 ?_ ?_ ?_ ?_); rfl; rfl; rfl)
                    | ((try rw [← H0.out]); (with_reducible refine wpList_load6g (.tmp 5) (wr.heap.size + 1) S5 ?_ ?_ ?_ ?_); rfl; rfl; rfl)
                    | ((with_reducible refine wpList_loadMid6 (.tmp 28) g (off + j * 6) k b m t x _ o1.c0 o1.c1 o1.c2 o1.c3 o1.c4 o1.c5 ?_ ?_ ?_ ?_); rfl; rfl; rfl)
                    | ((with_reducible refine wpList_loadMid6 (.tmp 33) g (off + (j + 1) * 6) k2 b2 m2 t2 x2 _ o2.c0 o2.c1 o2.c2 o2.c3 o2.c4 o2.c5 ?_ ?_ ?_ ?_); rfl; rfl; rfl)
                    | (go_at_call 6; (with_reducible refine (hab _ J).mono ?_); rintro e w' ⟨rfl, hb⟩; replace J := J.step hb; replace S4 := S4.below hb; replace S5 := S5.below hb; have l1 := J.cell1; have l0 := J.cell; have f0 := S4.c0; clear hb)
                    | (go_at_call 6; (with_reducible refine (hba _ J).mono ?_); rintro e w' ⟨rfl, hb⟩; replace J := J.step hb; replace S4 := S4.below hb; replace S5 := S5.below hb; have l1 := J.cell1; have l0 := J.cell; have f0 := S4.c0; clear hb)
                    | (go_at_call 6; (with_reducible refine (haa _ J).mono ?_); rintro e w' ⟨rfl, hb⟩; replace J := J.step hb; replace S4 := S4.below hb; replace S5 := S5.below hb; have l1 := J.cell1; have l0 := J.cell; have f0 := S4.c0; clear hb)
                    | (go_at_call 7; (with_reducible refine (lab _ J).mono ?_); rintro e w' ⟨rfl, hb⟩; replace J := J.step hb; replace S4 := S4.below hb; replace S5 := S5.below hb; have l1 := J.cell1; have l0 := J.cell; have f0 := S4.c0; clear hb)
                    | (go_at_call 7; (with_reducible refine (lba _ J).mono ?_); rintro e w' ⟨rfl, hb⟩; replace J := J.step hb; replace S4 := S4.below hb; replace S5 := S5.below hb; have l1 := J.cell1; have l0 := J.cell; have f0 := S4.c0; clear hb)
                    | (go_at_call 8; (with_reducible refine (hca _ J).mono ?_); rintro e w' ⟨rfl, hb⟩; replace J := J.step hb; replace S4 := S4.below hb; replace S5 := S5.below hb; have l1 := J.cell1; have l0 := J.cell; have f0 := S4.c0; clear hb))
                  go_roundg (gk - 1)
                  case measure => omega
                  case rel => exact ⟨j + 1, by omega, by omega, by go_num, J⟩
              · clear hu2
                have d1 : decide (1 ≤ k) = false := decide_eq_false k1
                go_wp2_with (first
                  | ((try rw [← H0.out]); (with_reducible refine wpList_load6g (.tmp 4) wr.heap.size S4 ?_ ?_ ?_ ?_); rfl; rfl; rfl)
                  | ((try rw [← H0.out]); (with_reducible refine wpList_load6g (.tmp 5) (wr.heap.size + 1) S5 ?_ ?_ ?_ ?_); rfl; rfl; rfl)
                  | ((with_reducible refine wpList_loadMid6 (.tmp 28) g (off + j * 6) k b m t x _ o1.c0 o1.c1 o1.c2 o1.c3 o1.c4 o1.c5 ?_ ?_ ?_ ?_); rfl; rfl; rfl)
                  | ((with_reducible refine wpList_loadMid6 (.tmp 33) g (off + (j + 1) * 6) k2 b2 m2 t2 x2 _ o2.c0 o2.c1 o2.c2 o2.c3 o2.c4 o2.c5 ?_ ?_ ?_ ?_); rfl; rfl; rfl)
                  | (go_at_call 6; (with_reducible refine (hab _ J).mono ?_); rintro e w' ⟨rfl, hb⟩; replace J := J.step hb; replace S4 := S4.below hb; replace S5 := S5.below hb; have l1 := J.cell1; have l0 := J.cell; have f0 := S4.c0; clear hb)
                  | (go_at_call 6; (with_reducible refine (hba _ J).mono ?_); rintro e w' ⟨rfl, hb⟩; replace J := J.step hb; replace S4 := S4.below hb; replace S5 := S5.below hb; have l1 := J.cell1; have l0 := J.cell; have f0 := S4.c0; clear hb)
                  | (go_at_call 6; (with_reducible refine (haa _ J).mono ?_); rintro e w' ⟨rfl, hb⟩; replace J := J.step hb; replace S4 := S4.below hb; replace S5 := S5.below hb; have l1 := J.cell1; have l0 := J.cell; have f0 := S4.c0; clear hb)
                  | (go_at_call 7; (with_reducible refine (lab _ J).mono ?_); rintro e w' ⟨rfl, hb⟩; replace J := J.step hb; replace S4 := S4.below hb; replace S5 := S5.below hb; have l1 := J.cell1; have l0 := J.cell; have f0 := S4.c0; clear hb)
                  | (go_at_call 7; (with_reducible refine (lba _ J).mono ?_); rintro e w' ⟨rfl, hb⟩; replace J := J.step hb; replace S4 := S4.below hb; replace S5 := S5.below hb; have l1 := J.cell1; have l0 := J.cell; have f0 := S4.c0; clear hb)
                  | (go_at_call 8; (with_reducible refine (hca _ J).mono ?_); rintro e w' ⟨rfl, hb⟩; replace J := J.step hb; replace S4 := S4.below hb; replace S5 := S5.below hb; have l1 := J.cell1; have l0 := J.cell; have f0 := S4.c0; clear hb))
                go_roundg (gk - 1)
                case measure => omega
                case rel => exact ⟨j + 1, by omega, by omega, by go_num, J⟩
          · have e1 := ne_of s
            clear h2 s
            cases em : M with
            | false =>
              subst em
              go_wp2_with (first
                | ((try rw [← H0.out]); (with_reducible refine wpList_load6g (.tmp 4) wr.heap.size S4 ?_ ?_ ?_ ?_); rfl; rfl; rfl)
                | ((try rw [← H0.out]); (with_reducible refine wpList_load6g (.tmp 5) (wr.heap.size + 1) S5 ?_ ?_ ?_ ?_); rfl; rfl; rfl)
                | ((with_reducible refine wpList_loadMid6 (.tmp 28) g (off + j * 6) k b m t x _ o1.c0 o1.c1 o1.c2 o1.c3 o1.c4 o1.c5 ?_ ?_ ?_ ?_); rfl; rfl; rfl)
                | ((with_reducible refine wpList_loadMid6 (.tmp 33) g (off + (j + 1) * 6) k2 b2 m2 t2 x2 _ o2.c0 o2.c1 o2.c2 o2.c3 o2.c4 o2.c5 ?_ ?_ ?_ ?_); rfl; rfl; rfl)
                | (go_at_call 6; (with_reducible refine (hab _ J).mono ?_); rintro e w' ⟨rfl, hb⟩; replace J := J.step hb; replace S4 := S4.below hb; replace S5 := S5.below hb; have l1 := J.cell1; have l0 := J.cell; have f0 := S4.c0; clear hb)
                | (go_at_call 6; (with_reducible refine (hba _ J).mono ?_); rintro e w' ⟨rfl, hb⟩; replace J := J.step hb; replace S4 := S4.below hb; replace S5 := S5.below hb; have l1 := J.cell1; have l0 := J.cell; have f0 := S4.c0; clear hb)
                | (go_at_call 6; (with_reducible refine (haa _ J).mono ?_); rintro e w' ⟨rfl, hb⟩; replace J := J.step hb; replace S4 := S4.below hb; replace S5 := S5.below hb; have l1 := J.cell1; have l0 := J.cell; have f0 := S4.c0; clear hb)
                | (go_at_call 7; (with_reducible refine (lab _ J).mono ?_); rintro e w' ⟨rfl, hb⟩; replace J := J.step hb; replace S4 := S4.below hb; replace S5 := S5.below hb; have l1 := J.cell1; have l0 := J.cell; have f0 := S4.c0; clear hb)
                | (go_at_call 7; (with_reducible refine (lba _ J).mono ?_); rintro e w' ⟨rfl, hb⟩; replace J := J.step hb; replace S4 := S4.below hb; replace S5 := S5.below hb; have l1 := J.cell1; have l0 := J.cell; have f0 := S4.c0; clear hb)
                | (go_at_call 8; (with_reducible refine (hca _ J).mono ?_); rintro e w' ⟨rfl, hb⟩; replace J := J.step hb; replace S4 := S4.below hb; replace S5 := S5.below hb; have l1 := J.cell1; have l0 := J.cell; have f0 := S4.c0; clear hb))
              go_roundg (gk - 1)
              case measure => omega
              case rel => exact ⟨j + 1, by omega, by omega, by go_num, J⟩
            | true =>
              subst em
              by_cases k1 : 1 ≤ k
              · by_cases k4 : k ≤ 4
                · obtain rfl : u = 1 := hu2 rfl k1 k4
                  go_wp2_with (first
                    | ((try rw [← H0.out]); (with_reducible refine wpList_load6g (.tmp 4) wr.heap.size S4 ?_ ?_ ?_ ?_); rfl; rfl; rfl)
                    | ((try rw [← H0.out]); (with_reducible refine wpList_load6g (.tmp 5) (wr.heap.size + 1) S5 ?_ ?_ ?_ ?_); rfl; rfl; rfl)
                    | ((with_reducible refine wpList_loadMid6 (.tmp 28) g (off + j * 6) k b m t x _ o1.c0 o1.c1 o1.c2 o1.c3 o1.c4 o1.c5 ?_ ?_ ?_ ?_); rfl; rfl; rfl)
                    | ((with_reducible refine wpList_loadMid6 (.tmp 33) g (off + (j + 1) * 6) k2 b2 m2 t2 x2 _ o2.c0 o2.c1 o2.c2 o2.c3 o2.c4 o2.c5 ?_ ?_ ?_ ?_); rfl; rfl; rfl)
                    | (go_at_call 6; (with_reducible refine (hab _ J).mono ?_); rintro e w' ⟨rfl, hb⟩; replace J := J.step hb; replace S4 := S4.below hb; replace S5 := S5.below hb; have l1 := J.cell1; have l0 := J.cell; have f0 := S4.c0; clear hb)
                    | (go_at_call 6; (with_reducible refine (hba _ J).mono ?_); rintro e w' ⟨rfl, hb⟩; replace J := J.step hb; replace S4 := S4.below hb; replace S5 := S5.below hb; have l1 := J.cell1; have l0 := J.cell; have f0 := S4.c0; clear hb)
                    | (go_at_call 6; (with_reducible refine (haa _ J).mono ?_); rintro e w' ⟨rfl, hb⟩; replace J := J.step hb; replace S4 := S4.below hb; replace S5 := S5.below hb; have l1 := J.cell1; have l0 := J.cell; have f0 := S4.c0; clear hb)
                    | (go_at_call 7; (with_reducible refine (lab _ J).mono ?_); rintro e w' ⟨rfl, hb⟩; replace J := J.step hb; replace S4 := S4.below hb; replace S5 := S5.below hb; have l1 := J.cell1; have l0 := J.cell; have f0 := S4.c0; clear hb)
                    | (go_at_call 7; (with_reducible refine (lba _ J).mono ?_); rintro e w' ⟨rfl, hb⟩; replace J := J.step hb; replace S4 := S4.below hb; replace S5 := S5.below hb; have l1 := J.cell1; have l0 := J.cell; have f0 := S4.c0; clear hb)
                    | (go_at_call 8; (with_reducible refine (hca _ J).mono ?_); rintro e w' ⟨rfl, hb⟩; replace J := J.step hb; replace S4 := S4.below hb; replace S5 := S5.below hb; have l1 := J.cell1; have l0 := J.cell; have f0 := S4.c0; clear hb))
                  go_roundg (gk - 1)
                  case measure => omega
                  case rel => exact ⟨j + 1, by omega, by omega, by go_num, J⟩
                · clear hu2
                  have d1 : decide (1 ≤ k) = true := decide_eq_true k1
                  have d4 : decide (k ≤ 4) = false := decide_eq_false k4
                  go_wp2_with (first
                    | ((try rw [← H0.out]); (with_reducible refine wpList_load6g (.tmp 4) wr.heap.size S4 ?_ ?_ ?_ ?_); rfl; rfl; rfl)
                    | ((try rw [← H0.out]); (with_reducible refine wpList_load6g (.tmp 5) (wr.heap.size + 1) S5 ?_ ?_ ?_ ?_); rfl; rfl; rfl)
                    | ((with_reducible refine wpList_loadMid6 (.tmp 28) g (off + j * 6) k b m t x _ o1.c0 o1.c1 o1.c2 o1.c3 o1.c4 o1.c5 ?_ ?_ ?_ ?_); rfl; rfl; rfl)
                    | ((with_reducible refine wpList_loadMid6 (.tmp 33) g (off + (j + 1) * 6) k2 b2 m2 t2 x2 _ o2.c0 o2.c1 o2.c2 o2.c3 o2.c4 o2.c5 ?_ ?_ ?_ ?_); rfl; rfl; rfl)
                    | (go_at_call 6; (with_reducible refine (hab _ J).mono ?_); rintro e w' ⟨rfl, hb⟩; replace J := J.step hb; replace S4 := S4.below hb; replace S5 := S5.below hb; have l1 := J.cell1; have l0 := J.cell; have f0 := S4.c0; clear hb)
                    | (go_at_call 6; (with_reducible refine (hba _ J).mono ?_); rintro e w' ⟨rfl, hb⟩; replace J := J.step hb; replace S4 := S4.below hb; replace S5 := S5.below hb; have l1 := J.cell1; have l0 := J.cell; have f0 := S4.c0; clear hb)
                    | (go_at_call 6; (with_reducible refine (haa _ J).mono ?_); rintro e w' ⟨rfl, hb⟩; replace J := J.step hb; replace S4 := S4.below hb; replace S5 := S5.below hb; have l1 := J.cell1; have l0 := J.cell; have f0 := S4.c0; clear hb)
                    | (go_at_call 7; (with_reducible refine (lab _ J).mono ?_); rintro e w' ⟨rfl, hb⟩; replace J := J.step hb; replace S4 := S4.below hb; replace S5 := S5.below hb; have l1 := J.cell1; have l0 := J.cell; have f0 := S4.c0; clear hb)
                    | (go_at_call 7; (with_reducible refine (lba _ J).mono ?_); rintro e w' ⟨rfl, hb⟩; replace J := J.step hb; replace S4 := S4.below hb; replace S5 := S5.below hb; have l1 := J.cell1; have l0 := J.cell; have f0 := S4.c0; clear hb)
                    | (go_at_call 8; (with_reducible refine (hca _ J).mono ?_); rintro e w' ⟨rfl, hb⟩; replace J := J.step hb; replace S4 := S4.below hb; replace S5 := S5.below hb; have l1 := J.cell1; have l0 := J.cell; have f0 := S4.c0; clear hb))
                  go_roundg (gk - 1)
                  case measure => omega
                  case rel => exact ⟨j + 1, by omega, by omega, by go_num, J⟩
              · clear hu2
                have d1 : decide (1 ≤ k) = false := decide_eq_false k1
                go_wp2_with (first
                  | ((try rw [← H0.out]); (with_reducible refine wpList_load6g (.tmp 4) wr.heap.size S4 ?_ ?_ ?_ ?_); rfl; rfl; rfl)
                  | ((try rw [← H0.out]); (with_reducible refine wpList_load6g (.tmp 5) (wr.heap.size + 1) S5 ?_ ?_ ?_ ?_); rfl; rfl; rfl)
                  | ((with_reducible refine wpList_loadMid6 (.tmp 28) g (off + j * 6) k b m t x _ o1.c0 o1.c1 o1.c2 o1.c3 o1.c4 o1.c5 ?_ ?_ ?_ ?_); rfl; rfl; rfl)
                  | ((with_reducible refine wpList_loadMid6 (.tmp 33) g (off + (j + 1) * 6) k2 b2 m2 t2 x2 _ o2.c0 o2.c1 o2.c2 o2.c3 o2.c4 o2.c5 ?_ ?_ ?_ ?_); rfl; rfl; rfl)
                  | (go_at_call 6; (with_reducible refine (hab _ J).mono ?_); rintro e w' ⟨rfl, hb⟩; replace J := J.step hb; replace S4 := S4.below hb; replace S5 := S5.below hb; have l1 := J.cell1; have l0 := J.cell; have f0 := S4.c0; clear hb)
                  | (go_at_call 6; (with_reducible refine (hba _ J).mono ?_); rintro e w' ⟨rfl, hb⟩; replace J := J.step hb; replace S4 := S4.below hb; replace S5 := S5.below hb; have l1 := J.cell1; have l0 := J.cell; have f0 := S4.c0; clear hb)
                  | (go_at_call 6; (with_reducible refine (haa _ J).mono ?_); rintro e w' ⟨rfl, hb⟩; replace J := J.step hb; replace S4 := S4.below hb; replace S5 := S5.below hb; have l1 := J.cell1; have l0 := J.cell; have f0 := S4.c0; clear hb)
                  | (go_at_call 7; (with_reducible refine (lab _ J).mono ?_); rintro e w' ⟨rfl, hb⟩; replace J := J.step hb; replace S4 := S4.below hb; replace S5 := S5.below hb; have l1 := J.cell1; have l0 := J.cell; have f0 := S4.c0; clear hb)
                  | (go_at_call 7; (with_reducible refine (lba _ J).mono ?_); rintro e w' ⟨rfl, hb⟩; replace J := J.step hb; replace S4 := S4.below hb; replace S5 := S5.below hb; have l1 := J.cell1; have l0 := J.cell; have f0 := S4.c0; clear hb)
                  | (go_at_call 8; (with_reducible refine (hca _ J).mono ?_); rintro e w' ⟨rfl, hb⟩; replace J := J.step hb; replace S4 := S4.below hb; replace S5 := S5.below hb; have l1 := J.cell1; have l0 := J.cell; have f0 := S4.c0; clear hb))
                go_roundg (gk - 1)
                case measure => omega
                case rel => exact ⟨j + 1, by omega, by omega, by go_num, J⟩
      · go_wp2_with (go_at_call 5; (with_reducible refine (hwk _ I.bel).mono ?_); rintro e w' ⟨rfl, hb⟩; replace I := I.step hb)
        go_ret
        exact ⟨rfl, I.bel⟩
    · go_wp2_with (go_at_call 5; (with_reducible refine (hwk _ I.bel).mono ?_); rintro e w' ⟨rfl, hb⟩; replace I := I.step hb)
      go_ret
      exact ⟨rfl, I.bel⟩
end Go.Proofs.YtoifjjgakblhhaaDoor
