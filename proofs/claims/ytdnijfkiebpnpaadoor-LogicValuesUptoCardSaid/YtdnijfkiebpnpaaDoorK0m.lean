/- The law LogicValues, walked. -/
import Derived.Test.YtdnijfkiebpnpaaDoorJ6m
import Derived.Test.YtdnijfkiebpnpaaDoorGq
namespace Go.Proofs.YtdnijfkiebpnpaaDoor
open Go.RowKit

/-- What the law's round keeps: its argument's box; what lay below. -/
structure VInv (w : World) (L ln : Value) (W : World) : Prop where
  cell : W.cell? ⟨w.heap.size, 0, none⟩ = some L
  lt : w.heap.size < W.heap.size
  bel : Below w.heap.size w W
theorem VInv.step {w W W2 : World} {L ln : Value} (h : VInv w L ln W) (k : Below W.heap.size W W2) : VInv w L ln W2 :=
  ⟨(k.cell (p := ⟨w.heap.size, 0, none⟩) h.lt).trans h.cell, Nat.lt_of_lt_of_le h.lt k.size, below_any h.bel k (Nat.le_of_lt h.lt)⟩
theorem VInv.start (w : World) (L ln : Value) : VInv w L ln (w.alloc (.cells #[L, ln] 24)) :=
  ⟨cell_of (heap_new _ _ rfl) _ rfl, by simp, below1 _ _⟩
theorem wrapN {j : Nat} (h : j ≤ 2097152) : IntKind.i64.wrap (j : Int) = j := by rw [IntKind.wrap_i64]; omega
theorem neq_of {a b : Int} (h : a = b) : (a != b) = false := by simp [h]

set_option maxRecDepth 20000 in
set_option maxHeartbeats 6400000 in
theorem valuesSome (l : List Val) (g off cap : Nat) (ln : Value) (w : World) (hG : Gd w) (hT : Tab w) (hl : Holds w g off l) (hn : l.length ≤ 2097152) :
    Calls Tryd.prog 3 #[.agg #[.slice (some ⟨g, off, none⟩) l.length cap, ln]] w fun e w' => e = .returned (.bool true) ∧ Below w.heap.size w w' := by
  have I0 := VInv.start w (.slice (some ⟨g, off, none⟩) l.length cap) ln
  obtain ⟨n, hln⟩ : ∃ n, n = l.length := ⟨_, rfl⟩
  rw [← hln] at hn I0 ⊢
  have HL := Lib.hid hln
  have HH := Lib.hid hl
  clear hl hln
  go_enter Tryd.func3, Tryd.ntmps3
  go_wp2_with fail
  go_loopg [3] (n + 1) (fun gg s3 wr => ∃ j : Nat, j + gg = n + 1 ∧ j ≤ n ∧ s3 = .int .i64 ((j : Int) + 1) ∧ VInv w (.slice (some ⟨g, off, none⟩) n cap) ln wr)
  case atStart => exact ⟨0, by omega, by omega, rfl, I0⟩
  case round =>
    clear I0
    obtain ⟨j, hjg, hjn, rfl, I⟩ := hrel
    have hp := I.cell
    by_cases hlt : (j : Int) + 1 < n
    · by_cases h30 : (j : Int) + 1 < 30
      · have hj1 : j < l.length := by have := HL.out; omega
        have hj2 : j + 1 < l.length := by have := HL.out; omega
        obtain ⟨k, b, m, t, x, q, p, cp, o1⟩ := (Holds.at_ l off HH.out j hj1).opens
        obtain ⟨k2, b2, m2, t2, x2, q2, p2, cp2, o2⟩ := (Holds.at_ l off HH.out (j + 1) hj2).opens
        have c5 := (o1.below I.bel).c5
        have d5 := (o2.below I.bel).c5
        have HO1 := Lib.hid o1
        have HO2 := Lib.hid o2
        by_cases a1 : (100 : Int) < q2.length
        · clear o1 o2
          go_wp2_with fail
          go_roundg (gk - 1)
          case measure => omega
          case rel => exact ⟨j + 1, by omega, by omega, by go_num, I⟩
        · by_cases a2 : (100 : Int) < q.length
          · clear o1 o2
            go_wp2_with fail
            go_roundg (gk - 1)
            case measure => omega
            case rel => exact ⟨j + 1, by omega, by omega, by go_num, I⟩
          · have hc := fun W (h : VInv w (.slice (some ⟨g, off, none⟩) n cap) ln W) => EqualC 0 k b m t x q p cp k2 b2 m2 t2 x2 q2 p2 cp2 W (hG.below h.bel) (hT.below h.bel) o1.hf o2.hf (o1.below h.bel).hl (o2.below h.bel).hl
            obtain ⟨r, hr⟩ : ∃ r, r = equalTop 0 (.mk k b m t x q) (.mk k2 b2 m2 t2 x2 q2) := ⟨_, rfl⟩
            rw [← hr] at hc
            have e3 : E3 r := by rw [hr]; exact e3_top _ _ _
            have R1 : ∀ w', Below w.heap.size w w' → w'.rangeAt g (off + j * 6) [.int .i64 k, .bool b, .int .i64 m, .string t, .string x, .slice p q.length cp] := fun w' h => (o1.below h).range
            have R2 : ∀ w', Below w.heap.size w w' → w'.rangeAt g (off + (j + 1) * 6) [.int .i64 k2, .bool b2, .int .i64 m2, .string t2, .string x2, .slice p2 q2.length cp2] := fun w' h => (o2.below h).range
            have HC := Lib.hid hc
            have HR1 := Lib.hid R1
            have HR2 := Lib.hid R2
            obtain ⟨K, B, b1, b2'⟩ := backOf r e3
            obtain ⟨nn, n1, n2⟩ := notNot r e3
            have HB1 := Lib.hid b1
            have HB2 := Lib.hid b2'
            have HN1 := Lib.hid n1
            have HN2 := Lib.hid n2
            have q0 : (r != r) = false := neq_of rfl
            clear o1 o2 hr hc R1 R2 e3 b1 b2' n1 n2
            go_wp2_with fail
            refine wp_region_held_drew (S := VInv w (.slice (some ⟨g, off, none⟩) n cap) ln) (by kernel_rfl) ⟨I.cell, I.lt, I.bel.drew⟩ (fun hHeld => ?_)
            clear I hp c5 d5
            refine wpAnyH_take (i := 0) (v := .pointer (some ⟨w.heap.size, 0, none⟩)) rfl (by kernel_rfl) (by kernel_rfl) (by kernel_rfl) (fun _ _ _ h => h) (Or.inl ⟨by rfl, fun W _ => by go_simp⟩) hHeld ?_
            try simp only [Act.put, List.getElem_toArray, List.getElem_cons_succ, List.getElem_cons_zero, List.setIfInBounds_toArray, List.set_cons_zero, List.set_cons_succ]
            refine wpAnyH_take (i := 1) (v := .slice (some ⟨g, off, none⟩) n cap) rfl (by kernel_rfl) (by kernel_rfl) (by kernel_rfl) (fun _ _ _ h => h) (Or.inl ⟨by rfl, fun W h => by have c := h.cell; go_simp⟩) hHeld ?_
            try simp only [Act.put, List.getElem_toArray, List.getElem_cons_succ, List.getElem_cons_zero, List.setIfInBounds_toArray, List.set_cons_zero, List.set_cons_succ]
            refine wpAnyH_take (i := 2) (v := .int .i64 ((j : Int) + 1)) rfl (by kernel_rfl) (by kernel_rfl) (by kernel_rfl) (fun _ _ _ h => h) (Or.inl ⟨by rfl, fun W _ => by go_simp⟩) hHeld ?_
            try simp only [Act.put, List.getElem_toArray, List.getElem_cons_succ, List.getElem_cons_zero, List.setIfInBounds_toArray, List.set_cons_zero, List.set_cons_succ]
            refine wpAnyH_take (i := 3) (v := .int .i64 j) rfl (by kernel_rfl) (by kernel_rfl) (by kernel_rfl) (fun _ _ _ h => h) (Or.inl ⟨by rfl, fun W _ => by go_simp; exact wrapN (by omega)⟩) hHeld ?_
            try simp only [Act.put, List.getElem_toArray, List.getElem_cons_succ, List.getElem_cons_zero, List.setIfInBounds_toArray, List.set_cons_zero, List.set_cons_succ]
            refine wpAnyH_take (i := 4) (v := .pointer (some ⟨g, off + j * 6, none⟩)) rfl (by kernel_rfl) (by kernel_rfl) (by kernel_rfl) (fun _ _ _ h => h) (Or.inl ⟨by rfl, fun W _ => by go_simp; intro hx; omega⟩) hHeld ?_
            try simp only [Act.put, List.getElem_toArray, List.getElem_cons_succ, List.getElem_cons_zero, List.setIfInBounds_toArray, List.set_cons_zero, List.set_cons_succ]
            refine wpAnyH_take (i := 5) rfl (by kernel_rfl) (by kernel_rfl) (by kernel_rfl) (fun _ _ _ h => h) (yieldsIf_load_mid (by rfl) 26 (.tmp 43) rfl g (off + j * 6) rfl _ _ (fun w h => HR1.out w h.bel) Tryd.underlying26 rfl info28) hHeld ?_
            try simp only [Act.put, List.getElem_toArray, List.getElem_cons_succ, List.getElem_cons_zero, List.setIfInBounds_toArray, List.set_cons_zero, List.set_cons_succ]
            refine wpAnyH_take (i := 6) (v := .pointer (some ⟨w.heap.size, 0, none⟩)) rfl (by kernel_rfl) (by kernel_rfl) (by kernel_rfl) (fun _ _ _ h => h) (Or.inl ⟨by rfl, fun W _ => by go_simp⟩) hHeld ?_
            try simp only [Act.put, List.getElem_toArray, List.getElem_cons_succ, List.getElem_cons_zero, List.setIfInBounds_toArray, List.set_cons_zero, List.set_cons_succ]
            refine wpAnyH_take (i := 7) (v := .slice (some ⟨g, off, none⟩) n cap) rfl (by kernel_rfl) (by kernel_rfl) (by kernel_rfl) (fun _ _ _ h => h) (Or.inl ⟨by rfl, fun W h => by have c := h.cell; go_simp⟩) hHeld ?_
            try simp only [Act.put, List.getElem_toArray, List.getElem_cons_succ, List.getElem_cons_zero, List.setIfInBounds_toArray, List.set_cons_zero, List.set_cons_succ]
            refine wpAnyH_take (i := 8) (v := .int .i64 ((j : Int) + 1)) rfl (by kernel_rfl) (by kernel_rfl) (by kernel_rfl) (fun _ _ _ h => h) (Or.inl ⟨by rfl, fun W _ => by go_simp⟩) hHeld ?_
            try simp only [Act.put, List.getElem_toArray, List.getElem_cons_succ, List.getElem_cons_zero, List.setIfInBounds_toArray, List.set_cons_zero, List.set_cons_succ]
            refine wpAnyH_take (i := 9) (v := .pointer (some ⟨g, off + (j + 1) * 6, none⟩)) rfl (by kernel_rfl) (by kernel_rfl) (by kernel_rfl) (fun _ _ _ h => h) (Or.inl ⟨by rfl, fun W _ => by go_simp; intro hx; omega⟩) hHeld ?_
            try simp only [Act.put, List.getElem_toArray, List.getElem_cons_succ, List.getElem_cons_zero, List.setIfInBounds_toArray, List.set_cons_zero, List.set_cons_succ]
            refine wpAnyH_take (i := 10) rfl (by kernel_rfl) (by kernel_rfl) (by kernel_rfl) (fun _ _ _ h => h) (yieldsIf_load_mid (by rfl) 26 (.tmp 48) rfl g (off + (j + 1) * 6) rfl _ _ (fun w h => HR2.out w h.bel) Tryd.underlying26 rfl info28) hHeld ?_
            try simp only [Act.put, List.getElem_toArray, List.getElem_cons_succ, List.getElem_cons_zero, List.setIfInBounds_toArray, List.set_cons_zero, List.set_cons_succ]
            refine wpAnyH_ready (rs := [11]) (by kernel_rfl) (by simp) ?_
            refine AllReadyH.cons rfl (fun K hK => ?_) AllReadyH.nil
            rw [if_pos (by rfl)]
            go_simp
            refine (HC.out _ hHeld).mono ?_
            rintro e w3 ⟨rfl, hb3⟩
            refine hK.out _ _ (hHeld.step hb3) (fun hHeld => ?_)
            clear hK K hb3
            try simp only [Act.put, List.getElem_toArray, List.getElem_cons_succ, List.getElem_cons_zero, List.setIfInBounds_toArray, List.set_cons_zero, List.set_cons_succ]
            refine wpAnyH_ready (rs := [12]) (by kernel_rfl) (by simp) ?_
            refine AllReadyH.cons rfl (fun K hK => ?_) AllReadyH.nil
            go_simp
            refine hK.out _ _ hHeld (fun hHeld => ?_)
            clear hK K
            try simp only [Act.put, List.getElem_toArray, List.getElem_cons_succ, List.getElem_cons_zero, List.setIfInBounds_toArray, List.set_cons_zero, List.set_cons_succ]
            refine wpAnyH_done (by kernel_rfl) ?_ _
            have J := hHeld
            clear hHeld
            go_wp2_with (first
              | (go_at_call 5; (with_reducible refine (HB1.out _).mono ?_); rintro e w4 ⟨rfl, hb4⟩; replace J := J.step hb4; have S1 : Six (w4.alloc (.cells #[.int .i64 K, .bool B, .int .i64 0, .string ⟨#[]⟩, .string ⟨#[]⟩, .slice none 0 0] 26)) w4.heap.size K B 0 ⟨#[]⟩ ⟨#[]⟩ none 0 0 := six_new _ rfl; replace J := J.step (below1 w4 (.cells #[.int .i64 K, .bool B, .int .i64 0, .string ⟨#[]⟩, .string ⟨#[]⟩, .slice none 0 0] 26)))
              | ((with_reducible refine wpList_load6g (.tmp 5) w4.heap.size S1 ?_ ?_ ?_ ?_); rfl; rfl; rfl)
              | (go_at_call 6; (with_reducible refine (HB2.out _ (hG.below J.bel)).mono ?_); rintro e w5 ⟨rfl, hb5⟩; replace J := J.step hb5)
              | (go_at_call 7; (with_reducible refine (HN1.out _).mono ?_); rintro e w6 ⟨rfl, hb6⟩; replace J := J.step hb6)
              | (go_at_call 7; (with_reducible refine (HN2.out _).mono ?_); rintro e w7 ⟨rfl, hb7⟩; replace J := J.step hb7))
            go_roundg (gk - 1)
            case measure => omega
            case rel => exact ⟨j + 1, by omega, by omega, by go_num, J⟩
      · go_wp2_with (go_at_call 8; (with_reducible refine (wakesAt _).mono ?_); rintro e w' ⟨rfl, hb⟩; replace I := I.step hb)
        go_ret
        exact ⟨rfl, I.bel⟩
    · go_wp2_with (go_at_call 8; (with_reducible refine (wakesAt _).mono ?_); rintro e w' ⟨rfl, hb⟩; replace I := I.step hb)
      go_ret
      exact ⟨rfl, I.bel⟩
theorem valuesNone (p : Option Addr) (cap : Nat) (ln : Value) (w : World) :
    Calls Tryd.prog 3 #[.agg #[.slice p 0 cap, ln]] w fun e w' => e = .returned (.bool true) ∧ Below w.heap.size w w' := by
  have I := VInv.start w (.slice p 0 cap) ln
  have hp := I.cell
  go_enter Tryd.func3, Tryd.ntmps3
  go_wp2_with fail
  go_loopg [3] 0 (fun gg s3 wr => s3 = .int .i64 1 ∧ gg = 0 ∧ wr = w.alloc (.cells #[.slice p 0 cap, ln] 24))
  case atStart => exact ⟨rfl, rfl, rfl⟩
  case round =>
    obtain ⟨rfl, _, rfl⟩ := hrel
    go_wp2_with (go_at_call 8; (with_reducible refine (wakesAt _).mono ?_); rintro e w1 ⟨rfl, hb1⟩; replace I := I.step hb1)
    go_ret
    exact ⟨rfl, I.bel⟩
theorem valuesAny (l : List Val) (L ln : Value) (w : World) (hG : Gd w) (hT : Tab w) (hl : Held w L l) (hn : l.length ≤ 2097152) :
    Calls Tryd.prog 3 #[.agg #[L, ln]] w fun e w' => e = .returned (.bool true) ∧ Below w.heap.size w w' := by
  obtain ⟨p, cap, rfl⟩ := held_slice hl
  cases l with
  | nil => exact valuesNone p cap ln w
  | cons v r =>
    obtain ⟨g, off, rfl, hh⟩ := hl.form
    exact valuesSome (v :: r) g off cap ln w hG hT hh hn
end Go.Proofs.YtdnijfkiebpnpaaDoor
