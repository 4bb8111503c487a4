/- text: a number as a text. -/
import Derived.Test.YtabgilmehehbjaaDoorB1m
import Derived.Deep.WholeRow
import Derived.Laws.IdiomStrings
namespace Go.Proofs.YtabgilmehehbjaaDoor
open Go.RowKit

theorem zero91 : (Tryd.prog.info? 91).map (fun i => (i.zero, i.size)) = some (some (.agg (Array.replicate 144 (.int .u8 0))), 144) := by kernel_rfl

theorem digsOf_get (N lo n j : Nat) (h : j < n) : (digsOf N lo n)[j]? = some (digAt N (lo + (n - 1 - j))) := by
  induction n generalizing j with
  | zero => omega
  | succ n ih =>
    cases j with
    | zero => simp [digsOf]
    | succ j => simp only [digsOf, List.getElem?_cons_succ]; rw [ih j (by omega)]; congr 3; omega

/-- The digits' cells, the highest digit first. -/
structure IsDigs (d : Array Value) (k N : Nat) : Prop where
  size : d.size = 144
  at_ : ∀ j, 144 - k ≤ j → j < 144 → d[j]? = some (.int .u8 ((digAt N (143 - j)).toNat : Int))

theorem IsDigs.step {d : Array Value} {k N : Nat} (h : IsDigs d k N) (hk : k < 144) : IsDigs (d.setIfInBounds (143 - k) (.int .u8 ((digAt N k).toNat : Int))) (k + 1) N := by
  refine ⟨by simp [h.size], fun j h1 h2 => ?_⟩
  by_cases e : j = 143 - k
  · subst e
    rw [Array.getElem?_setIfInBounds_self_of_lt (by rw [h.size]; omega)]
    rw [show 143 - (143 - k) = k by omega]
  · rw [Array.getElem?_setIfInBounds_ne (by omega)]
    exact h.at_ j (by omega) h2

theorem digitVal (c : Array Value) (n : Bool) (f : Nat → Nat) (k : Nat) (w : World) (hc : IsNum c n f) (hp : k < 144) (v : Int) (hv : Hid (v = (digAt (wval f) k).toNat)) :
    Calls Tryd.prog 78 #[.agg c, .int .i64 k] w fun e w' => e = .returned (.int .u8 v) ∧ Below w.heap.size w w' := by
  have := digitAt c n f k w hc (by omega) (by omega)
  refine this.mono ?_
  rintro e w' ⟨rfl, hb⟩
  refine ⟨?_, hb⟩
  rw [hv.out, digAt_toNat]
  unfold ten
  rw [Int.toNat_natCast, digit_val f hc.lt k hp]
  rfl

set_option maxHeartbeats 1600000 in
set_option maxRecDepth 20000 in
theorem textAt (c : Array Value) (n : Bool) (f : Nat → Nat) (w : World) (hc : IsNum c n f) :
    Calls Tryd.prog 57 #[.agg c] w fun e w' => e = .returned (said (wrN n (wval f))) ∧ Below w.heap.size w w' := by
  have hz := (zero_of_info zero91).1
  obtain ⟨t, e, hv0⟩ := said_form (wrN n (wval f))
  rw [hv0]
  have HV0 := Lib.hid hv0
  clear hv0
  have l1 : Lies ((w.alloc (.cells c 59)).alloc (.cells (Array.replicate 144 (.int .u8 0)) 91)) w.heap.size c n f := (lies_new w hc rfl).alloc _
  have h1 : ((w.alloc (.cells c 59)).alloc (.cells (Array.replicate 144 (.int .u8 0)) 91)).heap[w.heap.size + 1]? = some (.cells (Array.replicate 144 (.int .u8 0)) 91) := heap_new _ _ (by simp)
  have hb0 : Below w.heap.size w ((w.alloc (.cells c 59)).alloc (.cells (Array.replicate 144 (.int .u8 0)) 91)) := ((Below.refl _ _).alloc (Nat.le_refl _) _).alloc (by simp) _
  have H1 := Lib.hid h1
  clear h1
  go_enter Tryd.func57, Tryd.ntmps57
  go_wp2_with fail
  clear hz
  go_loopw [7] (fun i wr => ∃ (k : Nat) (d : Array Value), k ≤ 144 ∧ i = .int .i64 k ∧ Lies wr w.heap.size c n f ∧ wr.heap[w.heap.size + 1]? = some (.cells d 91) ∧ IsDigs d k (wval f) ∧ Below w.heap.size w wr) (fun i _ => 144 - (intOf i).toNat)
  case atStart => exact ⟨0, _, Nat.zero_le _, rfl, l1, H1.out, ⟨by simp, fun j a b => by omega⟩, hb0⟩
  case round =>
    clear l1 H1 hb0
    obtain ⟨k, d, hk, rfl, hl, hd, hds, hbel⟩ := hrel
    have HD := Lib.hid hd
    clear hd
    by_cases hlt : k < 144
    · obtain ⟨v, hv⟩ : ∃ v : Int, v = (digAt (wval f) k).toNat := ⟨_, rfl⟩
      have HV := Lib.hid hv
      clear hv
      have hsz := lt_of_heap HD.out
      obtain ⟨j, hj⟩ : ∃ j : Nat, (143 : Int) - k = j := ⟨143 - k, by omega⟩
      have hjk : j = 143 - k := by omega
      have hj1 : (j : Int) < 144 := by omega
      have HJ := Lib.hid hjk
      have hcc : ∃ u, wr.cell? ⟨w.heap.size + 1, j, none⟩ = some u := ⟨_, cell_of HD.out _ (Array.getElem?_eq_getElem (by rw [hds.size, hjk]; omega))⟩
      obtain ⟨u, hu⟩ := hcc
      clear hjk
      go_wp2_with (first
        | ((with_reducible refine wpList_loadN (.tmp 1) w.heap.size (by assumption) ?_ ?_ ?_ ?_); rfl; rfl; rfl)
        | (go_at_call 78; (with_reducible refine (digitVal c n f k _ hc hlt v HV).mono ?_); rintro e w1 ⟨rfl, hb1⟩; have hl1 := hl.below hb1; have hbel1 := below_any hbel hb1 (Nat.le_of_lt hl.lt); have hd1 := Lib.hid ((hb1.block (w.heap.size + 1) hsz).trans HD.out); have hu1 := (hb1.cell (p := ⟨w.heap.size + 1, j, none⟩) hsz).trans hu; have hf1 : w1.frozen? ⟨w.heap.size + 1, j, none⟩ = false := free_of hd1.out _))
      go_roundw
      case rel =>
        exact ⟨k + 1, _, by omega, by go_num, hl1.only ((Only.refl _ _).setCell _ _ _) (by omega), heap_set hd1.out _ _, by rw [HV.out, HJ.out]; exact hds.step hlt, below_only hbel1 ((Only.refl _ _).setCell _ _ _) (by omega) (Nat.le_of_lt hl1.lt)⟩
      case measure => simp [intOf]; omega
    · obtain rfl : k = 144 := by omega
      obtain ⟨N, hN⟩ : ∃ N, N = wval f := ⟨_, rfl⟩
      have hv := HV0.out
      rw [← hN] at hds hv
      obtain ⟨X, hX⟩ : ∃ X, X = bs (digsOf N 54 90) := ⟨_, rfl⟩
      obtain ⟨Y, hY⟩ : ∃ Y, Y = bs (digsOf N 0 54) := ⟨_, rfl⟩
      have hXs : X.size ≤ maxLen := by rw [hX]; unfold maxLen; simp [ByteArray.size, digsOf_len]
      have hYs : Y.size ≤ maxLen := by rw [hY]; unfold maxLen; simp [ByteArray.size, digsOf_len]
      have c1 : ∀ nq, (convert 55 9 (.slice (some ⟨w.heap.size + 1, 0, none⟩) 90 144)).run Tryd.prog (wr.drewN nq) = .ok (.string X) (wr.drewN nq) := by
        intro nq
        have := run_convert_bytes_back (P := Tryd.prog) (wr.drewN nq) 55 9 5 ⟨w.heap.size + 1, 0, none⟩ 144 (digsOf N 54 90) Tryd.underlying55 Tryd.underlying5 Tryd.underlying9 (fun j hj => by
          rw [digsOf_len] at hj
          rw [Addr.add_mid, Nat.zero_add]
          have h1 := hds.at_ j (by omega) (by omega)
          have h2 := digsOf_get N 54 90 j hj
          rw [List.getElem?_eq_getElem (by rw [digsOf_len]; exact hj)] at h2
          rw [Option.some.inj h2, show 54 + (90 - 1 - j) = 143 - j by omega]
          exact cell_of (show (wr.drewN nq).heap[w.heap.size + 1]? = some (.cells d 91) from HD.out) _ h1)
        rw [digsOf_len] at this
        rw [hX]
        exact this
      have c2 : ∀ nq, (convert 55 9 (.slice (some ⟨w.heap.size + 1, 90, none⟩) 54 54)).run Tryd.prog (wr.drewN nq) = .ok (.string Y) (wr.drewN nq) := by
        intro nq
        have := run_convert_bytes_back (P := Tryd.prog) (wr.drewN nq) 55 9 5 ⟨w.heap.size + 1, 90, none⟩ 54 (digsOf N 0 54) Tryd.underlying55 Tryd.underlying5 Tryd.underlying9 (fun j hj => by
          rw [digsOf_len] at hj
          rw [Addr.add_mid]
          have h1 := hds.at_ (90 + j) (by omega) (by omega)
          have h2 := digsOf_get N 0 54 j hj
          rw [List.getElem?_eq_getElem (by rw [digsOf_len]; exact hj)] at h2
          rw [Option.some.inj h2, show 0 + (54 - 1 - j) = 143 - (90 + j) by omega]
          exact cell_of (show (wr.drewN nq).heap[w.heap.size + 1]? = some (.cells d 91) from HD.out) _ h1)
        rw [digsOf_len] at this
        rw [hY]
        exact this
      have hw : ∀ W, Calls Tryd.prog 36 #[.bool n, .string X, .string Y] W fun r w' => r = .returned (.tuple #[.string t, .int .i64 e]) ∧ w' = W := fun W => by
        have h1 := writeAt n X Y W hXs hYs
        have h2 : Go.Proofs.YtabgilmehehbjaaDoor.wr n X.data.toList Y.data.toList = wrN n N := by rw [hX, hY]; rfl
        rw [h2, hv] at h1
        exact h1.mono fun _ _ ⟨a, b⟩ => ⟨a, b.symm⟩
      have HW := Lib.hid hw
      have hneg := hl.cell0
      clear hw hv hN hX hY
      go_wp2_with fail
      go_quiet ((go_at_call 36; exact Calls.quiet_of_same (HW.out _)))
      go_wp2
      go_ret2
      exact ⟨rfl, below_drewN hbel _⟩
end Go.Proofs.YtabgilmehehbjaaDoor
