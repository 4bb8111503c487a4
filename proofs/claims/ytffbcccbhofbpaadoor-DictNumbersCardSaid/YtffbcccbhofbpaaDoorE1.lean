/- A dictionary of values: a new one; the number of the first value, 3. -/
import Derived.Test.YtffbcccbhofbpaaDoorE0
namespace Go.Proofs.YtffbcccbhofbpaaDoor
open Go.RowKit

set_option maxRecDepth 20000 in
set_option maxHeartbeats 3200000 in
theorem newValues (w : World) : Calls Tryd.prog 48 #[] w fun e w' => ∃ g F, e = .returned (.pointer (some ⟨g, 0, none⟩)) ∧ Below w.heap.size w w' ∧ Dic w' g [] F ∧ ∀ i, F i → w.heap.size ≤ i := by
  go_enter Tryd.func48, Tryd.ntmps48
  go_wp2_with (go_at_call 43; (with_reducible refine (newNumAt _).mono ?_); rintro e w1 ⟨rfl, hb, hm⟩)
  go_ret
  have z1 := lt_of_heap hm
  exact ⟨_, _, rfl, hb.alloc hb.size _, dic_new (by decide) (heap_new _ _ rfl) (heap_old _ hm), by rintro i (rfl | rfl) <;> omega⟩
set_option maxRecDepth 20000 in
set_option maxHeartbeats 3200000 in
theorem valuesLen (w : World) (g : Nat) (l : List ByteArray) (F : Nat → Prop) (h : Dic w g l F) :
    Calls Tryd.prog 50 #[.pointer (some ⟨g, 0, none⟩)] w fun e w' => e = .returned (.int .i64 l.length) ∧ w = w' := by
  go_enter Tryd.func50, Tryd.ntmps50
  go_wp2_with (go_at_call 46; (with_reducible refine (countAt w g l F h).mono ?_); rintro e w1 ⟨rfl, rfl⟩)
  go_ret
  exact ⟨rfl, rfl⟩
def l3 : List UInt8 := [2, 0, 0, 0, 0, 0, 0, 0, 3]
def b3 : ByteArray := ⟨l3.toArray⟩
theorem enc3_get (j : Nat) (hj : j < l3.length) : (enc3 8)[j]? = some (.int .u8 (l3[j].toNat : Int)) := by
  match j, hj with
  | 0, _ => rfl
  | 1, _ => rfl
  | 2, _ => rfl
  | 3, _ => rfl
  | 4, _ => rfl
  | 5, _ => rfl
  | 6, _ => rfl
  | 7, _ => rfl
  | 8, _ => rfl
set_option maxRecDepth 20000 in
set_option maxHeartbeats 3200000 in
theorem valuesID3 (w : World) (g : Nat) (F : Nat → Prop) (h : Dic w g [] F) :
    Calls Tryd.prog 49 #[.pointer (some ⟨g, 0, none⟩), .agg #[.int .i64 2, .bool false, .int .i64 3, .string ⟨#[]⟩, .string ⟨#[]⟩, .slice none 0 0]] w fun e w' => ∃ F', e = .returned (.tuple #[.int .i64 0, .int .i64 0]) ∧ Dic w' g [b3] F' ∧ Turn F F' w w' := by
  obtain ⟨W0, hW0⟩ : ∃ W0, W0 = w.alloc (.cells #[.int .i64 2, .bool false, .int .i64 3, .string ⟨#[]⟩, .string ⟨#[]⟩, .slice none 0 0] 89) := ⟨_, rfl⟩
  have S : Six W0 w.heap.size 2 false 3 ⟨#[]⟩ ⟨#[]⟩ none 0 0 := by rw [hW0]; exact six_new _ rfl
  have b0 : Below w.heap.size w W0 := by rw [hW0]; exact below1 _ _
  have H0 := Lib.hid hW0
  clear hW0
  go_enter Tryd.func49, Tryd.ntmps49
  go_wp2_with (first
    | ((try rw [← H0.out]); (with_reducible refine wpList_load6 (.tmp 3) w.heap.size S ?_ ?_ ?_ ?_); rfl; rfl; rfl)
    | (go_at_call 68; (with_reducible refine (Encode3 _).mono ?_); rintro e w2 ⟨v2, rfl, hb2, hr2⟩; have b2 := below_any b0 hb2 b0.size))
  obtain ⟨r, cap, rfl, hcap, _⟩ := row_cell (e := 5) (v := v2) (n := 9) (xs := enc3 8) (w := w2) ⟨hr2.1, hr2.2.imp id fun ⟨g, cap, cur, e, _, q⟩ => ⟨g, cap, cur, e, Nat.zero_le _, q⟩⟩ 0 (by omega)
  have hcs : ∀ j (hj : j < 9), w2.cell? ⟨r, j, none⟩ = (enc3 8)[j]? := fun j hj => by
    obtain ⟨r', cap', e, _, hc⟩ := row_cell (e := 5) (n := 9) (xs := enc3 8) (w := w2) ⟨hr2.1, hr2.2.imp id fun ⟨g, cap, cur, e, _, q⟩ => ⟨g, cap, cur, e, Nat.zero_le _, q⟩⟩ j hj
    cases e; exact hc
  have hconv : (convert 103 9 (.slice (some ⟨r, 0, none⟩) 9 cap)).run Tryd.prog w2.drew = .ok (.string b3) w2.drew :=
    run_convert_bytes_back w2.drew 103 9 5 ⟨r, 0, none⟩ cap l3 Tryd.underlying103 Tryd.underlying5 Tryd.underlying9 (fun i hi => by
      have h := hcs i hi
      rw [enc3_get i hi] at h
      have e : (⟨r, 0, none⟩ : Addr).add i = ⟨r, i, none⟩ := by
        unfold Addr.add; split
        · rename_i e; rw [e]
        · simp
      rw [e]; exact h)
  have hd2 : Dic w2.drew g [] F := h.below ⟨b2.os, b2.tape, b2.output, b2.size, b2.block⟩
  have hnum := numberNo w2.drew g [] F hd2 b3 (by simp) (by decide) (by decide) (by simp)
  have ch2 : Ch F w w2 := Ch.of_below b2
  clear hcs hr2 hb2 h hd2
  go_region_with (go_at_call 45; refine hnum.mono ?_; rintro e w3 ⟨F', rfl, hd3, ht3⟩)
  go_wp2_with fail
  go_ret2
  exact ⟨F', rfl, hd3, ⟨ch2.trans (G := F) ⟨ht3.ch.os, ht3.ch.tape, ht3.ch.output, ht3.ch.size, ht3.ch.block⟩ (fun _ _ q => q), fun i q => (ht3.foot i q).imp id (fun e => Nat.le_trans b2.size e)⟩⟩
end Go.Proofs.YtffbcccbhofbpaaDoor
