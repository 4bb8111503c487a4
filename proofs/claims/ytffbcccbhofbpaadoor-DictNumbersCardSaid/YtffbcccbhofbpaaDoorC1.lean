/- Marks in words, in memory: counted, asked for one, one more laid. -/
import Derived.Test.YtffbcccbhofbpaaDoorC0
import Derived.RegionTactic
import Derived.BigRegion
namespace Go.Proofs.YtffbcccbhofbpaaDoor
open Go.RowKit

/-- The slice v holds the marks bs. -/
def Mk (w : World) (v : Value) (bs : List Bool) : Prop := w.ownsRow 0 128 1 v (Pop.nw bs) ((Pop.words bs).map fun (n : Nat) => Value.int .u64 (n : Int))
theorem Mk.get {w : World} {v : Value} {bs : List Bool} (h : Mk w v bs) (j : Nat) (hj : j < Pop.nw bs) : ∃ r cap, v = .slice (some ⟨r, 0, none⟩) (Pop.nw bs) cap ∧ Pop.nw bs ≤ cap ∧ w.cell? ⟨r, j, none⟩ = some (.int .u64 (Pop.dig bs j : Int)) := by
  obtain ⟨r, cap, e, hc, hh⟩ := row_cell h j hj
  exact ⟨r, cap, e, hc, by rw [hh, List.getElem?_map, Pop.words_get _ _ hj]; rfl⟩
set_option maxRecDepth 20000 in
set_option maxHeartbeats 1600000 in
theorem countM (w : World) (g T : Nat) (c v : Value) (bs : List Bool) (h1 : w.heap[g]? = some (.cells #[c, v] T)) (h : Mk w v bs) (hn : bs.length ≤ 1152921504606846976) :
    Calls Tryd.prog 61 #[.pointer (some ⟨g, 1, none⟩)] w fun e w' => e = .returned (.int .i64 (bs.filter id).length) ∧ w = w' := by
  have hfin := Pop.pop_all bs
  have hnw : Pop.nw bs ≤ 18014398509481985 := by unfold Pop.nw; omega
  by_cases h0 : Pop.nw bs = 0
  · have hb : (bs.filter id).length = 0 := by rw [← hfin, h0]; rfl
    obtain ⟨p, cap, rfl⟩ := row_slice h
    rw [hb]
    rw [h0] at h1
    have c1 : w.cell? ⟨g, 1, none⟩ = some (.slice p 0 cap) := cell_of h1 1 rfl
    clear hfin h
    go_enter Tryd.func61, Tryd.ntmps61
    go_wp2_with fail
    go_loop [3, 11] (fun s i => s = .int .i64 0 ∧ i = .int .i64 0) (fun _ _ => 0)
    case atStart => exact ⟨rfl, rfl⟩
    case round =>
      obtain ⟨rfl, rfl⟩ := hrel
      go_wp2_with fail
      go_ret
      exact ⟨rfl, rfl⟩
  · obtain ⟨r, cap, rfl, hcap, _⟩ := h.get 0 (by omega)
    have hget : ∀ k, k < Pop.nw bs → w.cell? ⟨r, k, none⟩ = some (.int .u64 (Pop.dig bs k : Int)) := fun k hk => by
      obtain ⟨r', cap', e, _, hh⟩ := h.get k hk
      cases e; exact hh
    have c1 : w.cell? ⟨g, 1, none⟩ = some (.slice (some ⟨r, 0, none⟩) (Pop.nw bs) cap) := cell_of h1 1 rfl
    have HF := Lib.hid hfin
    clear h hfin
    generalize hN : Pop.nw bs = N at *
    have HN := Lib.hid hN
    clear hN
    go_enter Tryd.func61, Tryd.ntmps61
    go_wp2_with fail
    go_loop [3, 11] (fun s i => ∃ k : Nat, k ≤ N ∧ i = .int .i64 k ∧ s = .int .i64 (Pop.pop (64 * k) (Pop.num bs))) (fun _ i => N - (intOf i).toNat)
    case atStart => exact ⟨0, Nat.zero_le _, rfl, rfl⟩
    case round =>
      obtain ⟨k, hk, rfl, rfl⟩ := hrel
      have hp := Pop.pop_le (64 * k) (Pop.num bs)
      by_cases hlt : k < N
      · have hc := hget k hlt
        have hp2 := Pop.pop_le 64 (Pop.dig bs k)
        have HS := Lib.hid (Pop.pop_words bs k)
        have hd : Pop.dig bs k < 18446744073709551616 := Pop.dig_lt bs k
        clear hget
        go_wp2_with (go_at_call 74; (with_reducible refine (onesAt (Pop.dig bs k) _ hd).mono ?_); rintro e w1 ⟨rfl, rfl⟩)
        go_round
        case rel => exact ⟨k + 1, by omega, by go_num, by rw [HS.out]; go_num⟩
        case measure => simp [intOf]; omega
      · have hkN : k = N := by omega
        clear hget
        have HE : Hid ((Pop.pop (64 * k) (Pop.num bs) : Int) = (bs.filter id).length) := Lib.hid (by rw [hkN, HF.out])
        clear hkN
        go_wp2_with fail
        go_ret
        exact ⟨by rw [← HE.out]; rfl, rfl⟩
set_option maxRecDepth 20000 in
set_option maxHeartbeats 1600000 in
theorem atM (w : World) (g T : Nat) (c v : Value) (bs : List Bool) (h1 : w.heap[g]? = some (.cells #[c, v] T)) (h : Mk w v bs) (hn : bs.length ≤ 1152921504606846976) (i : Nat) (b : Bool) (hi : bs[i]? = some b) :
    Calls Tryd.prog 63 #[.pointer (some ⟨g, 1, none⟩), .int .i64 i] w fun e w' => e = .returned (.bool b) ∧ w = w' := by
  obtain ⟨hlt, hb⟩ := List.getElem?_eq_some_iff.1 hi
  have hj : i / 64 < Pop.nw bs := by unfold Pop.nw; omega
  obtain ⟨r, cap, rfl, hcap, hc⟩ := h.get (i / 64) hj
  have hv : (Pop.dig bs (i / 64) / 2 ^ (i % 64) % 2 == 1) = b := by
    rw [Pop.dig_bit bs i hlt, hb]; cases b <;> rfl
  rw [← hv]
  exact mAt w g T c r cap (Pop.nw bs) i _ h1 hj (by unfold Pop.nw maxLen; omega) hc (Pop.dig_lt bs _) (by omega)
end Go.Proofs.YtffbcccbhofbpaaDoor
