/- Lists of cells and of numbers, as read. -/
import Derived.Test.YtffbcccbhofbpaaDoorG0
import Derived.Test.YtffbcccbhofbpaaDoorH0
import Derived.Deep.SlicePairs
namespace Go.Proofs.YtffbcccbhofbpaaDoor
open Go.ChangeShapes Go.WideShapes Go.ChangeAt Go.RowKit

theorem cells_of_trod {H : Type} {enc : TypeId × Value → H} {W : World} {n : Nat} {L : Value} {y : DataW H × List MemPlace} (h : DataW.trod enc Tryd.prog W 0 (fun _ => true) true n 48 [L] = some y) :
    ∃ p len cap C, L = .slice p len cap ∧ CellL W p len C ∧ len ≤ maxLen := by
  rcases Deep.open_slice_pairs Tryd.underlying48 Tryd.underlying54 (by kernel_rfl) rfl rfl (by kernel_rfl) (by kernel_rfl) h with ⟨e, _⟩ | ⟨a, len, cap, m, n, V0, V1, D0, D1, P0, P1, e, _, hl, hm, hmm, _, hc⟩
  · obtain rfl : L = .slice none 0 0 := by simpa using e
    exact ⟨none, 0, 0, fun _ => (0, false), rfl, fun k hk => by omega, by unfold maxLen; omega⟩
  · obtain rfl : L = .slice (some a) len cap := by simpa using e
    have hmc : m = cap := by simpa using hmm
    have each : ∀ i, i < len → ∃ z b, W.cell? (a.add (i * 2)) = some (.int .i64 z) ∧ W.cell? (a.add (i * 2 + 1)) = some (.bool b) := fun i hi => by
      obtain ⟨h0, h1, t0, t1⟩ := hc i (by omega)
      obtain ⟨z, ez, _, _⟩ := DataW.trod_int Tryd.underlying2 t0
      obtain ⟨b, eb, _⟩ := DataW.trod_bool Tryd.underlying4 t1
      have e0 : V0 i = .int .i64 z := by simpa using ez
      have e1 : V1 i = .bool b := by simpa using eb
      exact ⟨z, b, by rw [h0, e0], by rw [h1, e1]⟩
    by_cases h0 : len = 0
    · subst h0
      exact ⟨_, 0, cap, fun _ => (0, false), rfl, fun k hk => by omega, by unfold maxLen; omega⟩
    · have hsp : a.spot = none := by
        obtain ⟨z, b, q, _⟩ := each 0 (by omega)
        exact plain_addr ⟨_, by simpa using q, .inr ⟨_, _, rfl⟩⟩
      obtain ⟨b, off, spot⟩ := a
      simp only at hsp
      subst hsp
      have hex : ∃ C : Nat → Int × Bool, ∀ i, i < len → W.cell? ((Addr.mk b off none).add (i * 2)) = some (.int .i64 (C i).1) ∧ W.cell? ((Addr.mk b off none).add (i * 2 + 1)) = some (.bool (C i).2) := by
        have hh : ∀ i, ∃ q : Int × Bool, i < len → W.cell? ((Addr.mk b off none).add (i * 2)) = some (.int .i64 q.1) ∧ W.cell? ((Addr.mk b off none).add (i * 2 + 1)) = some (.bool q.2) := fun i => by
          by_cases hi : i < len
          · obtain ⟨z, c, h1, h2⟩ := each i hi
            exact ⟨(z, c), fun _ => ⟨h1, h2⟩⟩
          · exact ⟨(0, false), fun q => absurd q hi⟩
        exact ⟨fun i => (hh i).choose, fun i => (hh i).choose_spec⟩
      obtain ⟨C, hC⟩ := hex
      refine ⟨_, len, cap, C, rfl, fun k hk => ⟨b, off, rfl, ?_, ?_⟩, by omega⟩
      · rw [← add_plain]; exact (hC k hk).1
      · rw [Nat.add_assoc, ← add_plain]; exact (hC k hk).2
theorem intl_of_trod {H : Type} {enc : TypeId × Value → H} {W : World} {n : Nat} {L : Value} {y : DataW H × List MemPlace} (h : DataW.trod enc Tryd.prog W 0 (fun _ => true) true n 23 [L] = some y)
    (hz : ∀ m ∈ y.1.weights Tryd.prog 23, m ≤ reachBytes) : ∃ p len cap Z, L = .slice p len cap ∧ IntL W p len Z ∧ len ≤ 17592186044000 := by
  rcases open_ints Tryd.underlying23 Tryd.underlying3 (by kernel_rfl) h with ⟨e, _⟩ | ⟨a, len, cap, ss, e, _, hl, hm, hn, hx, hc, _⟩
  · obtain rfl : L = .slice none 0 0 := by simpa using e
    exact ⟨none, 0, 0, fun _ => 0, rfl, fun k hk => by omega, by omega⟩
  · obtain rfl : L = .slice (some a) len cap := by simpa using e
    have hn' : ss.length = cap := by simpa using hn
    by_cases h1 : len = 0
    · subst h1; exact ⟨_, 0, cap, fun _ => 0, rfl, fun k hk => by omega, by omega⟩
    · have hsp : a.spot = none := plain_addr ⟨_, hc 0 (by omega), .inr ⟨_, _, rfl⟩⟩
      obtain ⟨b, off, spot⟩ := a
      simp only at hsp
      subst hsp
      have hsize : cap * Tryd.prog.bytesOf 3 ≤ reachBytes := by
        apply hz
        rw [hx]
        simp only [DataW.weights, Tryd.underlying23]
        refine List.mem_cons.2 (.inl ?_)
        have e2 : (lits (H := H) .i64 (ss.take len)).length + (lits (H := H) .i64 (ss.drop len)).length = cap := by
          simp only [lits, List.length_map, List.length_take, List.length_drop]; omega
        rw [e2]
      have hb : Tryd.prog.bytesOf 3 = 8 := by kernel_rfl
      rw [hb] at hsize
      have hr : reachBytes = 140737488351232 := by decide
      refine ⟨_, len, cap, fun i => ss.getD i 0, rfl, fun k hk => ⟨b, off, rfl, ?_⟩, by omega⟩
      have := hc k (by omega)
      rw [add_plain] at this
      exact this
end Go.Proofs.YtffbcccbhofbpaaDoor
