/- The law of numbers, walked: where the list is nil; a row's list of numbers, each in its range. -/
import Derived.Test.YtffbcccbhofbpaaDoorI6
import Derived.Test.YtffbcccbhofbpaaDoorG0
namespace Go.Proofs.YtffbcccbhofbpaaDoor
open Go.ChangeShapes Go.WideShapes Go.ChangeAt Go.RowKit

set_option maxRecDepth 20000 in
set_option maxHeartbeats 6400000 in
theorem numbersWalk (w : World) (L : Value) (q0 : Option Addr) (cap2 : Nat) :
    Calls Tryd.prog 4 #[.agg #[L, .slice q0 0 cap2]] w fun e w' => e = .returned (.bool true) ∧ Below w.heap.size w w' := by
  obtain ⟨W0, hW0⟩ : ∃ W0, W0 = w.alloc (.cells #[L, .slice q0 0 cap2] 25) := ⟨_, rfl⟩
  have hb0 : Below w.heap.size w W0 := by rw [hW0]; exact below1 _ _
  have hx : W0.heap[w.heap.size]? = some (.cells #[L, .slice q0 0 cap2] 25) := by rw [hW0]; exact heap_new _ _ rfl
  have hwl : w.heap.size < W0.heap.size := lt_of_heap hx
  have H0 := Lib.hid hW0
  clear hW0
  go_enter Tryd.func4, Tryd.ntmps4
  go_wp2_with (first
    | (go_at_call 14; rw [← H0.out]; (with_reducible refine (newAtI _).mono ?_); rintro e w1 ⟨ga, F1, rfl, hb1, d1, m1⟩)
    | (go_at_call 15; (with_reducible refine (newAtP _).mono ?_); rintro e w2 ⟨gb, F2, rfl, hb2, d2, m2⟩)
    | (go_at_call 7; (with_reducible refine (newAt _).mono ?_); rintro e w3 ⟨gc, F3, rfl, hb3, d3, m3⟩))
  have s1 := hb1.size
  have s2 := hb2.size
  have K1 : NI W0 w3 ga gb gc [] [] [] F1 F2 F3 :=
    ⟨(d1.below hb2).below hb3, d2.below hb3, d3, fun i p q => by have := d1.lt p; have := m2 i q; omega, fun i p q => by have := d1.lt p; have := m3 i q; omega, fun i p q => by have := d2.lt p; have := m3 i q; omega,
      m1, fun i q => by have := m2 i q; omega, fun i q => by have := m3 i q; omega, below_any (below_any hb1 hb2 hb1.size) hb3 (Nat.le_trans s1 s2)⟩
  clear d1 d2 d3 m1 m2 m3 hb1 hb2 hb3 s1 s2
  go_loopw [6] (fun s6 wr => ∃ (k : Nat) (A : List Int) (Fa Fb Fc : Nat → Prop), s6 = .int .i64 k ∧ k ≤ 200 ∧ A.length ≤ k ∧ NI W0 wr ga gb gc A A A Fa Fb Fc) (fun i _ => 200 - (intOf i).toNat)
  case atStart => exact ⟨0, [], F1, F2, F3, rfl, by omega, by simp, K1⟩
  case round =>
    clear K1
    obtain ⟨k, A, Fa, Fb, Fc, rfl, hk, hA, K⟩ := hrel
    have x1 : wr.cell? ⟨w.heap.size, 1, none⟩ = some (.slice q0 0 cap2) := cell_of ((K.bel.block _ hwl).trans hx) 1 rfl
    have hia := LenAtI wr ga A Fa K.a
    have hib := LenAtP wr gb A Fb K.b
    have hic := LenAt wr gc _ Fc K.c
    rw [List.length_map] at hic
    go_wp2_with (first
      | (go_at_call 21; (with_reducible refine hia.mono ?_); rintro e w2 ⟨rfl, rfl⟩)
      | (go_at_call 22; (with_reducible refine hib.mono ?_); rintro e w2 ⟨rfl, rfl⟩)
      | (go_at_call 11; (with_reducible refine hic.mono ?_); rintro e w2 ⟨rfl, rfl⟩)
      | (go_at_call 13; (with_reducible refine (wakesAt _).mono ?_); rintro e w9 ⟨rfl, hb9⟩))
    go_ret
    exact ⟨rfl, below_any (below_any hb0 K.bel hb0.size) hb9 (Nat.le_trans hb0.size K.bel.size)⟩
def IntsW (w : World) (L : Value) : Prop := (∃ p cap, L = .slice p 0 cap) ∨ ∃ b off n cap Z, L = .slice (some ⟨b, off, none⟩) n cap ∧ Nums w b off n Z ∧ (∀ i, i < n → (Lit.int .i64 (Z i)).wf = true) ∧ n ≤ maxLen
theorem intsW_of_trod {H : Type} {enc : TypeId × Value → H} {W : World} {n : Nat} {L : Value} {y : DataW H × List MemPlace} (h : DataW.trod enc Tryd.prog W 0 (fun _ => true) true n 23 [L] = some y) : IntsW W L := by
  rcases open_ints Tryd.underlying23 Tryd.underlying3 (by kernel_rfl) h with ⟨e, _⟩ | ⟨a, len, cap, ss, e, _, hl, hm, hn, _, hc, hwf⟩
  · obtain rfl : L = .slice none 0 0 := by simpa using e
    exact .inl ⟨_, _, rfl⟩
  · obtain rfl : L = .slice (some a) len cap := by simpa using e
    have hn' : ss.length = cap := by simpa using hn
    by_cases h1 : len = 0
    · subst h1; exact .inl ⟨_, _, rfl⟩
    · have hsp : a.spot = none := plain_addr ⟨_, hc 0 (by omega), .inr ⟨_, _, rfl⟩⟩
      obtain ⟨b, off, spot⟩ := a
      simp only at hsp
      subst hsp
      refine .inr ⟨b, off, len, cap, fun i => ss.getD i 0, rfl, ?_, fun i hi => ?_, by omega⟩
      rotate_left
      · show (Lit.int .i64 (ss.getD i 0)).wf = true
        rw [List.getD_eq_getElem?_getD, List.getElem?_eq_getElem (by omega)]
        exact hwf _ (List.getElem_mem _)
      intro i hi
      have := hc i (by omega)
      rw [add_plain] at this
      exact this
end Go.Proofs.YtffbcccbhofbpaaDoor
