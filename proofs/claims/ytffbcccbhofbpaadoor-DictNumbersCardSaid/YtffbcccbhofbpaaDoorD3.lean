/- A dictionary of texts: a key by its number; a number for a key. -/
import Derived.Test.YtffbcccbhofbpaaDoorD2
import Derived.BigGuardPart
namespace Go.Proofs.YtffbcccbhofbpaaDoor
open Go.RowKit

set_option maxRecDepth 20000 in
set_option maxHeartbeats 1600000 in
theorem keyYes (w : World) (g : Nat) (l : List ByteArray) (F : Nat → Prop) (h : Dic w g l F) (j : Nat) (k : ByteArray) (hk : l[j]? = some k) (hn : l.length ≤ maxLen) :
    Calls Tryd.prog 47 #[.pointer (some ⟨g, 0, none⟩), .int .i64 j] w fun e w' => e = .returned (.tuple #[.string k, .bool true]) ∧ Below w.heap.size w w' := by
  obtain ⟨T, hT, bm, v, D, h1, h2, h3, h4, h5, h6, h7⟩ := h
  have hj : j < l.length := (List.getElem?_eq_some_iff.1 hk).1
  obtain ⟨r, cap, rfl, hcap, hcell⟩ := row_cell h4 j hj
  have hcell' : w.cell? ⟨r, j, none⟩ = some (.string k) := by rw [hcell]; simp [hk]
  obtain ⟨s1, s2⟩ := h6 k (List.mem_of_getElem? hk)
  obtain ⟨c0, c1, f1⟩ := Dic.d1 h1
  clear h3 h6 h7 hk hcell
  unfold maxLen at hn
  go_enter Tryd.func47, Tryd.ntmps47
  go_wp2_with (go_at_call 64; (with_reducible refine (ownStr k _ s1 s2).mono ?_); rintro e w1 ⟨rfl, hb⟩)
  go_ret2
  exact ⟨rfl, hb⟩
set_option maxRecDepth 20000 in
set_option maxHeartbeats 1600000 in
theorem keyNo (w : World) (g : Nat) (l : List ByteArray) (F : Nat → Prop) (h : Dic w g l F) (j : Int) (hj : j < 0 ∨ (l.length : Int) ≤ j) :
    Calls Tryd.prog 47 #[.pointer (some ⟨g, 0, none⟩), .int .i64 j] w fun e w' => e = .returned (.tuple #[.string ⟨#[]⟩, .bool false]) ∧ Below w.heap.size w w' := by
  obtain ⟨T, hT, bm, v, D, h1, h2, h3, h4, h5, h6, h7⟩ := h
  obtain ⟨p, cap, rfl⟩ := row_slice h4
  obtain ⟨c0, c1, f1⟩ := Dic.d1 h1
  clear h3 h6 h7
  by_cases h0 : j < 0
  · clear hj
    go_enter Tryd.func47, Tryd.ntmps47
    go_wp2_with fail
    go_ret2
    exact ⟨rfl, Below.refl _ _⟩
  · have h2 : (l.length : Int) ≤ j := by omega
    clear hj
    go_enter Tryd.func47, Tryd.ntmps47
    go_wp2_with fail
    go_ret2
    exact ⟨rfl, Below.refl _ _⟩
end Go.Proofs.YtffbcccbhofbpaaDoor
