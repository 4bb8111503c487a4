/- A number as a decimal; two numbers held against each other. -/
import Derived.Test.YtoifjjgakblhhaaDoorQ1m
import Derived.Test.YtoifjjgakblhhaaDoorV2m
import Derived.Deep.RegionHeld3
namespace Go.Proofs.YtoifjjgakblhhaaDoor
open Go.RowKit

/-- What a number says, scaled by 10 ^ 54. -/
def numV (k n : Int) (t : ByteArray) : Int := if k = 2 then n * 10 ^ 54 else if chk t.data.toList then dval t.data.toList else 0
/-- A decimal text that says z. -/
def Says (z : Int) (s : ByteArray) : Prop := chk s.data.toList = true ∧ dval s.data.toList = z ∧ s.size < 4294967281

theorem ofIntSays (n : Int) (h0 : -9223372036854775808 ≤ n) (h1 : n ≤ 9223372036854775807) (w : World) (hT : Tab w) :
    Calls Tryd.prog 43 #[.int .i64 n] w fun e w' => ∃ s, e = .returned (.string s) ∧ Says (n * 10 ^ 54) s ∧ Below w.heap.size w w' := by
  obtain ⟨f1, f2, f3, f4⟩ := intT_facts n h0 h1
  refine (ofIntAt n h0 h1 w hT _ rfl f4).mono ?_
  rintro e w' ⟨rfl, hb⟩
  exact ⟨_, rfl, ⟨f1, f2, show (intT n).size < _ by omega⟩, hb⟩

theorem asDecimalAt (k : Int) (b : Bool) (n : Int) (t x : ByteArray) (p : Option Addr) (len cap : Nat) (w : World) (hG : Gd w) (hT : Tab w) (hf : Fine n t x len) :
    Calls Tryd.prog 28 #[.agg #[.int .i64 k, .bool b, .int .i64 n, .string t, .string x, .slice p len cap]] w fun e w' => ∃ s, e = .returned (.string s) ∧ Says (numV k n t) s ∧ Below w.heap.size w w' := by
  have l0 := six_new (k := k) (b := b) (n := n) (t := t) (x := x) (p := p) (len := len) (cap := cap) w rfl
  have b0 := below1 w (.cells #[.int .i64 k, .bool b, .int .i64 n, .string t, .string x, .slice p len cap] 28)
  have g0 := hG.below b0
  have t0 := hT.below b0
  have z0 := b0.size
  have f0 := l0.c0
  have f2 := l0.c2
  have f3 := l0.c3
  have HF := Lib.hid hf
  by_cases h2 : k = 2
  · subst h2
    obtain ⟨z, hz⟩ : ∃ z, z = numV 2 n t := ⟨_, rfl⟩
    have hc := fun W hW => ofIntSays n HF.out.lo HF.out.hi W hW
    have e : numV 2 n t = n * 10 ^ 54 := by unfold numV; rw [if_pos rfl]
    rw [← e, ← hz] at hc
    rw [← hz]
    have HC := Lib.hid hc
    clear hc hz e l0 hf
    go_enter Tryd.func28, Tryd.ntmps28
    go_wp2_with (go_at_call 43; (with_reducible refine (HC.out _ t0).mono ?_); rintro e w1 ⟨s, rfl, hs, hb⟩; have HS := Lib.hid hs; clear hs; replace b0 := below_any b0 hb z0)
    go_ret
    exact ⟨s, rfl, HS.out, b0⟩
  · have e2 : (k == 2) = false := by simpa using h2
    cases hk : chk t.data.toList with
    | true =>
      have e : numV k n t = dval t.data.toList := by unfold numV; rw [if_neg h2, if_pos hk]
      rw [e]
      have hsay : Hid (Says (dval t.data.toList) t) := Lib.hid ⟨hk, rfl, by have := hf.ht; omega⟩
      have hc := fun W hW => checkAt t W hW (by have := hf.ht; omega)
      rw [hk] at hc
      have b9 := b0
      clear h2 e hk l0 hf
      generalize dval t.data.toList = z at hsay ⊢
      go_enter Tryd.func28, Tryd.ntmps28
      go_wp2_with (go_at_call 30; (with_reducible refine (hc _ g0).mono ?_); rintro e w1 ⟨rfl, hb⟩; have c3 := (hb.cell (p := ⟨w.heap.size, 3, none⟩) (World.block_lt_of_cell? _ _ f3)).trans f3; replace b9 := below_any b0 hb z0)
      go_ret
      exact ⟨t, rfl, hsay.out, b9⟩
    | false =>
      have e : numV k n t = 0 := by unfold numV; rw [if_neg h2, if_neg (by simp [hk])]
      rw [e]
      have hc := fun W hW => checkAt t W hW (by have := hf.ht; omega)
      rw [hk] at hc
      have hd := fun W hW => ofIntSays 0 (by omega) (by omega) W hW
      rw [Int.zero_mul] at hd
      have HD := Lib.hid hd
      have b9 := b0
      clear h2 e hk l0 hf hd
      go_enter Tryd.func28, Tryd.ntmps28
      go_wp2_with (first
        | (go_at_call 30; (with_reducible refine (hc _ g0).mono ?_); rintro e w1 ⟨rfl, hb⟩; have t1 := t0.below hb; replace b9 := below_any b0 hb z0)
        | (go_at_call 43; (with_reducible refine (HD.out _ t1).mono ?_); rintro e w2 ⟨s, rfl, hs, hb2⟩; have HS := Lib.hid hs; clear hs; replace b9 := below_any b9 hb2 b9.size))
      go_ret
      exact ⟨s, rfl, HS.out, b9⟩
end Go.Proofs.YtoifjjgakblhhaaDoor
