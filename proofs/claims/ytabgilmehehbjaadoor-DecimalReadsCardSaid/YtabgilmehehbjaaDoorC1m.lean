/- wakes: a sum and a quotient. -/
import Derived.Test.YtabgilmehehbjaaDoorB9m
namespace Go.Proofs.YtabgilmehehbjaaDoor
open Go.RowKit

theorem chk01 : chk [48, 46, 49] = true := by kernel_rfl
theorem chk02 : chk [48, 46, 50] = true := by kernel_rfl
theorem chk10 : chk [49, 46, 48] = true := by kernel_rfl
theorem chk30 : chk [51, 46, 48] = true := by kernel_rfl
theorem sum03 : txt (dval [48, 46, 49] + dval [48, 46, 50]) = some [48, 46, 51] := by kernel_rfl
theorem quo03 : txt (dquo [49, 46, 48] [51, 46, 48]) = some [48, 46, 51, 51, 51, 51, 51, 51, 51, 51, 51, 51, 51, 51, 51, 51, 51, 51, 51, 51, 51, 51] := by kernel_rfl
theorem amt30 : damt [51, 46, 48] ≠ 0 := by decide +kernel
theorem int7 : Lib.itoa (-7) = [45, 55] := by kernel_rfl

set_option maxHeartbeats 800000 in
theorem wakesAt (w : World) (hG : Gd w) (hT : Tab w) : Calls Tryd.prog 19 #[] w fun e w' => e = .returned (.bool true) ∧ Below w.heap.size w w' := by
  have ha : ∀ W, Gd W → Calls Tryd.prog 22 #[.string ⟨#[48, 46, 49]⟩, .string ⟨#[48, 46, 50]⟩] W fun e w' => e = .returned (.tuple #[.string ⟨#[48, 46, 51]⟩, .int .i64 0]) ∧ Below W.heap.size W w' := fun W hW =>
    addYes ⟨#[48, 46, 49]⟩ ⟨#[48, 46, 50]⟩ W hW (by decide) (by decide) chk01 chk02 _ 0 (by rw [show (ByteArray.mk #[48, 46, 49]).data.toList = [48, 46, 49] from rfl, show (ByteArray.mk #[48, 46, 50]).data.toList = [48, 46, 50] from rfl, sum03]; rfl)
  have hd : ∀ W, Gd W → Calls Tryd.prog 28 #[.string ⟨#[49, 46, 48]⟩, .string ⟨#[51, 46, 48]⟩] W fun e w' => e = .returned (.tuple #[.string ⟨#[48, 46, 51, 51, 51, 51, 51, 51, 51, 51, 51, 51, 51, 51, 51, 51, 51, 51, 51, 51, 51, 51]⟩, .int .i64 0]) ∧ Below W.heap.size W w' := fun W hW =>
    divYes ⟨#[49, 46, 48]⟩ ⟨#[51, 46, 48]⟩ W hW (by decide) (by decide) chk10 chk30 amt30 _ 0 (by rw [show (ByteArray.mk #[49, 46, 48]).data.toList = [49, 46, 48] from rfl, show (ByteArray.mk #[51, 46, 48]).data.toList = [51, 46, 48] from rfl, quo03]; rfl)
  have hi : ∀ W, Tab W → Calls Tryd.prog 17 #[.int .i64 (-7)] W fun e w' => e = .returned (.string ⟨#[45, 55, 46, 48]⟩) ∧ Below W.heap.size W w' := fun W hW =>
    ofIntAt (-7) (by omega) (by omega) W hW ⟨#[45, 55]⟩ (by rw [int7]) (by decide)
  have HA := Lib.hid ha
  have HD := Lib.hid hd
  have HI := Lib.hid hi
  clear ha hd hi
  go_enter Tryd.func19, Tryd.ntmps19
  go_wp2_with (first
    | (go_at_call 22; (with_reducible refine (HA.out _ hG).mono ?_); rintro e w1 ⟨rfl, hb1⟩; have g1 := hG.below hb1; have t1 := hT.below hb1)
    | (go_at_call 28; (with_reducible refine (HD.out _ g1).mono ?_); rintro e w2 ⟨rfl, hb2⟩; have t2 := t1.below hb2; have hb3 := below_any hb1 hb2 hb1.size)
    | (go_at_call 17; (with_reducible refine (HI.out _ t2).mono ?_); rintro e w3 ⟨rfl, hb4⟩; have hb5 := below_any hb3 hb4 hb3.size))
  go_ret
  exact ⟨rfl, hb5⟩
end Go.Proofs.YtabgilmehehbjaaDoor
