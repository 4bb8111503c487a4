/- The closed law DecimalEnds, walked. -/
import Derived.Test.YtabgilmehehbjaaDoorT1
import Derived.Test.YtabgilmehehbjaaDoorT2
namespace Go.Proofs.YtabgilmehehbjaaDoor
open Go.RowKit

/-- So many nines. -/
def nn (i : Nat) : ByteArray := bs (List.replicate i 57)
/-- Nought, the point, so many noughts. -/
def zz (i : Nat) : ByteArray := bs (48 :: 46 :: List.replicate i 48)
theorem nn_zero : nn 0 = ⟨#[]⟩ := rfl
theorem zz_zero : zz 0 = ⟨#[48, 46]⟩ := rfl
theorem app_data (a b : ByteArray) : a ++ b = bs (a.data.toList ++ b.data.toList) := by
  apply ByteArray.ext
  simp
theorem nn_succ (i : Nat) : nn i ++ ⟨#[57]⟩ = nn (i + 1) := by
  rw [app_data]
  show bs (List.replicate i 57 ++ [57]) = bs (List.replicate (i + 1) 57)
  rw [List.replicate_succ']
theorem zz_succ (i : Nat) : zz i ++ ⟨#[48]⟩ = zz (i + 1) := by
  rw [app_data]
  show bs (48 :: 46 :: List.replicate i 48 ++ [48]) = bs (48 :: 46 :: List.replicate (i + 1) 48)
  rw [List.replicate_succ']
  rfl
theorem nn_size (i : Nat) : (nn i).size = i := by show (List.replicate i (57 : UInt8)).toArray.size = i; simp
theorem zz_size (i : Nat) : (zz i).size = i + 2 := by show (48 :: 46 :: List.replicate i (48 : UInt8)).toArray.size = i + 2; simp

/-- The three texts. -/
def la : List UInt8 := [57, 57, 57, 57, 57, 57, 57, 57, 57, 57, 57, 57, 57, 57, 57, 57, 57, 57, 57, 57, 57, 57, 57, 57, 57, 57, 57, 57, 57, 57, 57, 57, 57, 57, 57, 57, 57, 57, 57, 57, 46, 48]
def lb : List UInt8 := [57, 57, 57, 57, 57, 57, 57, 57, 57, 57, 57, 57, 57, 57, 57, 57, 57, 57, 57, 57, 57, 57, 57, 57, 57, 57, 57, 57, 57, 57, 57, 57, 57, 57, 57, 57, 57, 57, 57, 57, 46, 53]
def lc : List UInt8 := [48, 46, 48, 48, 48, 48, 48, 48, 48, 48, 48, 48, 48, 48, 48, 48, 48, 48, 48, 48, 48, 49]
def l9 : List UInt8 := [57, 57, 57, 57, 57, 57, 57, 57, 57, 57, 57, 57, 57, 57, 57, 57, 57, 57, 57, 57, 57, 57, 57, 57, 57, 57, 57, 57, 57, 57, 57, 57, 57, 57, 57, 57, 57, 57, 57, 57]
theorem nn_40 : nn 40 = bs l9 := rfl
theorem zz_19 : zz 19 = bs [48, 46, 48, 48, 48, 48, 48, 48, 48, 48, 48, 48, 48, 48, 48, 48, 48, 48, 48, 48, 48] := rfl
theorem a_is : nn 40 ++ ⟨#[46, 48]⟩ = bs la := by rw [app_data]; rfl
theorem b_is : nn 40 ++ ⟨#[46, 53]⟩ = bs lb := by rw [app_data]; rfl
theorem c_is : zz 19 ++ ⟨#[49]⟩ = bs lc := by rw [app_data]; rfl
theorem d_is : nn 40 ++ ⟨#[57]⟩ = bs [57, 57, 57, 57, 57, 57, 57, 57, 57, 57, 57, 57, 57, 57, 57, 57, 57, 57, 57, 57, 57, 57, 57, 57, 57, 57, 57, 57, 57, 57, 57, 57, 57, 57, 57, 57, 57, 57, 57, 57, 57] := by rw [app_data]; rfl
theorem f_is : ⟨#[48, 48, 48]⟩ ++ nn 40 ++ ⟨#[46]⟩ ++ ⟨#[53, 48, 48, 48, 48, 48, 48, 48, 48, 48, 48, 48, 48, 48, 48, 48, 48, 48, 48, 48, 48, 48, 48]⟩ = bs [48, 48, 48, 57, 57, 57, 57, 57, 57, 57, 57, 57, 57, 57, 57, 57, 57, 57, 57, 57, 57, 57, 57, 57, 57, 57, 57, 57, 57, 57, 57, 57, 57, 57, 57, 57, 57, 57, 57, 57, 57, 57, 57, 46, 53, 48, 48, 48, 48, 48, 48, 48, 48, 48, 48, 48, 48, 48, 48, 48, 48, 48, 48, 48, 48, 48, 48] := by rw [app_data, app_data, app_data]; rfl
theorem g_is : zz 19 ++ ⟨#[48, 49]⟩ = bs [48, 46, 48, 48, 48, 48, 48, 48, 48, 48, 48, 48, 48, 48, 48, 48, 48, 48, 48, 48, 48, 48, 49] := by rw [app_data]; rfl
theorem r_a : readP l9 = some (some la) := by kernel_rfl
theorem r_d : readP [57, 57, 57, 57, 57, 57, 57, 57, 57, 57, 57, 57, 57, 57, 57, 57, 57, 57, 57, 57, 57, 57, 57, 57, 57, 57, 57, 57, 57, 57, 57, 57, 57, 57, 57, 57, 57, 57, 57, 57, 57] = some none := by kernel_rfl
theorem r_f : readP [48, 48, 48, 57, 57, 57, 57, 57, 57, 57, 57, 57, 57, 57, 57, 57, 57, 57, 57, 57, 57, 57, 57, 57, 57, 57, 57, 57, 57, 57, 57, 57, 57, 57, 57, 57, 57, 57, 57, 57, 57, 57, 57, 46, 53, 48, 48, 48, 48, 48, 48, 48, 48, 48, 48, 48, 48, 48, 48, 48, 48, 48, 48, 48, 48, 48, 48] = some (some lb) := by kernel_rfl
theorem r_c : readP lc = some (some lc) := by kernel_rfl
theorem r_g : readP [48, 46, 48, 48, 48, 48, 48, 48, 48, 48, 48, 48, 48, 48, 48, 48, 48, 48, 48, 48, 48, 48, 49] = some none := by kernel_rfl
theorem chka : chk la = true := by kernel_rfl
theorem chkb : chk lb = true := by kernel_rfl
theorem chkc : chk lc = true := by kernel_rfl
theorem chk04 : chk [48, 46, 52] = true := by kernel_rfl
theorem chkm10 : chk [45, 49, 46, 48] = true := by kernel_rfl
theorem s_a : txt (dval la + dval [49, 46, 48]) = none := by kernel_rfl
theorem s_b : txt (dval lb + dval [48, 46, 52]) = some [57, 57, 57, 57, 57, 57, 57, 57, 57, 57, 57, 57, 57, 57, 57, 57, 57, 57, 57, 57, 57, 57, 57, 57, 57, 57, 57, 57, 57, 57, 57, 57, 57, 57, 57, 57, 57, 57, 57, 57, 46, 57] := by kernel_rfl
theorem s_c : txt (dmul lc [48, 46, 49]) = none := by kernel_rfl
theorem amt00 : damt [48, 46, 48] = 0 := by kernel_rfl
theorem amt01 : damt [48, 46, 49] ≠ 0 := by decide +kernel
theorem s_d : txt (dquo la [48, 46, 49]) = none := by kernel_rfl
theorem i_lo : Lib.parseIntB 64 [45, 57, 50, 50, 51, 51, 55, 50, 48, 51, 54, 56, 53, 52, 55, 55, 53, 56, 48, 56] = .ok (-9223372036854775808) := by kernel_rfl
theorem i_hi : Lib.parseIntB 64 [57, 50, 50, 51, 51, 55, 50, 48, 51, 54, 56, 53, 52, 55, 55, 53, 56, 48, 56] = .range := by kernel_rfl
theorem chklo : chk [45, 57, 50, 50, 51, 51, 55, 50, 48, 51, 54, 56, 53, 52, 55, 55, 53, 56, 48, 56, 46, 48] = true := by kernel_rfl
theorem chkhi : chk [57, 50, 50, 51, 51, 55, 50, 48, 51, 54, 56, 53, 52, 55, 55, 53, 56, 48, 56, 46, 48] = true := by kernel_rfl
theorem intlo : Lib.itoa (-9223372036854775808) = [45, 57, 50, 50, 51, 51, 55, 50, 48, 51, 54, 56, 53, 52, 55, 55, 53, 56, 48, 56] := by kernel_rfl
/-- The three that are added up. -/
def sums : Nat → ByteArray
  | 0 => bs la
  | 1 => ⟨#[49, 46, 48]⟩
  | 2 => ⟨#[45, 49, 46, 48]⟩
  | _ => ⟨#[]⟩
theorem s_s : txt (sumTo sums 3) = some la := by kernel_rfl
theorem chkS : ∀ i, i < 3 → chk (sums i).data.toList = true
  | 0, _ => chka
  | 1, _ => chk10
  | 2, _ => chkm10
theorem smallS : ∀ i, i < 3 → (sums i).size < 4294967281
  | 0, _ => by decide
  | 1, _ => by decide
  | 2, _ => by decide
theorem readIs (l : List UInt8) (r : Option (Option (List UInt8))) (h : readP l = r) (hs : (bs l).size < 4294967281) (W : World) (hW : Gd W) : Calls Tryd.prog 11 #[.string (bs l)] W fun e w' => e = .returned (readV r) ∧ Below W.heap.size W w' := by
  rw [← h]; exact readAt (bs l) W hW hs

/-- Every call that the law makes. -/
structure Ends : Prop where
  a : ∀ W, Gd W → Calls Tryd.prog 11 #[.string (nn 40)] W fun e w' => e = .returned (.tuple #[.string (nn 40 ++ ⟨#[46, 48]⟩), .int .i64 0]) ∧ Below W.heap.size W w'
  d : ∀ W, Gd W → Calls Tryd.prog 11 #[.string (nn 40 ++ ⟨#[57]⟩)] W fun e w' => e = .returned (.tuple #[.string ⟨#[]⟩, .int .i64 2]) ∧ Below W.heap.size W w'
  f : ∀ W, Gd W → Calls Tryd.prog 11 #[.string (⟨#[48, 48, 48]⟩ ++ nn 40 ++ ⟨#[46]⟩ ++ ⟨#[53, 48, 48, 48, 48, 48, 48, 48, 48, 48, 48, 48, 48, 48, 48, 48, 48, 48, 48, 48, 48, 48, 48]⟩)] W fun e w' => e = .returned (.tuple #[.string (nn 40 ++ ⟨#[46, 53]⟩), .int .i64 0]) ∧ Below W.heap.size W w'
  c : ∀ W, Gd W → Calls Tryd.prog 11 #[.string (zz 19 ++ ⟨#[49]⟩)] W fun e w' => e = .returned (.tuple #[.string (zz 19 ++ ⟨#[49]⟩), .int .i64 0]) ∧ Below W.heap.size W w'
  g : ∀ W, Gd W → Calls Tryd.prog 11 #[.string (zz 19 ++ ⟨#[48, 49]⟩)] W fun e w' => e = .returned (.tuple #[.string ⟨#[]⟩, .int .i64 2]) ∧ Below W.heap.size W w'
  a1 : ∀ W, Gd W → Calls Tryd.prog 22 #[.string (nn 40 ++ ⟨#[46, 48]⟩), .string ⟨#[49, 46, 48]⟩] W fun e w' => e = .returned (.tuple #[.string ⟨#[]⟩, .int .i64 2]) ∧ Below W.heap.size W w'
  a2 : ∀ W, Gd W → Calls Tryd.prog 22 #[.string (nn 40 ++ ⟨#[46, 53]⟩), .string ⟨#[48, 46, 52]⟩] W fun e w' => e = .returned (.tuple #[.string (bs [57, 57, 57, 57, 57, 57, 57, 57, 57, 57, 57, 57, 57, 57, 57, 57, 57, 57, 57, 57, 57, 57, 57, 57, 57, 57, 57, 57, 57, 57, 57, 57, 57, 57, 57, 57, 57, 57, 57, 57, 46, 57]), .int .i64 0]) ∧ Below W.heap.size W w'
  m : ∀ W, Gd W → Calls Tryd.prog 26 #[.string (zz 19 ++ ⟨#[49]⟩), .string ⟨#[48, 46, 49]⟩] W fun e w' => e = .returned (.tuple #[.string ⟨#[]⟩, .int .i64 2]) ∧ Below W.heap.size W w'
  q : ∀ W, Gd W → Calls Tryd.prog 28 #[.string ⟨#[49, 46, 48]⟩, .string ⟨#[48, 46, 48]⟩] W fun e w' => e = .returned (.tuple #[.string ⟨#[]⟩, .int .i64 3]) ∧ Below W.heap.size W w'
  q2 : ∀ W, Gd W → Calls Tryd.prog 28 #[.string (nn 40 ++ ⟨#[46, 48]⟩), .string ⟨#[48, 46, 49]⟩] W fun e w' => e = .returned (.tuple #[.string ⟨#[]⟩, .int .i64 2]) ∧ Below W.heap.size W w'
  lo : ∀ W, Gd W → Calls Tryd.prog 13 #[.string ⟨#[45, 57, 50, 50, 51, 51, 55, 50, 48, 51, 54, 56, 53, 52, 55, 55, 53, 56, 48, 56, 46, 48]⟩] W fun e w' => e = .returned (.tuple #[.int .i64 (-9223372036854775808), .bool true]) ∧ Below W.heap.size W w'
  hi : ∀ W, Gd W → Er W → Calls Tryd.prog 13 #[.string ⟨#[57, 50, 50, 51, 51, 55, 50, 48, 51, 54, 56, 53, 52, 55, 55, 53, 56, 48, 56, 46, 48]⟩] W fun e w' => e = .returned (.tuple #[.int .i64 0, .bool false]) ∧ Below W.heap.size W w'
  s : ∀ b cap W, Gd W → W.cell? ⟨b, 0, none⟩ = some (.string (nn 40 ++ ⟨#[46, 48]⟩)) → W.cell? ⟨b, 1, none⟩ = some (.string ⟨#[49, 46, 48]⟩) → W.cell? ⟨b, 2, none⟩ = some (.string ⟨#[45, 49, 46, 48]⟩) →
    Calls Tryd.prog 32 #[.slice (some ⟨b, 0, none⟩) 3 cap] W fun e w' => e = .returned (.tuple #[.string (nn 40 ++ ⟨#[46, 48]⟩), .int .i64 0]) ∧ Below W.heap.size W w'
  o : ∀ W, Tab W → Calls Tryd.prog 17 #[.int .i64 (-9223372036854775808)] W fun e w' => e = .returned (.string ⟨#[45, 57, 50, 50, 51, 51, 55, 50, 48, 51, 54, 56, 53, 52, 55, 55, 53, 56, 48, 56, 46, 48]⟩) ∧ Below W.heap.size W w'

theorem ends : Ends where
  a := fun W hW => by rw [a_is, nn_40]; exact readIs l9 _ r_a (by decide) W hW
  d := fun W hW => by rw [d_is]; exact readIs _ _ r_d (by decide) W hW
  f := fun W hW => by rw [f_is, b_is]; exact readIs _ _ r_f (by decide) W hW
  c := fun W hW => by rw [c_is]; exact readIs lc _ r_c (by decide) W hW
  g := fun W hW => by rw [g_is]; exact readIs _ _ r_g (by decide) W hW
  a1 := fun W hW => by rw [a_is]; exact addYes (bs la) ⟨#[49, 46, 48]⟩ W hW (by decide) (by decide) chka chk10 _ 2 (by rw [show (bs la).data.toList = la from rfl, show (ByteArray.mk #[49, 46, 48]).data.toList = [49, 46, 48] from rfl, s_a]; rfl)
  a2 := fun W hW => by rw [b_is]; exact addYes (bs lb) ⟨#[48, 46, 52]⟩ W hW (by decide) (by decide) chkb chk04 _ 0 (by rw [show (bs lb).data.toList = lb from rfl, show (ByteArray.mk #[48, 46, 52]).data.toList = [48, 46, 52] from rfl, s_b]; rfl)
  m := fun W hW => by rw [c_is]; exact mulYes (bs lc) ⟨#[48, 46, 49]⟩ W hW (by decide) (by decide) chkc chk01 _ 2 (by rw [show (bs lc).data.toList = lc from rfl, show (ByteArray.mk #[48, 46, 49]).data.toList = [48, 46, 49] from rfl, s_c]; rfl)
  q := fun W hW => divZero ⟨#[49, 46, 48]⟩ ⟨#[48, 46, 48]⟩ W hW (by decide) (by decide) chk10 (by kernel_rfl) amt00
  q2 := fun W hW => by rw [a_is]; exact divYes (bs la) ⟨#[48, 46, 49]⟩ W hW (by decide) (by decide) chka chk01 amt01 _ 2 (by rw [show (bs la).data.toList = la from rfl, show (ByteArray.mk #[48, 46, 49]).data.toList = [48, 46, 49] from rfl, s_d]; rfl)
  lo := fun W hW => toIntOk ⟨#[45, 57, 50, 50, 51, 51, 55, 50, 48, 51, 54, 56, 53, 52, 55, 55, 53, 56, 48, 56, 46, 48]⟩ ⟨#[45, 57, 50, 50, 51, 51, 55, 50, 48, 51, 54, 56, 53, 52, 55, 55, 53, 56, 48, 56]⟩ (-9223372036854775808) W hW (by decide) chklo (by decide) (by kernel_rfl) (by decide) i_lo
  hi := fun W hW hE => toIntBig ⟨#[57, 50, 50, 51, 51, 55, 50, 48, 51, 54, 56, 53, 52, 55, 55, 53, 56, 48, 56, 46, 48]⟩ ⟨#[57, 50, 50, 51, 51, 55, 50, 48, 51, 54, 56, 53, 52, 55, 55, 53, 56, 48, 56]⟩ W hW hE (by decide) chkhi (by decide) (by kernel_rfl) (by decide) i_hi
  s := fun b cap W hW h0 h1 h2 => by
    rw [a_is] at h0 ⊢
    refine sumYes b 0 3 cap sums W hW ?_ (by omega) smallS chkS (bs la) 0 (by rw [s_s]; rfl)
    intro i hi
    match i, hi with
    | 0, _ => exact h0
    | 1, _ => exact h1
    | 2, _ => exact h2
  o := fun W hW => ofIntAt (-9223372036854775808) (by omega) (by omega) W hW ⟨#[45, 57, 50, 50, 51, 51, 55, 50, 48, 51, 54, 56, 53, 52, 55, 55, 53, 56, 48, 56]⟩ (by rw [intlo]) (by decide)

/-- What holds at every call. -/
structure Kept (w wr : World) : Prop where
  bel : Below w.heap.size w wr
  g : Gd wr
  t : Tab wr
  e : Er wr
theorem Kept.step {w wr w' : World} (h : Kept w wr) (k : Below wr.heap.size wr w') : Kept w w' :=
  ⟨below_any h.bel k h.bel.size, h.g.below k, h.t.below k, h.e.below k⟩

set_option maxRecDepth 20000 in
set_option maxHeartbeats 6400000 in
theorem endsAt (w : World) (hG : Gd w) (hT : Tab w) (hE : Er w) : Calls Tryd.prog 9 #[] w fun e w' => e = .returned (.bool true) ∧ Below w.heap.size w w' := by
  have E := Lib.hid ends
  have I0 : Kept w w := ⟨Below.refl _ _, hG, hT, hE⟩
  go_enter Tryd.func9, Tryd.ntmps9
  go_wp2_with fail
  go_loopg [1, 2] 40 (fun gg s1 s2 wr => ∃ i : Nat, i + gg = 40 ∧ s1 = .string (nn i) ∧ s2 = .int .i64 i ∧ wr = w)
  case atStart => exact ⟨0, by omega, rfl, rfl, rfl⟩
  case round =>
    obtain ⟨i, hi, rfl, rfl, rfl⟩ := hrel
    have hsz := nn_size i
    by_cases hlt : (i : Int) < 40
    · go_wp2_with fail
      go_roundg (gk - 1)
      case measure => omega
      case rel => exact ⟨i + 1, by omega, by rw [nn_succ], by go_num, rfl⟩
    · obtain rfl : i = 40 := by omega
      clear hsz hi hlt
      go_wp2_with fail
      go_loopg [3, 4] 19 (fun gg s3 s4 w' => ∃ j : Nat, j + gg = 19 ∧ s3 = .string (zz j) ∧ s4 = .int .i64 ((j : Int) + 1) ∧ w' = wr)
      case atStart => exact ⟨0, by omega, rfl, rfl, rfl⟩
      case round =>
        obtain ⟨j, hj, rfl, rfl, rfl⟩ := hrel
        have hsz := zz_size j
        by_cases hlt : (j : Int) + 1 < 20
        · go_wp2_with fail
          go_roundg (gk - 1)
          case measure => omega
          case rel => exact ⟨j + 1, by omega, by rw [zz_succ], by go_num, rfl⟩
        · obtain rfl : j = 19 := by omega
          clear hsz hj hlt
          have P1 := nn_size 40
          have P2 := zz_size 19
          go_wp2_with (first
            | (go_at_call 11; (with_reducible refine (E.out.a _ I0.g).mono ?_); rintro e w1 ⟨rfl, hb1⟩; have I1 := I0.step hb1)
            | (go_at_call 11; (with_reducible refine (E.out.d _ I1.g).mono ?_); rintro e w2 ⟨rfl, hb2⟩; have I2 := I1.step hb2)
            | (go_at_call 11; (with_reducible refine (E.out.f _ I2.g).mono ?_); rintro e w3 ⟨rfl, hb3⟩; have I3 := I2.step hb3)
            | (go_at_call 11; (with_reducible refine (E.out.c _ I3.g).mono ?_); rintro e w4 ⟨rfl, hb4⟩; have I4 := I3.step hb4)
            | (go_at_call 11; (with_reducible refine (E.out.g _ I4.g).mono ?_); rintro e w5 ⟨rfl, hb5⟩; have I5 := I4.step hb5)
            | (go_at_call 22; (with_reducible refine (E.out.a1 _ I5.g).mono ?_); rintro e w6 ⟨rfl, hb6⟩; have I6 := I5.step hb6)
            | (go_at_call 22; (with_reducible refine (E.out.a2 _ I6.g).mono ?_); rintro e w7 ⟨rfl, hb7⟩; have I7 := I6.step hb7)
            | (go_at_call 26; (with_reducible refine (E.out.m _ I7.g).mono ?_); rintro e w8 ⟨rfl, hb8⟩; have I8 := I7.step hb8)
            | (go_at_call 28; (with_reducible refine (E.out.q _ I8.g).mono ?_); rintro e w9 ⟨rfl, hb9⟩; have I9 := I8.step hb9)
            | (go_at_call 28; (with_reducible refine (E.out.q2 _ I9.g).mono ?_); rintro e w10 ⟨rfl, hb10⟩; have I10 := I9.step hb10)
            | (go_at_call 13; (with_reducible refine (E.out.lo _ I10.g).mono ?_); rintro e w11 ⟨rfl, hb11⟩; have I11 := I10.step hb11)
            | (go_at_call 13; (with_reducible refine (E.out.hi _ I11.g I11.e).mono ?_); rintro e w12 ⟨rfl, hb12⟩; have I12 := I11.step hb12)
            | (go_at_call 32; have IA := I12.step ((Below.refl _ _).alloc (Nat.le_refl _) (.cells #[.string (nn 40 ++ ⟨#[46, 48]⟩), .string ⟨#[49, 46, 48]⟩, .string ⟨#[45, 49, 46, 48]⟩] 9)); (with_reducible refine (E.out.s w12.heap.size 3 _ IA.g ?_ ?_ ?_).mono ?_); exact cell_of (heap_new _ _ rfl) _ rfl; exact cell_of (heap_new _ _ rfl) _ rfl; exact cell_of (heap_new _ _ rfl) _ rfl; rintro e w13 ⟨rfl, hb13⟩; have I13 := IA.step hb13)
            | (go_at_call 17; (with_reducible refine (E.out.o _ I13.t).mono ?_); rintro e w14 ⟨rfl, hb14⟩; have I14 := I13.step hb14)
            | (go_at_call 19; (with_reducible refine (wakesAt _ I14.g I14.t).mono ?_); rintro e w15 ⟨rfl, hb15⟩; have I15 := I14.step hb15))
          go_ret
          exact ⟨rfl, I15.bel⟩
end Go.Proofs.YtabgilmehehbjaaDoor
