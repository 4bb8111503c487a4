/- Marks in words: how many bits are set; whether one is. -/
import Derived.Test.YtffbcccbhofbpaaDoorD4
import Derived.Test.YtffbcccbhofbpaaDoorCW
import Derived.Laws.BitsAllLaws
import Derived.Laws.Bits128
import Derived.WalkSmall
import Derived.IntWalk
namespace Go.Proofs.YtffbcccbhofbpaaDoor
open Go.RowKit

theorem u64_id (n : Nat) (h : n < 18446744073709551616) : IntKind.u64.wrap (n : Int) = n := by
  simp [IntKind.wrap, IntKind.bits, IntKind.signed]; omega
theorem and_k (x m : Nat) (M : Int) (hM : M = (m : Int)) (hx : x < 18446744073709551616) (hm : m < 18446744073709551616) : bits .and .u64 (x : Int) M = ((x &&& m : Nat) : Int) := by subst hM; exact u64_and_nat x m hx hm
theorem div_k (x k : Nat) (K : Int) (hK : K = (k : Int)) : (x : Int) / K = ((x / k : Nat) : Int) := by subst hK; exact (Int.natCast_ediv x k).symm
set_option maxRecDepth 20000 in
set_option maxHeartbeats 1600000 in
theorem onesAt (x : Nat) (w : World) (hx : x < 18446744073709551616) :
    Calls Tryd.prog 74 #[.int .u64 x] w fun e w' => e = .returned (.int .i64 (Pop.pop 64 x)) ∧ w = w' := by
  obtain ⟨a, ea⟩ : ∃ a, a = (x / 2 &&& Pop.mask 0x55 8) + (x &&& Pop.mask 0x55 8) := ⟨_, rfl⟩
  obtain ⟨b, eb⟩ : ∃ b, b = (a / 4 &&& Pop.mask 0x33 8) + (a &&& Pop.mask 0x33 8) := ⟨_, rfl⟩
  obtain ⟨c, ec⟩ : ∃ c, c = (b / 16 + b) &&& Pop.mask 15 8 := ⟨_, rfl⟩
  obtain ⟨la, lb, lb2, lc, l1, l2, l3, hp⟩ := Pop.swar x a b c (by rw [← Pop.pw]; exact hx) ea eb ec
  rw [← Pop.pw] at la lb lc
  rw [← Pop.m5] at ea
  rw [← Pop.m3] at eb
  rw [← Pop.mf] at ec
  obtain ⟨d, ed⟩ : ∃ d, d = c + c / 256 := ⟨_, rfl⟩
  rw [← ed] at l1 l2 l3 hp
  obtain ⟨p, ep⟩ : ∃ p, p = d + d / 65536 := ⟨_, rfl⟩
  rw [← ep] at l2 l3 hp
  obtain ⟨f, ef⟩ : ∃ f, f = p + p / 4294967296 := ⟨_, rfl⟩
  rw [← ef] at l3 hp
  have q1 : IntKind.u64.wrap (bits BinOp.and IntKind.u64 ((x : Int) / 2) 6148914691236517205 + bits BinOp.and IntKind.u64 (x : Int) 6148914691236517205) = a := by
    rw [div_k x 2 2 rfl, and_k (x / 2) 6148914691236517205 6148914691236517205 rfl (by omega) (by decide), and_k x 6148914691236517205 6148914691236517205 rfl hx (by decide), ← Int.natCast_add, ← ea, u64_id a la]
  have q2 : IntKind.u64.wrap (bits BinOp.and IntKind.u64 ((a : Int) / 4) 3689348814741910323 + bits BinOp.and IntKind.u64 (a : Int) 3689348814741910323) = b := by
    rw [div_k a 4 4 rfl, and_k (a / 4) 3689348814741910323 3689348814741910323 rfl (by omega) (by decide), and_k a 3689348814741910323 3689348814741910323 rfl la (by decide), ← Int.natCast_add, ← eb, u64_id b lb]
  obtain ⟨b2, eb2⟩ : ∃ b2, b2 = b / 16 + b := ⟨_, rfl⟩
  rw [← eb2] at ec lb2
  have q3 : IntKind.u64.wrap ((b : Int) / 16 + (b : Int)) = b2 := by
    rw [div_k b 16 16 rfl, ← Int.natCast_add, ← eb2, u64_id b2 lb2]
  have q4 : bits BinOp.and IntKind.u64 (b2 : Int) 1085102592571150095 = c := by
    rw [and_k b2 1085102592571150095 1085102592571150095 rfl lb2 (by decide), ← ec]
  have q5 : IntKind.u64.wrap ((c : Int) + (c : Int) / 256) = d := by
    rw [div_k c 256 256 rfl, ← Int.natCast_add, ← ed, u64_id d l1]
  have q6 : IntKind.u64.wrap ((d : Int) + (d : Int) / 65536) = p := by
    rw [div_k d 65536 65536 rfl, ← Int.natCast_add, ← ep, u64_id p l2]
  have q7 : IntKind.u64.wrap ((p : Int) + (p : Int) / 4294967296) = f := by
    rw [div_k p 4294967296 4294967296 rfl, ← Int.natCast_add, ← ef, u64_id f (by omega)]
  have hv : bits BinOp.and IntKind.i64 (f : Int) 127 = (Pop.pop 64 x : Int) := by
    rw [i64_and127, ← hp]; exact (Int.natCast_emod f 128).symm
  have l9 : f ≤ 9223372036854775807 := by omega
  clear ea eb ec ed ep ef eb2 hp
  go_enter Tryd.func74, Tryd.ntmps74
  go_wp2_with fail
  go_ret
  exact ⟨rfl, rfl⟩
set_option maxRecDepth 20000 in
set_option maxHeartbeats 1600000 in
theorem mAt (w : World) (g T : Nat) (c : Value) (r cap : Nat) (n i : Nat) (y : Nat) (h1 : w.heap[g]? = some (.cells #[c, .slice (some ⟨r, 0, none⟩) n cap] T)) (hi : i / 64 < n) (hn : n ≤ maxLen) (hy : w.cell? ⟨r, i / 64, none⟩ = some (.int .u64 y)) (hy2 : y < 18446744073709551616) (hil : i < 9223372036854775808) :
    Calls Tryd.prog 63 #[.pointer (some ⟨g, 1, none⟩), .int .i64 i] w fun e w' => e = .returned (.bool (y / 2 ^ (i % 64) % 2 == 1)) ∧ w = w' := by
  have c1 : w.cell? ⟨g, 1, none⟩ = some (.slice (some ⟨r, 0, none⟩) n cap) := cell_of h1 1 rfl
  unfold maxLen at hn
  have hlt : y / 2 ^ (i % 64) < 18446744073709551616 := Nat.lt_of_le_of_lt (Nat.div_le_self _ _) hy2
  have hv : (bits BinOp.and IntKind.u64 ((y : Int) / 2 ^ (i % 64)) 1 == 1) = (y / 2 ^ (i % 64) % 2 == 1) := by
    rw [div_k y (2 ^ (i % 64)) ((2 : Int) ^ (i % 64)) (by rw [Int.natCast_pow]; rfl)]
    generalize y / 2 ^ (i % 64) = z at *
    rw [and_one_u64 _ (by omega) (by omega)]
    rw [Bool.eq_iff_iff]; simp; omega
  have HV := Lib.hid hv
  clear hv hlt
  go_enter Tryd.func63, Tryd.ntmps63
  go_wp2_with fail
  go_ret
  exact ⟨by rw [← HV.out]; rfl, rfl⟩
end Go.Proofs.YtffbcccbhofbpaaDoor
