/- The document's own text of a number: as many digits as it has; no two numbers have one text. -/
import Derived.Test.YtffbcccbhofbpaaDoorE1
namespace Go.Proofs.YtffbcccbhofbpaaDoor
open Go.RowKit

/-- The digits of n. -/
def natT (n : Nat) : List UInt8 := if n < 10 then [UInt8.ofNat (48 + n)] else natT (n / 10) ++ [UInt8.ofNat (48 + n % 10)]
termination_by n
decreasing_by omega
def numT (z : Int) : ByteArray := ⟨(if z < 0 then 45 :: natT (-z).toNat else natT z.toNat).toArray⟩
def valT (l : List UInt8) : Nat := l.foldl (fun a c => 10 * a + (c.toNat - 48)) 0
theorem valT_natT (n : Nat) : valT (natT n) = n := by
  induction n using Nat.strongRecOn with
  | ind n ih =>
    unfold natT
    split
    · rename_i h
      simp only [valT, List.foldl]
      have : (UInt8.ofNat (48 + n)).toNat = 48 + n := by simp; omega
      rw [this]; omega
    · rename_i h
      have i1 := ih (n / 10) (by omega)
      unfold valT at i1 ⊢
      rw [List.foldl_append, i1]
      simp only [List.foldl]
      have : (UInt8.ofNat (48 + n % 10)).toNat = 48 + n % 10 := by simp; omega
      rw [this]; omega
theorem natT_digit (n : Nat) : ∀ c ∈ natT n, 48 ≤ c.toNat := by
  induction n using Nat.strongRecOn with
  | ind n ih =>
    unfold natT
    split
    · rename_i h
      intro c hc
      obtain rfl : c = UInt8.ofNat (48 + n) := by simpa using hc
      have : (UInt8.ofNat (48 + n)).toNat = 48 + n := by simp; omega
      omega
    · rename_i h
      intro c hc
      rcases List.mem_append.1 hc with hc | hc
      · exact ih (n / 10) (by omega) c hc
      · obtain rfl : c = UInt8.ofNat (48 + n % 10) := by simpa using hc
        have : (UInt8.ofNat (48 + n % 10)).toNat = 48 + n % 10 := by simp; omega
        omega
theorem numT_inj (a b : Int) (h : numT a = numT b) : a = b := by
  have e : (if a < 0 then 45 :: natT (-a).toNat else natT a.toNat) = (if b < 0 then 45 :: natT (-b).toNat else natT b.toNat) := by
    unfold numT at h
    injection h with h
    exact List.toArray_inj h
  have no : ∀ n l, natT n = 45 :: l → False := fun n l q => by
    have := natT_digit n 45 (by rw [q]; simp)
    have h45 : (45 : UInt8).toNat = 45 := rfl
    omega
  split at e <;> split at e
  · rename_i h1 h2
    have := congrArg valT (List.cons.inj e).2
    rw [valT_natT, valT_natT] at this
    omega
  · exact (no _ _ e.symm).elim
  · exact (no _ _ e).elim
  · have := congrArg valT e
    rw [valT_natT, valT_natT] at this
    omega
theorem natT_len (n : Nat) : (natT n).length ≤ n + 1 := by
  induction n using Nat.strongRecOn with
  | ind n ih =>
    unfold natT
    split
    · simp
    · have := ih (n / 10) (by omega)
      rw [List.length_append]; simp; omega
theorem natT_short : ∀ (k n : Nat), n < 10 ^ k → (natT n).length ≤ k + 1
  | 0, n, h => by
    have : n = 0 := by simpa using h
    subst this
    unfold natT; simp
  | k + 1, n, h => by
    unfold natT
    split
    · simp
    · have hh : n / 10 < 10 ^ k := by rw [Nat.pow_succ] at h; exact Nat.div_lt_of_lt_mul (by omega)
      have := natT_short k (n / 10) hh
      rw [List.length_append]; simp; omega
theorem one_byte (w : World) (d : UInt8) : (convert 103 9 (.slice (some ⟨w.heap.size, 0, none⟩) 1 1)).run Tryd.prog (w.alloc (.cells #[.int .u8 (d.toNat : Int)] 5)) = .ok (.string ⟨#[d]⟩) (w.alloc (.cells #[.int .u8 (d.toNat : Int)] 5)) :=
  run_convert_bytes_back _ 103 9 5 ⟨w.heap.size, 0, none⟩ 1 [d] Tryd.underlying103 Tryd.underlying5 Tryd.underlying9 (fun i hi => by
    have h0 : i = 0 := by simpa using hi
    subst h0
    exact cell_of (heap_new _ _ rfl) 0 rfl)
set_option maxRecDepth 20000 in
set_option maxHeartbeats 3200000 in
theorem numberLow (n : Nat) (h : n < 10) (w : World) : Calls Tryd.prog 18 #[.int .i64 n] w fun e w' => e = .returned (.string ⟨(natT n).toArray⟩) ∧ Below w.heap.size w w' := by
  have hn : n = 0 ∨ n = 1 ∨ n = 2 ∨ n = 3 ∨ n = 4 ∨ n = 5 ∨ n = 6 ∨ n = 7 ∨ n = 8 ∨ n = 9 := by omega
  have ht : natT n = [UInt8.ofNat (48 + n)] := by unfold natT; rw [if_pos h]
  rw [ht]
  clear ht
  rcases hn with rfl | rfl | rfl | rfl | rfl | rfl | rfl | rfl | rfl | rfl
  · have hc : (convert 103 9 (.slice (some ⟨w.heap.size, 0, none⟩) 1 1)).run Tryd.prog (w.alloc (.cells #[.int .u8 48] 5)) = .ok (.string ⟨#[48]⟩) (w.alloc (.cells #[.int .u8 48] 5)) := one_byte w 48
    go_enter Tryd.func18, Tryd.ntmps18
    go_wp2_with fail
    go_ret
    exact ⟨rfl, below1 _ _⟩
  · have hc : (convert 103 9 (.slice (some ⟨w.heap.size, 0, none⟩) 1 1)).run Tryd.prog (w.alloc (.cells #[.int .u8 49] 5)) = .ok (.string ⟨#[49]⟩) (w.alloc (.cells #[.int .u8 49] 5)) := one_byte w 49
    go_enter Tryd.func18, Tryd.ntmps18
    go_wp2_with fail
    go_ret
    exact ⟨rfl, below1 _ _⟩
  · have hc : (convert 103 9 (.slice (some ⟨w.heap.size, 0, none⟩) 1 1)).run Tryd.prog (w.alloc (.cells #[.int .u8 50] 5)) = .ok (.string ⟨#[50]⟩) (w.alloc (.cells #[.int .u8 50] 5)) := one_byte w 50
    go_enter Tryd.func18, Tryd.ntmps18
    go_wp2_with fail
    go_ret
    exact ⟨rfl, below1 _ _⟩
  · have hc : (convert 103 9 (.slice (some ⟨w.heap.size, 0, none⟩) 1 1)).run Tryd.prog (w.alloc (.cells #[.int .u8 51] 5)) = .ok (.string ⟨#[51]⟩) (w.alloc (.cells #[.int .u8 51] 5)) := one_byte w 51
    go_enter Tryd.func18, Tryd.ntmps18
    go_wp2_with fail
    go_ret
    exact ⟨rfl, below1 _ _⟩
  · have hc : (convert 103 9 (.slice (some ⟨w.heap.size, 0, none⟩) 1 1)).run Tryd.prog (w.alloc (.cells #[.int .u8 52] 5)) = .ok (.string ⟨#[52]⟩) (w.alloc (.cells #[.int .u8 52] 5)) := one_byte w 52
    go_enter Tryd.func18, Tryd.ntmps18
    go_wp2_with fail
    go_ret
    exact ⟨rfl, below1 _ _⟩
  · have hc : (convert 103 9 (.slice (some ⟨w.heap.size, 0, none⟩) 1 1)).run Tryd.prog (w.alloc (.cells #[.int .u8 53] 5)) = .ok (.string ⟨#[53]⟩) (w.alloc (.cells #[.int .u8 53] 5)) := one_byte w 53
    go_enter Tryd.func18, Tryd.ntmps18
    go_wp2_with fail
    go_ret
    exact ⟨rfl, below1 _ _⟩
  · have hc : (convert 103 9 (.slice (some ⟨w.heap.size, 0, none⟩) 1 1)).run Tryd.prog (w.alloc (.cells #[.int .u8 54] 5)) = .ok (.string ⟨#[54]⟩) (w.alloc (.cells #[.int .u8 54] 5)) := one_byte w 54
    go_enter Tryd.func18, Tryd.ntmps18
    go_wp2_with fail
    go_ret
    exact ⟨rfl, below1 _ _⟩
  · have hc : (convert 103 9 (.slice (some ⟨w.heap.size, 0, none⟩) 1 1)).run Tryd.prog (w.alloc (.cells #[.int .u8 55] 5)) = .ok (.string ⟨#[55]⟩) (w.alloc (.cells #[.int .u8 55] 5)) := one_byte w 55
    go_enter Tryd.func18, Tryd.ntmps18
    go_wp2_with fail
    go_ret
    exact ⟨rfl, below1 _ _⟩
  · have hc : (convert 103 9 (.slice (some ⟨w.heap.size, 0, none⟩) 1 1)).run Tryd.prog (w.alloc (.cells #[.int .u8 56] 5)) = .ok (.string ⟨#[56]⟩) (w.alloc (.cells #[.int .u8 56] 5)) := one_byte w 56
    go_enter Tryd.func18, Tryd.ntmps18
    go_wp2_with fail
    go_ret
    exact ⟨rfl, below1 _ _⟩
  · have hc : (convert 103 9 (.slice (some ⟨w.heap.size, 0, none⟩) 1 1)).run Tryd.prog (w.alloc (.cells #[.int .u8 57] 5)) = .ok (.string ⟨#[57]⟩) (w.alloc (.cells #[.int .u8 57] 5)) := one_byte w 57
    go_enter Tryd.func18, Tryd.ntmps18
    go_wp2_with fail
    go_ret
    exact ⟨rfl, below1 _ _⟩
set_option maxRecDepth 20000 in
set_option maxHeartbeats 3200000 in
theorem numberStep (n : Nat) (h : 10 ≤ n) (hl : n < 2 ^ 63) (w : World) (ih : ∀ w : World, Calls Tryd.prog 18 #[.int .i64 ((n : Int) / 10)] w fun e w' => e = .returned (.string ⟨(natT (n / 10)).toArray⟩) ∧ Below w.heap.size w w') :
    Calls Tryd.prog 18 #[.int .i64 n] w fun e w' => e = .returned (.string ⟨(natT n).toArray⟩) ∧ Below w.heap.size w w' := by
  have ht : natT n = natT (n / 10) ++ [UInt8.ofNat (48 + n % 10)] := by rw [natT, if_neg (by omega)]
  rw [ht]
  clear ht
  have hc := one_byte w (UInt8.ofNat (48 + n % 10))
  have hd : ((UInt8.ofNat (48 + n % 10)).toNat : Int) = 48 + (n : Int) % 10 := by
    have : (UInt8.ofNat (48 + n % 10)).toNat = 48 + n % 10 := by simp; omega
    rw [this]; omega
  rw [hd] at hc
  clear hd
  generalize UInt8.ofNat (48 + n % 10) = c at hc ⊢
  have htl : ¬9223372036854775807 < (natT (n / 10)).length + 1 := by
    have := natT_short 19 (n / 10) (by omega)
    omega
  generalize natT (n / 10) = t at ih htl ⊢
  go_enter Tryd.func18, Tryd.ntmps18
  go_wp2_with (go_at_call 18; (with_reducible refine (ih _).mono ?_); rintro e w2 ⟨rfl, hb2⟩)
  go_ret
  refine ⟨?_, below_any (below1 w _) hb2 (below1 w _).size⟩
  refine congrArg (fun x => Ending.returned (.string x)) (ByteArray.ext ?_)
  simp [ByteArray.data_append]
theorem numberNat (n : Nat) : n < 2 ^ 63 → ∀ w : World, Calls Tryd.prog 18 #[.int .i64 n] w fun e w' => e = .returned (.string ⟨(natT n).toArray⟩) ∧ Below w.heap.size w w' := by
  induction n using Nat.strongRecOn with
  | ind n ih =>
    intro hl w
    by_cases h : n < 10
    · exact numberLow n h w
    · refine numberStep n (by omega) hl w fun w => ?_
      have e : (n : Int) / 10 = ((n / 10 : Nat) : Int) := by omega
      rw [e]
      exact ih (n / 10) (by omega) (by omega) w
set_option maxRecDepth 20000 in
set_option maxHeartbeats 3200000 in
theorem numberOf (z : Int) (h0 : -9223372036854775808 ≤ z) (h1 : z < 9223372036854775808) (w : World) : Calls Tryd.prog 18 #[.int .i64 z] w fun e w' => e = .returned (.string (numT z)) ∧ Below w.heap.size w w' := by
  by_cases hz : z < 0
  · by_cases hm : z = -9223372036854775808
    · subst hm
      have ht : numT (-9223372036854775808) = ⟨#[45, 57, 50, 50, 51, 51, 55, 50, 48, 51, 54, 56, 53, 52, 55, 55, 53, 56, 48, 56]⟩ := by
        simp [numT, natT]
      rw [ht]
      go_enter Tryd.func18, Tryd.ntmps18
      go_wp2_with fail
      go_ret
      exact ⟨rfl, Below.refl _ _⟩
    · have ih : ∀ w : World, Calls Tryd.prog 18 #[.int .i64 (-z)] w fun e w' => e = .returned (.string ⟨(natT (-z).toNat).toArray⟩) ∧ Below w.heap.size w w' := fun w => by
        have e : -z = ((-z).toNat : Int) := by omega
        rw [e]
        exact numberNat _ (by omega) w
      have ht : numT z = ⟨#[45] ++ (natT (-z).toNat).toArray⟩ := by
        simp [numT, hz]
      rw [ht]
      have htl : ¬9223372036854775807 < 1 + (natT (-z).toNat).length := by
        have := natT_short 19 (-z).toNat (by omega)
        omega
      generalize natT (-z).toNat = t at ih htl ⊢
      have hm' : (z == -9223372036854775808) = false := by simpa using hm
      go_enter Tryd.func18, Tryd.ntmps18
      go_wp2_with (go_at_call 18; (with_reducible refine (ih _).mono ?_); rintro e w2 ⟨rfl, hb2⟩)
      go_ret
      refine ⟨?_, hb2⟩
      refine congrArg (fun x => Ending.returned (.string x)) (ByteArray.ext ?_)
      simp [ByteArray.data_append]
  · obtain ⟨n, rfl⟩ : ∃ n : Nat, z = n := ⟨z.toNat, by omega⟩
    have := numberNat n (by omega) w
    have e : numT n = ⟨(natT n).toArray⟩ := by
      unfold numT; rw [if_neg (by omega)]; rfl
    rw [e]; exact this
end Go.Proofs.YtffbcccbhofbpaaDoor
