/- Whether a text may be an address, a name; whether a value is bare. -/
import Derived.Test.YtffbcccbhofbpaaDoorN0
import Derived.BigGuardPart
namespace Go.Proofs.YtffbcccbhofbpaaDoor
open Go.RowKit

def letterB (c : UInt8) : Bool := (decide (97 ≤ c.toNat) && decide (c.toNat ≤ 122)) || (decide (65 ≤ c.toNat) && decide (c.toNat ≤ 90)) || decide (c.toNat = 95)
def digitB (c : UInt8) : Bool := decide (48 ≤ c.toNat) && decide (c.toNat ≤ 57)
def addrC (c : UInt8) : Bool := decide (32 < c.toNat) && decide (c.toNat ≠ 60) && decide (c.toNat ≠ 62)
def addrP (s : ByteArray) : Bool := decide (0 < s.size ∧ s.size ≤ 1048576 ∧ ∀ j (h : j < s.size), addrC s[j] = true)
def nameC (j : Nat) (c : UInt8) : Bool := letterB c || (decide (j ≠ 0) && digitB c)
def nameP (s : ByteArray) : Bool := decide (0 < s.size ∧ s.size ≤ 64 ∧ ∀ j (h : j < s.size), nameC j s[j] = true)
theorem empty_iff (s : ByteArray) : s.toList.isEmpty = true ↔ s.size = 0 := by
  rw [ByteArray.toList_eq, List.isEmpty_iff_length_eq_zero]
  simp
theorem pastAll {s : ByteArray} {p : Nat → UInt8 → Bool} {k : Nat} (h : k < s.size) (ha : ∀ j (h : j < s.size), j < k → p j s[j] = true) (hk : p k s[k] = true) : ∀ j (h : j < s.size), j < k + 1 → p j s[j] = true := by
  intro j hj hlt
  by_cases e : j = k
  · subst e
    exact hk
  · exact ha j hj (by omega)


theorem letterB_of {c : UInt8} {b : Bool} (h : b = true ↔ ((97 : Int) ≤ c.toNat ∧ (c.toNat : Int) ≤ 122) ∨ ((65 : Int) ≤ c.toNat ∧ (c.toNat : Int) ≤ 90) ∨ (c.toNat : Int) = 95) : b = letterB c := by
  rw [Bool.eq_iff_iff, h]
  simp only [letterB, Bool.or_eq_true, Bool.and_eq_true, decide_eq_true_eq]
  omega
theorem letterAt (c : UInt8) (r : Bool) (hr : r = letterB c) (w : World) : Calls Tryd.prog 89 #[.int .u8 c.toNat] w fun e w' => e = .returned (.bool r) ∧ w = w' := by
  by_cases a1 : (97 : Int) ≤ c.toNat
  · by_cases a2 : (c.toNat : Int) ≤ 122
    · obtain rfl : r = true := by rw [hr]; exact (letterB_of (by simp [a1, a2])).symm
      clear hr
      go_enter Tryd.func89, Tryd.ntmps89
      go_wp2_with fail
      go_ret
      exact ⟨rfl, rfl⟩
    · obtain rfl : r = false := by rw [hr]; exact (letterB_of (by simp; omega)).symm
      clear hr
      have a3 : (65 : Int) ≤ c.toNat := by omega
      have a4 : ¬ (c.toNat : Int) ≤ 90 := by omega
      have a5 : ¬ (c.toNat : Int) = 95 := by omega
      go_enter Tryd.func89, Tryd.ntmps89
      go_wp2_with fail
      go_ret
      exact ⟨by simp [a5] <;> rfl, rfl⟩
  · by_cases a3 : (65 : Int) ≤ c.toNat
    · by_cases a4 : (c.toNat : Int) ≤ 90
      · obtain rfl : r = true := by rw [hr]; exact (letterB_of (by simp [a3, a4])).symm
        clear hr
        go_enter Tryd.func89, Tryd.ntmps89
        go_wp2_with fail
        go_ret
        exact ⟨rfl, rfl⟩
      · have hv : r = ((c.toNat : Int) == 95) := by rw [hr]; exact (letterB_of (by simp; omega)).symm
        clear hr
        go_enter Tryd.func89, Tryd.ntmps89
        go_wp2_with fail
        go_ret
        exact ⟨rfl, rfl⟩
    · have a5 : ¬ (c.toNat : Int) = 95 := by omega
      obtain rfl : r = false := by rw [hr]; exact (letterB_of (by simp; omega)).symm
      clear hr
      go_enter Tryd.func89, Tryd.ntmps89
      go_wp2_with fail
      go_ret
      exact ⟨by simp [a5] <;> rfl, rfl⟩
theorem digitAt46 (c : UInt8) (r : Bool) (hr : r = digitB c) (w : World) : Calls Tryd.prog 90 #[.int .u8 c.toNat] w fun e w' => e = .returned (.bool r) ∧ w = w' := by
  by_cases a1 : (48 : Int) ≤ c.toNat
  · have hv : r = decide ((c.toNat : Int) ≤ 57) := by rw [hr, Bool.eq_iff_iff]; simp [digitB]; omega
    clear hr
    go_enter Tryd.func90, Tryd.ntmps90
    go_wp2_with fail
    go_ret
    exact ⟨by rw [hv]; rfl, rfl⟩
  · have hv : r = false := by rw [hr, Bool.eq_false_iff]; simp [digitB]; omega
    clear hr
    subst hv
    go_enter Tryd.func90, Tryd.ntmps90
    go_wp2_with fail
    go_ret
    exact ⟨rfl, rfl⟩


theorem addr_no {s : ByteArray} {k : Nat} (h : k < s.size) (hk : addrC s[k] = false) : addrP s = false := by
  unfold addrP
  rw [decide_eq_false_iff_not]
  rintro ⟨_, _, ha⟩
  rw [ha k h] at hk
  exact absurd hk (by simp)
set_option maxHeartbeats 800000 in
theorem isAddressAt (s : ByteArray) (w : World) (hs : s.size ≤ maxLen) :
    Calls Tryd.prog 84 #[.string s] w fun e w' => e = .returned (.bool (addrP s)) ∧ w = w' := by
  unfold maxLen at hs
  by_cases h0 : s.toList.isEmpty = true
  · have hv : addrP s = false := by
      unfold addrP
      rw [decide_eq_false_iff_not]
      have := (empty_iff s).1 h0
      omega
    rw [hv]
    go_enter Tryd.func84, Tryd.ntmps84
    go_wp2_with fail
    go_ret
    exact ⟨rfl, rfl⟩
  · have h0' : s.toList.isEmpty = false := by simpa using h0
    have hpos : 0 < s.size := by have := mt (empty_iff s).2 h0; omega
    by_cases hbig : (1048576 : Int) < s.size
    · have hv : addrP s = false := by
        unfold addrP
        rw [decide_eq_false_iff_not]
        omega
      rw [hv]
      go_enter Tryd.func84, Tryd.ntmps84
      go_wp2_with fail
      go_ret
      exact ⟨rfl, rfl⟩
    · go_enter Tryd.func84, Tryd.ntmps84
      go_wp2_with fail
      go_loop [13] (fun i => ∃ k : Nat, k ≤ s.size ∧ i = .int .i64 k ∧ ∀ j (h : j < s.size), j < k → addrC s[j] = true) (fun i => s.size - (intOf i).toNat)
      case atStart => exact ⟨0, Nat.zero_le _, rfl, fun j _ h => absurd h (by omega)⟩
      case round =>
        obtain ⟨k, hk, rfl, hall⟩ := hrel
        have HA := Lib.hid hall
        clear hall
        by_cases hlt : k < s.size
        · by_cases h1 : (s[k].toNat : Int) ≤ 32
          · go_wp2_with fail
            go_ret
            exact ⟨by rw [addr_no hlt (by simp [addrC]; omega)]; rfl, rfl⟩
          · by_cases h2 : (s[k].toNat : Int) = 60
            · go_wp2_with fail
              go_ret
              exact ⟨by rw [addr_no hlt (by simp [addrC]; omega)]; rfl, rfl⟩
            · by_cases h3 : (s[k].toNat : Int) = 62
              · go_wp2_with fail
                go_ret
                exact ⟨by rw [addr_no hlt (by simp [addrC]; omega)]; rfl, rfl⟩
              · go_wp2_with fail
                go_round
                case rel => exact ⟨k + 1, by omega, by go_num, pastAll (p := fun _ => addrC) hlt HA.out (by simp [addrC]; omega)⟩
                case measure => simp [intOf]; omega
        · go_wp2_with fail
          go_ret
          have hv : addrP s = true := by
            unfold addrP
            rw [decide_eq_true_eq]
            exact ⟨hpos, by omega, fun j hj => HA.out j hj (by omega)⟩
          exact ⟨by rw [hv]; rfl, rfl⟩


theorem name_no {s : ByteArray} {k : Nat} (h : k < s.size) (hk : nameC k s[k] = false) : nameP s = false := by
  unfold nameP
  rw [decide_eq_false_iff_not]
  rintro ⟨_, _, ha⟩
  rw [ha k h] at hk
  exact absurd hk (by simp)
set_option maxHeartbeats 800000 in
theorem isNameAt (s : ByteArray) (w : World) (hs : s.size ≤ maxLen) :
    Calls Tryd.prog 85 #[.string s] w fun e w' => e = .returned (.bool (nameP s)) ∧ w = w' := by
  unfold maxLen at hs
  by_cases h0 : s.toList.isEmpty = true
  · have hv : nameP s = false := by
      unfold nameP
      rw [decide_eq_false_iff_not]
      have := (empty_iff s).1 h0
      omega
    rw [hv]
    go_enter Tryd.func85, Tryd.ntmps85
    go_wp2_with fail
    go_ret
    exact ⟨rfl, rfl⟩
  · have h0' : s.toList.isEmpty = false := by simpa using h0
    have hpos : 0 < s.size := by have := mt (empty_iff s).2 h0; omega
    by_cases hbig : (64 : Int) < s.size
    · have hv : nameP s = false := by
        unfold nameP
        rw [decide_eq_false_iff_not]
        omega
      rw [hv]
      go_enter Tryd.func85, Tryd.ntmps85
      go_wp2_with fail
      go_ret
      exact ⟨rfl, rfl⟩
    · go_enter Tryd.func85, Tryd.ntmps85
      go_wp2_with fail
      go_loop [13] (fun i => ∃ k : Nat, k ≤ s.size ∧ i = .int .i64 k ∧ ∀ j (h : j < s.size), j < k → nameC j s[j] = true) (fun i => s.size - (intOf i).toNat)
      case atStart => exact ⟨0, Nat.zero_le _, rfl, fun j _ h => absurd h (by omega)⟩
      case round =>
        obtain ⟨k, hk, rfl, hall⟩ := hrel
        have HA := Lib.hid hall
        clear hall
        by_cases hlt : k < s.size
        · by_cases h1 : letterB s[k] = true
          · have H1 := Lib.hid h1
            clear h1
            go_wp2_with (go_at_call 89; (with_reducible refine (letterAt s[k] true H1.out.symm _).mono ?_); rintro e w' ⟨rfl, rfl⟩)
            go_round
            case rel => exact ⟨k + 1, by omega, by go_num, pastAll (p := nameC) hlt HA.out (by simp [nameC, H1.out])⟩
            case measure => simp [intOf]; omega
          · have H1 : Hid (letterB s[k] = false) := Lib.hid (by simpa using h1)
            clear h1
            by_cases h2 : k = 0
            · subst h2
              go_wp2_with (go_at_call 89; (with_reducible refine (letterAt s[0] false H1.out.symm _).mono ?_); rintro e w' ⟨rfl, rfl⟩)
              go_ret
              exact ⟨by rw [name_no hlt (by simp [nameC, H1.out])]; rfl, rfl⟩
            · have h2i : ¬ (k : Int) = 0 := by omega
              by_cases h3 : digitB s[k] = true
              · have H3 := Lib.hid h3
                clear h3
                go_wp2_with (first
                  | (go_at_call 89; (with_reducible refine (letterAt s[k] false H1.out.symm _).mono ?_); rintro e w' ⟨rfl, rfl⟩)
                  | (go_at_call 90; (with_reducible refine (digitAt46 s[k] true H3.out.symm _).mono ?_); rintro e w' ⟨rfl, rfl⟩))
                go_round
                case rel => exact ⟨k + 1, by omega, by go_num, pastAll (p := nameC) hlt HA.out (by simp [nameC, H3.out, h2])⟩
                case measure => simp [intOf]; omega
              · have H3 : Hid (digitB s[k] = false) := Lib.hid (by simpa using h3)
                clear h3
                go_wp2_with (first
                  | (go_at_call 89; (with_reducible refine (letterAt s[k] false H1.out.symm _).mono ?_); rintro e w' ⟨rfl, rfl⟩)
                  | (go_at_call 90; (with_reducible refine (digitAt46 s[k] false H3.out.symm _).mono ?_); rintro e w' ⟨rfl, rfl⟩))
                go_ret
                exact ⟨by rw [name_no hlt (by simp [nameC, H1.out, H3.out])]; rfl, rfl⟩
        · go_wp2_with fail
          go_ret
          have hv : nameP s = true := by
            unfold nameP
            rw [decide_eq_true_eq]
            exact ⟨hpos, by omega, fun j hj => HA.out j hj (by omega)⟩
          exact ⟨by rw [hv]; rfl, rfl⟩
end Go.Proofs.YtffbcccbhofbpaaDoor
