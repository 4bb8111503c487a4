/- Texts of one kind, one behind the other: each says ahead of itself what it shows. -/
import Derived.Test.YtoifjjgakblhhaaGreatDoorA0m
import Derived.Test.YtoifjjgakblhhaaGreatDoorS1m
import Derived.BigGuardPart
/- The small questions about one value: its kind. -/
namespace Go.Proofs.YtoifjjgakblhhaaGreatDoor
open Go.RowKit

theorem below1 (w : World) (o : Obj) : Below w.heap.size w (w.alloc o) := (Below.refl _ _).alloc (Nat.le_refl _) _
theorem below2 (w : World) (o p : Obj) : Below w.heap.size w ((w.alloc o).alloc p) := (below1 w o).alloc (by simp) _

theorem isNumberAt (k : Int) (b : Bool) (n : Int) (t x : ByteArray) (L : Value) (w : World) :
    Calls Tryz.prog 50 #[.agg #[.int .i64 k, .bool b, .int .i64 n, .string t, .string x, L]] w fun e w' => e = .returned (.bool (k == 2 || k == 3)) ∧ Below w.heap.size w w' := by
  have h0 : (w.alloc (.cells #[.int .i64 k, .bool b, .int .i64 n, .string t, .string x, L] 28)).cell? ⟨w.heap.size, 0, none⟩ = some (.int .i64 k) := cell_of (heap_new _ _ rfl) _ rfl
  by_cases h : k = 2
  · subst h
    go_enter Tryz.func50, Tryz.ntmps50
    go_wp2_with fail
    go_ret
    exact ⟨rfl, below1 _ _⟩
  · have e : (k == 2) = false := by simpa using h
    go_enter Tryz.func50, Tryz.ntmps50
    go_wp2_with fail
    go_ret
    exact ⟨by rw [e]; rfl, below1 _ _⟩

theorem truthOfAt (b : Bool) (w : World) : Calls Tryz.prog 51 #[.bool b] w fun e w' => e = .returned (.int .i64 (if b then 1 else 0)) ∧ w = w' := by
  cases b
  all_goals
    go_enter Tryz.func51, Tryz.ntmps51
    go_wp2_with fail
    go_ret
    exact ⟨rfl, rfl⟩

theorem bothAreAt (q k : Int) (b : Bool) (n : Int) (t x : ByteArray) (L : Value) (k2 : Int) (b2 : Bool) (n2 : Int) (t2 x2 : ByteArray) (L2 : Value) (w : World) :
    Calls Tryz.prog 53 #[.int .i64 q, .agg #[.int .i64 k, .bool b, .int .i64 n, .string t, .string x, L], .agg #[.int .i64 k2, .bool b2, .int .i64 n2, .string t2, .string x2, L2]] w fun e w' => e = .returned (.bool (k == q && k2 == q)) ∧ Below w.heap.size w w' := by
  have h0 : ((w.alloc (.cells #[.int .i64 k, .bool b, .int .i64 n, .string t, .string x, L] 28)).alloc (.cells #[.int .i64 k2, .bool b2, .int .i64 n2, .string t2, .string x2, L2] 28)).cell? ⟨w.heap.size, 0, none⟩ = some (.int .i64 k) := cell_of (heap_old _ (heap_new _ _ rfl)) _ rfl
  have h1 : ((w.alloc (.cells #[.int .i64 k, .bool b, .int .i64 n, .string t, .string x, L] 28)).alloc (.cells #[.int .i64 k2, .bool b2, .int .i64 n2, .string t2, .string x2, L2] 28)).cell? ⟨w.heap.size + 1, 0, none⟩ = some (.int .i64 k2) := cell_of (heap_new _ _ (by simp)) _ rfl
  by_cases h : k = q
  · subst h
    go_enter Tryz.func53, Tryz.ntmps53
    go_wp2_with fail
    go_ret
    exact ⟨by simp, below2 _ _ _⟩
  · have e : (k == q) = false := by simpa using h
    go_enter Tryz.func53, Tryz.ntmps53
    go_wp2_with fail
    go_ret
    exact ⟨by rw [e]; rfl, below2 _ _ _⟩

theorem isGraphsAt (k : Int) (b : Bool) (n : Int) (t x : ByteArray) (L : Value) (w : World) :
    Calls Tryz.prog 84 #[.agg #[.int .i64 k, .bool b, .int .i64 n, .string t, .string x, L]] w fun e w' => e = .returned (.bool (k == 5 || k == 6 || k == 7)) ∧ Below w.heap.size w w' := by
  have h0 : (w.alloc (.cells #[.int .i64 k, .bool b, .int .i64 n, .string t, .string x, L] 28)).cell? ⟨w.heap.size, 0, none⟩ = some (.int .i64 k) := cell_of (heap_new _ _ rfl) _ rfl
  by_cases h : k = 5
  · subst h
    go_enter Tryz.func84, Tryz.ntmps84
    go_wp2_with fail
    go_ret
    exact ⟨rfl, below1 _ _⟩
  · have e : (k == 5) = false := by simpa using h
    by_cases h6 : k = 6
    · subst h6
      go_enter Tryz.func84, Tryz.ntmps84
      go_wp2_with fail
      go_ret
      exact ⟨rfl, below1 _ _⟩
    · have e6 : (k == 6) = false := by simpa using h6
      go_enter Tryz.func84, Tryz.ntmps84
      go_wp2_with fail
      go_ret
      exact ⟨by rw [e, e6]; rfl, below1 _ _⟩
end Go.Proofs.YtoifjjgakblhhaaGreatDoor

/- The small type that stands for a value's kind. -/
namespace Go.Proofs.YtoifjjgakblhhaaGreatDoor
open Go.RowKit

/-- The number of the small type that stands for a kind. -/
def kindT (k : Int) : Nat :=
  if k = 0 then 80 else if k = 1 then 81 else if k = 2 then 82 else if k = 3 then 85 else if k = 4 then 87 else if k = 5 then 91 else
  if k = 6 then 83 else if k = 7 then 84 else if k = 8 then 88 else if k = 9 then 89 else if k = 10 then 90 else 124

theorem kindOfAt (k : Int) (b : Bool) (n : Int) (t x : ByteArray) (L : Value) (T : Nat) (hT : T = kindT k) (w : World) :
    Calls Tryz.prog 72 #[.agg #[.int .i64 k, .bool b, .int .i64 n, .string t, .string x, L]] w fun e w' => e = .returned (.iface T (.agg #[])) ∧ Below w.heap.size w w' := by
  have h0 : (w.alloc (.cells #[.int .i64 k, .bool b, .int .i64 n, .string t, .string x, L] 28)).cell? ⟨w.heap.size, 0, none⟩ = some (.int .i64 k) := cell_of (heap_new _ _ rfl) _ rfl
  subst hT
  by_cases h : 0 ≤ k ∧ k ≤ 10
  · obtain ⟨h1, h2⟩ := h
    obtain ⟨j, rfl⟩ : ∃ j : Nat, k = j := ⟨k.toNat, by omega⟩
    have hj : j ≤ 10 := by omega
    clear h1 h2
    match j, hj, h0 with
    | 0, _, h0 | 1, _, h0 | 2, _, h0 | 3, _, h0 | 4, _, h0 | 5, _, h0 | 6, _, h0 | 7, _, h0 | 8, _, h0 | 9, _, h0 | 10, _, h0 =>
      go_enter Tryz.func72, Tryz.ntmps72
      go_wp2_with fail
      go_ret
      exact ⟨rfl, below1 _ _⟩
  · have e0 : k ≠ 0 := by omega
    have e1 : k ≠ 1 := by omega
    have e2 : k ≠ 2 := by omega
    have e3 : k ≠ 3 := by omega
    have e4 : k ≠ 4 := by omega
    have e5 : k ≠ 5 := by omega
    have e6 : k ≠ 6 := by omega
    have e7 : k ≠ 7 := by omega
    have e8 : k ≠ 8 := by omega
    have e9 : k ≠ 9 := by omega
    have e10 : k ≠ 10 := by omega
    have hv : kindT k = 124 := by simp [kindT, e0, e1, e2, e3, e4, e5, e6, e7, e8, e9, e10]
    rw [hv]
    clear h hv
    go_enter Tryz.func72, Tryz.ntmps72
    go_wp2_with fail
    go_ret
    exact ⟨rfl, below1 _ _⟩
end Go.Proofs.YtoifjjgakblhhaaGreatDoor

/- Whether a text may be an address, a name; whether a value is bare. -/
namespace Go.Proofs.YtoifjjgakblhhaaGreatDoor
open Go.RowKit

def letterB (c : UInt8) : Bool := (decide (97 ≤ c.toNat) && decide (c.toNat ≤ 122)) || (decide (65 ≤ c.toNat) && decide (c.toNat ≤ 90)) || decide (c.toNat = 95)
def digitB (c : UInt8) : Bool := decide (48 ≤ c.toNat) && decide (c.toNat ≤ 57)
def addrC (c : UInt8) : Bool := decide (32 < c.toNat) && decide (c.toNat ≠ 60) && decide (c.toNat ≠ 62)
def addrP (s : ByteArray) : Bool := decide (0 < s.size ∧ s.size ≤ 1048576 ∧ ∀ j (h : j < s.size), addrC s[j] = true)
def nameC (j : Nat) (c : UInt8) : Bool := letterB c || (decide (j ≠ 0) && digitB c)
def nameP (s : ByteArray) : Bool := decide (0 < s.size ∧ s.size ≤ 64 ∧ ∀ j (h : j < s.size), nameC j s[j] = true)
theorem empty_iff (s : ByteArray) : s.toList.isEmpty = true ↔ s.size = 0 := by
  rw [ByteArray.toList_eq, List.isEmpty_iff_length_eq_zero]
  simp
theorem pastAll {s : ByteArray} {p : Nat → UInt8 → Bool} {k : Nat} (h : k < s.size) (ha : ∀ j (h : j < s.size), j < k → p j s[j] = true) (hk : p k s[k] = true) : ∀ j (h : j < s.size), j < k + 1 → p j s[j] = true := by
  intro j hj hlt
  by_cases e : j = k
  · subst e
    exact hk
  · exact ha j hj (by omega)


theorem letterB_of {c : UInt8} {b : Bool} (h : b = true ↔ ((97 : Int) ≤ c.toNat ∧ (c.toNat : Int) ≤ 122) ∨ ((65 : Int) ≤ c.toNat ∧ (c.toNat : Int) ≤ 90) ∨ (c.toNat : Int) = 95) : b = letterB c := by
  rw [Bool.eq_iff_iff, h]
  simp only [letterB, Bool.or_eq_true, Bool.and_eq_true, decide_eq_true_eq]
  omega
theorem letterAt (c : UInt8) (r : Bool) (hr : r = letterB c) (w : World) : Calls Tryz.prog 117 #[.int .u8 c.toNat] w fun e w' => e = .returned (.bool r) ∧ w = w' := by
  by_cases a1 : (97 : Int) ≤ c.toNat
  · by_cases a2 : (c.toNat : Int) ≤ 122
    · obtain rfl : r = true := by rw [hr]; exact (letterB_of (by simp [a1, a2])).symm
      clear hr
      go_enter Tryz.func117, Tryz.ntmps117
      go_wp2_with fail
      go_ret
      exact ⟨rfl, rfl⟩
    · obtain rfl : r = false := by rw [hr]; exact (letterB_of (by simp; omega)).symm
      clear hr
      have a3 : (65 : Int) ≤ c.toNat := by omega
      have a4 : ¬ (c.toNat : Int) ≤ 90 := by omega
      have a5 : ¬ (c.toNat : Int) = 95 := by omega
      go_enter Tryz.func117, Tryz.ntmps117
      go_wp2_with fail
      go_ret
      exact ⟨by simp [a5] <;> rfl, rfl⟩
  · by_cases a3 : (65 : Int) ≤ c.toNat
    · by_cases a4 : (c.toNat : Int) ≤ 90
      · obtain rfl : r = true := by rw [hr]; exact (letterB_of (by simp [a3, a4])).symm
        clear hr
        go_enter Tryz.func117, Tryz.ntmps117
        go_wp2_with fail
        go_ret
        exact ⟨rfl, rfl⟩
      · have hv : r = ((c.toNat : Int) == 95) := by rw [hr]; exact (letterB_of (by simp; omega)).symm
        clear hr
        go_enter Tryz.func117, Tryz.ntmps117
        go_wp2_with fail
        go_ret
        exact ⟨rfl, rfl⟩
    · have a5 : ¬ (c.toNat : Int) = 95 := by omega
      obtain rfl : r = false := by rw [hr]; exact (letterB_of (by simp; omega)).symm
      clear hr
      go_enter Tryz.func117, Tryz.ntmps117
      go_wp2_with fail
      go_ret
      exact ⟨by simp [a5] <;> rfl, rfl⟩
theorem digitAt46 (c : UInt8) (r : Bool) (hr : r = digitB c) (w : World) : Calls Tryz.prog 118 #[.int .u8 c.toNat] w fun e w' => e = .returned (.bool r) ∧ w = w' := by
  by_cases a1 : (48 : Int) ≤ c.toNat
  · have hv : r = decide ((c.toNat : Int) ≤ 57) := by rw [hr, Bool.eq_iff_iff]; simp [digitB]; omega
    clear hr
    go_enter Tryz.func118, Tryz.ntmps118
    go_wp2_with fail
    go_ret
    exact ⟨by rw [hv]; rfl, rfl⟩
  · have hv : r = false := by rw [hr, Bool.eq_false_iff]; simp [digitB]; omega
    clear hr
    subst hv
    go_enter Tryz.func118, Tryz.ntmps118
    go_wp2_with fail
    go_ret
    exact ⟨rfl, rfl⟩


theorem addr_no {s : ByteArray} {k : Nat} (h : k < s.size) (hk : addrC s[k] = false) : addrP s = false := by
  unfold addrP
  rw [decide_eq_false_iff_not]
  rintro ⟨_, _, ha⟩
  rw [ha k h] at hk
  exact absurd hk (by simp)
set_option maxHeartbeats 800000 in
theorem isAddressAt (s : ByteArray) (w : World) (hs : s.size ≤ maxLen) :
    Calls Tryz.prog 74 #[.string s] w fun e w' => e = .returned (.bool (addrP s)) ∧ w = w' := by
  unfold maxLen at hs
  by_cases h0 : s.toList.isEmpty = true
  · have hv : addrP s = false := by
      unfold addrP
      rw [decide_eq_false_iff_not]
      have := (empty_iff s).1 h0
      omega
    rw [hv]
    go_enter Tryz.func74, Tryz.ntmps74
    go_wp2_with fail
    go_ret
    exact ⟨rfl, rfl⟩
  · have h0' : s.toList.isEmpty = false := by simpa using h0
    have hpos : 0 < s.size := by have := mt (empty_iff s).2 h0; omega
    by_cases hbig : (1048576 : Int) < s.size
    · have hv : addrP s = false := by
        unfold addrP
        rw [decide_eq_false_iff_not]
        omega
      rw [hv]
      go_enter Tryz.func74, Tryz.ntmps74
      go_wp2_with fail
      go_ret
      exact ⟨rfl, rfl⟩
    · go_enter Tryz.func74, Tryz.ntmps74
      go_wp2_with fail
      go_loop [13] (fun i => ∃ k : Nat, k ≤ s.size ∧ i = .int .i64 k ∧ ∀ j (h : j < s.size), j < k → addrC s[j] = true) (fun i => s.size - (intOf i).toNat)
      case atStart => exact ⟨0, Nat.zero_le _, rfl, fun j _ h => absurd h (by omega)⟩
      case round =>
        obtain ⟨k, hk, rfl, hall⟩ := hrel
        have HA := Lib.hid hall
        clear hall
        by_cases hlt : k < s.size
        · by_cases h1 : (s[k].toNat : Int) ≤ 32
          · go_wp2_with fail
            go_ret
            exact ⟨by rw [addr_no hlt (by simp [addrC]; omega)]; rfl, rfl⟩
          · by_cases h2 : (s[k].toNat : Int) = 60
            · go_wp2_with fail
              go_ret
              exact ⟨by rw [addr_no hlt (by simp [addrC]; omega)]; rfl, rfl⟩
            · by_cases h3 : (s[k].toNat : Int) = 62
              · go_wp2_with fail
                go_ret
                exact ⟨by rw [addr_no hlt (by simp [addrC]; omega)]; rfl, rfl⟩
              · go_wp2_with fail
                go_round
                case rel => exact ⟨k + 1, by omega, by go_num, pastAll (p := fun _ => addrC) hlt HA.out (by simp [addrC]; omega)⟩
                case measure => simp [intOf]; omega
        · go_wp2_with fail
          go_ret
          have hv : addrP s = true := by
            unfold addrP
            rw [decide_eq_true_eq]
            exact ⟨hpos, by omega, fun j hj => HA.out j hj (by omega)⟩
          exact ⟨by rw [hv]; rfl, rfl⟩


theorem name_no {s : ByteArray} {k : Nat} (h : k < s.size) (hk : nameC k s[k] = false) : nameP s = false := by
  unfold nameP
  rw [decide_eq_false_iff_not]
  rintro ⟨_, _, ha⟩
  rw [ha k h] at hk
  exact absurd hk (by simp)
set_option maxHeartbeats 800000 in
theorem isNameAt (s : ByteArray) (w : World) (hs : s.size ≤ maxLen) :
    Calls Tryz.prog 75 #[.string s] w fun e w' => e = .returned (.bool (nameP s)) ∧ w = w' := by
  unfold maxLen at hs
  by_cases h0 : s.toList.isEmpty = true
  · have hv : nameP s = false := by
      unfold nameP
      rw [decide_eq_false_iff_not]
      have := (empty_iff s).1 h0
      omega
    rw [hv]
    go_enter Tryz.func75, Tryz.ntmps75
    go_wp2_with fail
    go_ret
    exact ⟨rfl, rfl⟩
  · have h0' : s.toList.isEmpty = false := by simpa using h0
    have hpos : 0 < s.size := by have := mt (empty_iff s).2 h0; omega
    by_cases hbig : (64 : Int) < s.size
    · have hv : nameP s = false := by
        unfold nameP
        rw [decide_eq_false_iff_not]
        omega
      rw [hv]
      go_enter Tryz.func75, Tryz.ntmps75
      go_wp2_with fail
      go_ret
      exact ⟨rfl, rfl⟩
    · go_enter Tryz.func75, Tryz.ntmps75
      go_wp2_with fail
      go_loop [13] (fun i => ∃ k : Nat, k ≤ s.size ∧ i = .int .i64 k ∧ ∀ j (h : j < s.size), j < k → nameC j s[j] = true) (fun i => s.size - (intOf i).toNat)
      case atStart => exact ⟨0, Nat.zero_le _, rfl, fun j _ h => absurd h (by omega)⟩
      case round =>
        obtain ⟨k, hk, rfl, hall⟩ := hrel
        have HA := Lib.hid hall
        clear hall
        by_cases hlt : k < s.size
        · by_cases h1 : letterB s[k] = true
          · have H1 := Lib.hid h1
            clear h1
            go_wp2_with (go_at_call 117; (with_reducible refine (letterAt s[k] true H1.out.symm _).mono ?_); rintro e w' ⟨rfl, rfl⟩)
            go_round
            case rel => exact ⟨k + 1, by omega, by go_num, pastAll (p := nameC) hlt HA.out (by simp [nameC, H1.out])⟩
            case measure => simp [intOf]; omega
          · have H1 : Hid (letterB s[k] = false) := Lib.hid (by simpa using h1)
            clear h1
            by_cases h2 : k = 0
            · subst h2
              go_wp2_with (go_at_call 117; (with_reducible refine (letterAt s[0] false H1.out.symm _).mono ?_); rintro e w' ⟨rfl, rfl⟩)
              go_ret
              exact ⟨by rw [name_no hlt (by simp [nameC, H1.out])]; rfl, rfl⟩
            · have h2i : ¬ (k : Int) = 0 := by omega
              by_cases h3 : digitB s[k] = true
              · have H3 := Lib.hid h3
                clear h3
                go_wp2_with (first
                  | (go_at_call 117; (with_reducible refine (letterAt s[k] false H1.out.symm _).mono ?_); rintro e w' ⟨rfl, rfl⟩)
                  | (go_at_call 118; (with_reducible refine (digitAt46 s[k] true H3.out.symm _).mono ?_); rintro e w' ⟨rfl, rfl⟩))
                go_round
                case rel => exact ⟨k + 1, by omega, by go_num, pastAll (p := nameC) hlt HA.out (by simp [nameC, H3.out, h2])⟩
                case measure => simp [intOf]; omega
              · have H3 : Hid (digitB s[k] = false) := Lib.hid (by simpa using h3)
                clear h3
                go_wp2_with (first
                  | (go_at_call 117; (with_reducible refine (letterAt s[k] false H1.out.symm _).mono ?_); rintro e w' ⟨rfl, rfl⟩)
                  | (go_at_call 118; (with_reducible refine (digitAt46 s[k] false H3.out.symm _).mono ?_); rintro e w' ⟨rfl, rfl⟩))
                go_ret
                exact ⟨by rw [name_no hlt (by simp [nameC, H1.out, H3.out])]; rfl, rfl⟩
        · go_wp2_with fail
          go_ret
          have hv : nameP s = true := by
            unfold nameP
            rw [decide_eq_true_eq]
            exact ⟨hpos, by omega, fun j hj => HA.out j hj (by omega)⟩
          exact ⟨by rw [hv]; rfl, rfl⟩
end Go.Proofs.YtoifjjgakblhhaaGreatDoor

/- Whether a value has nothing beside its kind. -/
namespace Go.Proofs.YtoifjjgakblhhaaGreatDoor
open Go.RowKit

def bareP (b : Bool) (n : Int) (t x : ByteArray) (len : Nat) : Bool := !b && decide (n = 0) && decide (t.size = 0) && decide (x.size = 0) && decide (len = 0)

theorem isBareAt (k : Int) (b : Bool) (n : Int) (t x : ByteArray) (p : Option Addr) (len cap : Nat) (w : World) :
    Calls Tryz.prog 77 #[.agg #[.int .i64 k, .bool b, .int .i64 n, .string t, .string x, .slice p len cap]] w fun e w' => e = .returned (.bool (bareP b n t x len)) ∧ Below w.heap.size w w' := by
  have h1 : (w.alloc (.cells #[.int .i64 k, .bool b, .int .i64 n, .string t, .string x, .slice p len cap] 28)).cell? ⟨w.heap.size, 1, none⟩ = some (.bool b) := cell_of (heap_new _ _ rfl) _ rfl
  have h2 : (w.alloc (.cells #[.int .i64 k, .bool b, .int .i64 n, .string t, .string x, .slice p len cap] 28)).cell? ⟨w.heap.size, 2, none⟩ = some (.int .i64 n) := cell_of (heap_new _ _ rfl) _ rfl
  have h3 : (w.alloc (.cells #[.int .i64 k, .bool b, .int .i64 n, .string t, .string x, .slice p len cap] 28)).cell? ⟨w.heap.size, 3, none⟩ = some (.string t) := cell_of (heap_new _ _ rfl) _ rfl
  have h4 : (w.alloc (.cells #[.int .i64 k, .bool b, .int .i64 n, .string t, .string x, .slice p len cap] 28)).cell? ⟨w.heap.size, 4, none⟩ = some (.string x) := cell_of (heap_new _ _ rfl) _ rfl
  have h5 : (w.alloc (.cells #[.int .i64 k, .bool b, .int .i64 n, .string t, .string x, .slice p len cap] 28)).cell? ⟨w.heap.size, 5, none⟩ = some (.slice p len cap) := cell_of (heap_new _ _ rfl) _ rfl
  cases b with
  | true =>
    go_enter Tryz.func77, Tryz.ntmps77
    go_wp2_with fail
    go_ret
    exact ⟨rfl, below1 _ _⟩
  | false =>
    by_cases e2 : n = 0
    · subst e2
      by_cases e3 : t.toList.isEmpty = true
      · have s3 := (empty_iff t).1 e3
        by_cases e4 : x.toList.isEmpty = true
        · have s4 := (empty_iff x).1 e4
          have hv : bareP false 0 t x len = ((len : Int) == 0) := by
            unfold bareP
            rw [s3, s4, Bool.eq_iff_iff]
            simp
          rw [hv]
          clear hv s3 s4
          go_enter Tryz.func77, Tryz.ntmps77
          go_wp2_with fail
          go_ret
          exact ⟨rfl, below1 _ _⟩
        · have s4 : ¬ x.size = 0 := mt (empty_iff x).2 e4
          have e4' : x.toList.isEmpty = false := by simpa using e4
          have hv : bareP false 0 t x len = false := by simp [bareP, s4]
          rw [hv]
          clear hv s3 s4 e4
          go_enter Tryz.func77, Tryz.ntmps77
          go_wp2_with fail
          go_ret
          exact ⟨rfl, below1 _ _⟩
      · have s3 : ¬ t.size = 0 := mt (empty_iff t).2 e3
        have e3' : t.toList.isEmpty = false := by simpa using e3
        have hv : bareP false 0 t x len = false := by simp [bareP, s3]
        rw [hv]
        clear hv s3 e3
        go_enter Tryz.func77, Tryz.ntmps77
        go_wp2_with fail
        go_ret
        exact ⟨rfl, below1 _ _⟩
    · have hv : bareP false n t x len = false := by simp [bareP, e2]
      rw [hv]
      clear hv
      go_enter Tryz.func77, Tryz.ntmps77
      go_wp2_with fail
      go_ret
      exact ⟨rfl, below1 _ _⟩
end Go.Proofs.YtoifjjgakblhhaaGreatDoor

/- Values in memory: a value's own block, and values in one another. -/
namespace Go.Proofs.YtoifjjgakblhhaaGreatDoor
open Go.RowKit

theorem info28 : (Tryz.prog.info? 28).map (·.size) = some 6 := by kernel_rfl

/-- A value's six cells in a block of its own. -/
def Six (w : World) (g : Nat) (k : Int) (b : Bool) (n : Int) (t x : ByteArray) (p : Option Addr) (len cap : Nat) : Prop :=
  w.heap[g]? = some (.cells #[.int .i64 k, .bool b, .int .i64 n, .string t, .string x, .slice p len cap] 28)

section
variable {w w' : World} {g e : Nat} {k : Int} {b : Bool} {n : Int} {t x : ByteArray} {p : Option Addr} {len cap : Nat}
theorem Six.below (h : Six w g k b n t x p len cap) (q : Below w.heap.size w w') : Six w' g k b n t x p len cap := (q.block g (lt_of_heap h)).trans h
theorem Six.only (h : Six w g k b n t x p len cap) (q : Only e w w') (d : g ≠ e) : Six w' g k b n t x p len cap := (q.block g (lt_of_heap h) d).trans h
theorem Six.alloc (h : Six w g k b n t x p len cap) (o : Obj) : Six (w.alloc o) g k b n t x p len cap := heap_old _ h
theorem Six.drewN (h : Six w g k b n t x p len cap) (m : Nat) : Six (w.drewN m) g k b n t x p len cap := h
theorem Six.lt (h : Six w g k b n t x p len cap) : g < w.heap.size := lt_of_heap h
theorem six_new (w : World) (e : w.heap.size = g) : Six (w.alloc (.cells #[.int .i64 k, .bool b, .int .i64 n, .string t, .string x, .slice p len cap] 28)) g k b n t x p len cap := heap_new _ _ e
theorem Six.c0 (h : Six w g k b n t x p len cap) : w.cell? ⟨g, 0, none⟩ = some (.int .i64 k) := cell_of h _ rfl
theorem Six.c1 (h : Six w g k b n t x p len cap) : w.cell? ⟨g, 1, none⟩ = some (.bool b) := cell_of h _ rfl
theorem Six.c2 (h : Six w g k b n t x p len cap) : w.cell? ⟨g, 2, none⟩ = some (.int .i64 n) := cell_of h _ rfl
theorem Six.c3 (h : Six w g k b n t x p len cap) : w.cell? ⟨g, 3, none⟩ = some (.string t) := cell_of h _ rfl
theorem Six.c4 (h : Six w g k b n t x p len cap) : w.cell? ⟨g, 4, none⟩ = some (.string x) := cell_of h _ rfl
theorem Six.c5 (h : Six w g k b n t x p len cap) : w.cell? ⟨g, 5, none⟩ = some (.slice p len cap) := cell_of h _ rfl
end

section
variable {w : World} {g : Nat} {k : Int} {b : Bool} {n : Int} {t x : ByteArray} {p : Option Addr} {len cap : Nat}
theorem Six.free (h : Six w g k b n t x p len cap) (i : Nat) : w.frozen? ⟨g, i, none⟩ = false := free_of h _
theorem Six.set1 (h : Six w g k b n t x p len cap) (v : Bool) : Six (w.setCell ⟨g, 1, none⟩ (.bool v)) g k v n t x p len cap := heap_set h 1 (.bool v)
theorem Six.set2 (h : Six w g k b n t x p len cap) (v : Int) : Six (w.setCell ⟨g, 2, none⟩ (.int .i64 v)) g k b v t x p len cap := heap_set h 2 (.int .i64 v)
theorem Six.set3 (h : Six w g k b n t x p len cap) (v : ByteArray) : Six (w.setCell ⟨g, 3, none⟩ (.string v)) g k b n v x p len cap := heap_set h 3 (.string v)
theorem Six.set4 (h : Six w g k b n t x p len cap) (v : ByteArray) : Six (w.setCell ⟨g, 4, none⟩ (.string v)) g k b n t v p len cap := heap_set h 4 (.string v)
theorem Six.set5 (h : Six w g k b n t x p len cap) (q : Option Addr) (l c : Nat) : Six (w.setCell ⟨g, 5, none⟩ (.slice q l c)) g k b n t x q l c := heap_set h 5 (.slice q l c)
theorem below_set {B e o : Nat} {y z : World} (h : Below B y z) (s : Option Nat) (v : Value) (hb : B ≤ e) (hs : B ≤ z.heap.size) : Below B y (z.setCell ⟨e, o, s⟩ v) :=
  below_only h ((Only.refl e z).setCell o s v) hb hs
end

theorem wpList_load6 {ops : Array Oper} {rest : List Oper} {o : Oper} {a : Act} {w : World} {Q : Exit → Act → World → Prop} {k : Int} {b : Bool} {n : Int} {t x : ByteArray} {p : Option Addr} {len cap : Nat} (y : Operand) (g : Nat) (hg : Six w g k b n t x p len cap)
    (hgd : o.guard = none) (ho : o.op = .load 28 y) (hx : a.eval y = .pointer (some ⟨g, 0, none⟩))
    (h : wpList Tryz.prog ops Q rest (a.put o.dst (.agg #[.int .i64 k, .bool b, .int .i64 n, .string t, .string x, .slice p len cap])) w) : wpList Tryz.prog ops Q (o :: rest) a w :=
  wpList_load_row hgd 28 y ho g hx 28 _ (0, 0) _ hg Tryz.underlying28 rfl info28 h
theorem wpList_store6 {ops : Array Oper} {rest : List Oper} {o : Oper} {a : Act} {w : World} {Q : Exit → Act → World → Prop} {k : Int} {b : Bool} {n : Int} {t x : ByteArray} {p : Option Addr} {len cap : Nat}
    {k' : Int} {b' : Bool} {n' : Int} {t' x' : ByteArray} {p' : Option Addr} {len' cap' : Nat} (y z : Operand) (g : Nat) (hg : Six w g k b n t x p len cap)
    (hgd : o.guard = none) (ho : o.op = .store 28 y z) (hx : a.eval y = .pointer (some ⟨g, 0, none⟩)) (hy : a.eval z = .agg #[.int .i64 k', .bool b', .int .i64 n', .string t', .string x', .slice p' len' cap'])
    (h : ∀ w', Only g w w' → Six w' g k' b' n' t' x' p' len' cap' → wpList Tryz.prog ops Q rest (a.put o.dst undef) w') : wpList Tryz.prog ops Q (o :: rest) a w :=
  wpList_plain hgd fun _ hK => by
    unfold Oper.wp execOp
    simp only [ho, hx, hy, Instr.storeAt, Instr.sureAddr, Sem.run_bind, Sem.run_pure, Result.andThen_ok, run_storeVar_row (P := Tryz.prog) w g 28 28 _ #[.int .i64 k', .bool b', .int .i64 n', .string t', .string x', .slice p' len' cap'] hg info28 rfl (by simp [Value.oneCell'])]
    exact hK _ _ (h _ (Only.setRow w _) (heap_setRow hg))
/-- The same behind a guard that is met. -/
theorem wpList_load6g {ops : Array Oper} {rest : List Oper} {o : Oper} {a : Act} {w : World} {Q : Exit → Act → World → Prop} {k : Int} {b : Bool} {n : Int} {t x : ByteArray} {p : Option Addr} {len cap : Nat} (y : Operand) (g : Nat) (hg : Six w g k b n t x p len cap)
    (hw : Region.wanted o (yielded ops a.tmps) = true) (ho : o.op = .load 28 y) (hx : a.eval y = .pointer (some ⟨g, 0, none⟩))
    (h : wpList Tryz.prog ops Q rest (a.put o.dst (.agg #[.int .i64 k, .bool b, .int .i64 n, .string t, .string x, .slice p len cap])) w) : wpList Tryz.prog ops Q (o :: rest) a w := by
  unfold wpList
  rw [if_pos hw]
  refine .inl ?_
  unfold Oper.wp execOp
  simp only [ho, hx, Instr.loadAt, Instr.sureAddr, Sem.run_bind, Sem.run_pure, Result.andThen_ok, run_loadVar_row (P := Tryz.prog) w g 28 28 _ (0, 0) _ hg Tryz.underlying28 rfl info28]
  exact h
end Go.Proofs.YtoifjjgakblhhaaGreatDoor

/- What a type switch over the small types finds. -/
namespace Go.Proofs.YtoifjjgakblhhaaGreatDoor
open Go.RowKit

theorem ta80_80 (w : World) : (Instr.typeAssert (.iface 80 (.agg #[])) 20 80 true).run Tryz.prog w = .ok (.tuple #[.agg #[], .bool true]) w := by kernel_rfl
theorem ta80_81 (w : World) : (Instr.typeAssert (.iface 80 (.agg #[])) 20 81 true).run Tryz.prog w = .ok (.tuple #[.agg #[], .bool false]) w := by kernel_rfl
theorem ta80_82 (w : World) : (Instr.typeAssert (.iface 80 (.agg #[])) 20 82 true).run Tryz.prog w = .ok (.tuple #[.agg #[], .bool false]) w := by kernel_rfl
theorem ta80_83 (w : World) : (Instr.typeAssert (.iface 80 (.agg #[])) 20 83 true).run Tryz.prog w = .ok (.tuple #[.agg #[], .bool false]) w := by kernel_rfl
theorem ta80_84 (w : World) : (Instr.typeAssert (.iface 80 (.agg #[])) 20 84 true).run Tryz.prog w = .ok (.tuple #[.agg #[], .bool false]) w := by kernel_rfl
theorem ta80_85 (w : World) : (Instr.typeAssert (.iface 80 (.agg #[])) 20 85 true).run Tryz.prog w = .ok (.tuple #[.agg #[], .bool false]) w := by kernel_rfl
theorem ta80_87 (w : World) : (Instr.typeAssert (.iface 80 (.agg #[])) 20 87 true).run Tryz.prog w = .ok (.tuple #[.agg #[], .bool false]) w := by kernel_rfl
theorem ta80_88 (w : World) : (Instr.typeAssert (.iface 80 (.agg #[])) 20 88 true).run Tryz.prog w = .ok (.tuple #[.agg #[], .bool false]) w := by kernel_rfl
theorem ta80_89 (w : World) : (Instr.typeAssert (.iface 80 (.agg #[])) 20 89 true).run Tryz.prog w = .ok (.tuple #[.agg #[], .bool false]) w := by kernel_rfl
theorem ta80_90 (w : World) : (Instr.typeAssert (.iface 80 (.agg #[])) 20 90 true).run Tryz.prog w = .ok (.tuple #[.agg #[], .bool false]) w := by kernel_rfl
theorem ta80_91 (w : World) : (Instr.typeAssert (.iface 80 (.agg #[])) 20 91 true).run Tryz.prog w = .ok (.tuple #[.agg #[], .bool false]) w := by kernel_rfl
theorem ta81_80 (w : World) : (Instr.typeAssert (.iface 81 (.agg #[])) 20 80 true).run Tryz.prog w = .ok (.tuple #[.agg #[], .bool false]) w := by kernel_rfl
theorem ta81_81 (w : World) : (Instr.typeAssert (.iface 81 (.agg #[])) 20 81 true).run Tryz.prog w = .ok (.tuple #[.agg #[], .bool true]) w := by kernel_rfl
theorem ta81_82 (w : World) : (Instr.typeAssert (.iface 81 (.agg #[])) 20 82 true).run Tryz.prog w = .ok (.tuple #[.agg #[], .bool false]) w := by kernel_rfl
theorem ta81_83 (w : World) : (Instr.typeAssert (.iface 81 (.agg #[])) 20 83 true).run Tryz.prog w = .ok (.tuple #[.agg #[], .bool false]) w := by kernel_rfl
theorem ta81_84 (w : World) : (Instr.typeAssert (.iface 81 (.agg #[])) 20 84 true).run Tryz.prog w = .ok (.tuple #[.agg #[], .bool false]) w := by kernel_rfl
theorem ta81_85 (w : World) : (Instr.typeAssert (.iface 81 (.agg #[])) 20 85 true).run Tryz.prog w = .ok (.tuple #[.agg #[], .bool false]) w := by kernel_rfl
theorem ta81_87 (w : World) : (Instr.typeAssert (.iface 81 (.agg #[])) 20 87 true).run Tryz.prog w = .ok (.tuple #[.agg #[], .bool false]) w := by kernel_rfl
theorem ta81_88 (w : World) : (Instr.typeAssert (.iface 81 (.agg #[])) 20 88 true).run Tryz.prog w = .ok (.tuple #[.agg #[], .bool false]) w := by kernel_rfl
theorem ta81_89 (w : World) : (Instr.typeAssert (.iface 81 (.agg #[])) 20 89 true).run Tryz.prog w = .ok (.tuple #[.agg #[], .bool false]) w := by kernel_rfl
theorem ta81_90 (w : World) : (Instr.typeAssert (.iface 81 (.agg #[])) 20 90 true).run Tryz.prog w = .ok (.tuple #[.agg #[], .bool false]) w := by kernel_rfl
theorem ta81_91 (w : World) : (Instr.typeAssert (.iface 81 (.agg #[])) 20 91 true).run Tryz.prog w = .ok (.tuple #[.agg #[], .bool false]) w := by kernel_rfl
theorem ta82_80 (w : World) : (Instr.typeAssert (.iface 82 (.agg #[])) 20 80 true).run Tryz.prog w = .ok (.tuple #[.agg #[], .bool false]) w := by kernel_rfl
theorem ta82_81 (w : World) : (Instr.typeAssert (.iface 82 (.agg #[])) 20 81 true).run Tryz.prog w = .ok (.tuple #[.agg #[], .bool false]) w := by kernel_rfl
theorem ta82_82 (w : World) : (Instr.typeAssert (.iface 82 (.agg #[])) 20 82 true).run Tryz.prog w = .ok (.tuple #[.agg #[], .bool true]) w := by kernel_rfl
theorem ta82_83 (w : World) : (Instr.typeAssert (.iface 82 (.agg #[])) 20 83 true).run Tryz.prog w = .ok (.tuple #[.agg #[], .bool false]) w := by kernel_rfl
theorem ta82_84 (w : World) : (Instr.typeAssert (.iface 82 (.agg #[])) 20 84 true).run Tryz.prog w = .ok (.tuple #[.agg #[], .bool false]) w := by kernel_rfl
theorem ta82_85 (w : World) : (Instr.typeAssert (.iface 82 (.agg #[])) 20 85 true).run Tryz.prog w = .ok (.tuple #[.agg #[], .bool false]) w := by kernel_rfl
theorem ta82_87 (w : World) : (Instr.typeAssert (.iface 82 (.agg #[])) 20 87 true).run Tryz.prog w = .ok (.tuple #[.agg #[], .bool false]) w := by kernel_rfl
theorem ta82_88 (w : World) : (Instr.typeAssert (.iface 82 (.agg #[])) 20 88 true).run Tryz.prog w = .ok (.tuple #[.agg #[], .bool false]) w := by kernel_rfl
theorem ta82_89 (w : World) : (Instr.typeAssert (.iface 82 (.agg #[])) 20 89 true).run Tryz.prog w = .ok (.tuple #[.agg #[], .bool false]) w := by kernel_rfl
theorem ta82_90 (w : World) : (Instr.typeAssert (.iface 82 (.agg #[])) 20 90 true).run Tryz.prog w = .ok (.tuple #[.agg #[], .bool false]) w := by kernel_rfl
theorem ta82_91 (w : World) : (Instr.typeAssert (.iface 82 (.agg #[])) 20 91 true).run Tryz.prog w = .ok (.tuple #[.agg #[], .bool false]) w := by kernel_rfl
theorem ta83_80 (w : World) : (Instr.typeAssert (.iface 83 (.agg #[])) 20 80 true).run Tryz.prog w = .ok (.tuple #[.agg #[], .bool false]) w := by kernel_rfl
theorem ta83_81 (w : World) : (Instr.typeAssert (.iface 83 (.agg #[])) 20 81 true).run Tryz.prog w = .ok (.tuple #[.agg #[], .bool false]) w := by kernel_rfl
theorem ta83_82 (w : World) : (Instr.typeAssert (.iface 83 (.agg #[])) 20 82 true).run Tryz.prog w = .ok (.tuple #[.agg #[], .bool false]) w := by kernel_rfl
theorem ta83_83 (w : World) : (Instr.typeAssert (.iface 83 (.agg #[])) 20 83 true).run Tryz.prog w = .ok (.tuple #[.agg #[], .bool true]) w := by kernel_rfl
theorem ta83_84 (w : World) : (Instr.typeAssert (.iface 83 (.agg #[])) 20 84 true).run Tryz.prog w = .ok (.tuple #[.agg #[], .bool false]) w := by kernel_rfl
theorem ta83_85 (w : World) : (Instr.typeAssert (.iface 83 (.agg #[])) 20 85 true).run Tryz.prog w = .ok (.tuple #[.agg #[], .bool false]) w := by kernel_rfl
theorem ta83_87 (w : World) : (Instr.typeAssert (.iface 83 (.agg #[])) 20 87 true).run Tryz.prog w = .ok (.tuple #[.agg #[], .bool false]) w := by kernel_rfl
theorem ta83_88 (w : World) : (Instr.typeAssert (.iface 83 (.agg #[])) 20 88 true).run Tryz.prog w = .ok (.tuple #[.agg #[], .bool false]) w := by kernel_rfl
theorem ta83_89 (w : World) : (Instr.typeAssert (.iface 83 (.agg #[])) 20 89 true).run Tryz.prog w = .ok (.tuple #[.agg #[], .bool false]) w := by kernel_rfl
theorem ta83_90 (w : World) : (Instr.typeAssert (.iface 83 (.agg #[])) 20 90 true).run Tryz.prog w = .ok (.tuple #[.agg #[], .bool false]) w := by kernel_rfl
theorem ta83_91 (w : World) : (Instr.typeAssert (.iface 83 (.agg #[])) 20 91 true).run Tryz.prog w = .ok (.tuple #[.agg #[], .bool false]) w := by kernel_rfl
theorem ta84_80 (w : World) : (Instr.typeAssert (.iface 84 (.agg #[])) 20 80 true).run Tryz.prog w = .ok (.tuple #[.agg #[], .bool false]) w := by kernel_rfl
theorem ta84_81 (w : World) : (Instr.typeAssert (.iface 84 (.agg #[])) 20 81 true).run Tryz.prog w = .ok (.tuple #[.agg #[], .bool false]) w := by kernel_rfl
theorem ta84_82 (w : World) : (Instr.typeAssert (.iface 84 (.agg #[])) 20 82 true).run Tryz.prog w = .ok (.tuple #[.agg #[], .bool false]) w := by kernel_rfl
theorem ta84_83 (w : World) : (Instr.typeAssert (.iface 84 (.agg #[])) 20 83 true).run Tryz.prog w = .ok (.tuple #[.agg #[], .bool false]) w := by kernel_rfl
theorem ta84_84 (w : World) : (Instr.typeAssert (.iface 84 (.agg #[])) 20 84 true).run Tryz.prog w = .ok (.tuple #[.agg #[], .bool true]) w := by kernel_rfl
theorem ta84_85 (w : World) : (Instr.typeAssert (.iface 84 (.agg #[])) 20 85 true).run Tryz.prog w = .ok (.tuple #[.agg #[], .bool false]) w := by kernel_rfl
theorem ta84_87 (w : World) : (Instr.typeAssert (.iface 84 (.agg #[])) 20 87 true).run Tryz.prog w = .ok (.tuple #[.agg #[], .bool false]) w := by kernel_rfl
theorem ta84_88 (w : World) : (Instr.typeAssert (.iface 84 (.agg #[])) 20 88 true).run Tryz.prog w = .ok (.tuple #[.agg #[], .bool false]) w := by kernel_rfl
theorem ta84_89 (w : World) : (Instr.typeAssert (.iface 84 (.agg #[])) 20 89 true).run Tryz.prog w = .ok (.tuple #[.agg #[], .bool false]) w := by kernel_rfl
theorem ta84_90 (w : World) : (Instr.typeAssert (.iface 84 (.agg #[])) 20 90 true).run Tryz.prog w = .ok (.tuple #[.agg #[], .bool false]) w := by kernel_rfl
theorem ta84_91 (w : World) : (Instr.typeAssert (.iface 84 (.agg #[])) 20 91 true).run Tryz.prog w = .ok (.tuple #[.agg #[], .bool false]) w := by kernel_rfl
theorem ta85_80 (w : World) : (Instr.typeAssert (.iface 85 (.agg #[])) 20 80 true).run Tryz.prog w = .ok (.tuple #[.agg #[], .bool false]) w := by kernel_rfl
theorem ta85_81 (w : World) : (Instr.typeAssert (.iface 85 (.agg #[])) 20 81 true).run Tryz.prog w = .ok (.tuple #[.agg #[], .bool false]) w := by kernel_rfl
theorem ta85_82 (w : World) : (Instr.typeAssert (.iface 85 (.agg #[])) 20 82 true).run Tryz.prog w = .ok (.tuple #[.agg #[], .bool false]) w := by kernel_rfl
theorem ta85_83 (w : World) : (Instr.typeAssert (.iface 85 (.agg #[])) 20 83 true).run Tryz.prog w = .ok (.tuple #[.agg #[], .bool false]) w := by kernel_rfl
theorem ta85_84 (w : World) : (Instr.typeAssert (.iface 85 (.agg #[])) 20 84 true).run Tryz.prog w = .ok (.tuple #[.agg #[], .bool false]) w := by kernel_rfl
theorem ta85_85 (w : World) : (Instr.typeAssert (.iface 85 (.agg #[])) 20 85 true).run Tryz.prog w = .ok (.tuple #[.agg #[], .bool true]) w := by kernel_rfl
theorem ta85_87 (w : World) : (Instr.typeAssert (.iface 85 (.agg #[])) 20 87 true).run Tryz.prog w = .ok (.tuple #[.agg #[], .bool false]) w := by kernel_rfl
theorem ta85_88 (w : World) : (Instr.typeAssert (.iface 85 (.agg #[])) 20 88 true).run Tryz.prog w = .ok (.tuple #[.agg #[], .bool false]) w := by kernel_rfl
theorem ta85_89 (w : World) : (Instr.typeAssert (.iface 85 (.agg #[])) 20 89 true).run Tryz.prog w = .ok (.tuple #[.agg #[], .bool false]) w := by kernel_rfl
theorem ta85_90 (w : World) : (Instr.typeAssert (.iface 85 (.agg #[])) 20 90 true).run Tryz.prog w = .ok (.tuple #[.agg #[], .bool false]) w := by kernel_rfl
theorem ta85_91 (w : World) : (Instr.typeAssert (.iface 85 (.agg #[])) 20 91 true).run Tryz.prog w = .ok (.tuple #[.agg #[], .bool false]) w := by kernel_rfl
theorem ta87_80 (w : World) : (Instr.typeAssert (.iface 87 (.agg #[])) 20 80 true).run Tryz.prog w = .ok (.tuple #[.agg #[], .bool false]) w := by kernel_rfl
theorem ta87_81 (w : World) : (Instr.typeAssert (.iface 87 (.agg #[])) 20 81 true).run Tryz.prog w = .ok (.tuple #[.agg #[], .bool false]) w := by kernel_rfl
theorem ta87_82 (w : World) : (Instr.typeAssert (.iface 87 (.agg #[])) 20 82 true).run Tryz.prog w = .ok (.tuple #[.agg #[], .bool false]) w := by kernel_rfl
theorem ta87_83 (w : World) : (Instr.typeAssert (.iface 87 (.agg #[])) 20 83 true).run Tryz.prog w = .ok (.tuple #[.agg #[], .bool false]) w := by kernel_rfl
theorem ta87_84 (w : World) : (Instr.typeAssert (.iface 87 (.agg #[])) 20 84 true).run Tryz.prog w = .ok (.tuple #[.agg #[], .bool false]) w := by kernel_rfl
theorem ta87_85 (w : World) : (Instr.typeAssert (.iface 87 (.agg #[])) 20 85 true).run Tryz.prog w = .ok (.tuple #[.agg #[], .bool false]) w := by kernel_rfl
theorem ta87_87 (w : World) : (Instr.typeAssert (.iface 87 (.agg #[])) 20 87 true).run Tryz.prog w = .ok (.tuple #[.agg #[], .bool true]) w := by kernel_rfl
theorem ta87_88 (w : World) : (Instr.typeAssert (.iface 87 (.agg #[])) 20 88 true).run Tryz.prog w = .ok (.tuple #[.agg #[], .bool false]) w := by kernel_rfl
theorem ta87_89 (w : World) : (Instr.typeAssert (.iface 87 (.agg #[])) 20 89 true).run Tryz.prog w = .ok (.tuple #[.agg #[], .bool false]) w := by kernel_rfl
theorem ta87_90 (w : World) : (Instr.typeAssert (.iface 87 (.agg #[])) 20 90 true).run Tryz.prog w = .ok (.tuple #[.agg #[], .bool false]) w := by kernel_rfl
theorem ta87_91 (w : World) : (Instr.typeAssert (.iface 87 (.agg #[])) 20 91 true).run Tryz.prog w = .ok (.tuple #[.agg #[], .bool false]) w := by kernel_rfl
theorem ta88_80 (w : World) : (Instr.typeAssert (.iface 88 (.agg #[])) 20 80 true).run Tryz.prog w = .ok (.tuple #[.agg #[], .bool false]) w := by kernel_rfl
theorem ta88_81 (w : World) : (Instr.typeAssert (.iface 88 (.agg #[])) 20 81 true).run Tryz.prog w = .ok (.tuple #[.agg #[], .bool false]) w := by kernel_rfl
theorem ta88_82 (w : World) : (Instr.typeAssert (.iface 88 (.agg #[])) 20 82 true).run Tryz.prog w = .ok (.tuple #[.agg #[], .bool false]) w := by kernel_rfl
theorem ta88_83 (w : World) : (Instr.typeAssert (.iface 88 (.agg #[])) 20 83 true).run Tryz.prog w = .ok (.tuple #[.agg #[], .bool false]) w := by kernel_rfl
theorem ta88_84 (w : World) : (Instr.typeAssert (.iface 88 (.agg #[])) 20 84 true).run Tryz.prog w = .ok (.tuple #[.agg #[], .bool false]) w := by kernel_rfl
theorem ta88_85 (w : World) : (Instr.typeAssert (.iface 88 (.agg #[])) 20 85 true).run Tryz.prog w = .ok (.tuple #[.agg #[], .bool false]) w := by kernel_rfl
theorem ta88_87 (w : World) : (Instr.typeAssert (.iface 88 (.agg #[])) 20 87 true).run Tryz.prog w = .ok (.tuple #[.agg #[], .bool false]) w := by kernel_rfl
theorem ta88_88 (w : World) : (Instr.typeAssert (.iface 88 (.agg #[])) 20 88 true).run Tryz.prog w = .ok (.tuple #[.agg #[], .bool true]) w := by kernel_rfl
theorem ta88_89 (w : World) : (Instr.typeAssert (.iface 88 (.agg #[])) 20 89 true).run Tryz.prog w = .ok (.tuple #[.agg #[], .bool false]) w := by kernel_rfl
theorem ta88_90 (w : World) : (Instr.typeAssert (.iface 88 (.agg #[])) 20 90 true).run Tryz.prog w = .ok (.tuple #[.agg #[], .bool false]) w := by kernel_rfl
theorem ta88_91 (w : World) : (Instr.typeAssert (.iface 88 (.agg #[])) 20 91 true).run Tryz.prog w = .ok (.tuple #[.agg #[], .bool false]) w := by kernel_rfl
theorem ta89_80 (w : World) : (Instr.typeAssert (.iface 89 (.agg #[])) 20 80 true).run Tryz.prog w = .ok (.tuple #[.agg #[], .bool false]) w := by kernel_rfl
theorem ta89_81 (w : World) : (Instr.typeAssert (.iface 89 (.agg #[])) 20 81 true).run Tryz.prog w = .ok (.tuple #[.agg #[], .bool false]) w := by kernel_rfl
theorem ta89_82 (w : World) : (Instr.typeAssert (.iface 89 (.agg #[])) 20 82 true).run Tryz.prog w = .ok (.tuple #[.agg #[], .bool false]) w := by kernel_rfl
theorem ta89_83 (w : World) : (Instr.typeAssert (.iface 89 (.agg #[])) 20 83 true).run Tryz.prog w = .ok (.tuple #[.agg #[], .bool false]) w := by kernel_rfl
theorem ta89_84 (w : World) : (Instr.typeAssert (.iface 89 (.agg #[])) 20 84 true).run Tryz.prog w = .ok (.tuple #[.agg #[], .bool false]) w := by kernel_rfl
theorem ta89_85 (w : World) : (Instr.typeAssert (.iface 89 (.agg #[])) 20 85 true).run Tryz.prog w = .ok (.tuple #[.agg #[], .bool false]) w := by kernel_rfl
theorem ta89_87 (w : World) : (Instr.typeAssert (.iface 89 (.agg #[])) 20 87 true).run Tryz.prog w = .ok (.tuple #[.agg #[], .bool false]) w := by kernel_rfl
theorem ta89_88 (w : World) : (Instr.typeAssert (.iface 89 (.agg #[])) 20 88 true).run Tryz.prog w = .ok (.tuple #[.agg #[], .bool false]) w := by kernel_rfl
theorem ta89_89 (w : World) : (Instr.typeAssert (.iface 89 (.agg #[])) 20 89 true).run Tryz.prog w = .ok (.tuple #[.agg #[], .bool true]) w := by kernel_rfl
theorem ta89_90 (w : World) : (Instr.typeAssert (.iface 89 (.agg #[])) 20 90 true).run Tryz.prog w = .ok (.tuple #[.agg #[], .bool false]) w := by kernel_rfl
theorem ta89_91 (w : World) : (Instr.typeAssert (.iface 89 (.agg #[])) 20 91 true).run Tryz.prog w = .ok (.tuple #[.agg #[], .bool false]) w := by kernel_rfl
theorem ta90_80 (w : World) : (Instr.typeAssert (.iface 90 (.agg #[])) 20 80 true).run Tryz.prog w = .ok (.tuple #[.agg #[], .bool false]) w := by kernel_rfl
theorem ta90_81 (w : World) : (Instr.typeAssert (.iface 90 (.agg #[])) 20 81 true).run Tryz.prog w = .ok (.tuple #[.agg #[], .bool false]) w := by kernel_rfl
theorem ta90_82 (w : World) : (Instr.typeAssert (.iface 90 (.agg #[])) 20 82 true).run Tryz.prog w = .ok (.tuple #[.agg #[], .bool false]) w := by kernel_rfl
theorem ta90_83 (w : World) : (Instr.typeAssert (.iface 90 (.agg #[])) 20 83 true).run Tryz.prog w = .ok (.tuple #[.agg #[], .bool false]) w := by kernel_rfl
theorem ta90_84 (w : World) : (Instr.typeAssert (.iface 90 (.agg #[])) 20 84 true).run Tryz.prog w = .ok (.tuple #[.agg #[], .bool false]) w := by kernel_rfl
theorem ta90_85 (w : World) : (Instr.typeAssert (.iface 90 (.agg #[])) 20 85 true).run Tryz.prog w = .ok (.tuple #[.agg #[], .bool false]) w := by kernel_rfl
theorem ta90_87 (w : World) : (Instr.typeAssert (.iface 90 (.agg #[])) 20 87 true).run Tryz.prog w = .ok (.tuple #[.agg #[], .bool false]) w := by kernel_rfl
theorem ta90_88 (w : World) : (Instr.typeAssert (.iface 90 (.agg #[])) 20 88 true).run Tryz.prog w = .ok (.tuple #[.agg #[], .bool false]) w := by kernel_rfl
theorem ta90_89 (w : World) : (Instr.typeAssert (.iface 90 (.agg #[])) 20 89 true).run Tryz.prog w = .ok (.tuple #[.agg #[], .bool false]) w := by kernel_rfl
theorem ta90_90 (w : World) : (Instr.typeAssert (.iface 90 (.agg #[])) 20 90 true).run Tryz.prog w = .ok (.tuple #[.agg #[], .bool true]) w := by kernel_rfl
theorem ta90_91 (w : World) : (Instr.typeAssert (.iface 90 (.agg #[])) 20 91 true).run Tryz.prog w = .ok (.tuple #[.agg #[], .bool false]) w := by kernel_rfl
theorem ta91_80 (w : World) : (Instr.typeAssert (.iface 91 (.agg #[])) 20 80 true).run Tryz.prog w = .ok (.tuple #[.agg #[], .bool false]) w := by kernel_rfl
theorem ta91_81 (w : World) : (Instr.typeAssert (.iface 91 (.agg #[])) 20 81 true).run Tryz.prog w = .ok (.tuple #[.agg #[], .bool false]) w := by kernel_rfl
theorem ta91_82 (w : World) : (Instr.typeAssert (.iface 91 (.agg #[])) 20 82 true).run Tryz.prog w = .ok (.tuple #[.agg #[], .bool false]) w := by kernel_rfl
theorem ta91_83 (w : World) : (Instr.typeAssert (.iface 91 (.agg #[])) 20 83 true).run Tryz.prog w = .ok (.tuple #[.agg #[], .bool false]) w := by kernel_rfl
theorem ta91_84 (w : World) : (Instr.typeAssert (.iface 91 (.agg #[])) 20 84 true).run Tryz.prog w = .ok (.tuple #[.agg #[], .bool false]) w := by kernel_rfl
theorem ta91_85 (w : World) : (Instr.typeAssert (.iface 91 (.agg #[])) 20 85 true).run Tryz.prog w = .ok (.tuple #[.agg #[], .bool false]) w := by kernel_rfl
theorem ta91_87 (w : World) : (Instr.typeAssert (.iface 91 (.agg #[])) 20 87 true).run Tryz.prog w = .ok (.tuple #[.agg #[], .bool false]) w := by kernel_rfl
theorem ta91_88 (w : World) : (Instr.typeAssert (.iface 91 (.agg #[])) 20 88 true).run Tryz.prog w = .ok (.tuple #[.agg #[], .bool false]) w := by kernel_rfl
theorem ta91_89 (w : World) : (Instr.typeAssert (.iface 91 (.agg #[])) 20 89 true).run Tryz.prog w = .ok (.tuple #[.agg #[], .bool false]) w := by kernel_rfl
theorem ta91_90 (w : World) : (Instr.typeAssert (.iface 91 (.agg #[])) 20 90 true).run Tryz.prog w = .ok (.tuple #[.agg #[], .bool false]) w := by kernel_rfl
theorem ta91_91 (w : World) : (Instr.typeAssert (.iface 91 (.agg #[])) 20 91 true).run Tryz.prog w = .ok (.tuple #[.agg #[], .bool true]) w := by kernel_rfl
theorem ta124_80 (w : World) : (Instr.typeAssert (.iface 124 (.agg #[])) 20 80 true).run Tryz.prog w = .ok (.tuple #[.agg #[], .bool false]) w := by kernel_rfl
theorem ta124_81 (w : World) : (Instr.typeAssert (.iface 124 (.agg #[])) 20 81 true).run Tryz.prog w = .ok (.tuple #[.agg #[], .bool false]) w := by kernel_rfl
theorem ta124_82 (w : World) : (Instr.typeAssert (.iface 124 (.agg #[])) 20 82 true).run Tryz.prog w = .ok (.tuple #[.agg #[], .bool false]) w := by kernel_rfl
theorem ta124_83 (w : World) : (Instr.typeAssert (.iface 124 (.agg #[])) 20 83 true).run Tryz.prog w = .ok (.tuple #[.agg #[], .bool false]) w := by kernel_rfl
theorem ta124_84 (w : World) : (Instr.typeAssert (.iface 124 (.agg #[])) 20 84 true).run Tryz.prog w = .ok (.tuple #[.agg #[], .bool false]) w := by kernel_rfl
theorem ta124_85 (w : World) : (Instr.typeAssert (.iface 124 (.agg #[])) 20 85 true).run Tryz.prog w = .ok (.tuple #[.agg #[], .bool false]) w := by kernel_rfl
theorem ta124_87 (w : World) : (Instr.typeAssert (.iface 124 (.agg #[])) 20 87 true).run Tryz.prog w = .ok (.tuple #[.agg #[], .bool false]) w := by kernel_rfl
theorem ta124_88 (w : World) : (Instr.typeAssert (.iface 124 (.agg #[])) 20 88 true).run Tryz.prog w = .ok (.tuple #[.agg #[], .bool false]) w := by kernel_rfl
theorem ta124_89 (w : World) : (Instr.typeAssert (.iface 124 (.agg #[])) 20 89 true).run Tryz.prog w = .ok (.tuple #[.agg #[], .bool false]) w := by kernel_rfl
theorem ta124_90 (w : World) : (Instr.typeAssert (.iface 124 (.agg #[])) 20 90 true).run Tryz.prog w = .ok (.tuple #[.agg #[], .bool false]) w := by kernel_rfl
theorem ta124_91 (w : World) : (Instr.typeAssert (.iface 124 (.agg #[])) 20 91 true).run Tryz.prog w = .ok (.tuple #[.agg #[], .bool false]) w := by kernel_rfl

end Go.Proofs.YtoifjjgakblhhaaGreatDoor
