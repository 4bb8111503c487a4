/- Texts of one kind, one behind the other: each says ahead of itself what it shows. -/
import Derived.Test.YtcfmenkigolnoaaGreatDoorTaa
import Derived.BigGuardPart
/- Whether a text may be an address, a name; whether a value is bare. -/
namespace Go.Proofs.YtcfmenkigolnoaaGreatDoor
open Go.RowKit

def letterB (c : UInt8) : Bool := (decide (97 ≤ c.toNat) && decide (c.toNat ≤ 122)) || (decide (65 ≤ c.toNat) && decide (c.toNat ≤ 90)) || decide (c.toNat = 95)
def digitB (c : UInt8) : Bool := decide (48 ≤ c.toNat) && decide (c.toNat ≤ 57)
def addrC (c : UInt8) : Bool := decide (32 < c.toNat) && decide (c.toNat ≠ 60) && decide (c.toNat ≠ 62)
def addrP (s : ByteArray) : Bool := decide (0 < s.size ∧ s.size ≤ 1048576 ∧ ∀ j (h : j < s.size), addrC s[j] = true)
def nameC (j : Nat) (c : UInt8) : Bool := letterB c || (decide (j ≠ 0) && digitB c)
def nameP (s : ByteArray) : Bool := decide (0 < s.size ∧ s.size ≤ 64 ∧ ∀ j (h : j < s.size), nameC j s[j] = true)
theorem empty_iff (s : ByteArray) : s.toList.isEmpty = true ↔ s.size = 0 := by
  rw [ByteArray.toList_eq, List.isEmpty_iff_length_eq_zero]
  simp
theorem pastAll {s : ByteArray} {p : Nat → UInt8 → Bool} {k : Nat} (h : k < s.size) (ha : ∀ j (h : j < s.size), j < k → p j s[j] = true) (hk : p k s[k] = true) : ∀ j (h : j < s.size), j < k + 1 → p j s[j] = true := by
  intro j hj hlt
  by_cases e : j = k
  · subst e
    exact hk
  · exact ha j hj (by omega)


theorem letterB_of {c : UInt8} {b : Bool} (h : b = true ↔ ((97 : Int) ≤ c.toNat ∧ (c.toNat : Int) ≤ 122) ∨ ((65 : Int) ≤ c.toNat ∧ (c.toNat : Int) ≤ 90) ∨ (c.toNat : Int) = 95) : b = letterB c := by
  rw [Bool.eq_iff_iff, h]
  simp only [letterB, Bool.or_eq_true, Bool.and_eq_true, decide_eq_true_eq]
  omega
theorem letterAt (c : UInt8) (r : Bool) (hr : r = letterB c) (w : World) : Calls Tryz.prog 188 #[.int .u8 c.toNat] w fun e w' => e = .returned (.bool r) ∧ w = w' := by
  by_cases a1 : (97 : Int) ≤ c.toNat
  · by_cases a2 : (c.toNat : Int) ≤ 122
    · obtain rfl : r = true := by rw [hr]; exact (letterB_of (by simp [a1, a2])).symm
      clear hr
      go_enter Tryz.func188, Tryz.ntmps188
      go_wp2_with fail
      go_ret
      exact ⟨rfl, rfl⟩
    · obtain rfl : r = false := by rw [hr]; exact (letterB_of (by simp; omega)).symm
      clear hr
      have a3 : (65 : Int) ≤ c.toNat := by omega
      have a4 : ¬ (c.toNat : Int) ≤ 90 := by omega
      have a5 : ¬ (c.toNat : Int) = 95 := by omega
      go_enter Tryz.func188, Tryz.ntmps188
      go_wp2_with fail
      go_ret
      exact ⟨by simp [a5] <;> rfl, rfl⟩
  · by_cases a3 : (65 : Int) ≤ c.toNat
    · by_cases a4 : (c.toNat : Int) ≤ 90
      · obtain rfl : r = true := by rw [hr]; exact (letterB_of (by simp [a3, a4])).symm
        clear hr
        go_enter Tryz.func188, Tryz.ntmps188
        go_wp2_with fail
        go_ret
        exact ⟨rfl, rfl⟩
      · have hv : r = ((c.toNat : Int) == 95) := by rw [hr]; exact (letterB_of (by simp; omega)).symm
        clear hr
        go_enter Tryz.func188, Tryz.ntmps188
        go_wp2_with fail
        go_ret
        exact ⟨rfl, rfl⟩
    · have a5 : ¬ (c.toNat : Int) = 95 := by omega
      obtain rfl : r = false := by rw [hr]; exact (letterB_of (by simp; omega)).symm
      clear hr
      go_enter Tryz.func188, Tryz.ntmps188
      go_wp2_with fail
      go_ret
      exact ⟨by simp [a5] <;> rfl, rfl⟩
theorem digitAt46 (c : UInt8) (r : Bool) (hr : r = digitB c) (w : World) : Calls Tryz.prog 189 #[.int .u8 c.toNat] w fun e w' => e = .returned (.bool r) ∧ w = w' := by
  by_cases a1 : (48 : Int) ≤ c.toNat
  · have hv : r = decide ((c.toNat : Int) ≤ 57) := by rw [hr, Bool.eq_iff_iff]; simp [digitB]; omega
    clear hr
    go_enter Tryz.func189, Tryz.ntmps189
    go_wp2_with fail
    go_ret
    exact ⟨by rw [hv]; rfl, rfl⟩
  · have hv : r = false := by rw [hr, Bool.eq_false_iff]; simp [digitB]; omega
    clear hr
    subst hv
    go_enter Tryz.func189, Tryz.ntmps189
    go_wp2_with fail
    go_ret
    exact ⟨rfl, rfl⟩


theorem addr_no {s : ByteArray} {k : Nat} (h : k < s.size) (hk : addrC s[k] = false) : addrP s = false := by
  unfold addrP
  rw [decide_eq_false_iff_not]
  rintro ⟨_, _, ha⟩
  rw [ha k h] at hk
  exact absurd hk (by simp)
set_option maxHeartbeats 800000 in
theorem isAddressAt (s : ByteArray) (w : World) (hs : s.size ≤ maxLen) :
    Calls Tryz.prog 180 #[.string s] w fun e w' => e = .returned (.bool (addrP s)) ∧ w = w' := by
  unfold maxLen at hs
  by_cases h0 : s.toList.isEmpty = true
  · have hv : addrP s = false := by
      unfold addrP
      rw [decide_eq_false_iff_not]
      have := (empty_iff s).1 h0
      omega
    rw [hv]
    go_enter Tryz.func180, Tryz.ntmps180
    go_wp2_with fail
    go_ret
    exact ⟨rfl, rfl⟩
  · have h0' : s.toList.isEmpty = false := by simpa using h0
    have hpos : 0 < s.size := by have := mt (empty_iff s).2 h0; omega
    by_cases hbig : (1048576 : Int) < s.size
    · have hv : addrP s = false := by
        unfold addrP
        rw [decide_eq_false_iff_not]
        omega
      rw [hv]
      go_enter Tryz.func180, Tryz.ntmps180
      go_wp2_with fail
      go_ret
      exact ⟨rfl, rfl⟩
    · go_enter Tryz.func180, Tryz.ntmps180
      go_wp2_with fail
      go_loop [13] (fun i => ∃ k : Nat, k ≤ s.size ∧ i = .int .i64 k ∧ ∀ j (h : j < s.size), j < k → addrC s[j] = true) (fun i => s.size - (intOf i).toNat)
      case atStart => exact ⟨0, Nat.zero_le _, rfl, fun j _ h => absurd h (by omega)⟩
      case round =>
        obtain ⟨k, hk, rfl, hall⟩ := hrel
        have HA := Lib.hid hall
        clear hall
        by_cases hlt : k < s.size
        · by_cases h1 : (s[k].toNat : Int) ≤ 32
          · go_wp2_with fail
            go_ret
            exact ⟨by rw [addr_no hlt (by simp [addrC]; omega)]; rfl, rfl⟩
          · by_cases h2 : (s[k].toNat : Int) = 60
            · go_wp2_with fail
              go_ret
              exact ⟨by rw [addr_no hlt (by simp [addrC]; omega)]; rfl, rfl⟩
            · by_cases h3 : (s[k].toNat : Int) = 62
              · go_wp2_with fail
                go_ret
                exact ⟨by rw [addr_no hlt (by simp [addrC]; omega)]; rfl, rfl⟩
              · go_wp2_with fail
                go_round
                case rel => exact ⟨k + 1, by omega, by go_num, pastAll (p := fun _ => addrC) hlt HA.out (by simp [addrC]; omega)⟩
                case measure => simp [intOf]; omega
        · go_wp2_with fail
          go_ret
          have hv : addrP s = true := by
            unfold addrP
            rw [decide_eq_true_eq]
            exact ⟨hpos, by omega, fun j hj => HA.out j hj (by omega)⟩
          exact ⟨by rw [hv]; rfl, rfl⟩


theorem name_no {s : ByteArray} {k : Nat} (h : k < s.size) (hk : nameC k s[k] = false) : nameP s = false := by
  unfold nameP
  rw [decide_eq_false_iff_not]
  rintro ⟨_, _, ha⟩
  rw [ha k h] at hk
  exact absurd hk (by simp)
set_option maxHeartbeats 800000 in
theorem isNameAt (s : ByteArray) (w : World) (hs : s.size ≤ maxLen) :
    Calls Tryz.prog 181 #[.string s] w fun e w' => e = .returned (.bool (nameP s)) ∧ w = w' := by
  unfold maxLen at hs
  by_cases h0 : s.toList.isEmpty = true
  · have hv : nameP s = false := by
      unfold nameP
      rw [decide_eq_false_iff_not]
      have := (empty_iff s).1 h0
      omega
    rw [hv]
    go_enter Tryz.func181, Tryz.ntmps181
    go_wp2_with fail
    go_ret
    exact ⟨rfl, rfl⟩
  · have h0' : s.toList.isEmpty = false := by simpa using h0
    have hpos : 0 < s.size := by have := mt (empty_iff s).2 h0; omega
    by_cases hbig : (64 : Int) < s.size
    · have hv : nameP s = false := by
        unfold nameP
        rw [decide_eq_false_iff_not]
        omega
      rw [hv]
      go_enter Tryz.func181, Tryz.ntmps181
      go_wp2_with fail
      go_ret
      exact ⟨rfl, rfl⟩
    · go_enter Tryz.func181, Tryz.ntmps181
      go_wp2_with fail
      go_loop [13] (fun i => ∃ k : Nat, k ≤ s.size ∧ i = .int .i64 k ∧ ∀ j (h : j < s.size), j < k → nameC j s[j] = true) (fun i => s.size - (intOf i).toNat)
      case atStart => exact ⟨0, Nat.zero_le _, rfl, fun j _ h => absurd h (by omega)⟩
      case round =>
        obtain ⟨k, hk, rfl, hall⟩ := hrel
        have HA := Lib.hid hall
        clear hall
        by_cases hlt : k < s.size
        · by_cases h1 : letterB s[k] = true
          · have H1 := Lib.hid h1
            clear h1
            go_wp2_with (go_at_call 188; (with_reducible refine (letterAt s[k] true H1.out.symm _).mono ?_); rintro e w' ⟨rfl, rfl⟩)
            go_round
            case rel => exact ⟨k + 1, by omega, by go_num, pastAll (p := nameC) hlt HA.out (by simp [nameC, H1.out])⟩
            case measure => simp [intOf]; omega
          · have H1 : Hid (letterB s[k] = false) := Lib.hid (by simpa using h1)
            clear h1
            by_cases h2 : k = 0
            · subst h2
              go_wp2_with (go_at_call 188; (with_reducible refine (letterAt s[0] false H1.out.symm _).mono ?_); rintro e w' ⟨rfl, rfl⟩)
              go_ret
              exact ⟨by rw [name_no hlt (by simp [nameC, H1.out])]; rfl, rfl⟩
            · have h2i : ¬ (k : Int) = 0 := by omega
              by_cases h3 : digitB s[k] = true
              · have H3 := Lib.hid h3
                clear h3
                go_wp2_with (first
                  | (go_at_call 188; (with_reducible refine (letterAt s[k] false H1.out.symm _).mono ?_); rintro e w' ⟨rfl, rfl⟩)
                  | (go_at_call 189; (with_reducible refine (digitAt46 s[k] true H3.out.symm _).mono ?_); rintro e w' ⟨rfl, rfl⟩))
                go_round
                case rel => exact ⟨k + 1, by omega, by go_num, pastAll (p := nameC) hlt HA.out (by simp [nameC, H3.out, h2])⟩
                case measure => simp [intOf]; omega
              · have H3 : Hid (digitB s[k] = false) := Lib.hid (by simpa using h3)
                clear h3
                go_wp2_with (first
                  | (go_at_call 188; (with_reducible refine (letterAt s[k] false H1.out.symm _).mono ?_); rintro e w' ⟨rfl, rfl⟩)
                  | (go_at_call 189; (with_reducible refine (digitAt46 s[k] false H3.out.symm _).mono ?_); rintro e w' ⟨rfl, rfl⟩))
                go_ret
                exact ⟨by rw [name_no hlt (by simp [nameC, H1.out, H3.out])]; rfl, rfl⟩
        · go_wp2_with fail
          go_ret
          have hv : nameP s = true := by
            unfold nameP
            rw [decide_eq_true_eq]
            exact ⟨hpos, by omega, fun j hj => HA.out j hj (by omega)⟩
          exact ⟨by rw [hv]; rfl, rfl⟩
end Go.Proofs.YtcfmenkigolnoaaGreatDoor

/- Whether a value has nothing beside its kind. -/
namespace Go.Proofs.YtcfmenkigolnoaaGreatDoor
open Go.RowKit

def bareP (b : Bool) (n : Int) (t x : ByteArray) (len : Nat) : Bool := !b && decide (n = 0) && decide (t.size = 0) && decide (x.size = 0) && decide (len = 0)

theorem isBareAt (k : Int) (b : Bool) (n : Int) (t x : ByteArray) (p : Option Addr) (len cap : Nat) (w : World) :
    Calls Tryz.prog 183 #[.agg #[.int .i64 k, .bool b, .int .i64 n, .string t, .string x, .slice p len cap]] w fun e w' => e = .returned (.bool (bareP b n t x len)) ∧ Below w.heap.size w w' := by
  have h1 : (w.alloc (.cells #[.int .i64 k, .bool b, .int .i64 n, .string t, .string x, .slice p len cap] 60)).cell? ⟨w.heap.size, 1, none⟩ = some (.bool b) := cell_of (heap_new _ _ rfl) _ rfl
  have h2 : (w.alloc (.cells #[.int .i64 k, .bool b, .int .i64 n, .string t, .string x, .slice p len cap] 60)).cell? ⟨w.heap.size, 2, none⟩ = some (.int .i64 n) := cell_of (heap_new _ _ rfl) _ rfl
  have h3 : (w.alloc (.cells #[.int .i64 k, .bool b, .int .i64 n, .string t, .string x, .slice p len cap] 60)).cell? ⟨w.heap.size, 3, none⟩ = some (.string t) := cell_of (heap_new _ _ rfl) _ rfl
  have h4 : (w.alloc (.cells #[.int .i64 k, .bool b, .int .i64 n, .string t, .string x, .slice p len cap] 60)).cell? ⟨w.heap.size, 4, none⟩ = some (.string x) := cell_of (heap_new _ _ rfl) _ rfl
  have h5 : (w.alloc (.cells #[.int .i64 k, .bool b, .int .i64 n, .string t, .string x, .slice p len cap] 60)).cell? ⟨w.heap.size, 5, none⟩ = some (.slice p len cap) := cell_of (heap_new _ _ rfl) _ rfl
  cases b with
  | true =>
    go_enter Tryz.func183, Tryz.ntmps183
    go_wp2_with fail
    go_ret
    exact ⟨rfl, below1 _ _⟩
  | false =>
    by_cases e2 : n = 0
    · subst e2
      by_cases e3 : t.toList.isEmpty = true
      · have s3 := (empty_iff t).1 e3
        by_cases e4 : x.toList.isEmpty = true
        · have s4 := (empty_iff x).1 e4
          have hv : bareP false 0 t x len = ((len : Int) == 0) := by
            unfold bareP
            rw [s3, s4, Bool.eq_iff_iff]
            simp
          rw [hv]
          clear hv s3 s4
          go_enter Tryz.func183, Tryz.ntmps183
          go_wp2_with fail
          go_ret
          exact ⟨rfl, below1 _ _⟩
        · have s4 : ¬ x.size = 0 := mt (empty_iff x).2 e4
          have e4' : x.toList.isEmpty = false := by simpa using e4
          have hv : bareP false 0 t x len = false := by simp [bareP, s4]
          rw [hv]
          clear hv s3 s4 e4
          go_enter Tryz.func183, Tryz.ntmps183
          go_wp2_with fail
          go_ret
          exact ⟨rfl, below1 _ _⟩
      · have s3 : ¬ t.size = 0 := mt (empty_iff t).2 e3
        have e3' : t.toList.isEmpty = false := by simpa using e3
        have hv : bareP false 0 t x len = false := by simp [bareP, s3]
        rw [hv]
        clear hv s3 e3
        go_enter Tryz.func183, Tryz.ntmps183
        go_wp2_with fail
        go_ret
        exact ⟨rfl, below1 _ _⟩
    · have hv : bareP false n t x len = false := by simp [bareP, e2]
      rw [hv]
      clear hv
      go_enter Tryz.func183, Tryz.ntmps183
      go_wp2_with fail
      go_ret
      exact ⟨rfl, below1 _ _⟩
end Go.Proofs.YtcfmenkigolnoaaGreatDoor

/- Values in memory: a value's own block, and values in one another. -/
namespace Go.Proofs.YtcfmenkigolnoaaGreatDoor
open Go.RowKit

theorem info28 : (Tryz.prog.info? 60).map (·.size) = some 6 := by kernel_rfl

/-- A value's six cells in a block of its own. -/
def Six (w : World) (g : Nat) (k : Int) (b : Bool) (n : Int) (t x : ByteArray) (p : Option Addr) (len cap : Nat) : Prop :=
  w.heap[g]? = some (.cells #[.int .i64 k, .bool b, .int .i64 n, .string t, .string x, .slice p len cap] 60)

section
variable {w w' : World} {g e : Nat} {k : Int} {b : Bool} {n : Int} {t x : ByteArray} {p : Option Addr} {len cap : Nat}
theorem Six.below (h : Six w g k b n t x p len cap) (q : Below w.heap.size w w') : Six w' g k b n t x p len cap := (q.block g (lt_of_heap h)).trans h
theorem Six.only (h : Six w g k b n t x p len cap) (q : Only e w w') (d : g ≠ e) : Six w' g k b n t x p len cap := (q.block g (lt_of_heap h) d).trans h
theorem Six.alloc (h : Six w g k b n t x p len cap) (o : Obj) : Six (w.alloc o) g k b n t x p len cap := heap_old _ h
theorem Six.drewN (h : Six w g k b n t x p len cap) (m : Nat) : Six (w.drewN m) g k b n t x p len cap := h
theorem Six.lt (h : Six w g k b n t x p len cap) : g < w.heap.size := lt_of_heap h
theorem six_new (w : World) (e : w.heap.size = g) : Six (w.alloc (.cells #[.int .i64 k, .bool b, .int .i64 n, .string t, .string x, .slice p len cap] 60)) g k b n t x p len cap := heap_new _ _ e
theorem Six.c0 (h : Six w g k b n t x p len cap) : w.cell? ⟨g, 0, none⟩ = some (.int .i64 k) := cell_of h _ rfl
theorem Six.c1 (h : Six w g k b n t x p len cap) : w.cell? ⟨g, 1, none⟩ = some (.bool b) := cell_of h _ rfl
theorem Six.c2 (h : Six w g k b n t x p len cap) : w.cell? ⟨g, 2, none⟩ = some (.int .i64 n) := cell_of h _ rfl
theorem Six.c3 (h : Six w g k b n t x p len cap) : w.cell? ⟨g, 3, none⟩ = some (.string t) := cell_of h _ rfl
theorem Six.c4 (h : Six w g k b n t x p len cap) : w.cell? ⟨g, 4, none⟩ = some (.string x) := cell_of h _ rfl
theorem Six.c5 (h : Six w g k b n t x p len cap) : w.cell? ⟨g, 5, none⟩ = some (.slice p len cap) := cell_of h _ rfl
end

section
variable {w : World} {g : Nat} {k : Int} {b : Bool} {n : Int} {t x : ByteArray} {p : Option Addr} {len cap : Nat}
theorem Six.free (h : Six w g k b n t x p len cap) (i : Nat) : w.frozen? ⟨g, i, none⟩ = false := free_of h _
theorem Six.set1 (h : Six w g k b n t x p len cap) (v : Bool) : Six (w.setCell ⟨g, 1, none⟩ (.bool v)) g k v n t x p len cap := heap_set h 1 (.bool v)
theorem Six.set2 (h : Six w g k b n t x p len cap) (v : Int) : Six (w.setCell ⟨g, 2, none⟩ (.int .i64 v)) g k b v t x p len cap := heap_set h 2 (.int .i64 v)
theorem Six.set3 (h : Six w g k b n t x p len cap) (v : ByteArray) : Six (w.setCell ⟨g, 3, none⟩ (.string v)) g k b n v x p len cap := heap_set h 3 (.string v)
theorem Six.set4 (h : Six w g k b n t x p len cap) (v : ByteArray) : Six (w.setCell ⟨g, 4, none⟩ (.string v)) g k b n t v p len cap := heap_set h 4 (.string v)
theorem Six.set5 (h : Six w g k b n t x p len cap) (q : Option Addr) (l c : Nat) : Six (w.setCell ⟨g, 5, none⟩ (.slice q l c)) g k b n t x q l c := heap_set h 5 (.slice q l c)
theorem below_set {B e o : Nat} {y z : World} (h : Below B y z) (s : Option Nat) (v : Value) (hb : B ≤ e) (hs : B ≤ z.heap.size) : Below B y (z.setCell ⟨e, o, s⟩ v) :=
  below_only h ((Only.refl e z).setCell o s v) hb hs
end

theorem wpList_load6 {ops : Array Oper} {rest : List Oper} {o : Oper} {a : Act} {w : World} {Q : Exit → Act → World → Prop} {k : Int} {b : Bool} {n : Int} {t x : ByteArray} {p : Option Addr} {len cap : Nat} (y : Operand) (g : Nat) (hg : Six w g k b n t x p len cap)
    (hgd : o.guard = none) (ho : o.op = .load 60 y) (hx : a.eval y = .pointer (some ⟨g, 0, none⟩))
    (h : wpList Tryz.prog ops Q rest (a.put o.dst (.agg #[.int .i64 k, .bool b, .int .i64 n, .string t, .string x, .slice p len cap])) w) : wpList Tryz.prog ops Q (o :: rest) a w :=
  wpList_load_row hgd 60 y ho g hx 60 _ (0, 0) _ hg Tryz.underlying60 rfl info28 h
theorem wpList_store6 {ops : Array Oper} {rest : List Oper} {o : Oper} {a : Act} {w : World} {Q : Exit → Act → World → Prop} {k : Int} {b : Bool} {n : Int} {t x : ByteArray} {p : Option Addr} {len cap : Nat}
    {k' : Int} {b' : Bool} {n' : Int} {t' x' : ByteArray} {p' : Option Addr} {len' cap' : Nat} (y z : Operand) (g : Nat) (hg : Six w g k b n t x p len cap)
    (hgd : o.guard = none) (ho : o.op = .store 60 y z) (hx : a.eval y = .pointer (some ⟨g, 0, none⟩)) (hy : a.eval z = .agg #[.int .i64 k', .bool b', .int .i64 n', .string t', .string x', .slice p' len' cap'])
    (h : ∀ w', Only g w w' → Six w' g k' b' n' t' x' p' len' cap' → wpList Tryz.prog ops Q rest (a.put o.dst undef) w') : wpList Tryz.prog ops Q (o :: rest) a w :=
  wpList_plain hgd fun _ hK => by
    unfold Oper.wp execOp
    simp only [ho, hx, hy, Instr.storeAt, Instr.sureAddr, Sem.run_bind, Sem.run_pure, Result.andThen_ok, run_storeVar_row (P := Tryz.prog) w g 60 60 _ #[.int .i64 k', .bool b', .int .i64 n', .string t', .string x', .slice p' len' cap'] hg info28 rfl (by simp [Value.oneCell'])]
    exact hK _ _ (h _ (Only.setRow w _) (heap_setRow hg))
/-- The same behind a guard that is met. -/
theorem wpList_load6g {ops : Array Oper} {rest : List Oper} {o : Oper} {a : Act} {w : World} {Q : Exit → Act → World → Prop} {k : Int} {b : Bool} {n : Int} {t x : ByteArray} {p : Option Addr} {len cap : Nat} (y : Operand) (g : Nat) (hg : Six w g k b n t x p len cap)
    (hw : Region.wanted o (yielded ops a.tmps) = true) (ho : o.op = .load 60 y) (hx : a.eval y = .pointer (some ⟨g, 0, none⟩))
    (h : wpList Tryz.prog ops Q rest (a.put o.dst (.agg #[.int .i64 k, .bool b, .int .i64 n, .string t, .string x, .slice p len cap])) w) : wpList Tryz.prog ops Q (o :: rest) a w := by
  unfold wpList
  rw [if_pos hw]
  refine .inl ?_
  unfold Oper.wp execOp
  simp only [ho, hx, Instr.loadAt, Instr.sureAddr, Sem.run_bind, Sem.run_pure, Result.andThen_ok, run_loadVar_row (P := Tryz.prog) w g 60 60 _ (0, 0) _ hg Tryz.underlying60 rfl info28]
  exact h
end Go.Proofs.YtcfmenkigolnoaaGreatDoor

/- What a type switch over the small types finds. -/
namespace Go.Proofs.YtcfmenkigolnoaaGreatDoor
open Go.RowKit

theorem ta196_196 (w : World) : (Instr.typeAssert (.iface 196 (.agg #[])) 20 196 true).run Tryz.prog w = .ok (.tuple #[.agg #[], .bool true]) w := by kernel_rfl
theorem ta196_197 (w : World) : (Instr.typeAssert (.iface 196 (.agg #[])) 20 197 true).run Tryz.prog w = .ok (.tuple #[.agg #[], .bool false]) w := by kernel_rfl
theorem ta196_198 (w : World) : (Instr.typeAssert (.iface 196 (.agg #[])) 20 198 true).run Tryz.prog w = .ok (.tuple #[.agg #[], .bool false]) w := by kernel_rfl
theorem ta196_199 (w : World) : (Instr.typeAssert (.iface 196 (.agg #[])) 20 199 true).run Tryz.prog w = .ok (.tuple #[.agg #[], .bool false]) w := by kernel_rfl
theorem ta196_200 (w : World) : (Instr.typeAssert (.iface 196 (.agg #[])) 20 200 true).run Tryz.prog w = .ok (.tuple #[.agg #[], .bool false]) w := by kernel_rfl
theorem ta196_201 (w : World) : (Instr.typeAssert (.iface 196 (.agg #[])) 20 201 true).run Tryz.prog w = .ok (.tuple #[.agg #[], .bool false]) w := by kernel_rfl
theorem ta196_202 (w : World) : (Instr.typeAssert (.iface 196 (.agg #[])) 20 202 true).run Tryz.prog w = .ok (.tuple #[.agg #[], .bool false]) w := by kernel_rfl
theorem ta196_203 (w : World) : (Instr.typeAssert (.iface 196 (.agg #[])) 20 203 true).run Tryz.prog w = .ok (.tuple #[.agg #[], .bool false]) w := by kernel_rfl
theorem ta196_204 (w : World) : (Instr.typeAssert (.iface 196 (.agg #[])) 20 204 true).run Tryz.prog w = .ok (.tuple #[.agg #[], .bool false]) w := by kernel_rfl
theorem ta196_205 (w : World) : (Instr.typeAssert (.iface 196 (.agg #[])) 20 205 true).run Tryz.prog w = .ok (.tuple #[.agg #[], .bool false]) w := by kernel_rfl
theorem ta196_206 (w : World) : (Instr.typeAssert (.iface 196 (.agg #[])) 20 206 true).run Tryz.prog w = .ok (.tuple #[.agg #[], .bool false]) w := by kernel_rfl
theorem ta197_196 (w : World) : (Instr.typeAssert (.iface 197 (.agg #[])) 20 196 true).run Tryz.prog w = .ok (.tuple #[.agg #[], .bool false]) w := by kernel_rfl
theorem ta197_197 (w : World) : (Instr.typeAssert (.iface 197 (.agg #[])) 20 197 true).run Tryz.prog w = .ok (.tuple #[.agg #[], .bool true]) w := by kernel_rfl
theorem ta197_198 (w : World) : (Instr.typeAssert (.iface 197 (.agg #[])) 20 198 true).run Tryz.prog w = .ok (.tuple #[.agg #[], .bool false]) w := by kernel_rfl
theorem ta197_199 (w : World) : (Instr.typeAssert (.iface 197 (.agg #[])) 20 199 true).run Tryz.prog w = .ok (.tuple #[.agg #[], .bool false]) w := by kernel_rfl
theorem ta197_200 (w : World) : (Instr.typeAssert (.iface 197 (.agg #[])) 20 200 true).run Tryz.prog w = .ok (.tuple #[.agg #[], .bool false]) w := by kernel_rfl
theorem ta197_201 (w : World) : (Instr.typeAssert (.iface 197 (.agg #[])) 20 201 true).run Tryz.prog w = .ok (.tuple #[.agg #[], .bool false]) w := by kernel_rfl
theorem ta197_202 (w : World) : (Instr.typeAssert (.iface 197 (.agg #[])) 20 202 true).run Tryz.prog w = .ok (.tuple #[.agg #[], .bool false]) w := by kernel_rfl
theorem ta197_203 (w : World) : (Instr.typeAssert (.iface 197 (.agg #[])) 20 203 true).run Tryz.prog w = .ok (.tuple #[.agg #[], .bool false]) w := by kernel_rfl
theorem ta197_204 (w : World) : (Instr.typeAssert (.iface 197 (.agg #[])) 20 204 true).run Tryz.prog w = .ok (.tuple #[.agg #[], .bool false]) w := by kernel_rfl
theorem ta197_205 (w : World) : (Instr.typeAssert (.iface 197 (.agg #[])) 20 205 true).run Tryz.prog w = .ok (.tuple #[.agg #[], .bool false]) w := by kernel_rfl
theorem ta197_206 (w : World) : (Instr.typeAssert (.iface 197 (.agg #[])) 20 206 true).run Tryz.prog w = .ok (.tuple #[.agg #[], .bool false]) w := by kernel_rfl
theorem ta198_196 (w : World) : (Instr.typeAssert (.iface 198 (.agg #[])) 20 196 true).run Tryz.prog w = .ok (.tuple #[.agg #[], .bool false]) w := by kernel_rfl
theorem ta198_197 (w : World) : (Instr.typeAssert (.iface 198 (.agg #[])) 20 197 true).run Tryz.prog w = .ok (.tuple #[.agg #[], .bool false]) w := by kernel_rfl
theorem ta198_198 (w : World) : (Instr.typeAssert (.iface 198 (.agg #[])) 20 198 true).run Tryz.prog w = .ok (.tuple #[.agg #[], .bool true]) w := by kernel_rfl
theorem ta198_199 (w : World) : (Instr.typeAssert (.iface 198 (.agg #[])) 20 199 true).run Tryz.prog w = .ok (.tuple #[.agg #[], .bool false]) w := by kernel_rfl
theorem ta198_200 (w : World) : (Instr.typeAssert (.iface 198 (.agg #[])) 20 200 true).run Tryz.prog w = .ok (.tuple #[.agg #[], .bool false]) w := by kernel_rfl
theorem ta198_201 (w : World) : (Instr.typeAssert (.iface 198 (.agg #[])) 20 201 true).run Tryz.prog w = .ok (.tuple #[.agg #[], .bool false]) w := by kernel_rfl
theorem ta198_202 (w : World) : (Instr.typeAssert (.iface 198 (.agg #[])) 20 202 true).run Tryz.prog w = .ok (.tuple #[.agg #[], .bool false]) w := by kernel_rfl
theorem ta198_203 (w : World) : (Instr.typeAssert (.iface 198 (.agg #[])) 20 203 true).run Tryz.prog w = .ok (.tuple #[.agg #[], .bool false]) w := by kernel_rfl
theorem ta198_204 (w : World) : (Instr.typeAssert (.iface 198 (.agg #[])) 20 204 true).run Tryz.prog w = .ok (.tuple #[.agg #[], .bool false]) w := by kernel_rfl
theorem ta198_205 (w : World) : (Instr.typeAssert (.iface 198 (.agg #[])) 20 205 true).run Tryz.prog w = .ok (.tuple #[.agg #[], .bool false]) w := by kernel_rfl
theorem ta198_206 (w : World) : (Instr.typeAssert (.iface 198 (.agg #[])) 20 206 true).run Tryz.prog w = .ok (.tuple #[.agg #[], .bool false]) w := by kernel_rfl
theorem ta199_196 (w : World) : (Instr.typeAssert (.iface 199 (.agg #[])) 20 196 true).run Tryz.prog w = .ok (.tuple #[.agg #[], .bool false]) w := by kernel_rfl
theorem ta199_197 (w : World) : (Instr.typeAssert (.iface 199 (.agg #[])) 20 197 true).run Tryz.prog w = .ok (.tuple #[.agg #[], .bool false]) w := by kernel_rfl
theorem ta199_198 (w : World) : (Instr.typeAssert (.iface 199 (.agg #[])) 20 198 true).run Tryz.prog w = .ok (.tuple #[.agg #[], .bool false]) w := by kernel_rfl
theorem ta199_199 (w : World) : (Instr.typeAssert (.iface 199 (.agg #[])) 20 199 true).run Tryz.prog w = .ok (.tuple #[.agg #[], .bool true]) w := by kernel_rfl
theorem ta199_200 (w : World) : (Instr.typeAssert (.iface 199 (.agg #[])) 20 200 true).run Tryz.prog w = .ok (.tuple #[.agg #[], .bool false]) w := by kernel_rfl
theorem ta199_201 (w : World) : (Instr.typeAssert (.iface 199 (.agg #[])) 20 201 true).run Tryz.prog w = .ok (.tuple #[.agg #[], .bool false]) w := by kernel_rfl
theorem ta199_202 (w : World) : (Instr.typeAssert (.iface 199 (.agg #[])) 20 202 true).run Tryz.prog w = .ok (.tuple #[.agg #[], .bool false]) w := by kernel_rfl
theorem ta199_203 (w : World) : (Instr.typeAssert (.iface 199 (.agg #[])) 20 203 true).run Tryz.prog w = .ok (.tuple #[.agg #[], .bool false]) w := by kernel_rfl
theorem ta199_204 (w : World) : (Instr.typeAssert (.iface 199 (.agg #[])) 20 204 true).run Tryz.prog w = .ok (.tuple #[.agg #[], .bool false]) w := by kernel_rfl
theorem ta199_205 (w : World) : (Instr.typeAssert (.iface 199 (.agg #[])) 20 205 true).run Tryz.prog w = .ok (.tuple #[.agg #[], .bool false]) w := by kernel_rfl
theorem ta199_206 (w : World) : (Instr.typeAssert (.iface 199 (.agg #[])) 20 206 true).run Tryz.prog w = .ok (.tuple #[.agg #[], .bool false]) w := by kernel_rfl
theorem ta200_196 (w : World) : (Instr.typeAssert (.iface 200 (.agg #[])) 20 196 true).run Tryz.prog w = .ok (.tuple #[.agg #[], .bool false]) w := by kernel_rfl
theorem ta200_197 (w : World) : (Instr.typeAssert (.iface 200 (.agg #[])) 20 197 true).run Tryz.prog w = .ok (.tuple #[.agg #[], .bool false]) w := by kernel_rfl
theorem ta200_198 (w : World) : (Instr.typeAssert (.iface 200 (.agg #[])) 20 198 true).run Tryz.prog w = .ok (.tuple #[.agg #[], .bool false]) w := by kernel_rfl
theorem ta200_199 (w : World) : (Instr.typeAssert (.iface 200 (.agg #[])) 20 199 true).run Tryz.prog w = .ok (.tuple #[.agg #[], .bool false]) w := by kernel_rfl
theorem ta200_200 (w : World) : (Instr.typeAssert (.iface 200 (.agg #[])) 20 200 true).run Tryz.prog w = .ok (.tuple #[.agg #[], .bool true]) w := by kernel_rfl
theorem ta200_201 (w : World) : (Instr.typeAssert (.iface 200 (.agg #[])) 20 201 true).run Tryz.prog w = .ok (.tuple #[.agg #[], .bool false]) w := by kernel_rfl
theorem ta200_202 (w : World) : (Instr.typeAssert (.iface 200 (.agg #[])) 20 202 true).run Tryz.prog w = .ok (.tuple #[.agg #[], .bool false]) w := by kernel_rfl
theorem ta200_203 (w : World) : (Instr.typeAssert (.iface 200 (.agg #[])) 20 203 true).run Tryz.prog w = .ok (.tuple #[.agg #[], .bool false]) w := by kernel_rfl
theorem ta200_204 (w : World) : (Instr.typeAssert (.iface 200 (.agg #[])) 20 204 true).run Tryz.prog w = .ok (.tuple #[.agg #[], .bool false]) w := by kernel_rfl
theorem ta200_205 (w : World) : (Instr.typeAssert (.iface 200 (.agg #[])) 20 205 true).run Tryz.prog w = .ok (.tuple #[.agg #[], .bool false]) w := by kernel_rfl
theorem ta200_206 (w : World) : (Instr.typeAssert (.iface 200 (.agg #[])) 20 206 true).run Tryz.prog w = .ok (.tuple #[.agg #[], .bool false]) w := by kernel_rfl
theorem ta201_196 (w : World) : (Instr.typeAssert (.iface 201 (.agg #[])) 20 196 true).run Tryz.prog w = .ok (.tuple #[.agg #[], .bool false]) w := by kernel_rfl
theorem ta201_197 (w : World) : (Instr.typeAssert (.iface 201 (.agg #[])) 20 197 true).run Tryz.prog w = .ok (.tuple #[.agg #[], .bool false]) w := by kernel_rfl
theorem ta201_198 (w : World) : (Instr.typeAssert (.iface 201 (.agg #[])) 20 198 true).run Tryz.prog w = .ok (.tuple #[.agg #[], .bool false]) w := by kernel_rfl
theorem ta201_199 (w : World) : (Instr.typeAssert (.iface 201 (.agg #[])) 20 199 true).run Tryz.prog w = .ok (.tuple #[.agg #[], .bool false]) w := by kernel_rfl
theorem ta201_200 (w : World) : (Instr.typeAssert (.iface 201 (.agg #[])) 20 200 true).run Tryz.prog w = .ok (.tuple #[.agg #[], .bool false]) w := by kernel_rfl
theorem ta201_201 (w : World) : (Instr.typeAssert (.iface 201 (.agg #[])) 20 201 true).run Tryz.prog w = .ok (.tuple #[.agg #[], .bool true]) w := by kernel_rfl
theorem ta201_202 (w : World) : (Instr.typeAssert (.iface 201 (.agg #[])) 20 202 true).run Tryz.prog w = .ok (.tuple #[.agg #[], .bool false]) w := by kernel_rfl
theorem ta201_203 (w : World) : (Instr.typeAssert (.iface 201 (.agg #[])) 20 203 true).run Tryz.prog w = .ok (.tuple #[.agg #[], .bool false]) w := by kernel_rfl
theorem ta201_204 (w : World) : (Instr.typeAssert (.iface 201 (.agg #[])) 20 204 true).run Tryz.prog w = .ok (.tuple #[.agg #[], .bool false]) w := by kernel_rfl
theorem ta201_205 (w : World) : (Instr.typeAssert (.iface 201 (.agg #[])) 20 205 true).run Tryz.prog w = .ok (.tuple #[.agg #[], .bool false]) w := by kernel_rfl
theorem ta201_206 (w : World) : (Instr.typeAssert (.iface 201 (.agg #[])) 20 206 true).run Tryz.prog w = .ok (.tuple #[.agg #[], .bool false]) w := by kernel_rfl
theorem ta202_196 (w : World) : (Instr.typeAssert (.iface 202 (.agg #[])) 20 196 true).run Tryz.prog w = .ok (.tuple #[.agg #[], .bool false]) w := by kernel_rfl
theorem ta202_197 (w : World) : (Instr.typeAssert (.iface 202 (.agg #[])) 20 197 true).run Tryz.prog w = .ok (.tuple #[.agg #[], .bool false]) w := by kernel_rfl
theorem ta202_198 (w : World) : (Instr.typeAssert (.iface 202 (.agg #[])) 20 198 true).run Tryz.prog w = .ok (.tuple #[.agg #[], .bool false]) w := by kernel_rfl
theorem ta202_199 (w : World) : (Instr.typeAssert (.iface 202 (.agg #[])) 20 199 true).run Tryz.prog w = .ok (.tuple #[.agg #[], .bool false]) w := by kernel_rfl
theorem ta202_200 (w : World) : (Instr.typeAssert (.iface 202 (.agg #[])) 20 200 true).run Tryz.prog w = .ok (.tuple #[.agg #[], .bool false]) w := by kernel_rfl
theorem ta202_201 (w : World) : (Instr.typeAssert (.iface 202 (.agg #[])) 20 201 true).run Tryz.prog w = .ok (.tuple #[.agg #[], .bool false]) w := by kernel_rfl
theorem ta202_202 (w : World) : (Instr.typeAssert (.iface 202 (.agg #[])) 20 202 true).run Tryz.prog w = .ok (.tuple #[.agg #[], .bool true]) w := by kernel_rfl
theorem ta202_203 (w : World) : (Instr.typeAssert (.iface 202 (.agg #[])) 20 203 true).run Tryz.prog w = .ok (.tuple #[.agg #[], .bool false]) w := by kernel_rfl
theorem ta202_204 (w : World) : (Instr.typeAssert (.iface 202 (.agg #[])) 20 204 true).run Tryz.prog w = .ok (.tuple #[.agg #[], .bool false]) w := by kernel_rfl
theorem ta202_205 (w : World) : (Instr.typeAssert (.iface 202 (.agg #[])) 20 205 true).run Tryz.prog w = .ok (.tuple #[.agg #[], .bool false]) w := by kernel_rfl
theorem ta202_206 (w : World) : (Instr.typeAssert (.iface 202 (.agg #[])) 20 206 true).run Tryz.prog w = .ok (.tuple #[.agg #[], .bool false]) w := by kernel_rfl
theorem ta203_196 (w : World) : (Instr.typeAssert (.iface 203 (.agg #[])) 20 196 true).run Tryz.prog w = .ok (.tuple #[.agg #[], .bool false]) w := by kernel_rfl
theorem ta203_197 (w : World) : (Instr.typeAssert (.iface 203 (.agg #[])) 20 197 true).run Tryz.prog w = .ok (.tuple #[.agg #[], .bool false]) w := by kernel_rfl
theorem ta203_198 (w : World) : (Instr.typeAssert (.iface 203 (.agg #[])) 20 198 true).run Tryz.prog w = .ok (.tuple #[.agg #[], .bool false]) w := by kernel_rfl
theorem ta203_199 (w : World) : (Instr.typeAssert (.iface 203 (.agg #[])) 20 199 true).run Tryz.prog w = .ok (.tuple #[.agg #[], .bool false]) w := by kernel_rfl
theorem ta203_200 (w : World) : (Instr.typeAssert (.iface 203 (.agg #[])) 20 200 true).run Tryz.prog w = .ok (.tuple #[.agg #[], .bool false]) w := by kernel_rfl
theorem ta203_201 (w : World) : (Instr.typeAssert (.iface 203 (.agg #[])) 20 201 true).run Tryz.prog w = .ok (.tuple #[.agg #[], .bool false]) w := by kernel_rfl
theorem ta203_202 (w : World) : (Instr.typeAssert (.iface 203 (.agg #[])) 20 202 true).run Tryz.prog w = .ok (.tuple #[.agg #[], .bool false]) w := by kernel_rfl
theorem ta203_203 (w : World) : (Instr.typeAssert (.iface 203 (.agg #[])) 20 203 true).run Tryz.prog w = .ok (.tuple #[.agg #[], .bool true]) w := by kernel_rfl
theorem ta203_204 (w : World) : (Instr.typeAssert (.iface 203 (.agg #[])) 20 204 true).run Tryz.prog w = .ok (.tuple #[.agg #[], .bool false]) w := by kernel_rfl
theorem ta203_205 (w : World) : (Instr.typeAssert (.iface 203 (.agg #[])) 20 205 true).run Tryz.prog w = .ok (.tuple #[.agg #[], .bool false]) w := by kernel_rfl
theorem ta203_206 (w : World) : (Instr.typeAssert (.iface 203 (.agg #[])) 20 206 true).run Tryz.prog w = .ok (.tuple #[.agg #[], .bool false]) w := by kernel_rfl
theorem ta204_196 (w : World) : (Instr.typeAssert (.iface 204 (.agg #[])) 20 196 true).run Tryz.prog w = .ok (.tuple #[.agg #[], .bool false]) w := by kernel_rfl
theorem ta204_197 (w : World) : (Instr.typeAssert (.iface 204 (.agg #[])) 20 197 true).run Tryz.prog w = .ok (.tuple #[.agg #[], .bool false]) w := by kernel_rfl
theorem ta204_198 (w : World) : (Instr.typeAssert (.iface 204 (.agg #[])) 20 198 true).run Tryz.prog w = .ok (.tuple #[.agg #[], .bool false]) w := by kernel_rfl
theorem ta204_199 (w : World) : (Instr.typeAssert (.iface 204 (.agg #[])) 20 199 true).run Tryz.prog w = .ok (.tuple #[.agg #[], .bool false]) w := by kernel_rfl
theorem ta204_200 (w : World) : (Instr.typeAssert (.iface 204 (.agg #[])) 20 200 true).run Tryz.prog w = .ok (.tuple #[.agg #[], .bool false]) w := by kernel_rfl
theorem ta204_201 (w : World) : (Instr.typeAssert (.iface 204 (.agg #[])) 20 201 true).run Tryz.prog w = .ok (.tuple #[.agg #[], .bool false]) w := by kernel_rfl
theorem ta204_202 (w : World) : (Instr.typeAssert (.iface 204 (.agg #[])) 20 202 true).run Tryz.prog w = .ok (.tuple #[.agg #[], .bool false]) w := by kernel_rfl
theorem ta204_203 (w : World) : (Instr.typeAssert (.iface 204 (.agg #[])) 20 203 true).run Tryz.prog w = .ok (.tuple #[.agg #[], .bool false]) w := by kernel_rfl
theorem ta204_204 (w : World) : (Instr.typeAssert (.iface 204 (.agg #[])) 20 204 true).run Tryz.prog w = .ok (.tuple #[.agg #[], .bool true]) w := by kernel_rfl
theorem ta204_205 (w : World) : (Instr.typeAssert (.iface 204 (.agg #[])) 20 205 true).run Tryz.prog w = .ok (.tuple #[.agg #[], .bool false]) w := by kernel_rfl
theorem ta204_206 (w : World) : (Instr.typeAssert (.iface 204 (.agg #[])) 20 206 true).run Tryz.prog w = .ok (.tuple #[.agg #[], .bool false]) w := by kernel_rfl
theorem ta205_196 (w : World) : (Instr.typeAssert (.iface 205 (.agg #[])) 20 196 true).run Tryz.prog w = .ok (.tuple #[.agg #[], .bool false]) w := by kernel_rfl
theorem ta205_197 (w : World) : (Instr.typeAssert (.iface 205 (.agg #[])) 20 197 true).run Tryz.prog w = .ok (.tuple #[.agg #[], .bool false]) w := by kernel_rfl
theorem ta205_198 (w : World) : (Instr.typeAssert (.iface 205 (.agg #[])) 20 198 true).run Tryz.prog w = .ok (.tuple #[.agg #[], .bool false]) w := by kernel_rfl
theorem ta205_199 (w : World) : (Instr.typeAssert (.iface 205 (.agg #[])) 20 199 true).run Tryz.prog w = .ok (.tuple #[.agg #[], .bool false]) w := by kernel_rfl
theorem ta205_200 (w : World) : (Instr.typeAssert (.iface 205 (.agg #[])) 20 200 true).run Tryz.prog w = .ok (.tuple #[.agg #[], .bool false]) w := by kernel_rfl
theorem ta205_201 (w : World) : (Instr.typeAssert (.iface 205 (.agg #[])) 20 201 true).run Tryz.prog w = .ok (.tuple #[.agg #[], .bool false]) w := by kernel_rfl
theorem ta205_202 (w : World) : (Instr.typeAssert (.iface 205 (.agg #[])) 20 202 true).run Tryz.prog w = .ok (.tuple #[.agg #[], .bool false]) w := by kernel_rfl
theorem ta205_203 (w : World) : (Instr.typeAssert (.iface 205 (.agg #[])) 20 203 true).run Tryz.prog w = .ok (.tuple #[.agg #[], .bool false]) w := by kernel_rfl
theorem ta205_204 (w : World) : (Instr.typeAssert (.iface 205 (.agg #[])) 20 204 true).run Tryz.prog w = .ok (.tuple #[.agg #[], .bool false]) w := by kernel_rfl
theorem ta205_205 (w : World) : (Instr.typeAssert (.iface 205 (.agg #[])) 20 205 true).run Tryz.prog w = .ok (.tuple #[.agg #[], .bool true]) w := by kernel_rfl
theorem ta205_206 (w : World) : (Instr.typeAssert (.iface 205 (.agg #[])) 20 206 true).run Tryz.prog w = .ok (.tuple #[.agg #[], .bool false]) w := by kernel_rfl
theorem ta206_196 (w : World) : (Instr.typeAssert (.iface 206 (.agg #[])) 20 196 true).run Tryz.prog w = .ok (.tuple #[.agg #[], .bool false]) w := by kernel_rfl
theorem ta206_197 (w : World) : (Instr.typeAssert (.iface 206 (.agg #[])) 20 197 true).run Tryz.prog w = .ok (.tuple #[.agg #[], .bool false]) w := by kernel_rfl
theorem ta206_198 (w : World) : (Instr.typeAssert (.iface 206 (.agg #[])) 20 198 true).run Tryz.prog w = .ok (.tuple #[.agg #[], .bool false]) w := by kernel_rfl
theorem ta206_199 (w : World) : (Instr.typeAssert (.iface 206 (.agg #[])) 20 199 true).run Tryz.prog w = .ok (.tuple #[.agg #[], .bool false]) w := by kernel_rfl
theorem ta206_200 (w : World) : (Instr.typeAssert (.iface 206 (.agg #[])) 20 200 true).run Tryz.prog w = .ok (.tuple #[.agg #[], .bool false]) w := by kernel_rfl
theorem ta206_201 (w : World) : (Instr.typeAssert (.iface 206 (.agg #[])) 20 201 true).run Tryz.prog w = .ok (.tuple #[.agg #[], .bool false]) w := by kernel_rfl
theorem ta206_202 (w : World) : (Instr.typeAssert (.iface 206 (.agg #[])) 20 202 true).run Tryz.prog w = .ok (.tuple #[.agg #[], .bool false]) w := by kernel_rfl
theorem ta206_203 (w : World) : (Instr.typeAssert (.iface 206 (.agg #[])) 20 203 true).run Tryz.prog w = .ok (.tuple #[.agg #[], .bool false]) w := by kernel_rfl
theorem ta206_204 (w : World) : (Instr.typeAssert (.iface 206 (.agg #[])) 20 204 true).run Tryz.prog w = .ok (.tuple #[.agg #[], .bool false]) w := by kernel_rfl
theorem ta206_205 (w : World) : (Instr.typeAssert (.iface 206 (.agg #[])) 20 205 true).run Tryz.prog w = .ok (.tuple #[.agg #[], .bool false]) w := by kernel_rfl
theorem ta206_206 (w : World) : (Instr.typeAssert (.iface 206 (.agg #[])) 20 206 true).run Tryz.prog w = .ok (.tuple #[.agg #[], .bool true]) w := by kernel_rfl
theorem ta214_196 (w : World) : (Instr.typeAssert (.iface 214 (.agg #[])) 20 196 true).run Tryz.prog w = .ok (.tuple #[.agg #[], .bool false]) w := by kernel_rfl
theorem ta214_197 (w : World) : (Instr.typeAssert (.iface 214 (.agg #[])) 20 197 true).run Tryz.prog w = .ok (.tuple #[.agg #[], .bool false]) w := by kernel_rfl
theorem ta214_198 (w : World) : (Instr.typeAssert (.iface 214 (.agg #[])) 20 198 true).run Tryz.prog w = .ok (.tuple #[.agg #[], .bool false]) w := by kernel_rfl
theorem ta214_199 (w : World) : (Instr.typeAssert (.iface 214 (.agg #[])) 20 199 true).run Tryz.prog w = .ok (.tuple #[.agg #[], .bool false]) w := by kernel_rfl
theorem ta214_200 (w : World) : (Instr.typeAssert (.iface 214 (.agg #[])) 20 200 true).run Tryz.prog w = .ok (.tuple #[.agg #[], .bool false]) w := by kernel_rfl
theorem ta214_201 (w : World) : (Instr.typeAssert (.iface 214 (.agg #[])) 20 201 true).run Tryz.prog w = .ok (.tuple #[.agg #[], .bool false]) w := by kernel_rfl
theorem ta214_202 (w : World) : (Instr.typeAssert (.iface 214 (.agg #[])) 20 202 true).run Tryz.prog w = .ok (.tuple #[.agg #[], .bool false]) w := by kernel_rfl
theorem ta214_203 (w : World) : (Instr.typeAssert (.iface 214 (.agg #[])) 20 203 true).run Tryz.prog w = .ok (.tuple #[.agg #[], .bool false]) w := by kernel_rfl
theorem ta214_204 (w : World) : (Instr.typeAssert (.iface 214 (.agg #[])) 20 204 true).run Tryz.prog w = .ok (.tuple #[.agg #[], .bool false]) w := by kernel_rfl
theorem ta214_205 (w : World) : (Instr.typeAssert (.iface 214 (.agg #[])) 20 205 true).run Tryz.prog w = .ok (.tuple #[.agg #[], .bool false]) w := by kernel_rfl
theorem ta214_206 (w : World) : (Instr.typeAssert (.iface 214 (.agg #[])) 20 206 true).run Tryz.prog w = .ok (.tuple #[.agg #[], .bool false]) w := by kernel_rfl

end Go.Proofs.YtcfmenkigolnoaaGreatDoor
