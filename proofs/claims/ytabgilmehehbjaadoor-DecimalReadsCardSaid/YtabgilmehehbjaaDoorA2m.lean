/- addAmount, takeAmount, push: what they do to the number behind the pointer. -/
import Derived.Test.YtabgilmehehbjaaDoorA0m
namespace Go.Proofs.YtabgilmehehbjaaDoor
open Go.RowKit

set_option maxHeartbeats 400000 in
theorem addAmt (b : Nat) (c d : Array Value) (n m : Bool) (f g : Nat → Nat) (w : World) (hb : w.heap[b]? = some (.cells c 59)) (hc : IsNum c n f) (hd : IsNum d m g) :
    Calls Tryd.prog 75 #[.pointer (some ⟨b, 0, none⟩), .agg d] w fun e w' => e = .returned (.tuple #[]) ∧ Only b w w' ∧
      ∃ c' h cr, w'.heap[b]? = some (.cells c' 59) ∧ IsNum c' n h ∧ AddTo f g h cr 16 := by
  have hbs := lt_of_heap hb
  go_enter Tryd.func75, Tryd.ntmps75
  go_wp2
  go_loopw [4, 7] (fun cv i wr => ∃ (k cr : Nat) (c' : Array Value) (h : Nat → Nat), k ≤ 16 ∧ cr ≤ 1 ∧ i = .int .i64 k ∧ cv = .int .u32 cr ∧ wr.heap[b]? = some (.cells c' 59) ∧ wr.heap[w.heap.size]? = some (.cells d 59) ∧ IsNum c' n h ∧ AddTo f g h cr k ∧ Only b w wr) (fun _ i _ => 16 - (intOf i).toNat)
  case atStart =>
    exact ⟨0, 0, c, f, by omega, by omega, rfl, rfl, heap_old _ hb, heap_new _ _ rfl, hc, AddTo.zero hc.lt, (Only.refl _ _).alloc _⟩
  case round =>
    obtain ⟨k, cr, c', h, hk, hcr, rfl, rfl, hb1, hb2, hn, ha, ho⟩ := hrel
    have B1 := Lib.hid hb1
    have B2 := Lib.hid hb2
    have A := Lib.hid ha
    clear hb1 hb2 ha
    by_cases hlt : k < 16
    · have hx : wr.cell? ⟨b, 1 + k, none⟩ = some (.int .u32 (h k)) := cell_of B1.out _ (hn.word k hlt)
      have hy : wr.cell? ⟨w.heap.size, 1 + k, none⟩ = some (.int .u32 (g k)) := cell_of B2.out _ (hd.word k hlt)
      have hfr : wr.frozen? ⟨b, 1 + k, none⟩ = false := free_of B1.out _
      have h1 : h k < 1000000000 := hn.lt k hlt
      have h2 : g k < 1000000000 := hd.lt k hlt
      go_wp2
      go_quiet (fail)
      go_wp2
      have e1 : ((h k : Int) + g k + cr) % 1000000000 = (((h k + g k + cr) % BASE : Nat) : Int) := by unfold BASE; omega
      have e2 : ((h k : Int) + g k + cr) / 1000000000 = (((h k + g k + cr) / BASE : Nat) : Int) := by unfold BASE; omega
      go_roundw
      case rel =>
        have st := A.out.step hc.lt hd.lt hlt
        exact ⟨k + 1, _, _, _, by omega, st.one, by go_num, by rw [e2], by rw [e1]; exact heap_set B1.out _ _, (Below.heap_setCell _ _ _ _ (by show w.heap.size ≠ b; omega)).trans B2.out, hn.set hlt (Nat.mod_lt _ (by decide)), st, (ho.drewN _).setCell _ _ _⟩
      case measure => simp [intOf]; omega
    · obtain rfl : k = 16 := by omega
      go_wp2
      go_end0
      exact ⟨rfl, ho, c', h, cr, B1.out, hn, A.out⟩
set_option maxHeartbeats 400000 in
theorem takeAmt (b : Nat) (c d : Array Value) (n m : Bool) (f g : Nat → Nat) (w : World) (hb : w.heap[b]? = some (.cells c 59)) (hc : IsNum c n f) (hd : IsNum d m g) :
    Calls Tryd.prog 76 #[.pointer (some ⟨b, 0, none⟩), .agg d] w fun e w' => e = .returned (.tuple #[]) ∧ Only b w w' ∧
      ∃ c' h cr, w'.heap[b]? = some (.cells c' 59) ∧ IsNum c' n h ∧ TakeFrom f g h cr 16 := by
  have hbs := lt_of_heap hb
  go_enter Tryd.func76, Tryd.ntmps76
  go_wp2
  go_loopw [4, 7] (fun cv i wr => ∃ (k cr : Nat) (c' : Array Value) (h : Nat → Nat), k ≤ 16 ∧ cr ≤ 1 ∧ i = .int .i64 k ∧ cv = .int .u32 cr ∧ wr.heap[b]? = some (.cells c' 59) ∧ wr.heap[w.heap.size]? = some (.cells d 59) ∧ IsNum c' n h ∧ TakeFrom f g h cr k ∧ Only b w wr) (fun _ i _ => 16 - (intOf i).toNat)
  case atStart =>
    exact ⟨0, 0, c, f, by omega, by omega, rfl, rfl, heap_old _ hb, heap_new _ _ rfl, hc, TakeFrom.zero hc.lt, (Only.refl _ _).alloc _⟩
  case round =>
    obtain ⟨k, cr, c', h, hk, hcr, rfl, rfl, hb1, hb2, hn, ha, ho⟩ := hrel
    have B1 := Lib.hid hb1
    have B2 := Lib.hid hb2
    have A := Lib.hid ha
    clear hb1 hb2 ha
    by_cases hlt : k < 16
    · have hx : wr.cell? ⟨b, 1 + k, none⟩ = some (.int .u32 (h k)) := cell_of B1.out _ (hn.word k hlt)
      have hy : wr.cell? ⟨w.heap.size, 1 + k, none⟩ = some (.int .u32 (g k)) := cell_of B2.out _ (hd.word k hlt)
      have hfr : wr.frozen? ⟨b, 1 + k, none⟩ = false := free_of B1.out _
      have h1 : h k < 1000000000 := hn.lt k hlt
      have h2 : g k < 1000000000 := hd.lt k hlt
      go_wp2
      go_quiet (fail)
      go_wp2
      have e1 : (1000000000 + (h k : Int) - g k - cr) % 1000000000 = (((BASE + h k - g k - cr) % BASE : Nat) : Int) := by unfold BASE; omega
      have e2 : 1 - (1000000000 + (h k : Int) - g k - cr) / 1000000000 = ((1 - (BASE + h k - g k - cr) / BASE : Nat) : Int) := by unfold BASE; omega
      go_roundw
      case rel =>
        have st := A.out.step hc.lt hd.lt hlt
        exact ⟨k + 1, _, _, _, by omega, st.one, by go_num, by rw [e2], by rw [e1]; exact heap_set B1.out _ _, (Below.heap_setCell _ _ _ _ (by show w.heap.size ≠ b; omega)).trans B2.out, hn.set hlt (Nat.mod_lt _ (by decide)), st, (ho.drewN _).setCell _ _ _⟩
      case measure => simp [intOf]; omega
    · obtain rfl : k = 16 := by omega
      go_wp2
      go_end0
      exact ⟨rfl, ho, c', h, cr, B1.out, hn, A.out⟩
set_option maxHeartbeats 400000 in
theorem pushAt (b : Nat) (c : Array Value) (n : Bool) (f : Nat → Nat) (x : Int) (w : World) (hb : w.heap[b]? = some (.cells c 59)) (hc : IsNum c n f) (hx0 : 48 ≤ x) (hx9 : x ≤ 57) :
    Calls Tryd.prog 77 #[.pointer (some ⟨b, 0, none⟩), .int .u8 x] w fun e w' => e = .returned (.tuple #[]) ∧ Only b w w' ∧
      ∃ c' h cr, w'.heap[b]? = some (.cells c' 59) ∧ IsNum c' n h ∧ PushTo f (x - 48).toNat h cr 16 := by
  have hbs := lt_of_heap hb
  obtain ⟨d, hd⟩ : ∃ d : Nat, x = 48 + d := ⟨(x - 48).toNat, by omega⟩
  subst hd
  have hd9 : d ≤ 9 := by omega
  have ed : (48 + (d : Int) - 48).toNat = d := by omega
  rw [ed]
  clear ed
  go_enter Tryd.func77, Tryd.ntmps77
  go_wp2
  go_loopw [4, 10] (fun cv i wr => ∃ (k cr : Nat) (c' : Array Value) (h : Nat → Nat), k ≤ 16 ∧ cr ≤ 9 ∧ i = .int .i64 k ∧ cv = .int .u64 cr ∧ wr.heap[b]? = some (.cells c' 59) ∧ IsNum c' n h ∧ PushTo f d h cr k ∧ Only b w wr) (fun _ i _ => 16 - (intOf i).toNat)
  case atStart =>
    exact ⟨0, d, c, f, by omega, by omega, rfl, by go_num, hb, hc, PushTo.zero hc.lt hd9, Only.refl _ _⟩
  case round =>
    obtain ⟨k, cr, c', h, hk, hcr, rfl, rfl, hb1, hn, ha, ho⟩ := hrel
    have B1 := Lib.hid hb1
    have A := Lib.hid ha
    clear hb1 ha
    by_cases hlt : k < 16
    · have hx : wr.cell? ⟨b, 1 + k, none⟩ = some (.int .u32 (h k)) := cell_of B1.out _ (hn.word k hlt)
      have hfr : wr.frozen? ⟨b, 1 + k, none⟩ = false := free_of B1.out _
      have h1 : h k < 1000000000 := hn.lt k hlt
      go_wp2
      have e1 : ((h k : Int) * 10 + cr) % 1000000000 = (((h k * 10 + cr) % BASE : Nat) : Int) := by unfold BASE; omega
      have e2 : ((h k : Int) * 10 + cr) / 1000000000 = (((h k * 10 + cr) / BASE : Nat) : Int) := by unfold BASE; omega
      go_roundw
      case rel =>
        have st := A.out.step hc.lt hlt
        exact ⟨k + 1, _, _, _, by omega, st.one, by go_num, by rw [e2], by rw [e1]; exact heap_set B1.out _ _, hn.set hlt (Nat.mod_lt _ (by decide)), st, ho.setCell _ _ _⟩
      case measure => simp [intOf]; omega
    · obtain rfl : k = 16 := by omega
      go_wp2
      go_end0
      exact ⟨rfl, ho, c', h, cr, B1.out, hn, A.out⟩
end Go.Proofs.YtabgilmehehbjaaDoor
