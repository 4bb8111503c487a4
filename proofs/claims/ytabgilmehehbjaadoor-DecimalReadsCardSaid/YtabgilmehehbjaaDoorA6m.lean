/- isZero, opposite, compare. -/
import Derived.Test.YtabgilmehehbjaaDoorA1m
import Derived.Test.YtabgilmehehbjaaDoorA2m
import Derived.Deep.DeepCutAuto
import Derived.Laws.StructEq
import Derived.Deep.RegionWith
namespace Go.Proofs.YtabgilmehehbjaaDoor
open Go.RowKit

theorem IsNum.neg' {c : Array Value} {n m : Bool} {f : Nat → Nat} (h : IsNum c n f) : IsNum (c.setIfInBounds 0 (.bool m)) m f :=
  ⟨by rw [Array.getElem?_setIfInBounds_self_of_lt (by rw [h.size]; omega)], fun j hj => by rw [Array.getElem?_setIfInBounds_ne (by omega)]; exact h.word j hj, by simp [h.size], h.lt⟩

set_option maxHeartbeats 400000 in
theorem opp (c : Array Value) (n : Bool) (f : Nat → Nat) (w : World) (hc : IsNum c n f) :
    Calls Tryd.prog 56 #[.agg c] w fun e w' => ∃ c', e = .returned (.agg c') ∧ IsNum c' (!n) f ∧ Below w.heap.size w w' := by
  have h0 : ∀ o, ((w.alloc (.cells c 59)).alloc o).cell? ⟨w.heap.size, 0, none⟩ = some (.bool n) := fun o => cell_of (heap_old _ (heap_new _ _ rfl)) _ hc.neg
  have h1 : ∀ o, ((w.alloc (.cells c 59)).alloc o).frozen? ⟨w.heap.size, 0, none⟩ = false := fun o => free_of (heap_old _ (heap_new _ _ rfl)) _
  go_enter Tryd.func56, Tryd.ntmps56
  go_wp2_with (first
    | (refine wpList_load_num w.heap.size (c.setIfInBounds 0 (.bool !n)) ?_ ?_ (.tmp 1) rfl rfl rfl ?_; exact heap_old _ (heap_new _ _ rfl); exact (hc.neg' (m := !n)).size)
    | (refine wpList_store_num (w.heap.size + 1) zero59 (c.setIfInBounds 0 (.bool !n)) ?_ ?_ ?_ ?_ (.tmp 2) (.tmp 7) rfl rfl rfl rfl ?_; exact heap_new _ _ (by simp); rfl; exact (hc.neg' (m := !n)).size; exact (hc.neg' (m := !n)).one; intro w1 ho1 hh1))
  have hz := (hc.neg' (m := !n))
  refine bodyPost_ret (v := .agg (c.setIfInBounds 0 (.bool !n))) (results_cell_row (p := 2) (ty := 59) Tryd.results56 _ _ (w.heap.size + 1) 59 _ (0, 0) _ rfl hh1 Tryd.underlying59 rfl (by rw [hz.size]; exact info59)) rfl ⟨_, rfl, hz, ?_⟩
  exact below_only (((Below.refl _ _).alloc (Nat.le_refl _) _).alloc (by simp) _) ho1 (by simp) (by simp; omega)

theorem vN_zero (n : Nat) (f : Nat → Nat) : vN n f = 0 ↔ ∀ j, j < n → f j = 0 := by
  induction n with
  | zero => simp [vN]
  | succ n ih =>
    have hb : 0 < BASE ^ n := Nat.pow_pos (by decide)
    simp only [vN, Nat.add_eq_zero_iff, ih, Nat.mul_eq_zero]
    constructor
    · rintro ⟨h, h' | h'⟩ j hj
      · by_cases e : j = n
        · rw [e]; exact h'
        · exact h j (by omega)
      · omega
    · intro h
      exact ⟨fun j hj => h j (by omega), .inl (h n (by omega))⟩

theorem size56 (w : World) : (sizeOf 56).run Tryd.prog w = .ok 1 w := by kernel_rfl
theorem agg56 (w : World) : (isAgg 56).run Tryd.prog w = .ok false w := by kernel_rfl
theorem run_eq16 (d : Nat) (xs ys : Array Value) (f g : Nat → Nat) (w : World) (hx : ∀ j, j < 16 → xs[j]? = some (.int .u32 (f j))) (hy : ∀ j, j < 16 → ys[j]? = some (.int .u32 (g j))) :
    (Op.equalIn (d + 2) 57 (.agg xs) (.agg ys)).run Tryd.prog w = .ok ((List.range 16).all fun j => f j == g j) w := by
  rw [Op.equalIn]
  simp only [Sem.run_bind, run_underlying Tryd.underlying57, Result.andThen_ok, size56]
  rw [Std.Legacy.Range.forIn_eq_forIn_range']
  have key : ∀ (n s : Nat), s + n ≤ 16 →
      Sem.run Tryd.prog (forIn (List.range' s n 1) ((none, ()) : Option Bool × Unit) fun i __s => do
              let __do_lift ← part 56 xs (i * 1)
              let __do_lift_1 ← part 56 ys (i * 1)
              let __do_lift ← Op.equalIn (d + 1) 56 __do_lift __do_lift_1
              if (!__do_lift) = true then pure (ForInStep.done (some false, ()))
                else pure (ForInStep.yield (none, ()))) w =
      .ok (if ((List.range' s n 1).all fun j => f j == g j) = true then (none, ()) else (some false, ())) w := by
    intro n
    induction n with
    | zero => intro s _; simp
    | succ n ih =>
      intro s hs
      have ih' := ih (s + 1) (by omega)
      simp only [List.range'_succ, List.forIn_cons, Sem.run_bind, part, agg56, Result.andThen_ok, Bool.false_eq_true, if_false, Nat.mul_one, hx s (by omega), hy s (by omega), Sem.run_ite, Sem.run_pure, run_equalIn_int w d 56 .u32 .u32 _ _ Tryd.underlying56, List.all_cons]
      by_cases e : f s = g s
      · simp only [e, beq_self_eq_true, Bool.not_true, Bool.false_eq_true, if_false, Result.andThen_ok, Bool.true_and]
        simpa [part, Sem.run_bind] using ih'
      · have e' : ((f s : Int) == (g s : Int)) = false := by simp; omega
        have e'' : (f s == g s) = false := by simp; omega
        simp [e', e'']
  have k0 := key 16 0 (by omega)
  rw [← List.range_eq_range'] at k0
  have e : List.range' [:16].start [:16].size [:16].step = List.range 16 := by decide
  rw [e, k0]
  generalize ((List.range 16).all fun j => f j == g j) = b
  cases b <;> simp
theorem word_extract {c : Array Value} {n : Bool} {f : Nat → Nat} (hc : IsNum c n f) (j : Nat) (hj : j < 16) : (c.extract 1 17)[j]? = some (.int .u32 (f j)) := by
  rw [Array.getElem?_extract, if_pos (by have := hc.size; omega)]
  exact hc.word j hj
theorem info57 : (Tryd.prog.info? 57).map (·.size) = some 16 := by kernel_rfl
theorem wpList_load_words {ops : Array Oper} {rest : List Oper} {o : Oper} {a : Act} {w : World} {Q : Exit → Act → World → Prop} (g : Nat) (c : Array Value) (hg : w.heap[g]? = some (.cells c 59)) (hs : c.size = 17)
    (x : Operand) (hgd : o.guard = none) (ho : o.op = .load 57 x) (hx : a.eval x = .pointer (some ⟨g, 1, none⟩))
    (h : wpList Tryd.prog ops Q rest (a.put o.dst (.agg (c.extract 1 17))) w) : wpList Tryd.prog ops Q (o :: rest) a w :=
  wpList_load_mid hgd 57 x ho g 1 hx (c.extract 1 17).toList _ (World.rangeAt_of_block hg 1 16) Tryd.underlying57 rfl (by rw [info57]; simp [hs]) (by rw [Array.toArray_toList]; exact h)

def zero57 : Array Value := #[.int .u32 0, .int .u32 0, .int .u32 0, .int .u32 0, .int .u32 0, .int .u32 0, .int .u32 0, .int .u32 0, .int .u32 0, .int .u32 0, .int .u32 0, .int .u32 0, .int .u32 0, .int .u32 0, .int .u32 0, .int .u32 0]
theorem zero57_at (j : Nat) (hj : j < 16) : zero57[j]? = some (.int .u32 ((0 : Nat) : Int)) := by
  match j, hj with
  | 0, _ => rfl
  | 1, _ => rfl
  | 2, _ => rfl
  | 3, _ => rfl
  | 4, _ => rfl
  | 5, _ => rfl
  | 6, _ => rfl
  | 7, _ => rfl
  | 8, _ => rfl
  | 9, _ => rfl
  | 10, _ => rfl
  | 11, _ => rfl
  | 12, _ => rfl
  | 13, _ => rfl
  | 14, _ => rfl
  | 15, _ => rfl
  | k + 16, h => exact absurd h (by omega)

theorem wpList_eql_words {ops : Array Oper} {rest : List Oper} {o : Oper} {a : Act} {w : World} {Q : Exit → Act → World → Prop} (xs ys : Array Value) (r : Bool)
    (he : (binOp .eql 57 (.agg xs) (.agg ys)).run Tryd.prog w = .ok (.bool r) w)
    (x y : Operand) (hgd : o.guard = none) (ho : o.op = .binOp .eql 57 x y 57) (hx : a.eval x = .agg xs) (hy : a.eval y = .agg ys)
    (h : wpList Tryd.prog ops Q rest (a.put o.dst (.bool r)) w) : wpList Tryd.prog ops Q (o :: rest) a w :=
  wpList_plain hgd fun _ hK => by
    unfold Oper.wp execOp
    simp only [ho, hx, hy]
    have hm : Tryd.prog.eqGuardType Tryd.prog.depth 57 = false := by kernel_rfl
    rw [Sem.run_bind, Sem.run_bind, run_eqGuard_agg w .eql 57 x y xs ys hm, Result.andThen_ok, he, Result.andThen_ok]
    exact hK _ _ h

set_option maxHeartbeats 400000 in
theorem isZ (c : Array Value) (n : Bool) (f : Nat → Nat) (w : World) (hc : IsNum c n f) :
    Calls Tryd.prog 52 #[.agg c] w fun e w' => e = .returned (.bool (decide (wval f = 0))) ∧ Below w.heap.size w w' := by
  have he : ∀ W, (binOp .eql 57 (.agg (c.extract 1 17)) (.agg zero57)).run Tryd.prog W = .ok (.bool (decide (wval f = 0))) W := by
    intro W
    rw [run_eql_struct, run_eq16 9998 _ _ f (fun _ => 0) W (word_extract hc) zero57_at]
    have e : ((List.range 16).all fun j => f j == 0) = decide (wval f = 0) := by
      rw [Bool.eq_iff_iff]
      simp [wval, vN_zero]
    rw [e]
    rfl
  have HE := Lib.hid he
  clear he
  go_enter Tryd.func52, Tryd.ntmps52
  go_wp2_with (first
    | ((with_reducible refine wpList_load_words w.heap.size c ?_ ?_ (.tmp 3) ?_ ?_ ?_ ?_); exact heap_new _ _ rfl; exact hc.size; rfl; rfl; rfl)
    | ((with_reducible refine wpList_eql_words (c.extract 1 17) zero57 (decide (wval f = 0)) ?_ (.tmp 4) (.tmp 5) ?_ ?_ ?_ ?_ ?_); exact HE.out _; rfl; rfl; rfl; rfl))
  go_ret
  exact ⟨rfl, (Below.refl _ _).alloc (Nat.le_refl _) _⟩

/-- Compare of two signs and amounts, as the text has it. -/
def cmpS (n : Bool) (x : Nat) (m : Bool) (y : Nat) : Int :=
  if n && !m then -1 else if m && !n then 1 else if n then cmpI y x else cmpI x y

end Go.Proofs.YtabgilmehehbjaaDoor
