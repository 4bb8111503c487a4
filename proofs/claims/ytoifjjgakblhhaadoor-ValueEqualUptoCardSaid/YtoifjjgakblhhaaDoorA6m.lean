/- isZero, opposite, compare. -/
import Derived.Test.YtoifjjgakblhhaaDoorA1m
import Derived.Test.YtoifjjgakblhhaaDoorA2m
import Derived.Deep.DeepCutAuto
import Derived.Laws.StructEq
import Derived.Deep.RegionWith
namespace Go.Proofs.YtoifjjgakblhhaaDoor
open Go.RowKit

theorem IsNum.neg' {c : Array Value} {n m : Bool} {f : Nat → Nat} (h : IsNum c n f) : IsNum (c.setIfInBounds 0 (.bool m)) m f :=
  ⟨by rw [Array.getElem?_setIfInBounds_self_of_lt (by rw [h.size]; omega)], fun j hj => by rw [Array.getElem?_setIfInBounds_ne (by omega)]; exact h.word j hj, by simp [h.size], h.lt⟩

theorem vN_zero (n : Nat) (f : Nat → Nat) : vN n f = 0 ↔ ∀ j, j < n → f j = 0 := by
  induction n with
  | zero => simp [vN]
  | succ n ih =>
    have hb : 0 < BASE ^ n := Nat.pow_pos (by decide)
    simp only [vN, Nat.add_eq_zero_iff, ih, Nat.mul_eq_zero]
    constructor
    · rintro ⟨h, h' | h'⟩ j hj
      · by_cases e : j = n
        · rw [e]; exact h'
        · exact h j (by omega)
      · omega
    · intro h
      exact ⟨fun j hj => h j (by omega), .inl (h n (by omega))⟩

theorem size56 (w : World) : (sizeOf 70).run Tryd.prog w = .ok 1 w := by kernel_rfl
theorem agg56 (w : World) : (isAgg 70).run Tryd.prog w = .ok false w := by kernel_rfl
theorem run_eq16 (d : Nat) (xs ys : Array Value) (f g : Nat → Nat) (w : World) (hx : ∀ j, j < 16 → xs[j]? = some (.int .u32 (f j))) (hy : ∀ j, j < 16 → ys[j]? = some (.int .u32 (g j))) :
    (Op.equalIn (d + 2) 71 (.agg xs) (.agg ys)).run Tryd.prog w = .ok ((List.range 16).all fun j => f j == g j) w := by
  rw [Op.equalIn]
  simp only [Sem.run_bind, run_underlying Tryd.underlying71, Result.andThen_ok, size56]
  rw [Std.Legacy.Range.forIn_eq_forIn_range']
  have key : ∀ (n s : Nat), s + n ≤ 16 →
      Sem.run Tryd.prog (forIn (List.range' s n 1) ((none, ()) : Option Bool × Unit) fun i __s => do
              let __do_lift ← part 70 xs (i * 1)
              let __do_lift_1 ← part 70 ys (i * 1)
              let __do_lift ← Op.equalIn (d + 1) 70 __do_lift __do_lift_1
              if (!__do_lift) = true then pure (ForInStep.done (some false, ()))
                else pure (ForInStep.yield (none, ()))) w =
      .ok (if ((List.range' s n 1).all fun j => f j == g j) = true then (none, ()) else (some false, ())) w := by
    intro n
    induction n with
    | zero => intro s _; simp
    | succ n ih =>
      intro s hs
      have ih' := ih (s + 1) (by omega)
      simp only [List.range'_succ, List.forIn_cons, Sem.run_bind, part, agg56, Result.andThen_ok, Bool.false_eq_true, if_false, Nat.mul_one, hx s (by omega), hy s (by omega), Sem.run_ite, Sem.run_pure, run_equalIn_int w d 70 .u32 .u32 _ _ Tryd.underlying70, List.all_cons]
      by_cases e : f s = g s
      · simp only [e, beq_self_eq_true, Bool.not_true, Bool.false_eq_true, if_false, Result.andThen_ok, Bool.true_and]
        simpa [part, Sem.run_bind] using ih'
      · have e' : ((f s : Int) == (g s : Int)) = false := by simp; omega
        have e'' : (f s == g s) = false := by simp; omega
        simp [e', e'']
  have k0 := key 16 0 (by omega)
  rw [← List.range_eq_range'] at k0
  have e : List.range' [:16].start [:16].size [:16].step = List.range 16 := by decide
  rw [e, k0]
  generalize ((List.range 16).all fun j => f j == g j) = b
  cases b <;> simp
theorem word_extract {c : Array Value} {n : Bool} {f : Nat → Nat} (hc : IsNum c n f) (j : Nat) (hj : j < 16) : (c.extract 1 17)[j]? = some (.int .u32 (f j)) := by
  rw [Array.getElem?_extract, if_pos (by have := hc.size; omega)]
  exact hc.word j hj
theorem info57 : (Tryd.prog.info? 71).map (·.size) = some 16 := by kernel_rfl
theorem wpList_load_words {ops : Array Oper} {rest : List Oper} {o : Oper} {a : Act} {w : World} {Q : Exit → Act → World → Prop} (g : Nat) (c : Array Value) (hg : w.heap[g]? = some (.cells c 73)) (hs : c.size = 17)
    (x : Operand) (hgd : o.guard = none) (ho : o.op = .load 71 x) (hx : a.eval x = .pointer (some ⟨g, 1, none⟩))
    (h : wpList Tryd.prog ops Q rest (a.put o.dst (.agg (c.extract 1 17))) w) : wpList Tryd.prog ops Q (o :: rest) a w :=
  wpList_load_mid hgd 71 x ho g 1 hx (c.extract 1 17).toList _ (World.rangeAt_of_block hg 1 16) Tryd.underlying71 rfl (by rw [info57]; simp [hs]) (by rw [Array.toArray_toList]; exact h)

def zero57 : Array Value := #[.int .u32 0, .int .u32 0, .int .u32 0, .int .u32 0, .int .u32 0, .int .u32 0, .int .u32 0, .int .u32 0, .int .u32 0, .int .u32 0, .int .u32 0, .int .u32 0, .int .u32 0, .int .u32 0, .int .u32 0, .int .u32 0]
theorem zero57_at (j : Nat) (hj : j < 16) : zero57[j]? = some (.int .u32 ((0 : Nat) : Int)) := by
  match j, hj with
  | 0, _ => rfl
  | 1, _ => rfl
  | 2, _ => rfl
  | 3, _ => rfl
  | 4, _ => rfl
  | 5, _ => rfl
  | 6, _ => rfl
  | 7, _ => rfl
  | 8, _ => rfl
  | 9, _ => rfl
  | 10, _ => rfl
  | 11, _ => rfl
  | 12, _ => rfl
  | 13, _ => rfl
  | 14, _ => rfl
  | 15, _ => rfl
  | k + 16, h => exact absurd h (by omega)

theorem wpList_eql_words {ops : Array Oper} {rest : List Oper} {o : Oper} {a : Act} {w : World} {Q : Exit → Act → World → Prop} (xs ys : Array Value) (r : Bool)
    (he : (binOp .eql 71 (.agg xs) (.agg ys)).run Tryd.prog w = .ok (.bool r) w)
    (x y : Operand) (hgd : o.guard = none) (ho : o.op = .binOp .eql 71 x y 71) (hx : a.eval x = .agg xs) (hy : a.eval y = .agg ys)
    (h : wpList Tryd.prog ops Q rest (a.put o.dst (.bool r)) w) : wpList Tryd.prog ops Q (o :: rest) a w :=
  wpList_plain hgd fun _ hK => by
    unfold Oper.wp execOp
    simp only [ho, hx, hy]
    have hm : Tryd.prog.eqGuardType Tryd.prog.depth 71 = false := by kernel_rfl
    rw [Sem.run_bind, Sem.run_bind, run_eqGuard_agg w .eql 71 x y xs ys hm, Result.andThen_ok, he, Result.andThen_ok]
    exact hK _ _ h

/-- Compare of two signs and amounts, as the text has it. -/
def cmpS (n : Bool) (x : Nat) (m : Bool) (y : Nat) : Int :=
  if n && !m then -1 else if m && !n then 1 else if n then cmpI y x else cmpI x y

end Go.Proofs.YtoifjjgakblhhaaDoor
