/- Texts of one kind, one behind the other: each says ahead of itself what it shows. -/
import Derived.Test.YtoifjjgakblhhaaGreatDoorHaa
import Derived.Test.YtoifjjgakblhhaaGreatDoorHag
import Derived.Deep.DeepCutAuto
import Derived.Laws.StructEq
import Derived.Deep.RegionWith
/- addAmount, takeAmount, push: what they do to the number behind the pointer. -/
namespace Go.Proofs.YtoifjjgakblhhaaGreatDoor
open Go.RowKit

set_option maxHeartbeats 400000 in
theorem addAmt (b : Nat) (c d : Array Value) (n m : Bool) (f g : Nat → Nat) (w : World) (hb : w.heap[b]? = some (.cells c 136)) (hc : IsNum c n f) (hd : IsNum d m g) :
    Calls Tryz.prog 181 #[.pointer (some ⟨b, 0, none⟩), .agg d] w fun e w' => e = .returned (.tuple #[]) ∧ Only b w w' ∧
      ∃ c' h cr, w'.heap[b]? = some (.cells c' 136) ∧ IsNum c' n h ∧ AddTo f g h cr 16 := by
  have hbs := lt_of_heap hb
  go_enter Tryz.func181, Tryz.ntmps181
  go_wp2
  go_loopw [4, 7] (fun cv i wr => ∃ (k cr : Nat) (c' : Array Value) (h : Nat → Nat), k ≤ 16 ∧ cr ≤ 1 ∧ i = .int .i64 k ∧ cv = .int .u32 cr ∧ wr.heap[b]? = some (.cells c' 136) ∧ wr.heap[w.heap.size]? = some (.cells d 136) ∧ IsNum c' n h ∧ AddTo f g h cr k ∧ Only b w wr) (fun _ i _ => 16 - (intOf i).toNat)
  case atStart =>
    exact ⟨0, 0, c, f, by omega, by omega, rfl, rfl, heap_old _ hb, heap_new _ _ rfl, hc, AddTo.zero hc.lt, (Only.refl _ _).alloc _⟩
  case round =>
    obtain ⟨k, cr, c', h, hk, hcr, rfl, rfl, hb1, hb2, hn, ha, ho⟩ := hrel
    have B1 := Lib.hid hb1
    have B2 := Lib.hid hb2
    have A := Lib.hid ha
    clear hb1 hb2 ha
    by_cases hlt : k < 16
    · have hx : wr.cell? ⟨b, 1 + k, none⟩ = some (.int .u32 (h k)) := cell_of B1.out _ (hn.word k hlt)
      have hy : wr.cell? ⟨w.heap.size, 1 + k, none⟩ = some (.int .u32 (g k)) := cell_of B2.out _ (hd.word k hlt)
      have hfr : wr.frozen? ⟨b, 1 + k, none⟩ = false := free_of B1.out _
      have h1 : h k < 1000000000 := hn.lt k hlt
      have h2 : g k < 1000000000 := hd.lt k hlt
      go_wp2
      go_quiet (fail)
      go_wp2
      have e1 : ((h k : Int) + g k + cr) % 1000000000 = (((h k + g k + cr) % BASE : Nat) : Int) := by unfold BASE; omega
      have e2 : ((h k : Int) + g k + cr) / 1000000000 = (((h k + g k + cr) / BASE : Nat) : Int) := by unfold BASE; omega
      go_roundw
      case rel =>
        have st := A.out.step hc.lt hd.lt hlt
        exact ⟨k + 1, _, _, _, by omega, st.one, by go_num, by rw [e2], by rw [e1]; exact heap_set B1.out _ _, (Below.heap_setCell _ _ _ _ (by show w.heap.size ≠ b; omega)).trans B2.out, hn.set hlt (Nat.mod_lt _ (by decide)), st, (ho.drewN _).setCell _ _ _⟩
      case measure => simp [intOf]; omega
    · obtain rfl : k = 16 := by omega
      go_wp2
      go_end0
      exact ⟨rfl, ho, c', h, cr, B1.out, hn, A.out⟩
set_option maxHeartbeats 400000 in
theorem takeAmt (b : Nat) (c d : Array Value) (n m : Bool) (f g : Nat → Nat) (w : World) (hb : w.heap[b]? = some (.cells c 136)) (hc : IsNum c n f) (hd : IsNum d m g) :
    Calls Tryz.prog 182 #[.pointer (some ⟨b, 0, none⟩), .agg d] w fun e w' => e = .returned (.tuple #[]) ∧ Only b w w' ∧
      ∃ c' h cr, w'.heap[b]? = some (.cells c' 136) ∧ IsNum c' n h ∧ TakeFrom f g h cr 16 := by
  have hbs := lt_of_heap hb
  go_enter Tryz.func182, Tryz.ntmps182
  go_wp2
  go_loopw [4, 7] (fun cv i wr => ∃ (k cr : Nat) (c' : Array Value) (h : Nat → Nat), k ≤ 16 ∧ cr ≤ 1 ∧ i = .int .i64 k ∧ cv = .int .u32 cr ∧ wr.heap[b]? = some (.cells c' 136) ∧ wr.heap[w.heap.size]? = some (.cells d 136) ∧ IsNum c' n h ∧ TakeFrom f g h cr k ∧ Only b w wr) (fun _ i _ => 16 - (intOf i).toNat)
  case atStart =>
    exact ⟨0, 0, c, f, by omega, by omega, rfl, rfl, heap_old _ hb, heap_new _ _ rfl, hc, TakeFrom.zero hc.lt, (Only.refl _ _).alloc _⟩
  case round =>
    obtain ⟨k, cr, c', h, hk, hcr, rfl, rfl, hb1, hb2, hn, ha, ho⟩ := hrel
    have B1 := Lib.hid hb1
    have B2 := Lib.hid hb2
    have A := Lib.hid ha
    clear hb1 hb2 ha
    by_cases hlt : k < 16
    · have hx : wr.cell? ⟨b, 1 + k, none⟩ = some (.int .u32 (h k)) := cell_of B1.out _ (hn.word k hlt)
      have hy : wr.cell? ⟨w.heap.size, 1 + k, none⟩ = some (.int .u32 (g k)) := cell_of B2.out _ (hd.word k hlt)
      have hfr : wr.frozen? ⟨b, 1 + k, none⟩ = false := free_of B1.out _
      have h1 : h k < 1000000000 := hn.lt k hlt
      have h2 : g k < 1000000000 := hd.lt k hlt
      go_wp2
      go_quiet (fail)
      go_wp2
      have e1 : (1000000000 + (h k : Int) - g k - cr) % 1000000000 = (((BASE + h k - g k - cr) % BASE : Nat) : Int) := by unfold BASE; omega
      have e2 : 1 - (1000000000 + (h k : Int) - g k - cr) / 1000000000 = ((1 - (BASE + h k - g k - cr) / BASE : Nat) : Int) := by unfold BASE; omega
      go_roundw
      case rel =>
        have st := A.out.step hc.lt hd.lt hlt
        exact ⟨k + 1, _, _, _, by omega, st.one, by go_num, by rw [e2], by rw [e1]; exact heap_set B1.out _ _, (Below.heap_setCell _ _ _ _ (by show w.heap.size ≠ b; omega)).trans B2.out, hn.set hlt (Nat.mod_lt _ (by decide)), st, (ho.drewN _).setCell _ _ _⟩
      case measure => simp [intOf]; omega
    · obtain rfl : k = 16 := by omega
      go_wp2
      go_end0
      exact ⟨rfl, ho, c', h, cr, B1.out, hn, A.out⟩
set_option maxHeartbeats 400000 in
theorem pushAt (b : Nat) (c : Array Value) (n : Bool) (f : Nat → Nat) (x : Int) (w : World) (hb : w.heap[b]? = some (.cells c 136)) (hc : IsNum c n f) (hx0 : 48 ≤ x) (hx9 : x ≤ 57) :
    Calls Tryz.prog 184 #[.pointer (some ⟨b, 0, none⟩), .int .u8 x] w fun e w' => e = .returned (.tuple #[]) ∧ Only b w w' ∧
      ∃ c' h cr, w'.heap[b]? = some (.cells c' 136) ∧ IsNum c' n h ∧ PushTo f (x - 48).toNat h cr 16 := by
  have hbs := lt_of_heap hb
  obtain ⟨d, hd⟩ : ∃ d : Nat, x = 48 + d := ⟨(x - 48).toNat, by omega⟩
  subst hd
  have hd9 : d ≤ 9 := by omega
  have ed : (48 + (d : Int) - 48).toNat = d := by omega
  rw [ed]
  clear ed
  go_enter Tryz.func184, Tryz.ntmps184
  go_wp2
  go_loopw [4, 10] (fun cv i wr => ∃ (k cr : Nat) (c' : Array Value) (h : Nat → Nat), k ≤ 16 ∧ cr ≤ 9 ∧ i = .int .i64 k ∧ cv = .int .u64 cr ∧ wr.heap[b]? = some (.cells c' 136) ∧ IsNum c' n h ∧ PushTo f d h cr k ∧ Only b w wr) (fun _ i _ => 16 - (intOf i).toNat)
  case atStart =>
    exact ⟨0, d, c, f, by omega, by omega, rfl, by go_num, hb, hc, PushTo.zero hc.lt hd9, Only.refl _ _⟩
  case round =>
    obtain ⟨k, cr, c', h, hk, hcr, rfl, rfl, hb1, hn, ha, ho⟩ := hrel
    have B1 := Lib.hid hb1
    have A := Lib.hid ha
    clear hb1 ha
    by_cases hlt : k < 16
    · have hx : wr.cell? ⟨b, 1 + k, none⟩ = some (.int .u32 (h k)) := cell_of B1.out _ (hn.word k hlt)
      have hfr : wr.frozen? ⟨b, 1 + k, none⟩ = false := free_of B1.out _
      have h1 : h k < 1000000000 := hn.lt k hlt
      go_wp2
      have e1 : ((h k : Int) * 10 + cr) % 1000000000 = (((h k * 10 + cr) % BASE : Nat) : Int) := by unfold BASE; omega
      have e2 : ((h k : Int) * 10 + cr) / 1000000000 = (((h k * 10 + cr) / BASE : Nat) : Int) := by unfold BASE; omega
      go_roundw
      case rel =>
        have st := A.out.step hc.lt hlt
        exact ⟨k + 1, _, _, _, by omega, st.one, by go_num, by rw [e2], by rw [e1]; exact heap_set B1.out _ _, hn.set hlt (Nat.mod_lt _ (by decide)), st, ho.setCell _ _ _⟩
      case measure => simp [intOf]; omega
    · obtain rfl : k = 16 := by omega
      go_wp2
      go_end0
      exact ⟨rfl, ho, c', h, cr, B1.out, hn, A.out⟩
end Go.Proofs.YtoifjjgakblhhaaGreatDoor

/- isZero, opposite, compare. -/
namespace Go.Proofs.YtoifjjgakblhhaaGreatDoor
open Go.RowKit

theorem IsNum.neg' {c : Array Value} {n m : Bool} {f : Nat → Nat} (h : IsNum c n f) : IsNum (c.setIfInBounds 0 (.bool m)) m f :=
  ⟨by rw [Array.getElem?_setIfInBounds_self_of_lt (by rw [h.size]; omega)], fun j hj => by rw [Array.getElem?_setIfInBounds_ne (by omega)]; exact h.word j hj, by simp [h.size], h.lt⟩

set_option maxHeartbeats 400000 in
theorem opp (c : Array Value) (n : Bool) (f : Nat → Nat) (w : World) (hc : IsNum c n f) :
    Calls Tryz.prog 183 #[.agg c] w fun e w' => ∃ c', e = .returned (.agg c') ∧ IsNum c' (!n) f ∧ Below w.heap.size w w' := by
  have h0 : ∀ o, ((w.alloc (.cells c 136)).alloc o).cell? ⟨w.heap.size, 0, none⟩ = some (.bool n) := fun o => cell_of (heap_old _ (heap_new _ _ rfl)) _ hc.neg
  have h1 : ∀ o, ((w.alloc (.cells c 136)).alloc o).frozen? ⟨w.heap.size, 0, none⟩ = false := fun o => free_of (heap_old _ (heap_new _ _ rfl)) _
  go_enter Tryz.func183, Tryz.ntmps183
  go_wp2_with (first
    | (refine wpList_load_num w.heap.size (c.setIfInBounds 0 (.bool !n)) ?_ ?_ (.tmp 1) rfl rfl rfl ?_; exact heap_old _ (heap_new _ _ rfl); exact (hc.neg' (m := !n)).size)
    | (refine wpList_store_num (w.heap.size + 1) zero59 (c.setIfInBounds 0 (.bool !n)) ?_ ?_ ?_ ?_ (.tmp 2) (.tmp 7) rfl rfl rfl rfl ?_; exact heap_new _ _ (by simp); rfl; exact (hc.neg' (m := !n)).size; exact (hc.neg' (m := !n)).one; intro w1 ho1 hh1))
  have hz := (hc.neg' (m := !n))
  refine bodyPost_ret (v := .agg (c.setIfInBounds 0 (.bool !n))) (results_cell_row (p := 2) (ty := 136) Tryz.results183 _ _ (w.heap.size + 1) 136 _ (0, 0) _ rfl hh1 Tryz.underlying136 rfl (by rw [hz.size]; exact info59)) rfl ⟨_, rfl, hz, ?_⟩
  exact below_only (((Below.refl _ _).alloc (Nat.le_refl _) _).alloc (by simp) _) ho1 (by simp) (by simp; omega)

theorem vN_zero (n : Nat) (f : Nat → Nat) : vN n f = 0 ↔ ∀ j, j < n → f j = 0 := by
  induction n with
  | zero => simp [vN]
  | succ n ih =>
    have hb : 0 < BASE ^ n := Nat.pow_pos (by decide)
    simp only [vN, Nat.add_eq_zero_iff, ih, Nat.mul_eq_zero]
    constructor
    · rintro ⟨h, h' | h'⟩ j hj
      · by_cases e : j = n
        · rw [e]; exact h'
        · exact h j (by omega)
      · omega
    · intro h
      exact ⟨fun j hj => h j (by omega), .inl (h n (by omega))⟩

theorem size56 (w : World) : (sizeOf 133).run Tryz.prog w = .ok 1 w := by kernel_rfl
theorem agg56 (w : World) : (isAgg 133).run Tryz.prog w = .ok false w := by kernel_rfl
theorem run_eq16 (d : Nat) (xs ys : Array Value) (f g : Nat → Nat) (w : World) (hx : ∀ j, j < 16 → xs[j]? = some (.int .u32 (f j))) (hy : ∀ j, j < 16 → ys[j]? = some (.int .u32 (g j))) :
    (Op.equalIn (d + 2) 134 (.agg xs) (.agg ys)).run Tryz.prog w = .ok ((List.range 16).all fun j => f j == g j) w := by
  rw [Op.equalIn]
  simp only [Sem.run_bind, run_underlying Tryz.underlying134, Result.andThen_ok, size56]
  rw [Std.Legacy.Range.forIn_eq_forIn_range']
  have key : ∀ (n s : Nat), s + n ≤ 16 →
      Sem.run Tryz.prog (forIn (List.range' s n 1) ((none, ()) : Option Bool × Unit) fun i __s => do
              let __do_lift ← part 133 xs (i * 1)
              let __do_lift_1 ← part 133 ys (i * 1)
              let __do_lift ← Op.equalIn (d + 1) 133 __do_lift __do_lift_1
              if (!__do_lift) = true then pure (ForInStep.done (some false, ()))
                else pure (ForInStep.yield (none, ()))) w =
      .ok (if ((List.range' s n 1).all fun j => f j == g j) = true then (none, ()) else (some false, ())) w := by
    intro n
    induction n with
    | zero => intro s _; simp
    | succ n ih =>
      intro s hs
      have ih' := ih (s + 1) (by omega)
      simp only [List.range'_succ, List.forIn_cons, Sem.run_bind, part, agg56, Result.andThen_ok, Bool.false_eq_true, if_false, Nat.mul_one, hx s (by omega), hy s (by omega), Sem.run_ite, Sem.run_pure, run_equalIn_int w d 133 .u32 .u32 _ _ Tryz.underlying133, List.all_cons]
      by_cases e : f s = g s
      · simp only [e, beq_self_eq_true, Bool.not_true, Bool.false_eq_true, if_false, Result.andThen_ok, Bool.true_and]
        simpa [part, Sem.run_bind] using ih'
      · have e' : ((f s : Int) == (g s : Int)) = false := by simp; omega
        have e'' : (f s == g s) = false := by simp; omega
        simp [e', e'']
  have k0 := key 16 0 (by omega)
  rw [← List.range_eq_range'] at k0
  have e : List.range' [:16].start [:16].size [:16].step = List.range 16 := by decide
  rw [e, k0]
  generalize ((List.range 16).all fun j => f j == g j) = b
  cases b <;> simp
theorem word_extract {c : Array Value} {n : Bool} {f : Nat → Nat} (hc : IsNum c n f) (j : Nat) (hj : j < 16) : (c.extract 1 17)[j]? = some (.int .u32 (f j)) := by
  rw [Array.getElem?_extract, if_pos (by have := hc.size; omega)]
  exact hc.word j hj
theorem info57 : (Tryz.prog.info? 134).map (·.size) = some 16 := by kernel_rfl
theorem wpList_load_words {ops : Array Oper} {rest : List Oper} {o : Oper} {a : Act} {w : World} {Q : Exit → Act → World → Prop} (g : Nat) (c : Array Value) (hg : w.heap[g]? = some (.cells c 136)) (hs : c.size = 17)
    (x : Operand) (hgd : o.guard = none) (ho : o.op = .load 134 x) (hx : a.eval x = .pointer (some ⟨g, 1, none⟩))
    (h : wpList Tryz.prog ops Q rest (a.put o.dst (.agg (c.extract 1 17))) w) : wpList Tryz.prog ops Q (o :: rest) a w :=
  wpList_load_mid hgd 134 x ho g 1 hx (c.extract 1 17).toList _ (World.rangeAt_of_block hg 1 16) Tryz.underlying134 rfl (by rw [info57]; simp [hs]) (by rw [Array.toArray_toList]; exact h)

def zero57 : Array Value := #[.int .u32 0, .int .u32 0, .int .u32 0, .int .u32 0, .int .u32 0, .int .u32 0, .int .u32 0, .int .u32 0, .int .u32 0, .int .u32 0, .int .u32 0, .int .u32 0, .int .u32 0, .int .u32 0, .int .u32 0, .int .u32 0]
theorem zero57_at (j : Nat) (hj : j < 16) : zero57[j]? = some (.int .u32 ((0 : Nat) : Int)) := by
  match j, hj with
  | 0, _ => rfl
  | 1, _ => rfl
  | 2, _ => rfl
  | 3, _ => rfl
  | 4, _ => rfl
  | 5, _ => rfl
  | 6, _ => rfl
  | 7, _ => rfl
  | 8, _ => rfl
  | 9, _ => rfl
  | 10, _ => rfl
  | 11, _ => rfl
  | 12, _ => rfl
  | 13, _ => rfl
  | 14, _ => rfl
  | 15, _ => rfl
  | k + 16, h => exact absurd h (by omega)

theorem wpList_eql_words {ops : Array Oper} {rest : List Oper} {o : Oper} {a : Act} {w : World} {Q : Exit → Act → World → Prop} (xs ys : Array Value) (r : Bool)
    (he : (binOp .eql 134 (.agg xs) (.agg ys)).run Tryz.prog w = .ok (.bool r) w)
    (x y : Operand) (hgd : o.guard = none) (ho : o.op = .binOp .eql 134 x y 134) (hx : a.eval x = .agg xs) (hy : a.eval y = .agg ys)
    (h : wpList Tryz.prog ops Q rest (a.put o.dst (.bool r)) w) : wpList Tryz.prog ops Q (o :: rest) a w :=
  wpList_plain hgd fun _ hK => by
    unfold Oper.wp execOp
    simp only [ho, hx, hy]
    have hm : Tryz.prog.eqGuardType Tryz.prog.depth 134 = false := by kernel_rfl
    rw [Sem.run_bind, Sem.run_bind, run_eqGuard_agg w .eql 134 x y xs ys hm, Result.andThen_ok, he, Result.andThen_ok]
    exact hK _ _ h

/-- Compare of two signs and amounts, as the text has it. -/
def cmpS (n : Bool) (x : Nat) (m : Bool) (y : Nat) : Int :=
  if n && !m then -1 else if m && !n then 1 else if n then cmpI y x else cmpI x y

end Go.Proofs.YtoifjjgakblhhaaGreatDoor

/- Decimals as whole numbers scaled by 10 ^ 54, and back. No Go stands here. -/
namespace Go.Proofs.YtoifjjgakblhhaaGreatDoor

/-- A signed amount. -/
def sv (n : Bool) (x : Nat) : Int := if n then -(x : Int) else x
/-- What a decimal is as a number: its sign, its amount scaled by 10 ^ 54. -/
def dsign (l : List UInt8) : Bool := ((splitP l).getD (false, [], [])).1
def damt (l : List UInt8) : Nat := num54 ((splitP l).getD (false, [], [])).2.1 ((splitP l).getD (false, [], [])).2.2
def dval (l : List UInt8) : Int := sv (dsign l) (damt l)
/-- The text of a number scaled by 10 ^ 54, if it may be. -/
def txt (z : Int) : Option (List UInt8) := wrN (decide (z < 0)) z.natAbs

theorem wr_zero (n m : Bool) (a b : List UInt8) (ha : a.all isDig = true) (hb : b.all isDig = true) (h1 : valD a = 0) (h2 : valD b = 0) : wr n a b = wr m a b := by
  unfold wr
  simp only [(trimL_nil ha).2 h1, (trimR_nil hb).2 h2, List.append_nil, List.isEmpty_nil, Bool.not_true, Bool.and_false]

theorem wrN_sv (r : Bool) (x : Nat) : wrN r x = txt (sv r x) := by
  unfold txt sv
  cases r
  · simp only [Bool.false_eq_true, if_false]
    rw [Int.natAbs_natCast, decide_eq_false (by omega)]
  · simp only [if_true]
    rw [Int.natAbs_neg, Int.natAbs_natCast]
    by_cases h : x = 0
    · subst h
      exact wr_zero _ _ _ _ (digsOf_dig _ _ _) (digsOf_dig _ _ _) (by simp [digsOf_val]) (by simp [digsOf_val])
    · rw [decide_eq_true (by omega)]

theorem num54_facts (a b : List UInt8) (ha : a.all isDig = true) (hb : b.all isDig = true) (la : a.length ≤ 40) (lb : b.length ≤ 20) : num54 a b < 10 ^ 94 ∧ num54 a b % 10 ^ 34 = 0 := by
  have h1 := valD_lt a ha
  have h2 := valD_lt b hb
  have h3 : 10 ^ a.length ≤ 10 ^ 40 := Nat.pow_le_pow_right (by omega) la
  have h4 : valD b * 10 ^ (54 - b.length) < 10 ^ b.length * 10 ^ (54 - b.length) := Nat.mul_lt_mul_of_pos_right h2 (Nat.pow_pos (by omega))
  rw [← Nat.pow_add, show b.length + (54 - b.length) = 54 by omega] at h4
  unfold num54
  constructor
  · have h5 : (valD a + 1) * 10 ^ 54 ≤ 10 ^ 40 * 10 ^ 54 := Nat.mul_le_mul_right _ (by omega)
    rw [← Nat.pow_add, Nat.add_mul] at h5
    omega
  · have e1 : 10 ^ 54 = 10 ^ 20 * 10 ^ 34 := by rw [← Nat.pow_add]
    have e2 : 10 ^ (54 - b.length) = 10 ^ (20 - b.length) * 10 ^ 34 := by rw [← Nat.pow_add]; congr 1; omega
    rw [e1, e2, ← Nat.mul_assoc, ← Nat.mul_assoc, ← Nat.add_mul, Nat.mul_mod_left]

/-- What a decimal is. -/
theorem chk_dec (l : List UInt8) (h : chk l = true) : txt (dval l) = some l ∧ damt l < 10 ^ 94 ∧ damt l % 10 ^ 34 = 0 ∧ (dsign l = true → damt l ≠ 0) ∧
    ∃ a b, splitP l = some (dsign l, a, b) ∧ a.all isDig = true ∧ b.all isDig = true ∧ a.length ≤ 40 ∧ b.length ≤ 20 ∧ damt l = num54 a b := by
  obtain ⟨n, a, b, hsp, ha, hb, la, lb, hw, hz⟩ := chk_parts l h
  have e1 : dsign l = n := by unfold dsign; rw [hsp]; rfl
  have e2 : damt l = num54 a b := by unfold damt; rw [hsp]; rfl
  obtain ⟨f1, f2⟩ := num54_facts a b ha hb la lb
  have hlt := valD_lt a ha
  have h90 : 10 ^ a.length ≤ 10 ^ 90 := Nat.pow_le_pow_right (by omega) (by omega)
  refine ⟨?_, by rw [e2]; exact f1, by rw [e2]; exact f2, ?_, a, b, by rw [e1]; exact hsp, ha, hb, la, lb, e2⟩
  · unfold dval
    rw [← wrN_sv, e1, e2, ← hw, wr_wrN n a b ha hb (by omega) (by omega)]
    rfl
  · rw [e1, e2]
    intro hn h0
    apply hz hn
    unfold num54 at h0
    have p1 : 0 < 10 ^ (54 - b.length) := Nat.pow_pos (by omega)
    rcases Nat.add_eq_zero_iff.1 h0 with ⟨q1, q2⟩
    rw [Nat.mul_eq_zero] at q1 q2
    exact ⟨by omega, by omega⟩

/-- What a number's text is. -/
theorem txt_dec (z : Int) (hz : z.natAbs < 10 ^ 144) (t : List UInt8) (h : txt z = some t) : chk t = true ∧ dval t = z := by
  unfold txt wrN at h
  obtain ⟨x, y, hsp, hx, hy, lx, ly, v1, v2, hc⟩ := wr_back _ _ _ t (digsOf_dig _ _ _) (digsOf_dig _ _ _) h
  refine ⟨hc, ?_⟩
  have e2 : damt t = z.natAbs := by
    unfold damt
    rw [hsp]
    show num54 x y = _
    unfold num54
    have := v2 54 (by rw [digsOf_len]; omega) (by omega)
    rw [digsOf_len, Nat.sub_self, Nat.pow_zero, Nat.mul_one, digsOf_val, Nat.pow_zero, Nat.div_one] at this
    rw [this, v1, digsOf_val]
    have h1 : z.natAbs / 10 ^ 54 < 10 ^ 90 := by
      rw [Nat.div_lt_iff_lt_mul (Nat.pow_pos (by omega)), ← Nat.pow_add]; exact hz
    rw [Nat.mod_eq_of_lt h1, Nat.mul_comm]
    exact Nat.div_add_mod _ _
  have e1 : dsign t = (decide (z < 0) && !(decide (z.natAbs = 0))) := by
    unfold dsign
    rw [hsp]
    have h1 : z.natAbs / 10 ^ 54 < 10 ^ 90 := by
      rw [Nat.div_lt_iff_lt_mul (Nat.pow_pos (by omega)), ← Nat.pow_add]; exact hz
    have hd := Nat.div_add_mod z.natAbs (10 ^ 54)
    have e : (decide (valD (digsOf z.natAbs 54 90) = 0) && decide (valD (digsOf z.natAbs 0 54) = 0)) = decide (z.natAbs = 0) := by
      rw [digsOf_val, digsOf_val, Nat.pow_zero, Nat.div_one, Nat.mod_eq_of_lt h1, ← Bool.decide_and, decide_eq_decide]
      constructor
      · rintro ⟨a, b⟩
        rw [a, b] at hd
        omega
      · intro a
        rw [a]
        exact ⟨Nat.zero_div _, Nat.zero_mod _⟩
    rw [← e]
    rfl
  unfold dval sv
  rw [e1, e2]
  by_cases hn : z < 0
  · have : ¬ z.natAbs = 0 := by omega
    simp [hn, this]
    omega
  · simp [hn]
    omega

end Go.Proofs.YtoifjjgakblhhaaGreatDoor

/- plus. -/
namespace Go.Proofs.YtoifjjgakblhhaaGreatDoor
open Go.RowKit

theorem AddTo.done {f g h : Nat → Nat} {c : Nat} (H : AddTo f g h c 16) (hs : wval f + wval g < BASE ^ 16) : wval h = wval f + wval g := by
  have s := H.sum
  have hc : c = 0 := by
    by_cases e : c = 0
    · exact e
    · have : 1 * BASE ^ 16 ≤ c * BASE ^ 16 := Nat.mul_le_mul_right _ (by omega)
      unfold wval at hs; omega
  subst hc
  unfold wval at *; omega

theorem TakeFrom.done {f g h : Nat → Nat} {c : Nat} (H : TakeFrom f g h c 16) (hs : wval g ≤ wval f) (hf : Words f) : wval h + wval g = wval f := by
  have s := H.sum
  have hl := vN_lt h H.words 16 (by omega)
  have hc : c = 0 := by
    by_cases e : c = 0
    · exact e
    · have : 1 * BASE ^ 16 ≤ c * BASE ^ 16 := Nat.mul_le_mul_right _ (by omega)
      unfold wval at hs; omega
  subst hc
  unfold wval; omega

theorem below3 (w : World) (a b c : Obj) : Below w.heap.size w (((w.alloc a).alloc b).alloc c) := (((Below.refl _ _).alloc (Nat.le_refl _) _).alloc (by simp) _).alloc (by simp; omega) _

set_option maxHeartbeats 800000 in
theorem plusSame (c d : Array Value) (n : Bool) (f g : Nat → Nat) (w : World) (hc : IsNum c n f) (hd : IsNum d n g) :
    Calls Tryz.prog 160 #[.agg c, .agg d] w fun e w' => ∃ c' h cr, e = .returned (.agg c') ∧ IsNum c' n h ∧ AddTo f g h cr 16 ∧ Below w.heap.size w w' := by
  have l1 : Lies (((w.alloc (.cells c 136)).alloc (.cells d 136)).alloc (.cells #[.bool false, .int .u32 0, .int .u32 0, .int .u32 0, .int .u32 0, .int .u32 0, .int .u32 0, .int .u32 0, .int .u32 0, .int .u32 0, .int .u32 0, .int .u32 0, .int .u32 0, .int .u32 0, .int .u32 0, .int .u32 0, .int .u32 0] 136)) w.heap.size c n f := ((lies_new w hc rfl).alloc _).alloc _
  have l2 : Lies (((w.alloc (.cells c 136)).alloc (.cells d 136)).alloc (.cells #[.bool false, .int .u32 0, .int .u32 0, .int .u32 0, .int .u32 0, .int .u32 0, .int .u32 0, .int .u32 0, .int .u32 0, .int .u32 0, .int .u32 0, .int .u32 0, .int .u32 0, .int .u32 0, .int .u32 0, .int .u32 0, .int .u32 0] 136)) (w.heap.size + 1) d n g := (lies_new _ hd (by simp)).alloc _
  have l3 : Lies (((w.alloc (.cells c 136)).alloc (.cells d 136)).alloc (.cells #[.bool false, .int .u32 0, .int .u32 0, .int .u32 0, .int .u32 0, .int .u32 0, .int .u32 0, .int .u32 0, .int .u32 0, .int .u32 0, .int .u32 0, .int .u32 0, .int .u32 0, .int .u32 0, .int .u32 0, .int .u32 0, .int .u32 0] 136)) (w.heap.size + 1 + 1) zero59 false (fun _ => 0) := lies_zero _ (by simp)
  have h0 := l1.cell0
  have h1 := l2.cell0
  have hb := below3 w (.cells c 136) (.cells d 136) (.cells #[.bool false, .int .u32 0, .int .u32 0, .int .u32 0, .int .u32 0, .int .u32 0, .int .u32 0, .int .u32 0, .int .u32 0, .int .u32 0, .int .u32 0, .int .u32 0, .int .u32 0, .int .u32 0, .int .u32 0, .int .u32 0, .int .u32 0] 136)
  go_enter Tryz.func160, Tryz.ntmps160
  go_wp2_with (first
      | ((with_reducible refine wpList_loadN (.tmp 2) w.heap.size (by assumption) ?_ ?_ ?_ ?_); rfl; rfl; rfl)
      | ((with_reducible refine wpList_loadN (.tmp 3) (w.heap.size + 1) (by assumption) ?_ ?_ ?_ ?_); rfl; rfl; rfl)
      | (go_at_call 181; (with_reducible refine (addAmt w.heap.size c d n n f g _ l1.heap hc hd).mono ?_); rintro e w1 ⟨rfl, ho, c', h, cr, hh, hn, ha⟩; have k1 : Lies w1 w.heap.size c' n h := lies_mk hh hn; clear hh; have k3 := l3.only ho (by omega); have hb1 := below_only hb ho (Nat.le_refl _) (by simp; omega))
      | ((with_reducible refine wpList_storeN (.tmp 4) (.tmp 12) (w.heap.size + 1 + 1) (by assumption) hn ?_ ?_ ?_ ?_ ?_); rfl; rfl; rfl; rfl; intro w2 ho2 m3; have hb2 := below_only hb1 ho2 (by omega) (Nat.le_of_lt k1.lt)))
  exact bodyPost_ret (v := .agg c') (results_num (p := 4) Tryz.results160 _ rfl m3) rfl ⟨c', h, cr, rfl, hn, ha, hb2⟩

set_option maxHeartbeats 800000 in
theorem plusDiffGe (c d : Array Value) (n : Bool) (f g : Nat → Nat) (w : World) (hc : IsNum c n f) (hd : IsNum d (!n) g) (hge : wval g ≤ wval f) :
    Calls Tryz.prog 160 #[.agg c, .agg d] w fun e w' => ∃ c' h cr, e = .returned (.agg c') ∧ IsNum c' n h ∧ TakeFrom f g h cr 16 ∧ Below w.heap.size w w' := by
  obtain ⟨r, hr, hcmp⟩ : ∃ r : Int, 0 ≤ r ∧ ∀ W, Calls Tryz.prog 152 #[.agg c, .agg d] W fun e w' => e = .returned (.int .i64 r) ∧ Below W.heap.size W w' :=
    ⟨cmpI (wval f) (wval g), by unfold cmpI; split <;> first | omega | (split <;> omega), fun W => cmpAmt c d _ _ _ _ hc hd W⟩
  have HC := Lib.hid hcmp
  clear hcmp
  have l1 : Lies (((w.alloc (.cells c 136)).alloc (.cells d 136)).alloc (.cells #[.bool false, .int .u32 0, .int .u32 0, .int .u32 0, .int .u32 0, .int .u32 0, .int .u32 0, .int .u32 0, .int .u32 0, .int .u32 0, .int .u32 0, .int .u32 0, .int .u32 0, .int .u32 0, .int .u32 0, .int .u32 0, .int .u32 0] 136)) w.heap.size c n f := ((lies_new w hc rfl).alloc _).alloc _
  have l2 : Lies (((w.alloc (.cells c 136)).alloc (.cells d 136)).alloc (.cells #[.bool false, .int .u32 0, .int .u32 0, .int .u32 0, .int .u32 0, .int .u32 0, .int .u32 0, .int .u32 0, .int .u32 0, .int .u32 0, .int .u32 0, .int .u32 0, .int .u32 0, .int .u32 0, .int .u32 0, .int .u32 0, .int .u32 0] 136)) (w.heap.size + 1) d (!n) g := (lies_new _ hd (by simp)).alloc _
  have l3 : Lies (((w.alloc (.cells c 136)).alloc (.cells d 136)).alloc (.cells #[.bool false, .int .u32 0, .int .u32 0, .int .u32 0, .int .u32 0, .int .u32 0, .int .u32 0, .int .u32 0, .int .u32 0, .int .u32 0, .int .u32 0, .int .u32 0, .int .u32 0, .int .u32 0, .int .u32 0, .int .u32 0, .int .u32 0] 136)) (w.heap.size + 1 + 1) zero59 false (fun _ => 0) := lies_zero _ (by simp)
  have h0 := l1.cell0
  have h1 := l2.cell0
  have hb := below3 w (.cells c 136) (.cells d 136) (.cells #[.bool false, .int .u32 0, .int .u32 0, .int .u32 0, .int .u32 0, .int .u32 0, .int .u32 0, .int .u32 0, .int .u32 0, .int .u32 0, .int .u32 0, .int .u32 0, .int .u32 0, .int .u32 0, .int .u32 0, .int .u32 0, .int .u32 0] 136)
  have hne : (n == !n) = false := by cases n <;> rfl
  go_enter Tryz.func160, Tryz.ntmps160
  go_wp2_with (first
      | ((with_reducible refine wpList_loadN (.tmp 2) w.heap.size (by assumption) ?_ ?_ ?_ ?_); rfl; rfl; rfl)
      | ((with_reducible refine wpList_loadN (.tmp 3) (w.heap.size + 1) (by assumption) ?_ ?_ ?_ ?_); rfl; rfl; rfl)
      | (go_at_call 152; (with_reducible refine (HC.out _).mono ?_); rintro e w1 ⟨rfl, hbel⟩; have k1 := l1.below hbel; have k2 := l2.below hbel; have k3 := l3.below hbel; have hb1 := below_any hb hbel (by simp; omega))
      | (go_at_call 182; (with_reducible refine (takeAmt w.heap.size c d n (!n) f g _ k1.heap hc hd).mono ?_); rintro e w2 ⟨rfl, ho, c', h, cr, hh, hn, ha⟩; have p1 : Lies w2 w.heap.size c' n h := lies_mk hh hn; clear hh; have p3 := k3.only ho (by omega); have hb2 := below_only hb1 ho (Nat.le_refl _) (Nat.le_of_lt k1.lt))
      | ((with_reducible refine wpList_storeN (.tmp 4) (.tmp 21) (w.heap.size + 1 + 1) (by assumption) hn ?_ ?_ ?_ ?_ ?_); rfl; rfl; rfl; rfl; intro w3 ho2 m3; have hb3 := below_only hb2 ho2 (by omega) (Nat.le_of_lt p1.lt)))
  exact bodyPost_ret (v := .agg c') (results_num (p := 4) Tryz.results160 _ rfl m3) rfl ⟨c', h, cr, rfl, hn, ha, hb3⟩

set_option maxHeartbeats 800000 in
theorem plusDiffLt (c d : Array Value) (n : Bool) (f g : Nat → Nat) (w : World) (hc : IsNum c n f) (hd : IsNum d (!n) g) (hlt : wval f < wval g) :
    Calls Tryz.prog 160 #[.agg c, .agg d] w fun e w' => ∃ c' h cr, e = .returned (.agg c') ∧ IsNum c' (!n) h ∧ TakeFrom g f h cr 16 ∧ Below w.heap.size w w' := by
  have hcmp : ∀ W, Calls Tryz.prog 152 #[.agg c, .agg d] W fun e w' => e = .returned (.int .i64 (-1)) ∧ Below W.heap.size W w' :=
    fun W => by have := cmpAmt c d _ _ _ _ hc hd W; rwa [cmpI_lt hlt] at this
  have HC := Lib.hid hcmp
  clear hcmp
  have l1 : Lies (((w.alloc (.cells c 136)).alloc (.cells d 136)).alloc (.cells #[.bool false, .int .u32 0, .int .u32 0, .int .u32 0, .int .u32 0, .int .u32 0, .int .u32 0, .int .u32 0, .int .u32 0, .int .u32 0, .int .u32 0, .int .u32 0, .int .u32 0, .int .u32 0, .int .u32 0, .int .u32 0, .int .u32 0] 136)) w.heap.size c n f := ((lies_new w hc rfl).alloc _).alloc _
  have l2 : Lies (((w.alloc (.cells c 136)).alloc (.cells d 136)).alloc (.cells #[.bool false, .int .u32 0, .int .u32 0, .int .u32 0, .int .u32 0, .int .u32 0, .int .u32 0, .int .u32 0, .int .u32 0, .int .u32 0, .int .u32 0, .int .u32 0, .int .u32 0, .int .u32 0, .int .u32 0, .int .u32 0, .int .u32 0] 136)) (w.heap.size + 1) d (!n) g := (lies_new _ hd (by simp)).alloc _
  have l3 : Lies (((w.alloc (.cells c 136)).alloc (.cells d 136)).alloc (.cells #[.bool false, .int .u32 0, .int .u32 0, .int .u32 0, .int .u32 0, .int .u32 0, .int .u32 0, .int .u32 0, .int .u32 0, .int .u32 0, .int .u32 0, .int .u32 0, .int .u32 0, .int .u32 0, .int .u32 0, .int .u32 0, .int .u32 0] 136)) (w.heap.size + 1 + 1) zero59 false (fun _ => 0) := lies_zero _ (by simp)
  have h0 := l1.cell0
  have h1 := l2.cell0
  have hb := below3 w (.cells c 136) (.cells d 136) (.cells #[.bool false, .int .u32 0, .int .u32 0, .int .u32 0, .int .u32 0, .int .u32 0, .int .u32 0, .int .u32 0, .int .u32 0, .int .u32 0, .int .u32 0, .int .u32 0, .int .u32 0, .int .u32 0, .int .u32 0, .int .u32 0, .int .u32 0] 136)
  have hne : (n == !n) = false := by cases n <;> rfl
  go_enter Tryz.func160, Tryz.ntmps160
  go_wp2_with (first
      | ((with_reducible refine wpList_loadN (.tmp 2) w.heap.size (by assumption) ?_ ?_ ?_ ?_); rfl; rfl; rfl)
      | ((with_reducible refine wpList_loadN (.tmp 3) (w.heap.size + 1) (by assumption) ?_ ?_ ?_ ?_); rfl; rfl; rfl)
      | (go_at_call 152; (with_reducible refine (HC.out _).mono ?_); rintro e w1 ⟨rfl, hbel⟩; have k1 := l1.below hbel; have k2 := l2.below hbel; have k3 := l3.below hbel; have hb1 := below_any hb hbel (by simp; omega))
      | ((with_reducible refine wpList_storeN (.tmp 2) (.tmp 17) w.heap.size (by assumption) hd ?_ ?_ ?_ ?_ ?_); rfl; rfl; rfl; rfl; intro w2 ho2 q1; have q2 := k2.only ho2 (by omega); have q3 := k3.only ho2 (by omega); have hb2 := below_only hb1 ho2 (Nat.le_refl _) (Nat.le_of_lt k1.lt))
      | ((with_reducible refine wpList_storeN (.tmp 3) (.tmp 18) (w.heap.size + 1) (by assumption) hc ?_ ?_ ?_ ?_ ?_); rfl; rfl; rfl; rfl; intro w3 ho3 r2; have r1 := q1.only ho3 (by omega); have r3 := q3.only ho3 (by omega); have hb3 := below_only hb2 ho3 (by omega) (Nat.le_of_lt q1.lt))
      | (go_at_call 182; (with_reducible refine (takeAmt w.heap.size d c (!n) n g f _ r1.heap hd hc).mono ?_); rintro e w4 ⟨rfl, ho, c', h, cr, hh, hn, ha⟩; have p1 : Lies w4 w.heap.size c' (!n) h := lies_mk hh hn; clear hh; have p3 := r3.only ho (by omega); have hb4 := below_only hb3 ho (Nat.le_refl _) (Nat.le_of_lt r1.lt))
      | ((with_reducible refine wpList_storeN (.tmp 4) (.tmp 21) (w.heap.size + 1 + 1) (by assumption) hn ?_ ?_ ?_ ?_ ?_); rfl; rfl; rfl; rfl; intro w5 ho5 m3; have hb5 := below_only hb4 ho5 (by omega) (Nat.le_of_lt p1.lt)))
  exact bodyPost_ret (v := .agg c') (results_num (p := 4) Tryz.results160 _ rfl m3) rfl ⟨c', h, cr, rfl, hn, ha, hb5⟩

/-- The sum of two signed amounts. -/
theorem plusNum (c d : Array Value) (n m : Bool) (f g : Nat → Nat) (w : World) (hc : IsNum c n f) (hd : IsNum d m g) (hs : wval f + wval g < BASE ^ 16) :
    Calls Tryz.prog 160 #[.agg c, .agg d] w fun e w' => ∃ c' r h, e = .returned (.agg c') ∧ IsNum c' r h ∧ sv r (wval h) = sv n (wval f) + sv m (wval g) ∧ Below w.heap.size w w' := by
  by_cases e : m = n
  · subst e
    refine (plusSame c d m f g w hc hd).mono ?_
    rintro e w' ⟨c', h, cr, rfl, hn, ha, hb⟩
    exact ⟨c', m, h, rfl, hn, by rw [ha.done hs]; unfold sv; split <;> omega, hb⟩
  · obtain rfl : m = !n := by cases m <;> cases n <;> simp_all
    by_cases hl : wval f < wval g
    · refine (plusDiffLt c d n f g w hc hd hl).mono ?_
      rintro e w' ⟨c', h, cr, rfl, hn, ha, hb⟩
      refine ⟨c', !n, h, rfl, hn, ?_, hb⟩
      have := ha.done (by omega) hd.lt
      unfold sv; cases n <;> simp <;> omega
    · refine (plusDiffGe c d n f g w hc hd (by omega)).mono ?_
      rintro e w' ⟨c', h, cr, rfl, hn, ha, hb⟩
      refine ⟨c', n, h, rfl, hn, ?_, hb⟩
      have := ha.done (by omega) hc.lt
      unfold sv; cases n <;> simp <;> omega

end Go.Proofs.YtoifjjgakblhhaaGreatDoor

/- Long division, digit by digit. No Go stands here. -/
namespace Go.Proofs.YtoifjjgakblhhaaGreatDoor

/-- The digits qs have been found of the first t of 164 digits of N by m; R is left. -/
structure OverTo (N m t R : Nat) (qs : List UInt8) : Prop where
  len : qs.length = t
  dig : qs.all isDig = true
  eq : valD qs * m + R = N / 10 ^ (164 - t)
  lt : R < m

theorem OverTo.zero {N m : Nat} (hN : N < 10 ^ 164) (hm : 0 < m) : OverTo N m 0 0 [] :=
  ⟨rfl, rfl, by rw [Nat.sub_zero, Nat.div_eq_of_lt hN]; simp [valD], hm⟩

/-- A digit as a sign. -/
def digB (j : Nat) : UInt8 := UInt8.ofNat (48 + j)
theorem digB_toNat {j : Nat} (h : j ≤ 9) : (digB j).toNat = 48 + j := by
  unfold digB; rw [UInt8.toNat_ofNat']; omega
theorem digB_dig {j : Nat} (h : j ≤ 9) : isDig (digB j) = true := by
  rw [isDig_iff, digB_toNat h]; omega

theorem OverTo.step {N m t R R' j : Nat} {qs : List UInt8} (H : OverTo N m t R qs) (ht : t < 164) (hj : j ≤ 9) (he : R' + j * m = R * 10 + N / 10 ^ (163 - t) % 10) (hl : R' < m) :
    OverTo N m (t + 1) R' (qs ++ [digB j]) := by
  refine ⟨by simp [H.len], by rw [List.all_append, H.dig, Bool.true_and, List.all_cons, digB_dig hj]; rfl, ?_, hl⟩
  have e1 : 164 - t = 163 - t + 1 := by omega
  have e := H.eq
  rw [e1, Nat.pow_succ, ← Nat.div_div_eq_div_mul] at e
  have e2 : 164 - (t + 1) = 163 - t := by omega
  rw [e2, valD_append]
  have e3 : valD [digB j] = j := by simp [valD, digB_toNat hj]
  rw [e3]
  simp only [List.length_singleton, Nat.pow_one]
  have d := Nat.div_add_mod (N / 10 ^ (163 - t)) 10
  generalize N / 10 ^ (163 - t) = P at *
  rw [← e] at d
  have : (valD qs * 10 + j) * m = 10 * (valD qs * m) + j * m := by rw [Nat.add_mul, Nat.mul_right_comm, Nat.mul_comm]
  rw [this]
  omega

theorem OverTo.digit_le {N m t R j R' : Nat} {qs : List UInt8} (H : OverTo N m t R qs) {dg : Nat} (hd : dg ≤ 9) (he : R' + j * m = R * 10 + dg) (hge : m ≤ R') : j + 1 ≤ 9 := by
  have h := H.lt
  have h1 : (R + 1) * 10 ≤ m * 10 := Nat.mul_le_mul_right _ h
  by_cases hj : j + 1 ≤ 9
  · exact hj
  · have : 9 * m ≤ j * m := Nat.mul_le_mul_right _ (by omega)
    omega

theorem OverTo.done {N m R : Nat} {qs : List UInt8} (H : OverTo N m 164 R qs) : qs = digsOf (N / m) 0 164 := by
  have e := H.eq
  rw [Nat.sub_self, Nat.pow_zero, Nat.div_one] at e
  have hq : N / m = valD qs := by
    rw [← e]
    have := H.lt
    rw [Nat.mul_comm, Nat.mul_add_div (by omega), Nat.div_eq_of_lt this, Nat.add_zero]
  have hl := valD_lt qs H.dig
  rw [H.len] at hl
  refine eq_of_val _ _ H.dig (digsOf_dig _ _ _) (by rw [H.len, digsOf_len]) ?_
  rw [digsOf_val, Nat.pow_zero, Nat.div_one, hq, Nat.mod_eq_of_lt hl]

theorem digsOf_split (N : Nat) (a b : Nat) : ∀ lo, digsOf N lo (a + b) = digsOf N (lo + b) a ++ digsOf N lo b := by
  intro lo
  induction a with
  | zero => simp [digsOf]
  | succ a ih =>
    rw [show a + 1 + b = (a + b) + 1 by omega]
    simp only [digsOf, ih, List.cons_append]
    congr 2
    omega

theorem PushTo.done {f h : Nat → Nat} {d c : Nat} (H : PushTo f d h c 16) (hs : wval f * 10 + d < BASE ^ 16) : wval h = wval f * 10 + d := by
  have s := H.sum
  have hc : c = 0 := by
    by_cases e : c = 0
    · exact e
    · have : 1 * BASE ^ 16 ≤ c * BASE ^ 16 := Nat.mul_le_mul_right _ (by omega)
      unfold wval at hs; omega
  subst hc
  unfold wval at *; omega

theorem digAt_shift (N q : Nat) : digAt (N * 10 ^ 20) (q + 20) = digAt N q := by
  unfold digAt
  rw [Nat.pow_add, Nat.mul_comm (10 ^ q), ← Nat.div_div_eq_div_mul, Nat.mul_div_cancel _ (Nat.pow_pos (by omega))]
theorem digAt_low (N q : Nat) (h : q < 20) : digAt (N * 10 ^ 20) q = 48 := by
  unfold digAt
  have e : N * 10 ^ 20 = (N * 10 ^ (19 - q) * 10) * 10 ^ q := by
    rw [Nat.mul_assoc, Nat.mul_assoc]
    congr 1
    rw [← Nat.mul_assoc, ← Nat.pow_succ, ← Nat.pow_add]
    congr 1; omega
  rw [e, Nat.mul_div_cancel _ (Nat.pow_pos (by omega)), Nat.mul_mod_left]
  rfl

end Go.Proofs.YtoifjjgakblhhaaGreatDoor
