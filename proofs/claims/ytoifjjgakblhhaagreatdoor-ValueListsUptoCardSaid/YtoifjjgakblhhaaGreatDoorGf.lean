/- Texts of one kind, one behind the other: each says ahead of itself what it shows. -/
import Derived.Test.YtoifjjgakblhhaaGreatDoorA0m
import Derived.Deep.DeepCutAuto
import Derived.Laws.StructEq
import Derived.Deep.RegionWith
/- compareAmount: which of two amounts is the greater. -/
namespace Go.Proofs.YtoifjjgakblhhaaGreatDoor
open Go.RowKit

set_option maxHeartbeats 400000 in
theorem cmpAmt (c d : Array Value) (n m : Bool) (xs ys : Nat → Nat) (hc : IsNum c n xs) (hd : IsNum d m ys) (w : World) :
    Calls Tryz.prog 152 #[.agg c, .agg d] w fun e w' => e = .returned (.int .i64 (cmpI (wval xs) (wval ys))) ∧ Below w.heap.size w w' := by
  go_enter Tryz.func152, Tryz.ntmps152
  go_wp2
  go_loopw [5] (fun i wr => ∃ k : Int, -1 ≤ k ∧ k ≤ 15 ∧ i = .int .i64 k ∧ (∀ j : Nat, k < j → j < 16 → xs j = ys j) ∧ wr.heap[w.heap.size]? = some (.cells c 136) ∧ wr.heap[w.heap.size+1]? = some (.cells d 136) ∧ Below w.heap.size w wr) (fun i _ => (intOf i + 1).toNat)
  case atStart =>
    refine ⟨15, by omega, by omega, rfl, fun j a b => by omega, ?_, ?_, ?_⟩
    · rw [Below.heap_alloc _ _ _ (by simp)]; exact heap_new _ _ rfl
    · exact heap_new _ _ (by simp)
    · exact ((Below.refl _ _).alloc (Nat.le_refl _) _).alloc (by simp) _
  case round =>
    obtain ⟨k, hk1, hk2, rfl, heq, hb1, hb2, hbel⟩ := hrel
    have HE := Lib.hid heq
    clear heq
    have B1 := Lib.hid hb1
    have B2 := Lib.hid hb2
    clear hb1 hb2
    by_cases hk : 0 ≤ k
    · obtain ⟨k, rfl⟩ := Int.eq_ofNat_of_zero_le hk
      have hx : wr.cell? ⟨w.heap.size, 1 + k, none⟩ = some (.int .u32 (xs k)) := cell_of B1.out _ (hc.word k (by omega))
      have hy : wr.cell? ⟨w.heap.size + 1, 1 + k, none⟩ = some (.int .u32 (ys k)) := cell_of B2.out _ (hd.word k (by omega))
      have hkk : (k : Int) < 16 := by omega
      rcases Nat.lt_trichotomy (xs k) (ys k) with h | h | h
      · go_wp2
        go_quiet (fail)
        go_wp2
        go_ret
        refine ⟨?_, below_drewN hbel _⟩
        rw [cmpI_lt (wval_lt_of xs ys hc.lt k (by omega) (fun j a b => HE.out j (by omega) b) h)]; rfl
      · have HH := Lib.hid h
        clear h
        have h1 : decide (xs k < ys k) = false := by have := HH.out; simp; omega
        have h2 : decide (ys k < xs k) = false := by have := HH.out; simp; omega
        go_wp2
        go_quiet (fail)
        go_wp2
        go_quiet (fail)
        go_wp2
        go_roundw
        case rel => exact ⟨_, by omega, by omega, rfl, fun j a b => (if e : j = k then by rw [e]; exact HH.out else HE.out j (by omega) b), B1.out, B2.out, below_drewN hbel _⟩
        case measure => simp [intOf]
      · go_wp2
        go_quiet (fail)
        go_wp2
        go_quiet (fail)
        go_wp2
        go_ret
        refine ⟨?_, below_drewN (below_drewN hbel _) _⟩
        rw [cmpI_gt (wval_lt_of ys xs hd.lt k (by omega) (fun j a b => (HE.out j (by omega) b).symm) h)]; rfl
    · go_wp2
      go_ret
      refine ⟨?_, hbel⟩
      rw [cmpI_eq (wval_eq_of xs ys fun j hj => HE.out j (by omega) hj)]; rfl
end Go.Proofs.YtoifjjgakblhhaaGreatDoor

/- addAmount, takeAmount, push: what they do to the number behind the pointer. -/
namespace Go.Proofs.YtoifjjgakblhhaaGreatDoor
open Go.RowKit

set_option maxHeartbeats 400000 in
theorem addAmt (b : Nat) (c d : Array Value) (n m : Bool) (f g : Nat → Nat) (w : World) (hb : w.heap[b]? = some (.cells c 136)) (hc : IsNum c n f) (hd : IsNum d m g) :
    Calls Tryz.prog 181 #[.pointer (some ⟨b, 0, none⟩), .agg d] w fun e w' => e = .returned (.tuple #[]) ∧ Only b w w' ∧
      ∃ c' h cr, w'.heap[b]? = some (.cells c' 136) ∧ IsNum c' n h ∧ AddTo f g h cr 16 := by
  have hbs := lt_of_heap hb
  go_enter Tryz.func181, Tryz.ntmps181
  go_wp2
  go_loopw [4, 7] (fun cv i wr => ∃ (k cr : Nat) (c' : Array Value) (h : Nat → Nat), k ≤ 16 ∧ cr ≤ 1 ∧ i = .int .i64 k ∧ cv = .int .u32 cr ∧ wr.heap[b]? = some (.cells c' 136) ∧ wr.heap[w.heap.size]? = some (.cells d 136) ∧ IsNum c' n h ∧ AddTo f g h cr k ∧ Only b w wr) (fun _ i _ => 16 - (intOf i).toNat)
  case atStart =>
    exact ⟨0, 0, c, f, by omega, by omega, rfl, rfl, heap_old _ hb, heap_new _ _ rfl, hc, AddTo.zero hc.lt, (Only.refl _ _).alloc _⟩
  case round =>
    obtain ⟨k, cr, c', h, hk, hcr, rfl, rfl, hb1, hb2, hn, ha, ho⟩ := hrel
    have B1 := Lib.hid hb1
    have B2 := Lib.hid hb2
    have A := Lib.hid ha
    clear hb1 hb2 ha
    by_cases hlt : k < 16
    · have hx : wr.cell? ⟨b, 1 + k, none⟩ = some (.int .u32 (h k)) := cell_of B1.out _ (hn.word k hlt)
      have hy : wr.cell? ⟨w.heap.size, 1 + k, none⟩ = some (.int .u32 (g k)) := cell_of B2.out _ (hd.word k hlt)
      have hfr : wr.frozen? ⟨b, 1 + k, none⟩ = false := free_of B1.out _
      have h1 : h k < 1000000000 := hn.lt k hlt
      have h2 : g k < 1000000000 := hd.lt k hlt
      go_wp2
      go_quiet (fail)
      go_wp2
      have e1 : ((h k : Int) + g k + cr) % 1000000000 = (((h k + g k + cr) % BASE : Nat) : Int) := by unfold BASE; omega
      have e2 : ((h k : Int) + g k + cr) / 1000000000 = (((h k + g k + cr) / BASE : Nat) : Int) := by unfold BASE; omega
      go_roundw
      case rel =>
        have st := A.out.step hc.lt hd.lt hlt
        exact ⟨k + 1, _, _, _, by omega, st.one, by go_num, by rw [e2], by rw [e1]; exact heap_set B1.out _ _, (Below.heap_setCell _ _ _ _ (by show w.heap.size ≠ b; omega)).trans B2.out, hn.set hlt (Nat.mod_lt _ (by decide)), st, (ho.drewN _).setCell _ _ _⟩
      case measure => simp [intOf]; omega
    · obtain rfl : k = 16 := by omega
      go_wp2
      go_end0
      exact ⟨rfl, ho, c', h, cr, B1.out, hn, A.out⟩
set_option maxHeartbeats 400000 in
theorem takeAmt (b : Nat) (c d : Array Value) (n m : Bool) (f g : Nat → Nat) (w : World) (hb : w.heap[b]? = some (.cells c 136)) (hc : IsNum c n f) (hd : IsNum d m g) :
    Calls Tryz.prog 182 #[.pointer (some ⟨b, 0, none⟩), .agg d] w fun e w' => e = .returned (.tuple #[]) ∧ Only b w w' ∧
      ∃ c' h cr, w'.heap[b]? = some (.cells c' 136) ∧ IsNum c' n h ∧ TakeFrom f g h cr 16 := by
  have hbs := lt_of_heap hb
  go_enter Tryz.func182, Tryz.ntmps182
  go_wp2
  go_loopw [4, 7] (fun cv i wr => ∃ (k cr : Nat) (c' : Array Value) (h : Nat → Nat), k ≤ 16 ∧ cr ≤ 1 ∧ i = .int .i64 k ∧ cv = .int .u32 cr ∧ wr.heap[b]? = some (.cells c' 136) ∧ wr.heap[w.heap.size]? = some (.cells d 136) ∧ IsNum c' n h ∧ TakeFrom f g h cr k ∧ Only b w wr) (fun _ i _ => 16 - (intOf i).toNat)
  case atStart =>
    exact ⟨0, 0, c, f, by omega, by omega, rfl, rfl, heap_old _ hb, heap_new _ _ rfl, hc, TakeFrom.zero hc.lt, (Only.refl _ _).alloc _⟩
  case round =>
    obtain ⟨k, cr, c', h, hk, hcr, rfl, rfl, hb1, hb2, hn, ha, ho⟩ := hrel
    have B1 := Lib.hid hb1
    have B2 := Lib.hid hb2
    have A := Lib.hid ha
    clear hb1 hb2 ha
    by_cases hlt : k < 16
    · have hx : wr.cell? ⟨b, 1 + k, none⟩ = some (.int .u32 (h k)) := cell_of B1.out _ (hn.word k hlt)
      have hy : wr.cell? ⟨w.heap.size, 1 + k, none⟩ = some (.int .u32 (g k)) := cell_of B2.out _ (hd.word k hlt)
      have hfr : wr.frozen? ⟨b, 1 + k, none⟩ = false := free_of B1.out _
      have h1 : h k < 1000000000 := hn.lt k hlt
      have h2 : g k < 1000000000 := hd.lt k hlt
      go_wp2
      go_quiet (fail)
      go_wp2
      have e1 : (1000000000 + (h k : Int) - g k - cr) % 1000000000 = (((BASE + h k - g k - cr) % BASE : Nat) : Int) := by unfold BASE; omega
      have e2 : 1 - (1000000000 + (h k : Int) - g k - cr) / 1000000000 = ((1 - (BASE + h k - g k - cr) / BASE : Nat) : Int) := by unfold BASE; omega
      go_roundw
      case rel =>
        have st := A.out.step hc.lt hd.lt hlt
        exact ⟨k + 1, _, _, _, by omega, st.one, by go_num, by rw [e2], by rw [e1]; exact heap_set B1.out _ _, (Below.heap_setCell _ _ _ _ (by show w.heap.size ≠ b; omega)).trans B2.out, hn.set hlt (Nat.mod_lt _ (by decide)), st, (ho.drewN _).setCell _ _ _⟩
      case measure => simp [intOf]; omega
    · obtain rfl : k = 16 := by omega
      go_wp2
      go_end0
      exact ⟨rfl, ho, c', h, cr, B1.out, hn, A.out⟩
set_option maxHeartbeats 400000 in
theorem pushAt (b : Nat) (c : Array Value) (n : Bool) (f : Nat → Nat) (x : Int) (w : World) (hb : w.heap[b]? = some (.cells c 136)) (hc : IsNum c n f) (hx0 : 48 ≤ x) (hx9 : x ≤ 57) :
    Calls Tryz.prog 184 #[.pointer (some ⟨b, 0, none⟩), .int .u8 x] w fun e w' => e = .returned (.tuple #[]) ∧ Only b w w' ∧
      ∃ c' h cr, w'.heap[b]? = some (.cells c' 136) ∧ IsNum c' n h ∧ PushTo f (x - 48).toNat h cr 16 := by
  have hbs := lt_of_heap hb
  obtain ⟨d, hd⟩ : ∃ d : Nat, x = 48 + d := ⟨(x - 48).toNat, by omega⟩
  subst hd
  have hd9 : d ≤ 9 := by omega
  have ed : (48 + (d : Int) - 48).toNat = d := by omega
  rw [ed]
  clear ed
  go_enter Tryz.func184, Tryz.ntmps184
  go_wp2
  go_loopw [4, 10] (fun cv i wr => ∃ (k cr : Nat) (c' : Array Value) (h : Nat → Nat), k ≤ 16 ∧ cr ≤ 9 ∧ i = .int .i64 k ∧ cv = .int .u64 cr ∧ wr.heap[b]? = some (.cells c' 136) ∧ IsNum c' n h ∧ PushTo f d h cr k ∧ Only b w wr) (fun _ i _ => 16 - (intOf i).toNat)
  case atStart =>
    exact ⟨0, d, c, f, by omega, by omega, rfl, by go_num, hb, hc, PushTo.zero hc.lt hd9, Only.refl _ _⟩
  case round =>
    obtain ⟨k, cr, c', h, hk, hcr, rfl, rfl, hb1, hn, ha, ho⟩ := hrel
    have B1 := Lib.hid hb1
    have A := Lib.hid ha
    clear hb1 ha
    by_cases hlt : k < 16
    · have hx : wr.cell? ⟨b, 1 + k, none⟩ = some (.int .u32 (h k)) := cell_of B1.out _ (hn.word k hlt)
      have hfr : wr.frozen? ⟨b, 1 + k, none⟩ = false := free_of B1.out _
      have h1 : h k < 1000000000 := hn.lt k hlt
      go_wp2
      have e1 : ((h k : Int) * 10 + cr) % 1000000000 = (((h k * 10 + cr) % BASE : Nat) : Int) := by unfold BASE; omega
      have e2 : ((h k : Int) * 10 + cr) / 1000000000 = (((h k * 10 + cr) / BASE : Nat) : Int) := by unfold BASE; omega
      go_roundw
      case rel =>
        have st := A.out.step hc.lt hlt
        exact ⟨k + 1, _, _, _, by omega, st.one, by go_num, by rw [e2], by rw [e1]; exact heap_set B1.out _ _, hn.set hlt (Nat.mod_lt _ (by decide)), st, ho.setCell _ _ _⟩
      case measure => simp [intOf]; omega
    · obtain rfl : k = 16 := by omega
      go_wp2
      go_end0
      exact ⟨rfl, ho, c', h, cr, B1.out, hn, A.out⟩
end Go.Proofs.YtoifjjgakblhhaaGreatDoor

/- isZero, opposite, compare. -/
namespace Go.Proofs.YtoifjjgakblhhaaGreatDoor
open Go.RowKit

theorem IsNum.neg' {c : Array Value} {n m : Bool} {f : Nat → Nat} (h : IsNum c n f) : IsNum (c.setIfInBounds 0 (.bool m)) m f :=
  ⟨by rw [Array.getElem?_setIfInBounds_self_of_lt (by rw [h.size]; omega)], fun j hj => by rw [Array.getElem?_setIfInBounds_ne (by omega)]; exact h.word j hj, by simp [h.size], h.lt⟩

set_option maxHeartbeats 400000 in
theorem opp (c : Array Value) (n : Bool) (f : Nat → Nat) (w : World) (hc : IsNum c n f) :
    Calls Tryz.prog 183 #[.agg c] w fun e w' => ∃ c', e = .returned (.agg c') ∧ IsNum c' (!n) f ∧ Below w.heap.size w w' := by
  have h0 : ∀ o, ((w.alloc (.cells c 136)).alloc o).cell? ⟨w.heap.size, 0, none⟩ = some (.bool n) := fun o => cell_of (heap_old _ (heap_new _ _ rfl)) _ hc.neg
  have h1 : ∀ o, ((w.alloc (.cells c 136)).alloc o).frozen? ⟨w.heap.size, 0, none⟩ = false := fun o => free_of (heap_old _ (heap_new _ _ rfl)) _
  go_enter Tryz.func183, Tryz.ntmps183
  go_wp2_with (first
    | (refine wpList_load_num w.heap.size (c.setIfInBounds 0 (.bool !n)) ?_ ?_ (.tmp 1) rfl rfl rfl ?_; exact heap_old _ (heap_new _ _ rfl); exact (hc.neg' (m := !n)).size)
    | (refine wpList_store_num (w.heap.size + 1) zero59 (c.setIfInBounds 0 (.bool !n)) ?_ ?_ ?_ ?_ (.tmp 2) (.tmp 7) rfl rfl rfl rfl ?_; exact heap_new _ _ (by simp); rfl; exact (hc.neg' (m := !n)).size; exact (hc.neg' (m := !n)).one; intro w1 ho1 hh1))
  have hz := (hc.neg' (m := !n))
  refine bodyPost_ret (v := .agg (c.setIfInBounds 0 (.bool !n))) (results_cell_row (p := 2) (ty := 136) Tryz.results183 _ _ (w.heap.size + 1) 136 _ (0, 0) _ rfl hh1 Tryz.underlying136 rfl (by rw [hz.size]; exact info59)) rfl ⟨_, rfl, hz, ?_⟩
  exact below_only (((Below.refl _ _).alloc (Nat.le_refl _) _).alloc (by simp) _) ho1 (by simp) (by simp; omega)

theorem vN_zero (n : Nat) (f : Nat → Nat) : vN n f = 0 ↔ ∀ j, j < n → f j = 0 := by
  induction n with
  | zero => simp [vN]
  | succ n ih =>
    have hb : 0 < BASE ^ n := Nat.pow_pos (by decide)
    simp only [vN, Nat.add_eq_zero_iff, ih, Nat.mul_eq_zero]
    constructor
    · rintro ⟨h, h' | h'⟩ j hj
      · by_cases e : j = n
        · rw [e]; exact h'
        · exact h j (by omega)
      · omega
    · intro h
      exact ⟨fun j hj => h j (by omega), .inl (h n (by omega))⟩

theorem size56 (w : World) : (sizeOf 133).run Tryz.prog w = .ok 1 w := by kernel_rfl
theorem agg56 (w : World) : (isAgg 133).run Tryz.prog w = .ok false w := by kernel_rfl
theorem run_eq16 (d : Nat) (xs ys : Array Value) (f g : Nat → Nat) (w : World) (hx : ∀ j, j < 16 → xs[j]? = some (.int .u32 (f j))) (hy : ∀ j, j < 16 → ys[j]? = some (.int .u32 (g j))) :
    (Op.equalIn (d + 2) 134 (.agg xs) (.agg ys)).run Tryz.prog w = .ok ((List.range 16).all fun j => f j == g j) w := by
  rw [Op.equalIn]
  simp only [Sem.run_bind, run_underlying Tryz.underlying134, Result.andThen_ok, size56]
  rw [Std.Legacy.Range.forIn_eq_forIn_range']
  have key : ∀ (n s : Nat), s + n ≤ 16 →
      Sem.run Tryz.prog (forIn (List.range' s n 1) ((none, ()) : Option Bool × Unit) fun i __s => do
              let __do_lift ← part 133 xs (i * 1)
              let __do_lift_1 ← part 133 ys (i * 1)
              let __do_lift ← Op.equalIn (d + 1) 133 __do_lift __do_lift_1
              if (!__do_lift) = true then pure (ForInStep.done (some false, ()))
                else pure (ForInStep.yield (none, ()))) w =
      .ok (if ((List.range' s n 1).all fun j => f j == g j) = true then (none, ()) else (some false, ())) w := by
    intro n
    induction n with
    | zero => intro s _; simp
    | succ n ih =>
      intro s hs
      have ih' := ih (s + 1) (by omega)
      simp only [List.range'_succ, List.forIn_cons, Sem.run_bind, part, agg56, Result.andThen_ok, Bool.false_eq_true, if_false, Nat.mul_one, hx s (by omega), hy s (by omega), Sem.run_ite, Sem.run_pure, run_equalIn_int w d 133 .u32 .u32 _ _ Tryz.underlying133, List.all_cons]
      by_cases e : f s = g s
      · simp only [e, beq_self_eq_true, Bool.not_true, Bool.false_eq_true, if_false, Result.andThen_ok, Bool.true_and]
        simpa [part, Sem.run_bind] using ih'
      · have e' : ((f s : Int) == (g s : Int)) = false := by simp; omega
        have e'' : (f s == g s) = false := by simp; omega
        simp [e', e'']
  have k0 := key 16 0 (by omega)
  rw [← List.range_eq_range'] at k0
  have e : List.range' [:16].start [:16].size [:16].step = List.range 16 := by decide
  rw [e, k0]
  generalize ((List.range 16).all fun j => f j == g j) = b
  cases b <;> simp
theorem word_extract {c : Array Value} {n : Bool} {f : Nat → Nat} (hc : IsNum c n f) (j : Nat) (hj : j < 16) : (c.extract 1 17)[j]? = some (.int .u32 (f j)) := by
  rw [Array.getElem?_extract, if_pos (by have := hc.size; omega)]
  exact hc.word j hj
theorem info57 : (Tryz.prog.info? 134).map (·.size) = some 16 := by kernel_rfl
theorem wpList_load_words {ops : Array Oper} {rest : List Oper} {o : Oper} {a : Act} {w : World} {Q : Exit → Act → World → Prop} (g : Nat) (c : Array Value) (hg : w.heap[g]? = some (.cells c 136)) (hs : c.size = 17)
    (x : Operand) (hgd : o.guard = none) (ho : o.op = .load 134 x) (hx : a.eval x = .pointer (some ⟨g, 1, none⟩))
    (h : wpList Tryz.prog ops Q rest (a.put o.dst (.agg (c.extract 1 17))) w) : wpList Tryz.prog ops Q (o :: rest) a w :=
  wpList_load_mid hgd 134 x ho g 1 hx (c.extract 1 17).toList _ (World.rangeAt_of_block hg 1 16) Tryz.underlying134 rfl (by rw [info57]; simp [hs]) (by rw [Array.toArray_toList]; exact h)

def zero57 : Array Value := #[.int .u32 0, .int .u32 0, .int .u32 0, .int .u32 0, .int .u32 0, .int .u32 0, .int .u32 0, .int .u32 0, .int .u32 0, .int .u32 0, .int .u32 0, .int .u32 0, .int .u32 0, .int .u32 0, .int .u32 0, .int .u32 0]
theorem zero57_at (j : Nat) (hj : j < 16) : zero57[j]? = some (.int .u32 ((0 : Nat) : Int)) := by
  match j, hj with
  | 0, _ => rfl
  | 1, _ => rfl
  | 2, _ => rfl
  | 3, _ => rfl
  | 4, _ => rfl
  | 5, _ => rfl
  | 6, _ => rfl
  | 7, _ => rfl
  | 8, _ => rfl
  | 9, _ => rfl
  | 10, _ => rfl
  | 11, _ => rfl
  | 12, _ => rfl
  | 13, _ => rfl
  | 14, _ => rfl
  | 15, _ => rfl
  | k + 16, h => exact absurd h (by omega)

theorem wpList_eql_words {ops : Array Oper} {rest : List Oper} {o : Oper} {a : Act} {w : World} {Q : Exit → Act → World → Prop} (xs ys : Array Value) (r : Bool)
    (he : (binOp .eql 134 (.agg xs) (.agg ys)).run Tryz.prog w = .ok (.bool r) w)
    (x y : Operand) (hgd : o.guard = none) (ho : o.op = .binOp .eql 134 x y 134) (hx : a.eval x = .agg xs) (hy : a.eval y = .agg ys)
    (h : wpList Tryz.prog ops Q rest (a.put o.dst (.bool r)) w) : wpList Tryz.prog ops Q (o :: rest) a w :=
  wpList_plain hgd fun _ hK => by
    unfold Oper.wp execOp
    simp only [ho, hx, hy]
    have hm : Tryz.prog.eqGuardType Tryz.prog.depth 134 = false := by kernel_rfl
    rw [Sem.run_bind, Sem.run_bind, run_eqGuard_agg w .eql 134 x y xs ys hm, Result.andThen_ok, he, Result.andThen_ok]
    exact hK _ _ h

/-- Compare of two signs and amounts, as the text has it. -/
def cmpS (n : Bool) (x : Nat) (m : Bool) (y : Nat) : Int :=
  if n && !m then -1 else if m && !n then 1 else if n then cmpI y x else cmpI x y

end Go.Proofs.YtoifjjgakblhhaaGreatDoor

/- compare. -/
namespace Go.Proofs.YtoifjjgakblhhaaGreatDoor
open Go.RowKit

theorem cmpFT (c d : Array Value) (f g : Nat → Nat) (w : World) (hc : IsNum c false f) (hd : IsNum d true g) :
    Calls Tryz.prog 129 #[.agg c, .agg d] w fun e w' => e = .returned (.int .i64 1) ∧ Below w.heap.size w w' := by
  have h0 : ((w.alloc (.cells c 136)).alloc (.cells d 136)).cell? ⟨w.heap.size, 0, none⟩ = some (.bool false) := cell_of (heap_old _ (heap_new _ _ rfl)) _ hc.neg
  have h1 : ((w.alloc (.cells c 136)).alloc (.cells d 136)).cell? ⟨w.heap.size + 1, 0, none⟩ = some (.bool true) := cell_of (heap_new _ _ (by simp)) _ hd.neg
  go_enter Tryz.func129, Tryz.ntmps129
  go_wp2_with fail
  go_ret
  exact ⟨rfl, ((Below.refl _ _).alloc (Nat.le_refl _) _).alloc (by simp) _⟩

set_option maxHeartbeats 800000 in
theorem cmpFF (c d : Array Value) (f g : Nat → Nat) (w : World) (hc : IsNum c false f) (hd : IsNum d false g) :
    Calls Tryz.prog 129 #[.agg c, .agg d] w fun e w' => e = .returned (.int .i64 (cmpI (wval f) (wval g))) ∧ Below w.heap.size w w' := by
  have h0 : ((w.alloc (.cells c 136)).alloc (.cells d 136)).cell? ⟨w.heap.size, 0, none⟩ = some (.bool false) := cell_of (heap_old _ (heap_new _ _ rfl)) _ hc.neg
  have h1 : ((w.alloc (.cells c 136)).alloc (.cells d 136)).cell? ⟨w.heap.size + 1, 0, none⟩ = some (.bool false) := cell_of (heap_new _ _ (by simp)) _ hd.neg
  have b1 : ((w.alloc (.cells c 136)).alloc (.cells d 136)).heap[w.heap.size]? = some (.cells c 136) := heap_old _ (heap_new _ _ rfl)
  have b2 : ((w.alloc (.cells c 136)).alloc (.cells d 136)).heap[w.heap.size + 1]? = some (.cells d 136) := heap_new _ _ (by simp)
  have hb : Below w.heap.size w ((w.alloc (.cells c 136)).alloc (.cells d 136)) := ((Below.refl _ _).alloc (Nat.le_refl _) _).alloc (by simp) _
  have hs : w.heap.size ≤ ((w.alloc (.cells c 136)).alloc (.cells d 136)).heap.size := by simp; omega
  have B1 := Lib.hid b1
  have B2 := Lib.hid b2
  clear b1 b2
  go_enter Tryz.func129, Tryz.ntmps129
  go_wp2_with (first
      | ((with_reducible refine wpList_load_num w.heap.size c ?_ ?_ (.tmp 2) ?_ ?_ ?_ ?_); exact B1.out; exact hc.size; rfl; rfl; rfl)
      | ((with_reducible refine wpList_load_num (w.heap.size + 1) d ?_ ?_ (.tmp 3) ?_ ?_ ?_ ?_); exact B2.out; exact hd.size; rfl; rfl; rfl)
      | (go_at_call 152; (with_reducible refine (cmpAmt c d _ _ _ _ hc hd _).mono ?_); rintro e w' ⟨rfl, hbel⟩))
  go_ret
  exact ⟨rfl, below_any hb hbel hs⟩
theorem cmpTF (c d : Array Value) (f g : Nat → Nat) (w : World) (hc : IsNum c true f) (hd : IsNum d false g) :
    Calls Tryz.prog 129 #[.agg c, .agg d] w fun e w' => e = .returned (.int .i64 (-1)) ∧ Below w.heap.size w w' := by
  have h0 : ((w.alloc (.cells c 136)).alloc (.cells d 136)).cell? ⟨w.heap.size, 0, none⟩ = some (.bool true) := cell_of (heap_old _ (heap_new _ _ rfl)) _ hc.neg
  have h1 : ((w.alloc (.cells c 136)).alloc (.cells d 136)).cell? ⟨w.heap.size + 1, 0, none⟩ = some (.bool false) := cell_of (heap_new _ _ (by simp)) _ hd.neg
  go_enter Tryz.func129, Tryz.ntmps129
  go_wp2_with fail
  go_ret
  exact ⟨rfl, ((Below.refl _ _).alloc (Nat.le_refl _) _).alloc (by simp) _⟩

set_option maxHeartbeats 800000 in
theorem cmpTT (c d : Array Value) (f g : Nat → Nat) (w : World) (hc : IsNum c true f) (hd : IsNum d true g) :
    Calls Tryz.prog 129 #[.agg c, .agg d] w fun e w' => e = .returned (.int .i64 (cmpI (wval g) (wval f))) ∧ Below w.heap.size w w' := by
  have h0 : ((w.alloc (.cells c 136)).alloc (.cells d 136)).cell? ⟨w.heap.size, 0, none⟩ = some (.bool true) := cell_of (heap_old _ (heap_new _ _ rfl)) _ hc.neg
  have h1 : ((w.alloc (.cells c 136)).alloc (.cells d 136)).cell? ⟨w.heap.size + 1, 0, none⟩ = some (.bool true) := cell_of (heap_new _ _ (by simp)) _ hd.neg
  have b1 : ((w.alloc (.cells c 136)).alloc (.cells d 136)).heap[w.heap.size]? = some (.cells c 136) := heap_old _ (heap_new _ _ rfl)
  have b2 : ((w.alloc (.cells c 136)).alloc (.cells d 136)).heap[w.heap.size + 1]? = some (.cells d 136) := heap_new _ _ (by simp)
  have hb : Below w.heap.size w ((w.alloc (.cells c 136)).alloc (.cells d 136)) := ((Below.refl _ _).alloc (Nat.le_refl _) _).alloc (by simp) _
  have hs : w.heap.size ≤ ((w.alloc (.cells c 136)).alloc (.cells d 136)).heap.size := by simp; omega
  have B1 := Lib.hid b1
  have B2 := Lib.hid b2
  clear b1 b2
  go_enter Tryz.func129, Tryz.ntmps129
  go_wp2_with (first
      | ((with_reducible refine wpList_load_num w.heap.size c ?_ ?_ (.tmp 2) ?_ ?_ ?_ ?_); exact B1.out; exact hc.size; rfl; rfl; rfl)
      | ((with_reducible refine wpList_load_num (w.heap.size + 1) d ?_ ?_ (.tmp 3) ?_ ?_ ?_ ?_); exact B2.out; exact hd.size; rfl; rfl; rfl)
      | (go_at_call 152; (with_reducible refine (cmpAmt d c _ _ _ _ hd hc _).mono ?_); rintro e w' ⟨rfl, hbel⟩))
  go_ret
  exact ⟨rfl, below_any hb hbel hs⟩
theorem cmpS_ff (x y : Nat) : cmpS false x false y = cmpI x y := by simp [cmpS]
theorem cmpS_ft (x y : Nat) : cmpS false x true y = 1 := by simp [cmpS]
theorem cmpS_tf (x y : Nat) : cmpS true x false y = -1 := by simp [cmpS]
theorem cmpS_tt (x y : Nat) : cmpS true x true y = cmpI y x := by simp [cmpS]

theorem cmpNum (c d : Array Value) (n m : Bool) (f g : Nat → Nat) (w : World) (hc : IsNum c n f) (hd : IsNum d m g) :
    Calls Tryz.prog 129 #[.agg c, .agg d] w fun e w' => e = .returned (.int .i64 (cmpS n (wval f) m (wval g))) ∧ Below w.heap.size w w' := by
  cases n <;> cases m
  · rw [cmpS_ff]; exact cmpFF c d f g w hc hd
  · rw [cmpS_ft]; exact cmpFT c d f g w hc hd
  · rw [cmpS_tf]; exact cmpTF c d f g w hc hd
  · rw [cmpS_tt]; exact cmpTT c d f g w hc hd

end Go.Proofs.YtoifjjgakblhhaaGreatDoor
