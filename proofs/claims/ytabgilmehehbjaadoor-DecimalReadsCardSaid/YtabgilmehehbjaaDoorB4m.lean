/- minus. -/
import Derived.Test.YtabgilmehehbjaaDoorA8m
import Derived.Test.YtabgilmehehbjaaDoorRm
import Derived.Deep.RegionHeld3
import Derived.Deep.RegionWith
namespace Go.Proofs.YtabgilmehehbjaaDoor
open Go.RowKit

theorem loadN {w : World} {g : Nat} {c : Array Value} {n : Bool} {f : Nat → Nat} (h : Lies w g c n f) : (Instr.loadAt 59 (.pointer (some ⟨g, 0, none⟩))).run Tryd.prog w = .ok (.agg c) w := by
  simp only [Instr.loadAt, Instr.sureAddr, Sem.run_bind, Sem.run_pure, Result.andThen_ok]
  exact run_loadVar_row (P := Tryd.prog) w g 59 59 c (0, 0) _ h.1 Tryd.underlying59 rfl (by rw [h.2.size]; exact info59)
theorem yieldsIf_loadN {ops : Array Oper} {S : World → Prop} {op : Oper} {a : Act} (hw : Region.wanted op (yielded ops a.tmps) = true) (x : Operand) (ho : op.op = .load 59 x)
    (g : Nat) (hx : a.eval x = .pointer (some ⟨g, 0, none⟩)) (c : Array Value) (n : Bool) (f : Nat → Nat) (hS : ∀ w, S w → Lies w g c n f) : YieldsIf Tryd.prog ops S op (.agg c) a :=
  .inl ⟨hw, fun w hw' => by
    unfold execOp
    simp only [ho, hx, Instr.loadAt, Instr.sureAddr, Sem.run_bind, Sem.run_pure, Result.andThen_ok, run_loadVar_row (P := Tryd.prog) w g 59 59 c (0, 0) _ (hS w hw').1 Tryd.underlying59 rfl (by rw [(hS w hw').2.size]; exact info59)]⟩
theorem storeN {w : World} {g : Nat} {c c' : Array Value} {n n' : Bool} {f f' : Nat → Nat} (h : Lies w g c n f) (k : IsNum c' n' f') : (Instr.storeAt 59 (.pointer (some ⟨g, 0, none⟩)) (.agg c')).run Tryd.prog w = .ok () (w.setRow g c') := by
  simp only [Instr.storeAt, Instr.sureAddr, Sem.run_bind, Sem.run_pure, Result.andThen_ok]
  exact run_storeVar_row (P := Tryd.prog) w g 59 59 c c' h.1 (by rw [k.size]; exact info59) (by rw [h.2.size, k.size]) k.one

theorem wp_storeN {op : Oper} {a : Act} {w : World} {K : Act → World → Prop} {Q : Exit → Act → World → Prop} (x y : Operand) (ho : op.op = .store 59 x y) (g : Nat) {c c' : Array Value} {n n' : Bool} {f f' : Nat → Nat}
    (hx : a.eval x = .pointer (some ⟨g, 0, none⟩)) (hy : a.eval y = .agg c') (hl : Lies w g c n f) (hn : IsNum c' n' f') (h : ∀ w', Only g w w' → Lies w' g c' n' f' → K (a.put op.dst undef) w') : op.wp Tryd.prog a w K Q := by
  unfold Oper.wp execOp
  simp only [ho, hx, hy, storeN hl hn, Sem.run_bind, Sem.run_pure, Result.andThen_ok]
  exact h _ (Only.setRow w c') ⟨heap_setRow hl.1, hn⟩

set_option maxRecDepth 20000 in
set_option maxHeartbeats 1600000 in
theorem minusNum (c d : Array Value) (n m : Bool) (f g : Nat → Nat) (w : World) (hc : IsNum c n f) (hd : IsNum d m g) (hs : wval f + wval g < BASE ^ 16) :
    Calls Tryd.prog 49 #[.agg c, .agg d] w fun e w' => ∃ c' r h, e = .returned (.agg c') ∧ IsNum c' r h ∧ sv r (wval h) = sv n (wval f) + sv (!m) (wval g) ∧ Below w.heap.size w w' := by
  have l1 : Lies (((w.alloc (.cells c 59)).alloc (.cells d 59)).alloc (.cells #[.bool false, .int .u32 0, .int .u32 0, .int .u32 0, .int .u32 0, .int .u32 0, .int .u32 0, .int .u32 0, .int .u32 0, .int .u32 0, .int .u32 0, .int .u32 0, .int .u32 0, .int .u32 0, .int .u32 0, .int .u32 0, .int .u32 0] 59)) w.heap.size c n f := ((lies_new w hc rfl).alloc _).alloc _
  have l2 : Lies (((w.alloc (.cells c 59)).alloc (.cells d 59)).alloc (.cells #[.bool false, .int .u32 0, .int .u32 0, .int .u32 0, .int .u32 0, .int .u32 0, .int .u32 0, .int .u32 0, .int .u32 0, .int .u32 0, .int .u32 0, .int .u32 0, .int .u32 0, .int .u32 0, .int .u32 0, .int .u32 0, .int .u32 0] 59)) (w.heap.size + 1) d m g := (lies_new _ hd (by simp)).alloc _
  have l3 : Lies (((w.alloc (.cells c 59)).alloc (.cells d 59)).alloc (.cells #[.bool false, .int .u32 0, .int .u32 0, .int .u32 0, .int .u32 0, .int .u32 0, .int .u32 0, .int .u32 0, .int .u32 0, .int .u32 0, .int .u32 0, .int .u32 0, .int .u32 0, .int .u32 0, .int .u32 0, .int .u32 0, .int .u32 0] 59)) (w.heap.size + 1 + 1) zero59 false (fun _ => 0) := lies_zero _ (by simp)
  have hb := below3 w (.cells c 59) (.cells d 59) (.cells #[.bool false, .int .u32 0, .int .u32 0, .int .u32 0, .int .u32 0, .int .u32 0, .int .u32 0, .int .u32 0, .int .u32 0, .int .u32 0, .int .u32 0, .int .u32 0, .int .u32 0, .int .u32 0, .int .u32 0, .int .u32 0, .int .u32 0] 59)
  go_enter Tryd.func49, Tryd.ntmps49
  go_wp2_with fail
  refine wp_region_held_drew (S := fun w' => Lies w' w.heap.size c n f ∧ Lies w' (w.heap.size + 1) d m g ∧ (∃ c0 n0 f0, Lies w' (w.heap.size + 1 + 1) c0 n0 f0) ∧ Below w.heap.size w w') (by kernel_rfl) ⟨l1, l2, ⟨_, _, _, l3⟩, hb.drew⟩ (fun hHeld => ?_)
  clear l1 l2 l3 hb
  refine wpAnyH_take (i := 0) rfl (by kernel_rfl) (by kernel_rfl) (by kernel_rfl) (fun _ _ _ h => h) (yieldsIf_loadN (by rfl) (.tmp 2) rfl w.heap.size rfl c n f (fun _ h => h.1)) hHeld ?_
  try simp only [Act.put, List.setIfInBounds_toArray, List.set_cons_zero, List.set_cons_succ]
  refine wpAnyH_take (i := 1) rfl (by kernel_rfl) (by kernel_rfl) (by kernel_rfl) (fun _ _ _ h => h) (yieldsIf_loadN (by rfl) (.tmp 3) rfl (w.heap.size + 1) rfl d m g (fun _ h => h.2.1)) hHeld ?_
  try simp only [Act.put, List.setIfInBounds_toArray, List.set_cons_zero, List.set_cons_succ]
  refine wpAnyH_ready (rs := [2]) (by kernel_rfl) (by simp) ?_
  refine AllReadyH.cons rfl (fun K hK => ?_) AllReadyH.nil
  go_simp
  refine (opp d m g _ hd).mono ?_
  rintro e w1 ⟨d', rfl, hd', hb1⟩
  obtain ⟨u1, u2, ⟨cz, nz, fz, u3⟩, u4⟩ := hHeld
  refine hK.out _ _ ⟨u1.below hb1, u2.below hb1, ⟨_, _, _, u3.below hb1⟩, below_any u4 hb1 (Nat.le_of_lt u1.lt)⟩ (fun hHeld => ?_)
  clear hK K u1 u2 u3 u4 hb1
  try simp only [Act.put, List.setIfInBounds_toArray, List.set_cons_zero, List.set_cons_succ]
  refine wpAnyH_ready (rs := [3]) (by kernel_rfl) (by simp) ?_
  refine AllReadyH.cons rfl (fun K hK => ?_) AllReadyH.nil
  go_simp
  refine (plusNum c d' n (!m) f g _ hc hd' hs).mono ?_
  rintro e w2 ⟨c', r, h, rfl, hn, hsv, hb1⟩
  obtain ⟨u1, u2, ⟨cz, nz, fz, u3⟩, u4⟩ := hHeld
  refine hK.out _ _ ⟨u1.below hb1, u2.below hb1, ⟨_, _, _, u3.below hb1⟩, below_any u4 hb1 (Nat.le_of_lt u1.lt)⟩ (fun hHeld => ?_)
  clear hK K u1 u2 u3 u4 hb1
  try simp only [Act.put, List.setIfInBounds_toArray, List.set_cons_zero, List.set_cons_succ]
  obtain ⟨u1, u2, ⟨cz, nz, fz, u3⟩, u4⟩ := hHeld
  refine wpAnyH_ready (rs := [4]) (by kernel_rfl) (by simp) ?_
  refine AllReadyH.cons rfl (fun K hK => ?_) AllReadyH.nil
  rw [if_pos (by rfl)]
  refine wp_storeN (.tmp 4) (.tmp 8) rfl (w.heap.size + 1 + 1) rfl rfl u3 hn (fun w3 ho m3 => ?_)
  refine hK.out _ _ ⟨u1.only ho (by omega), u2.only ho (by omega), ⟨_, _, _, m3⟩, below_only u4 ho (by omega) (Nat.le_of_lt u1.lt)⟩ (fun hHeld => ?_)
  have b3 := hHeld.2.2.2
  clear hK K u1 u2 u3 u4 hHeld
  refine wpAnyH_done (by kernel_rfl) ?_ _
  go_wp2_with fail
  exact bodyPost_ret (v := .agg c') (results_num (p := 4) Tryd.results49 _ rfl m3) rfl ⟨c', r, h, rfl, hn, hsv, b3⟩

end Go.Proofs.YtabgilmehehbjaaDoor
