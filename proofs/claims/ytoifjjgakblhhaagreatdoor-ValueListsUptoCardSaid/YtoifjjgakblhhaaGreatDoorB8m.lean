/- times. -/
import Derived.Test.YtoifjjgakblhhaaGreatDoorA8m
import Derived.Test.YtoifjjgakblhhaaGreatDoorRm
import Derived.Test.YtoifjjgakblhhaaGreatDoorGa
import Derived.Deep.LoopGhost
import Derived.WalkMore
namespace Go.Proofs.YtoifjjgakblhhaaGreatDoor
open Go.RowKit

theorem Lies.drewN {w : World} {g : Nat} {c : Array Value} {n : Bool} {f : Nat → Nat} (h : Lies w g c n f) (k : Nat) : Lies (w.drewN k) g c n f := h

/-- What times leaves. -/
def ProdPost (sg : Bool) (f g : Nat → Nat) (w : World) (e : Ending) (w' : World) : Prop := ∃ c' h, e = .returned (.agg c') ∧ IsNum c' sg h ∧ wval h * 10 ^ 54 = wval f * wval g ∧ Below w.heap.size w w'

theorem Lies.set {w : World} {g : Nat} {c : Array Value} {n : Bool} {f : Nat → Nat} (h : Lies w g c n f) {k v : Nat} (hk : k < 16) (hv : v < BASE) :
    Lies (w.setCell ⟨g, 1 + k, none⟩ (.int .u32 v)) g (c.setIfInBounds (1 + k) (.int .u32 v)) n (upd f k v) := ⟨heap_set h.1 _ _, h.2.set hk hv⟩

set_option maxRecDepth 20000 in
set_option maxHeartbeats 3200000 in
theorem timesNum (c d : Array Value) (n m : Bool) (f g : Nat → Nat) (w : World) (hc : IsNum c n f) (hd : IsNum d m g) (mf : Mid f) (mg : Mid g) :
    Calls Tryz.prog 162 #[.agg c, .agg d] w (ProdPost (n != m) f g w) := by
  obtain ⟨sg, hsg⟩ : ∃ sg, sg = (n != m) := ⟨_, rfl⟩
  rw [← hsg]
  have hsg2 : (!n == m) = sg := by rw [hsg]; cases n <;> cases m <;> rfl
  have hsg3 : (n == m) = !sg := by rw [hsg]; cases n <;> cases m <;> rfl
  have hsg4 : (n != m) = sg := hsg.symm
  clear hsg
  have l1 : Lies (((w.alloc (.cells c 136)).alloc (.cells d 136)).alloc (.cells #[.bool false, .int .u32 0, .int .u32 0, .int .u32 0, .int .u32 0, .int .u32 0, .int .u32 0, .int .u32 0, .int .u32 0, .int .u32 0, .int .u32 0, .int .u32 0, .int .u32 0, .int .u32 0, .int .u32 0, .int .u32 0, .int .u32 0] 136)) w.heap.size c n f := ((lies_new w hc rfl).alloc _).alloc _
  have l2 : Lies (((w.alloc (.cells c 136)).alloc (.cells d 136)).alloc (.cells #[.bool false, .int .u32 0, .int .u32 0, .int .u32 0, .int .u32 0, .int .u32 0, .int .u32 0, .int .u32 0, .int .u32 0, .int .u32 0, .int .u32 0, .int .u32 0, .int .u32 0, .int .u32 0, .int .u32 0, .int .u32 0, .int .u32 0] 136)) (w.heap.size + 1) d m g := (lies_new _ hd (by simp)).alloc _
  have l3 : Lies (((w.alloc (.cells c 136)).alloc (.cells d 136)).alloc (.cells #[.bool false, .int .u32 0, .int .u32 0, .int .u32 0, .int .u32 0, .int .u32 0, .int .u32 0, .int .u32 0, .int .u32 0, .int .u32 0, .int .u32 0, .int .u32 0, .int .u32 0, .int .u32 0, .int .u32 0, .int .u32 0, .int .u32 0] 136)) (w.heap.size + 1 + 1) zero59 false (fun _ => 0) := lies_zero _ (by simp)
  have h0 := l1.cell0
  have h1 := l2.cell0
  have hb := below3 w (.cells c 136) (.cells d 136) (.cells #[.bool false, .int .u32 0, .int .u32 0, .int .u32 0, .int .u32 0, .int .u32 0, .int .u32 0, .int .u32 0, .int .u32 0, .int .u32 0, .int .u32 0, .int .u32 0, .int .u32 0, .int .u32 0, .int .u32 0, .int .u32 0, .int .u32 0] 136)
  have k1 := l1.alloc (.cells #[.bool sg, .int .u32 0, .int .u32 0, .int .u32 0, .int .u32 0, .int .u32 0, .int .u32 0, .int .u32 0, .int .u32 0, .int .u32 0, .int .u32 0, .int .u32 0, .int .u32 0, .int .u32 0, .int .u32 0, .int .u32 0, .int .u32 0] 136)
  have k2 := l2.alloc (.cells #[.bool sg, .int .u32 0, .int .u32 0, .int .u32 0, .int .u32 0, .int .u32 0, .int .u32 0, .int .u32 0, .int .u32 0, .int .u32 0, .int .u32 0, .int .u32 0, .int .u32 0, .int .u32 0, .int .u32 0, .int .u32 0, .int .u32 0] 136)
  have k3 := l3.alloc (.cells #[.bool sg, .int .u32 0, .int .u32 0, .int .u32 0, .int .u32 0, .int .u32 0, .int .u32 0, .int .u32 0, .int .u32 0, .int .u32 0, .int .u32 0, .int .u32 0, .int .u32 0, .int .u32 0, .int .u32 0, .int .u32 0, .int .u32 0] 136)
  have k4 : Lies ((((w.alloc (.cells c 136)).alloc (.cells d 136)).alloc (.cells #[.bool false, .int .u32 0, .int .u32 0, .int .u32 0, .int .u32 0, .int .u32 0, .int .u32 0, .int .u32 0, .int .u32 0, .int .u32 0, .int .u32 0, .int .u32 0, .int .u32 0, .int .u32 0, .int .u32 0, .int .u32 0, .int .u32 0] 136)).alloc (.cells #[.bool sg, .int .u32 0, .int .u32 0, .int .u32 0, .int .u32 0, .int .u32 0, .int .u32 0, .int .u32 0, .int .u32 0, .int .u32 0, .int .u32 0, .int .u32 0, .int .u32 0, .int .u32 0, .int .u32 0, .int .u32 0, .int .u32 0] 136)) (w.heap.size + 1 + 1 + 1) (sign59 sg) sg (fun _ => 0) := lies_sign _ _ (by simp)
  have hb4 := hb.alloc (by simp; omega) (.cells #[.bool sg, .int .u32 0, .int .u32 0, .int .u32 0, .int .u32 0, .int .u32 0, .int .u32 0, .int .u32 0, .int .u32 0, .int .u32 0, .int .u32 0, .int .u32 0, .int .u32 0, .int .u32 0, .int .u32 0, .int .u32 0, .int .u32 0] 136)
  clear hb
  go_enter Tryz.func162, Tryz.ntmps162
  go_wp2_with fail
  clear h0 h1 l1 l2 l3 hsg2 hsg3 hsg4
  go_loopg [6] 8 (fun gg s6 wr => ∃ (i : Nat) (cp : Array Value) (p : Nat → Nat), i + gg = 11 ∧ 3 ≤ i ∧ s6 = .int .i64 i ∧ Lies wr w.heap.size c n f ∧ Lies wr (w.heap.size + 1) d m g ∧ Lies wr (w.heap.size + 1 + 1) zero59 false (fun _ => 0) ∧
    Lies wr (w.heap.size + 1 + 1 + 1) cp sg p ∧ TimesI f g p i ∧ Below w.heap.size w wr)
  case atStart => exact ⟨3, _, _, by omega, by omega, rfl, k1, k2, k3, k4, TimesI.zero mf, hb4⟩
  case round =>
    clear k1 k2 k3 k4 hb4
    obtain ⟨i, cp, p, hig, hi3, rfl, k1, k2, k3, k4, hT, hb⟩ := hrel
    cases gk with
    | zero =>
      obtain rfl : i = 11 := by omega
      have hval := Lib.hid (hT.done mf)
      clear hT
      go_wp2_with (first
        | ((with_reducible refine wpList_loadN (.tmp 5) (w.heap.size + 1 + 1 + 1) (by assumption) ?_ ?_ ?_ ?_); rfl; rfl; rfl)
        | ((with_reducible refine wpList_storeN (.tmp 4) (.tmp 63) (w.heap.size + 1 + 1) (by assumption) k4.num ?_ ?_ ?_ ?_ ?_); rfl; rfl; rfl; rfl; intro w5 ho5 m3; have hb5 := below_only hb ho5 (by omega) (Nat.le_of_lt k1.lt)))
      exact bodyPost_ret (v := .agg cp) (results_num (p := 4) Tryz.results162 _ rfl m3) rfl ⟨cp, p, rfl, k4.num, hval.out, hb5⟩
    | succ gg =>
      have hi : i < 11 := by omega
      go_wp2_with fail
      go_loopg [7, 8] 8 (fun g3 s7 s8 wr => ∃ (j cr : Nat) (cp : Array Value) (p : Nat → Nat), j + g3 = 11 ∧ 3 ≤ j ∧ s7 = .int .u64 cr ∧ s8 = .int .i64 j ∧ Lies wr w.heap.size c n f ∧ Lies wr (w.heap.size + 1) d m g ∧ Lies wr (w.heap.size + 1 + 1) zero59 false (fun _ => 0) ∧
        Lies wr (w.heap.size + 1 + 1 + 1) cp sg p ∧ TimesJ f g p i j cr ∧ Below w.heap.size w wr)
      case atStart => exact ⟨3, 0, cp, p, by omega, by omega, rfl, rfl, k1, k2, k3, k4, hT.inner mg, hb⟩
      case round =>
        clear k1 k2 k3 k4 hb hT
        obtain ⟨j, cr, cp, p, hjg, hj3, rfl, rfl, k1, k2, k3, k4, hT, hb⟩ := hrel
        cases gk with
        | zero =>
          obtain rfl : j = 11 := by omega
          have hcr : cr < 1000000000 := hT.carry
          obtain ⟨q, hq⟩ : ∃ q : Nat, (i : Int) + 11 - 6 = q := ⟨i + 5, by omega⟩
          have hqi : q = i + 5 := by omega
          have hq16 : (q : Int) < 16 := by omega
          have hu : ∃ u, wr.cell? ⟨w.heap.size + 1 + 1 + 1, 1 + q, none⟩ = some u := ⟨_, cell_of k4.heap _ (k4.num.word q (by omega))⟩
          obtain ⟨u, hu⟩ := hu
          have hf1 : wr.frozen? ⟨w.heap.size + 1 + 1 + 1, 1 + q, none⟩ = false := free_of k4.heap _
          have HQ := Lib.hid hqi
          clear hqi
          go_wp2_with fail
          have hT' := hT.outer mg hi
          go_roundg gg
          case measure => omega
          case rel =>
            have ho := (Only.refl (w.heap.size + 1 + 1 + 1) wr).setCell (1 + q) none (.int .u32 (cr : Int))
            exact ⟨i + 1, _, _, by omega, by omega, by go_num, k1.only ho (by omega), k2.only ho (by omega), k3.only ho (by omega), by rw [HQ.out]; exact k4.set (by omega) hcr, hT', below_only hb ho (by omega) (Nat.le_of_lt k1.lt)⟩
        | succ g3 =>
          have hj : j < 11 := by omega
          have hcr : cr < 1000000000 := hT.carry
          obtain ⟨q, hq⟩ : ∃ q : Nat, (i : Int) + j - 6 = q := ⟨i + j - 6, by omega⟩
          have hqi : q = i + j - 6 := by omega
          have hq16 : (q : Int) < 16 := by omega
          have hqn : q < 16 := by omega
          obtain ⟨fi, hfi⟩ : ∃ fi : Int, fi = f i := ⟨_, rfl⟩
          obtain ⟨gj, hgj⟩ : ∃ gj : Int, gj = g j := ⟨_, rfl⟩
          obtain ⟨pa, hpa⟩ : ∃ pa : Int, pa = p q := ⟨_, rfl⟩
          have hx : wr.cell? ⟨w.heap.size, 1 + i, none⟩ = some (.int .u32 fi) := by rw [hfi]; exact cell_of k1.heap _ (k1.num.word i (by omega))
          have hy : wr.cell? ⟨w.heap.size + 1, 1 + j, none⟩ = some (.int .u32 gj) := by rw [hgj]; exact cell_of k2.heap _ (k2.num.word j (by omega))
          have hz : wr.cell? ⟨w.heap.size + 1 + 1 + 1, 1 + q, none⟩ = some (.int .u32 pa) := by rw [hpa]; exact cell_of k4.heap _ (k4.num.word q hqn)
          have hfr : wr.frozen? ⟨w.heap.size + 1 + 1 + 1, 1 + q, none⟩ = false := free_of k4.heap _
          obtain ⟨X, hX⟩ : ∃ X : Int, X = fi * gj := ⟨_, rfl⟩
          have f1 : f i < 1000000000 := hc.lt i (by omega)
          have g1 : g j < 1000000000 := hd.lt j (by omega)
          have p1 : p q < 1000000000 := hT.words q hqn
          have hXn : X = ((f i * g j : Nat) : Int) := by rw [hX, hfi, hgj, Int.natCast_mul]
          have hX2 : f i * g j ≤ 999999999 * 999999999 := Nat.mul_le_mul (by omega) (by omega)
          have x0 : 0 ≤ X := by omega
          have x1 : X ≤ 999999998000000001 := by omega
          have pa0 : 0 ≤ pa := by omega
          have pa1 : pa < 1000000000 := by omega
          have fi0 : 0 ≤ fi := by omega
          have fi1 : fi < 1000000000 := by omega
          have gj0 : 0 ≤ gj := by omega
          have gj1 : gj < 1000000000 := by omega
          have hT' := hT.step hc.lt hd.lt hi hj hi3 hj3
          have e1 : (X + pa + cr) % 1000000000 = (((f i * g j + p (i + j - 6) + cr) % BASE : Nat) : Int) := by rw [hXn, hpa, hqi]; unfold BASE; omega
          have e2 : (X + pa + cr) / 1000000000 = (((f i * g j + p (i + j - 6) + cr) / BASE : Nat) : Int) := by rw [hXn, hpa, hqi]; unfold BASE; omega
          have w1 : IntKind.u64.wrap X = X := IntWalk.u64_in _ (by omega)
          have w2 : IntKind.u64.wrap (X + pa) = X + pa := IntWalk.u64_in _ (by omega)
          have w3 : IntKind.u64.wrap (X + pa + cr) = X + pa + cr := IntWalk.u64_in _ (by omega)
          have E1 := Lib.hid e1
          have E2 := Lib.hid e2
          have HQ := Lib.hid hqi
          have hmul : fi * gj = X := hX.symm
          clear e1 e2 hqi hXn hX2 hX hfi hgj hpa f1 g1 p1
          have i16 : (i : Int) < 16 := by omega
          have j16 : (j : Int) < 16 := by omega
          go_wp2_with fail
          go_quiet (fail)
          go_wp2_with fail
          go_roundg g3
          case measure => omega
          case rel =>
            have ho := ((Only.refl (w.heap.size + 1 + 1 + 1) wr).drewN nq).setCell (1 + q) none (.int .u32 ((X + pa + cr) % 1000000000))
            exact ⟨j + 1, _, _, _, by omega, by omega, by rw [E2.out], by go_num, k1.only ho (by omega), k2.only ho (by omega), k3.only ho (by omega), by rw [E1.out, ← HQ.out]; exact (k4.drewN nq).set hqn (Nat.mod_lt _ (by decide)), by rw [← HQ.out] at hT' ⊢; exact hT', below_only hb ho (by omega) (Nat.le_of_lt k1.lt)⟩

end Go.Proofs.YtoifjjgakblhhaaGreatDoor
