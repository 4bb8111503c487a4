/- over: the quotient's digits. -/
import Derived.Test.YtoifjjgakblhhaaGreatDoorGb
import Derived.Test.YtoifjjgakblhhaaGreatDoorA8m
import Derived.Test.YtoifjjgakblhhaaGreatDoorGa
import Derived.WalkMore
import Derived.Deep.LoopGhost
import Derived.OwnWalk
namespace Go.Proofs.YtoifjjgakblhhaaGreatDoor
open Go.RowKit

theorem digitX (c : Array Value) (n : Bool) (f : Nat → Nat) (p : Int) (w : World) (hc : IsNum c n f) (h0 : -20 ≤ p) (h1 : p ≤ 143) (v : Int) (hv : Hid (v = (digAt (wval f * 10 ^ 20) (p + 20).toNat).toNat)) :
    Calls Tryz.prog 185 #[.agg c, .int .i64 p] w fun e w' => e = .returned (.int .u8 v) ∧ Below w.heap.size w w' := by
  by_cases hp : p < 0
  · have e : v = 48 := by rw [hv.out, digAt_low _ _ (by omega)]; rfl
    rw [e]
    exact digitBelow c p w hp
  · obtain ⟨q, rfl⟩ := Int.eq_ofNat_of_zero_le (show 0 ≤ p by omega)
    refine digitVal c n f q w hc (by omega) v (Lib.hid ?_)
    rw [hv.out, show ((q : Int) + 20).toNat = q + 20 by omega, digAt_shift]

theorem Only.grown {b : Nat} {w w' : World} (h : Only b w w') : w.grownBy w' (some b) :=
  ⟨h.os, h.tape, h.output, h.size, fun k hk e => h.block k hk (by rintro rfl; exact e rfl)⟩
theorem below_grown {w w' : World} (h : Below w.heap.size w w') : w.grownBy w' none :=
  ⟨h.os, h.tape, h.output, h.size, fun k hk _ => h.block k hk⟩

theorem info5 : (Tryz.prog.info? 5).map (fun i => (i.zero, i.size, i.bytes)) = some (some (.int .u8 0), 1, 1) := by kernel_rfl

theorem below4 (w : World) (a b c d : Obj) : Below w.heap.size w ((((w.alloc a).alloc b).alloc c).alloc d) := (below3 w a b c).alloc (by simp; omega) _

theorem Lies.grown {w w' : World} {g b : Nat} {c : Array Value} {n : Bool} {f : Nat → Nat} (h : Lies w g c n f) (k : w.grownBy w' (some b)) (e : g ≠ b) : Lies w' g c n f :=
  ⟨(k.block g (lt_of_heap h.1) (by simpa using e)).trans h.1, h.2⟩

/-- The bytes of a list, as values. -/
def vals (l : List UInt8) : List Value := l.map fun b => .int .u8 (b.toNat : Int)
theorem vals_snoc (l : List UInt8) (j : Nat) (h : j ≤ 9) : vals (l ++ [digB j]) = vals l ++ [.int .u8 (48 + (j : Int))] := by
  unfold vals
  rw [List.map_append, List.map_cons, List.map_nil, digB_toNat h]
  rfl

theorem ownsRow_start (w : World) {g : Nat} (e : w.heap.size = g) : (w.alloc (.cells (Array.replicate 164 (.int .u8 0)) 5)).ownsRow g 5 1 (.slice (some ⟨g, 0, none⟩) 0 164) 0 (vals []) := by
  refine ⟨rfl, .inr ⟨g, 164, _, rfl, Nat.le_refl _, heap_new _ _ e, by omega, by unfold maxLen; omega, by simp, rfl⟩⟩

set_option maxRecDepth 20000 in
set_option maxHeartbeats 1600000 in
theorem overAt (c d : Array Value) (n m : Bool) (f g : Nat → Nat) (w : World) (hc : IsNum c n f) (hd : IsNum d m g) (hm : 0 < wval g) (hm2 : wval g * 10 ≤ BASE ^ 16) (X Y : ByteArray)
    (HX : Hid (X = bs (digsOf (wval f * 10 ^ 20 / wval g) 20 144))) (HY : Hid (Y = bs (digsOf (wval f * 10 ^ 20 / wval g) 0 20))) :
    Calls Tryz.prog 164 #[.agg c, .agg d] w fun e w' => e = .returned (.tuple #[.string X, .string Y]) ∧ Below w.heap.size w w' := by
  have hmk : ∀ W, (Instr.makeSlice 40 (.int .i64 0) (.int .i64 164)).run Tryz.prog W = .ok (.slice (some ⟨W.heap.size, 0, none⟩) 0 164) (W.alloc (.cells (Array.replicate 164 (.int .u8 0)) 5)) := fun _ => by kernel_rfl
  have hN : wval f * 10 ^ 20 < 10 ^ 164 := by
    have h1 := wval_lt f hc.lt
    have h2 : BASE ^ 16 = 10 ^ 144 := base_pow 16
    have h3 : wval f * 10 ^ 20 < 10 ^ 144 * 10 ^ 20 := Nat.mul_lt_mul_of_pos_right (by omega) (Nat.pow_pos (by omega))
    rw [← Nat.pow_add] at h3
    exact h3
  obtain ⟨N, hNN⟩ : ∃ N, N = wval f * 10 ^ 20 := ⟨_, rfl⟩
  obtain ⟨M, hMM⟩ : ∃ M, M = wval g := ⟨_, rfl⟩
  have O0 : OverTo N M 0 0 [] := by rw [hNN, hMM]; exact OverTo.zero hN hm
  rw [← hMM] at hm hm2
  have HNN := Lib.hid hNN
  have HMM := Lib.hid hMM
  have HM2 := Lib.hid hm2
  clear hN hNN hMM hm2
  have l1 : Lies ((((w.alloc (.cells c 136)).alloc (.cells d 136)).alloc (.cells #[.bool false, .int .u32 0, .int .u32 0, .int .u32 0, .int .u32 0, .int .u32 0, .int .u32 0, .int .u32 0, .int .u32 0, .int .u32 0, .int .u32 0, .int .u32 0, .int .u32 0, .int .u32 0, .int .u32 0, .int .u32 0, .int .u32 0] 136)).alloc (.cells (Array.replicate 164 (.int .u8 0)) 5)) w.heap.size c n f := (((lies_new w hc rfl).alloc _).alloc _).alloc _
  have l2 : Lies ((((w.alloc (.cells c 136)).alloc (.cells d 136)).alloc (.cells #[.bool false, .int .u32 0, .int .u32 0, .int .u32 0, .int .u32 0, .int .u32 0, .int .u32 0, .int .u32 0, .int .u32 0, .int .u32 0, .int .u32 0, .int .u32 0, .int .u32 0, .int .u32 0, .int .u32 0, .int .u32 0, .int .u32 0] 136)).alloc (.cells (Array.replicate 164 (.int .u8 0)) 5)) (w.heap.size + 1) d m g := ((lies_new _ hd (by simp)).alloc _).alloc _
  have l3 : Lies ((((w.alloc (.cells c 136)).alloc (.cells d 136)).alloc (.cells #[.bool false, .int .u32 0, .int .u32 0, .int .u32 0, .int .u32 0, .int .u32 0, .int .u32 0, .int .u32 0, .int .u32 0, .int .u32 0, .int .u32 0, .int .u32 0, .int .u32 0, .int .u32 0, .int .u32 0, .int .u32 0, .int .u32 0] 136)).alloc (.cells (Array.replicate 164 (.int .u8 0)) 5)) (w.heap.size + 1 + 1) zero59 false (fun _ => 0) := (lies_zero _ (by simp)).alloc _
  have o0 : ((((w.alloc (.cells c 136)).alloc (.cells d 136)).alloc (.cells #[.bool false, .int .u32 0, .int .u32 0, .int .u32 0, .int .u32 0, .int .u32 0, .int .u32 0, .int .u32 0, .int .u32 0, .int .u32 0, .int .u32 0, .int .u32 0, .int .u32 0, .int .u32 0, .int .u32 0, .int .u32 0, .int .u32 0] 136)).alloc (.cells (Array.replicate 164 (.int .u8 0)) 5)).ownsRow (w.heap.size + 1 + 1 + 1) 5 1 (.slice (some ⟨w.heap.size + 1 + 1 + 1, 0, none⟩) 0 164) 0 (vals []) := ownsRow_start _ (by simp)
  have hb0 := below4 w (.cells c 136) (.cells d 136) (.cells #[.bool false, .int .u32 0, .int .u32 0, .int .u32 0, .int .u32 0, .int .u32 0, .int .u32 0, .int .u32 0, .int .u32 0, .int .u32 0, .int .u32 0, .int .u32 0, .int .u32 0, .int .u32 0, .int .u32 0, .int .u32 0, .int .u32 0] 136) (.cells (Array.replicate 164 (.int .u8 0)) 5)
  obtain ⟨i0, hi, hz0, hz1, hz2⟩ := info_parts info5
  go_enter Tryz.func164, Tryz.ntmps164
  go_wp2_with fail
  go_step3
  go_wp2_with fail
  go_step3
  go_wp2_with fail
  clear hmk
  go_loopg [7, 8] 164 (fun gg s7 s8 wr => ∃ (t R : Nat) (qs : List UInt8) (c' : Array Value) (h : Nat → Nat), t + gg = 164 ∧ s7 = .slice (some ⟨w.heap.size + 1 + 1 + 1, 0, none⟩) t 164 ∧ s8 = .int .i64 (143 - (t : Int)) ∧ Lies wr w.heap.size c n f ∧ Lies wr (w.heap.size + 1) d m g ∧
    Lies wr (w.heap.size + 1 + 1) c' false h ∧ Aside (wval h = R) ∧ wr.ownsRow (w.heap.size + 1 + 1 + 1) 5 1 (.slice (some ⟨w.heap.size + 1 + 1 + 1, 0, none⟩) t 164) t (vals qs) ∧ OverTo N M t R qs ∧ Below w.heap.size w wr)
  case atStart => exact ⟨0, 0, [], _, _, by omega, rfl, rfl, l1, l2, l3, by simp [Aside, wval, vN], o0, O0, hb0⟩
  case round =>
    clear l1 l2 l3 o0 hb0 O0
    obtain ⟨t, R, qs, c', h, htg, rfl, rfl, k1, k2, k3, hR, ho, hO, hb⟩ := hrel
    cases gk with
    | zero =>
      obtain rfl : t = 164 := by omega
      have hq := hO.done
      have hsplit : qs = digsOf (N / M) 20 144 ++ digsOf (N / M) 0 20 := by rw [hq]; exact digsOf_split _ 144 20 0
      have hX' : X = bs (digsOf (N / M) 20 144) := by rw [HX.out, HNN.out, HMM.out]
      have hY' : Y = bs (digsOf (N / M) 0 20) := by rw [HY.out, HNN.out, HMM.out]
      have hcell : ∀ j, j < 164 → wr.cell? ⟨w.heap.size + 1 + 1 + 1, j, none⟩ = (vals qs)[j]? := fun j hj => ho.cellAt j (by omega)
      have c1 : ∀ nq, (convert 40 9 (.slice (some ⟨w.heap.size + 1 + 1 + 1, 0, none⟩) 144 164)).run Tryz.prog (wr.drewN nq) = .ok (.string X) (wr.drewN nq) := by
        intro nq
        have := run_convert_bytes_back (P := Tryz.prog) (wr.drewN nq) 40 9 5 ⟨w.heap.size + 1 + 1 + 1, 0, none⟩ 164 (digsOf (N / M) 20 144) Tryz.underlying40 Tryz.underlying5 Tryz.underlying9 (fun j hj => by
          have hj' := hj
          rw [digsOf_len] at hj'
          rw [Addr.add_mid, Nat.zero_add]
          refine Eq.trans (show (wr.drewN nq).cell? _ = wr.cell? ⟨w.heap.size + 1 + 1 + 1, j, none⟩ from rfl) ?_
          rw [hcell j (by omega), hsplit]
          unfold vals
          rw [List.getElem?_map, List.getElem?_append_left hj, List.getElem?_eq_getElem hj]
          rfl)
        rw [digsOf_len] at this
        rw [hX']
        exact this
      have c2 : ∀ nq, (convert 40 9 (.slice (some ⟨w.heap.size + 1 + 1 + 1, 144, none⟩) 20 20)).run Tryz.prog (wr.drewN nq) = .ok (.string Y) (wr.drewN nq) := by
        intro nq
        have := run_convert_bytes_back (P := Tryz.prog) (wr.drewN nq) 40 9 5 ⟨w.heap.size + 1 + 1 + 1, 144, none⟩ 20 (digsOf (N / M) 0 20) Tryz.underlying40 Tryz.underlying5 Tryz.underlying9 (fun j hj => by
          have hj' := hj
          rw [digsOf_len] at hj'
          rw [Addr.add_mid]
          refine Eq.trans (show (wr.drewN nq).cell? _ = wr.cell? ⟨w.heap.size + 1 + 1 + 1, 144 + j, none⟩ from rfl) ?_
          rw [hcell (144 + j) (by omega), hsplit]
          unfold vals
          rw [List.getElem?_map, List.getElem?_append_right (by rw [digsOf_len]; omega), digsOf_len, Nat.add_sub_cancel_left, List.getElem?_eq_getElem hj]
          rfl)
        rw [digsOf_len] at this
        rw [hY']
        exact this
      clear hq hsplit hX' hY' hcell hR
      go_wp2_with fail
      go_quiet (fail)
      go_wp2_with fail
      rw [Exit.noGoto_ret]
      go_ret2
      exact ⟨rfl, below_drewN hb _⟩
    | succ gg =>
      have ht : t < 164 := by omega
      obtain ⟨v, hv⟩ : ∃ v : Int, v = (digAt (wval f * 10 ^ 20) (143 - (t : Int) + 20).toNat).toNat := ⟨_, rfl⟩
      have hvd : v = 48 + (N / 10 ^ (163 - t) % 10 : Nat) := by
        rw [hv, digAt_toNat, ← HNN.out, show (143 - (t : Int) + 20).toNat = 163 - t by omega]; rfl
      have hdg : N / 10 ^ (163 - t) % 10 < 10 := Nat.mod_lt _ (by omega)
      have v1 : 48 ≤ v := by omega
      have v2 : v ≤ 57 := by omega
      have HV := Lib.hid hv
      have HVD := Lib.hid hvd
      clear hv hvd
      have t1 : (t : Int) < 164 := by omega
      go_wp2_with (first
        | ((with_reducible refine wpList_loadN (.tmp 2) w.heap.size (by assumption) ?_ ?_ ?_ ?_); rfl; rfl; rfl)
        | (go_at_call 185; (with_reducible refine (digitX c n f _ _ hc ?_ ?_ v HV).mono ?_); omega; omega; rintro e w1 ⟨rfl, hb1⟩; have q1 := k1.below hb1; have q2 := k2.below hb1; have q3 := k3.below hb1; have ho1 := ho.kept (below_grown hb1) (.inr (by simp [Value.ownBlock])); have hb1' := below_any hb hb1 (Nat.le_of_lt k1.lt))
        | (go_at_call 184; (with_reducible refine (pushAt _ c' false h v _ q3.heap q3.num v1 v2).mono ?_); rintro e w2 ⟨rfl, hon, c2, h2, cr, hh, hn, hp⟩; have p3 := lies_mk hh hn; clear hh; have p1 := q1.only hon (by omega); have p2 := q2.only hon (by omega); have ho2 := ho1.kept hon.grown (.inr (by simp [Value.ownBlock])); have hb2 := below_only hb1' hon (by omega) (Nat.le_of_lt q1.lt)))
      have hR0 : wval h2 = R * 10 + N / 10 ^ (163 - t) % 10 := by
        have e1 : (v - 48).toNat = N / 10 ^ (163 - t) % 10 := by rw [HVD.out]; omega
        have e2 := hp.done (by
          rw [e1, hR.out]
          have h1 := hO.lt
          have h2 : (R + 1) * 10 ≤ M * 10 := Nat.mul_le_mul_right _ h1
          have h3 := HM2.out
          omega)
        rw [e2, e1, hR.out]
      have HR0 := Lib.hid hR0
      clear hR0 hp hR k1 k2 k3 q1 q2 q3 ho ho1 hb hb1 hb1' hon
      go_loopg [7, 9] 10 (fun g3 s7 s9 wr => ∃ (j R' : Nat) (c3 : Array Value) (h3 : Nat → Nat), j + g3 = 10 ∧ j ≤ 9 ∧ s7 = .slice (some ⟨w.heap.size + 1 + 1 + 1, 0, none⟩) t 164 ∧ s9 = .int .u8 (48 + (j : Int)) ∧ Lies wr w.heap.size c n f ∧ Lies wr (w.heap.size + 1) d m g ∧
        Lies wr (w.heap.size + 1 + 1) c3 false h3 ∧ Aside (wval h3 = R') ∧ Aside (R' + j * M = R * 10 + N / 10 ^ (163 - t) % 10) ∧ wr.ownsRow (w.heap.size + 1 + 1 + 1) 5 1 (.slice (some ⟨w.heap.size + 1 + 1 + 1, 0, none⟩) t 164) t (vals qs) ∧ Below w.heap.size w wr)
      case atStart => exact ⟨0, _, _, _, by omega, by omega, rfl, rfl, p1, p2, p3, HR0.out, by simp [Aside], ho2, hb2⟩
      case round =>
        clear p1 p2 p3 ho2 hb2
        obtain ⟨j, R', c3, h3, hjg, hj9, rfl, rfl, k1, k2, k3, hR, hE, ho, hb⟩ := hrel
        have j9 : (j : Int) ≤ 9 := by omega
        by_cases hlt : R' < M
        · have hcmp : ∀ W, Calls Tryz.prog 152 #[.agg c3, .agg d] W fun e w' => e = .returned (.int .i64 (-1)) ∧ Below W.heap.size W w' :=
            fun W => by have := cmpAmt c3 d _ _ _ _ k3.num hd W; rwa [cmpI_lt (by rw [hR.out, ← HMM.out]; exact hlt)] at this
          have HC := Lib.hid hcmp
          have hO' := hO.step ht hj9 hE.out hlt
          clear hcmp
          go_wp2_with (first
            | ((with_reducible refine wpList_loadN (.tmp 6) (w.heap.size + 1 + 1) (by assumption) ?_ ?_ ?_ ?_); rfl; rfl; rfl)
            | ((with_reducible refine wpList_loadN (.tmp 3) (w.heap.size + 1) (by assumption) ?_ ?_ ?_ ?_); rfl; rfl; rfl)
            | (go_at_call 152; (with_reducible refine (HC.out _).mono ?_); rintro e w1 ⟨rfl, hb1⟩; have q1 := k1.below hb1; have q2 := k2.below hb1; have q3 := k3.below hb1; have ho1 := ho.kept (below_grown hb1) (.inr (by simp [Value.ownBlock])); have hb1' := below_any hb hb1 (Nat.le_of_lt k1.lt); clear hb1)
            | (at_builtin; refine wpList_append_fits _ rfl (.tmp 25) (.tmp 27) 40 rfl (w.heap.size + 1 + 1 + 1) 5 i0 1 Tryz.underlying40 hi hz1 (w.heap.size + 1 + 1 + 1) t 164 _ rfl (ho1.alloc _) ⟨_, 0, none⟩ 1 1 [.int .u8 (48 + (j : Int))] rfl rfl ?c1 ?c2 ?c3 ?_))
          case c1 =>
            intro j1 u hj1
            match j1, hj1 with
            | 0, hj1 => simp at hj1; subst hj1; simp [Addr.add]
          case c2 => intro u hu; simp at hu; subst hu; rfl
          case c3 => omega
          · intro w4 hown hgrow
            have r1 := (q1.alloc (.cells #[.int .u8 (48 + (j : Int))] 5)).grown hgrow (by omega)
            have r2 := (q2.alloc (.cells #[.int .u8 (48 + (j : Int))] 5)).grown hgrow (by omega)
            have r3 := (q3.alloc (.cells #[.int .u8 (48 + (j : Int))] 5)).grown hgrow (by omega)
            have hb4 := (hb1'.alloc (Nat.le_of_lt q1.lt) (.cells #[.int .u8 (48 + (j : Int))] 5)).grown hgrow (by simp; have := q1.lt; omega) (by intro k hk; simp at hk; omega)
            rw [← vals_snoc qs j hj9] at hown
            clear q1 q2 q3 ho1 hb1' hgrow
            go_wp2_with fail
            go_roundg gg
            case measure => omega
            case rel => exact ⟨t + 1, R', qs ++ [digB j], c3, h3, by omega, rfl, by go_num, r1, r2, r3, hR, hown, hO', hb4⟩
        · obtain ⟨r, hr, hcmp⟩ : ∃ r : Int, 0 ≤ r ∧ ∀ W, Calls Tryz.prog 152 #[.agg c3, .agg d] W fun e w' => e = .returned (.int .i64 r) ∧ Below W.heap.size W w' :=
            ⟨cmpI (wval h3) (wval g), by rw [hR.out, ← HMM.out]; unfold cmpI; split <;> first | omega | (split <;> omega), fun W => cmpAmt c3 d _ _ _ _ k3.num hd W⟩
          have HC := Lib.hid hcmp
          clear hcmp
          have hj1 := hO.digit_le (by omega) hE.out (by omega)
          go_wp2_with (first
            | ((with_reducible refine wpList_loadN (.tmp 6) (w.heap.size + 1 + 1) (by assumption) ?_ ?_ ?_ ?_); rfl; rfl; rfl)
            | ((with_reducible refine wpList_loadN (.tmp 3) (w.heap.size + 1) (by assumption) ?_ ?_ ?_ ?_); rfl; rfl; rfl)
            | (go_at_call 152; (with_reducible refine (HC.out _).mono ?_); rintro e w1 ⟨rfl, hb1⟩; have q1 := k1.below hb1; have q2 := k2.below hb1; have q3 := k3.below hb1; have ho1 := ho.kept (below_grown hb1) (.inr (by simp [Value.ownBlock])); have hb1' := below_any hb hb1 (Nat.le_of_lt k1.lt); clear hb1)
            | (go_at_call 182; (with_reducible refine (takeAmt (w.heap.size + 1 + 1) c3 d false m h3 g _ q3.heap q3.num hd).mono ?_); rintro e w4 ⟨rfl, hon, c4, h4, cr, hh, hn, hp⟩; have r3 := lies_mk hh hn; clear hh; have r1 := q1.only hon (by omega); have r2 := q2.only hon (by omega); have ho4 := ho1.kept hon.grown (.inr (by simp [Value.ownBlock])); have hb4 := below_only hb1' hon (by omega) (Nat.le_of_lt q1.lt); have HP := Lib.hid hp; clear hp))
          have hval := HP.out.done (by rw [hR.out, ← HMM.out]; omega) k3.num.lt
          have hE' : Aside ((wval h4) + (j + 1) * M = R * 10 + N / 10 ^ (163 - t) % 10) := by
            unfold Aside
            rw [← hE.out, ← hR.out, Nat.add_mul, HMM.out]
            omega
          clear hval
          go_roundg (gk - 1)
          case measure => omega
          case rel => exact ⟨j + 1, wval h4, c4, h4, by omega, hj1, rfl, by go_num, r1, r2, r3, rfl, hE', ho4, hb4⟩

end Go.Proofs.YtoifjjgakblhhaaGreatDoor
