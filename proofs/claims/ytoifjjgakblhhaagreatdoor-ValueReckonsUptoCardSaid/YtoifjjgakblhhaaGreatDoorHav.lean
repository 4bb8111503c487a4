/- Texts of one kind, one behind the other: each says ahead of itself what it shows. -/
import Derived.Test.YtoifjjgakblhhaaGreatDoorHap
import Derived.Laws.OwnMore
/- The product of two numbers of the document's. -/
namespace Go.Proofs.YtoifjjgakblhhaaGreatDoor
open Go.RowKit

theorem cellsOfDigs_set (ds : List Nat) (j v : Nat) : (cellsOfDigs ds).set j (.int .i64 (v : Int)) = cellsOfDigs (ds.set j v) := by
  unfold cellsOfDigs; rw [List.map_set]
theorem cellsOfDigs_get {ds : List Nat} {j : Nat} (h : j < ds.length) : (cellsOfDigs ds)[j]? = some (.int .i64 (dig ds j)) := by
  unfold cellsOfDigs dig
  rw [List.getElem?_map, List.getElem?_eq_getElem h]
  simp [List.getD, h]
/-- A row of digits of the call's own, beside its two numbers. -/
structure TimS (w : World) (g : Nat) (N1 : Bool) (u : Value) (s1 : Int) (N2 : Bool) (v : Value) (s2 : Int) (n : Nat) (ds : List Nat) (wr : World) : Prop where
  r2 : Rec wr w.heap.size N1 u s1
  r3 : Rec wr (w.heap.size + 1) N2 v s2
  r4 : Rec wr (w.heap.size + 2) false (.slice none 0 0) 0
  own : wr.ownsRow (w.heap.size + 3) 3 1 (.slice (some ⟨g, 0, none⟩) n n) n (cellsOfDigs ds)
  bel : Below w.heap.size w wr
  len : ds.length = n
theorem TimS.base {w wr : World} {g n : Nat} {N1 N2 : Bool} {u v : Value} {s1 s2 : Int} {ds : List Nat} (h : TimS w g N1 u s1 N2 v s2 n ds wr) : w.heap.size + 3 ≤ g := (h.own.lt g rfl).1
theorem TimS.drew {w wr : World} {g n : Nat} {N1 N2 : Bool} {u v : Value} {s1 s2 : Int} {ds : List Nat} (h : TimS w g N1 u s1 N2 v s2 n ds wr) (k : Nat) : TimS w g N1 u s1 N2 v s2 n ds (wr.drewN k) :=
  ⟨h.r2, h.r3, h.r4, ownsRow_drewN h.own k, below_drewN h.bel k, h.len⟩
theorem TimS.set {w wr : World} {g n : Nat} {N1 N2 : Bool} {u v : Value} {s1 s2 : Int} {ds : List Nat} (h : TimS w g N1 u s1 N2 v s2 n ds wr) (j x : Nat) : TimS w g N1 u s1 N2 v s2 n (ds.set j x) (wr.setCell ⟨g, j, none⟩ (.int .i64 (x : Int))) := by
  have hg := h.base
  refine ⟨h.r2.other _ _ (by omega), h.r3.other _ _ (by omega), h.r4.other _ _ (by omega), ?_, h.bel.setCell (p := ⟨g, j, none⟩) (show w.heap.size ≤ g by omega) _, by rw [List.length_set, h.len]⟩
  have := (h.own.stored j (.int .i64 (x : Int))).1
  rwa [cellsOfDigs_set] at this
theorem TimS.cell {w wr : World} {g n : Nat} {N1 N2 : Bool} {u v : Value} {s1 s2 : Int} {ds : List Nat} (h : TimS w g N1 u s1 N2 v s2 n ds wr) {j : Nat} (hj : j < n) : wr.cell? ⟨g, j, none⟩ = some (.int .i64 (dig ds j)) :=
  (h.own.cellAt j (by omega)).trans (cellsOfDigs_get (by rw [h.len]; exact hj))
theorem TimS.free {w wr : World} {g n : Nat} {N1 N2 : Bool} {u v : Value} {s1 s2 : Int} {ds : List Nat} (h : TimS w g N1 u s1 N2 v s2 n ds wr) (j : Nat) : wr.frozen? ⟨g, j, none⟩ = false := h.own.frozenAt j
theorem TimS.below {w wr w2 : World} {g n : Nat} {N1 N2 : Bool} {u v : Value} {s1 s2 : Int} {ds : List Nat} (h : TimS w g N1 u s1 N2 v s2 n ds wr) (k : Below wr.heap.size wr w2) : TimS w g N1 u s1 N2 v s2 n ds w2 :=
  ⟨h.r2.below k, h.r3.below k, h.r4.below k, h.own.kept (below_grown k) (.inr (by simp [Value.ownBlock])), below_any h.bel k (Nat.le_of_lt h.r2.lt), h.len⟩
theorem Ints.at {w : World} {p : Option Addr} {n cap j : Nat} {ds : List Nat} (h : Ints w (.slice p n cap) ds) (hj : j < ds.length) : ∃ b off, p = some ⟨b, off, none⟩ ∧ w.cell? ⟨b, off + j, none⟩ = some (.int .i64 (dig ds j)) := by
  rcases h with ⟨_, e⟩ | ⟨b, off, cap2, e, hc, _⟩
  · rw [e] at hj; simp at hj
  · injection e with e1 _ _
    exact ⟨b, off, e1, hc j hj⟩
theorem small_noughts (k : Nat) : Small (List.replicate k 0) := fun j => by
  unfold dig; rw [List.getD_eq_getElem?_getD, List.getElem?_replicate]; split <;> simp
theorem val_noughts (k : Nat) : val10 (List.replicate k 0) = 0 := by
  rw [val10_zero]; intro j hj; unfold dig; rw [List.getD_eq_getElem?_getD, List.getElem?_replicate]; split <;> simp
/-- What a product tells. -/
def TimPost (w : World) (n : Bool) (V L : Nat) (S : Int) (e : Ending) (w' : World) : Prop :=
  ∃ z zs, e = .returned (.agg #[.bool n, z, .int .i64 S]) ∧ Ints w' z zs ∧ Small zs ∧ val10 zs = V ∧ zs.length ≤ L ∧ Below w.heap.size w w'

set_option maxRecDepth 20000 in
set_option maxHeartbeats 6400000 in
theorem refTimes (N1 N2 : Bool) (u v : Value) (d1 d2 : List Nat) (s1 s2 : Nat) (w : World) (I1 : Ints w u d1) (I2 : Ints w v d2) (sm1 : Small d1) (sm2 : Small d2) (b1 : s1 ≤ 1000000) (b2 : s2 ≤ 1000000) (l1 : d1.length ≤ 1000000) (l2 : d2.length ≤ 1000000) :
    Calls Tryz.prog 105 #[.agg #[.bool N1, u, .int .i64 s1], .agg #[.bool N2, v, .int .i64 s2]] w (TimPost w (N1 != N2) (val10 d1 * val10 d2) (d1.length + d2.length + 1) ((s1 + s2 : Nat) : Int)) := by
  obtain ⟨i0, hi, hz0, hz1, hz2⟩ := info_parts info3
  obtain ⟨p1, cap1, rfl⟩ := I1.form
  obtain ⟨p2, cap2, rfl⟩ := I2.form
  obtain ⟨n1, hn1⟩ : ∃ n1, n1 = d1.length := ⟨_, rfl⟩
  obtain ⟨n2, hn2⟩ : ∃ n2, n2 = d2.length := ⟨_, rfl⟩
  rw [← hn1] at I1 l1
  rw [← hn2] at I2 l2
  rw [← hn1, ← hn2]
  obtain ⟨W0, hW0⟩ : ∃ W0, W0 = ((w.alloc (.cells #[.bool N1, .slice p1 n1 cap1, .int .i64 s1] 97)).alloc (.cells #[.bool N2, .slice p2 n2 cap2, .int .i64 s2] 97)).alloc (.cells #[.bool false, .slice none 0 0, .int .i64 0] 97) := ⟨_, rfl⟩
  have R2 : Rec W0 w.heap.size N1 (.slice p1 n1 cap1) s1 := by rw [hW0]; exact heap_old _ (heap_old _ (heap_new _ _ rfl))
  have R3 : Rec W0 (w.heap.size + 1) N2 (.slice p2 n2 cap2) s2 := by rw [hW0]; exact heap_old _ (heap_new _ _ (by simp))
  have R4 : Rec W0 (w.heap.size + 2) false (.slice none 0 0) 0 := by rw [hW0]; exact heap_new _ _ (by simp)
  have hb0 : Below w.heap.size w W0 := by rw [hW0]; exact (((Below.refl _ _).alloc (Nat.le_refl _) _).alloc (by simp) _).alloc (by simp; omega) _
  have hs0 : W0.heap.size = w.heap.size + 3 := by rw [hW0]; simp
  have HR := Lib.hid (And.intro R2 (And.intro R3 (And.intro R4 (And.intro hb0 hs0))))
  have HW0 := Lib.hid hW0
  have HI1 := Lib.hid I1
  have HI2 := Lib.hid I2
  have HD := Lib.hid (And.intro sm1 sm2)
  have HN := Lib.hid (And.intro hn1 hn2)
  obtain ⟨V, hV⟩ : ∃ V, V = val10 d1 * val10 d2 := ⟨_, rfl⟩
  rw [← hV]
  have HV := Lib.hid hV
  obtain ⟨M, hM⟩ : ∃ M, M = n1 + n2 + 1 := ⟨_, rfl⟩
  rw [← hM]
  have HM := Lib.hid hM
  have hM1 : (n1 : Int) + n2 + 1 = M := by omega
  have hMb : M ≤ 2000001 := by omega
  clear I1 I2 sm1 sm2 hn1 hn2 hV hM R2 R3 R4 hb0 hs0 hW0
  go_enter Tryz.func105, Tryz.ntmps105
  go_wp2_with (refine wpList_make_full _ rfl (.tmp 17) (.tmp 17) 95 rfl (w.heap.size + 3) 3 i0 (.int .i64 0) 1 Tryz.underlying95 hi hz0 hz1 .i64 .i64 _ _ M rfl rfl rfl rfl ?_ ?_ ?_ ?_)
  · rw [hz2]; omega
  · unfold maxLen; omega
  · simp
  intro w1 hown hgrow
  rw [made_digs] at hown
  rw [← HW0.out] at hgrow
  have hbw := HR.out.2.2.2.1.grown hgrow (by have := HR.out.2.2.2.2; omega) (fun _ h => by cases h)
  have hb1 : Below W0.heap.size W0 w1 := (Below.refl _ _).grown hgrow (Nat.le_refl _) (fun _ h => by cases h)
  have T0 : TimS w (w.heap.size + 1 + 1 + 1) N1 (.slice p1 n1 cap1) s1 N2 (.slice p2 n2 cap2) s2 M (List.replicate M 0) w1 := ⟨HR.out.1.below hb1, HR.out.2.1.below hb1, HR.out.2.2.1.below hb1, hown, hbw, by simp⟩
  have HT0 := Lib.hid T0
  clear hown hgrow hbw hb1 T0
  generalize w.heap.size + 1 + 1 + 1 = g at HT0 ⊢
  go_wp2_with fail
  go_loopg [6] n1 (fun gg s6 wr => ∃ (i : Nat) (ds : List Nat), i + gg = n1 ∧ s6 = .int .i64 i ∧ TimS w g N1 (.slice p1 n1 cap1) s1 N2 (.slice p2 n2 cap2) s2 M ds wr ∧ Hid (Small ds ∧ val10 ds = vT i (dig d1) * val10 d2))
  case atStart => exact ⟨0, _, by omega, rfl, HT0.out, Lib.hid ⟨small_noughts M, by rw [val_noughts]; simp [vT]⟩⟩
  case round =>
    clear HT0
    obtain ⟨i, ds, hig, rfl, T, HS⟩ := hrel
    have HT := Lib.hid T
    have c21 := T.r2.c1
    clear T
    by_cases hin : (i : Int) < n1
    · obtain ⟨x, hx⟩ : ∃ x, x = dig d1 i := ⟨_, rfl⟩
      have hx9 : x ≤ 9 := by rw [hx]; exact HD.out.1 i
      have HX := Lib.hid hx
      obtain ⟨b, off, hpe, hca⟩ := HI1.out.at (j := i) (by have := HN.out.1; omega)
      subst hpe
      rw [← hx] at hca
      have HCA := Lib.hid hca
      clear hx hca
      have hrow : Row i x d2 (vT i (dig d1) * val10 d2) M ds 0 0 := by
        have := Row.start (i := i) (x := x) (bs' := d2) HS.out.1
        rwa [HS.out.2, HT.out.len] at this
      have HRW := Lib.hid hrow
      clear hrow
      go_wp2_with fail
      clear c21
      obtain ⟨wo, hwo⟩ : ∃ wo, wo = wr := ⟨_, rfl⟩
      have HWO := Lib.hid hwo
      clear hwo
      go_loopg [7, 8] (M + 1) (fun gg s7 s8 wx => ∃ (k c : Nat) (es : List Nat), k + gg = M + 1 ∧ s7 = .int .i64 c ∧ s8 = .int .i64 k ∧ c ≤ 9 ∧ TimS w g N1 (.slice (some ⟨b, off, none⟩) n1 cap1) s1 N2 (.slice p2 n2 cap2) s2 M es wx ∧ Hid (Row i x d2 (vT i (dig d1) * val10 d2) M es k c))
      case atStart => exact ⟨0, 0, ds, by omega, rfl, rfl, by omega, HT.out, HRW.out⟩
      case round =>
        clear HRW HT HS HWO
        obtain ⟨k, c, es, hkg, rfl, rfl, hc9, T, HRO⟩ := hrel
        have HT := Lib.hid T
        have c21 := T.r2.c1
        have c31 := T.r3.c1
        have hb := T.bel
        clear T
        by_cases hgo : k < n2 ∨ 0 < c
        · have hroom : i + k < M := HRO.out.room HD.out.1 HD.out.2 HX.out (by have := HN.out.1; omega) (by have := HN.out; have := HM.out; omega) (by have := HN.out.2; omega)
          obtain ⟨y, hy⟩ : ∃ y, y = dig d2 k := ⟨_, rfl⟩
          have hy9 : y ≤ 9 := by rw [hy]; exact HD.out.2 k
          obtain ⟨j, hj⟩ : ∃ j, j = i + k := ⟨_, rfl⟩
          rw [← hj] at hroom
          obtain ⟨D, hDD⟩ : ∃ D, D = dig es j := ⟨_, rfl⟩
          have hD9 : D ≤ 9 := by rw [hDD]; exact HRO.out.small j
          obtain ⟨q, hq⟩ : ∃ q, q = x * y := ⟨_, rfl⟩
          have hq81 : q ≤ 81 := by rw [hq]; exact Nat.mul_le_mul hx9 hy9
          obtain ⟨m, hm⟩ : ∃ m, m = D + q + c := ⟨_, rfl⟩
          have hstep := HRO.out.step (n := m) hx9 HD.out.2 (by rw [← hj]; exact hroom) (by rw [hm, hDD, hq, hy, hj])
          rw [← hj] at hstep
          have HST := Lib.hid hstep.1
          have cj : wr.cell? ⟨g, j, none⟩ = some (.int .i64 D) := by rw [hDD]; exact HT.out.cell hroom
          have ca : wr.cell? ⟨b, off + i, none⟩ = some (.int .i64 x) := (hb.cell (p := ⟨b, off + i, none⟩) (World.block_lt_of_cell? w _ HCA.out)).trans HCA.out
          have V1 : Hid (∀ r, Ints (wr.drewN r) (.slice p2 n2 cap2) d2) := Lib.hid (fun r => (HI2.out.below hb).below (below_drewN (Below.refl _ _) r))
          have K2 := Lib.hid hy
          have hqi : (x : Int) * y = q := by rw [hq]; exact (Int.natCast_mul x y).symm
          have hj0 : (0 : Int) ≤ j := by omega
          have hjM : (j : Int) < M := by omega
          have hi0 : (0 : Int) ≤ i := by omega
          have e1 : (i : Int) + k = j := by omega
          have w1' : IntKind.i64.wrap ((i : Int) + k) = j := by rw [e1]; exact IntWalk.i64_in _ (by omega)
          have w2' : IntKind.i64.wrap ((x : Int) * y) = q := by rw [hqi]; exact IntWalk.i64_in _ (by omega)
          have w3' : IntKind.i64.wrap ((D : Int) + q) = D + q := IntWalk.i64_in _ (by omega)
          have w4' : IntKind.i64.wrap ((D : Int) + q + c) = m := by rw [show (D : Int) + q + c = m by omega]; exact IntWalk.i64_in _ (by omega)
          have hm99 : m ≤ 99 := hstep.2
          clear hstep hy hj hDD hq hm hb HRO
          by_cases h1 : (k : Int) < n2
          · go_wp2_with fail
            go_quiet ((go_at_call 143; exact Calls.quiet_of_same ((refAtB _ d2 k y _ (V1.out _) K2).mono fun _ _ h => ⟨h.1, h.2.symm⟩)))
            have HT2 := Lib.hid (HT.out.drew nq)
            have cj2 := HT2.out.cell hroom
            have fj2 := HT2.out.free j
            clear cj ca V1 K2 HT c21 c31 w1' w2' w3' w4' hqi
            generalize wr.drewN nq = wq at *
            go_wp2_with fail
            go_roundg (gk - 1)
            case measure => omega
            case rel => exact ⟨k + 1, m / 10, es.set j (m % 10), by omega, by go_num, by go_num, by omega, HT2.out.set j (m % 10), HST.out⟩
          · have h2 : (c : Int) > 0 := by omega
            go_wp2_with fail
            go_quiet ((go_at_call 143; exact Calls.quiet_of_same ((refAtB _ d2 k y _ (V1.out _) K2).mono fun _ _ h => ⟨h.1, h.2.symm⟩)))
            have HT2 := Lib.hid (HT.out.drew nq)
            have cj2 := HT2.out.cell hroom
            have fj2 := HT2.out.free j
            clear cj ca V1 K2 HT c21 c31 w1' w2' w3' w4' hqi
            generalize wr.drewN nq = wq at *
            go_wp2_with fail
            go_roundg (gk - 1)
            case measure => omega
            case rel => exact ⟨k + 1, m / 10, es.set j (m % 10), by omega, by go_num, by go_num, by omega, HT2.out.set j (m % 10), HST.out⟩
        · have hk2 : ¬ (k : Int) < n2 := by omega
          obtain rfl : c = 0 := by omega
          have hall := HRO.out.all HX.out (by have := HN.out.2; omega)
          have HALL := Lib.hid (And.intro HRO.out.small hall)
          clear hall hgo HRO
          go_wp2_with fail
          go_roundg (n1 - i - 1)
          case measure => omega
          case rel => exact ⟨i + 1, es, by omega, by go_num, HT.out, HALL.out⟩
    · obtain rfl : i = n1 := by omega
      have r4 := HT.out.r4
      have c20 := HT.out.r2.c0
      have c30 := HT.out.r3.c0
      have c22 := HT.out.r2.c2
      have c32 := HT.out.r3.c2
      clear hin hig
      go_wp2_with ((with_reducible refine wpList_store44 (m := N1 != N2) (u := .slice (some ⟨g, 0, none⟩) M M) (sd := (s1 : Int) + s2) (.tmp 4) (.tmp 76) (w.heap.size + 2) r4 rfl ?_ ?_ ?_ ?_ ?_); rfl; rfl; rfl; rfl; intro w5 ho p5)
      have ho4 := ho
      have hz := (ints_of_owns HT.out.own HT.out.len.symm).rec ho r4
      have hb5 := below_only HT.out.bel ho (by omega) (Nat.le_of_lt HT.out.r2.lt)
      have hval : val10 ds = V := by rw [HS.out.2, HV.out, HN.out.1]; rfl
      exact bodyPost_ret (v := .agg #[.bool (N1 != N2), .slice (some ⟨g, 0, none⟩) M M, .int .i64 ((s1 : Int) + s2)]) (results44one (p := 4) Tryz.results105 _ rfl p5) rfl ⟨_, ds, rfl, hz, HS.out.1, hval, by rw [HT.out.len]; exact Nat.le_refl _, hb5⟩
end Go.Proofs.YtoifjjgakblhhaaGreatDoor
