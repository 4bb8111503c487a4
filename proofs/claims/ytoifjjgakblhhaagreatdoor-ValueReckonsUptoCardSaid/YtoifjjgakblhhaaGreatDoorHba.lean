/- Texts of one kind, one behind the other: each says ahead of itself what it shows. -/
import Derived.Test.YtoifjjgakblhhaaGreatDoorHaz
import Derived.Test.YtoifjjgakblhhaaGreatDoorHas
/- A list of values copied by the program: its lists lie apart. -/
namespace Go.Proofs.YtoifjjgakblhhaaGreatDoor
open Go.RowKit

def SCopyV (v : Val) : Prop := ∀ (W : World) (k : Int) (b : Bool) (n : Int) (t x : ByteArray) (q : List Val) (p : Option Addr) (cap : Nat), v = .mk k b n t x q → q.length ≤ 2097152 → Held W (.slice p q.length cap) q →
  Calls Tryz.prog 133 #[.slice p q.length cap] W (CopyT W q)
set_option maxRecDepth 20000 in
set_option maxHeartbeats 6400000 in
theorem scopySome (l : List Val) (g off cap : Nat) (w : World) (hl : Holds w g off l) (hn : l.length ≤ 2097152) (each : ∀ v ∈ l, SCopyV v) :
    Calls Tryz.prog 133 #[.slice (some ⟨g, off, none⟩) l.length cap] w (CopyT w l) := by
  obtain ⟨n, hln⟩ : ∃ n, n = l.length := ⟨_, rfl⟩
  rw [← hln] at hn ⊢
  obtain ⟨i0, hi, hz0, hz1, hz2⟩ := info_parts info28b
  have HL := Lib.hid hln
  have HH := Lib.hid hl
  have HE := Lib.hid each
  clear hl hln each
  go_enter Tryz.func133, Tryz.ntmps133
  go_wp2_with fail
  go_loopg [3, 8] n (fun gg s3 s8 wr => ∃ j : Nat, j + gg = n ∧ s8 = .int .i64 j ∧ Hid (AccT w (l.take j) s3 wr))
  case atStart => exact ⟨0, by omega, rfl, Lib.hid ⟨⟨[], w.heap.size, by simpa using World.ownsRow_nil w w.heap.size 28 6, by unfold CellsT; rfl, Nat.le_refl _, Nat.le_refl _⟩, Below.refl _ _⟩⟩
  case round =>
    obtain ⟨j, hjg, rfl, HA⟩ := hrel
    by_cases hlt : (j : Int) < n
    · have hj1 : j < l.length := by have := HL.out; omega
      obtain ⟨k, b, m, t, x, q, p, cp, o1⟩ := ((Holds.at_ l off HH.out j hj1).below _ HA.out.bel).opens
      obtain ⟨W1, hW1⟩ : ∃ W1, W1 = wr.alloc (.cells #[.int .i64 k, .bool b, .int .i64 m, .string t, .string x, .slice p q.length cp] 28) := ⟨_, rfl⟩
      have u1 : Six W1 wr.heap.size k b m t x p q.length cp := by rw [hW1]; exact six_new _ rfl
      have bw : Below wr.heap.size wr W1 := by rw [hW1]; exact below1 _ _
      have HW := Lib.hid hW1
      clear hW1
      have hcl := fun W => cloneAt t W (by have := o1.hf.ht; omega)
      have hcx := fun W => cloneAt x W (by have := o1.hf.hx; omega)
      have hcp := fun W (h : Below wr.heap.size wr W) => HE.out l[j] (List.getElem_mem hj1) W k b m t x q p cp o1.e o1.hf.hn (Held.below q o1.hl h)
      have HF := Lib.hid o1.hf
      have HV := Lib.hid o1.e
      go_upto_region 5 with (first
        | ((with_reducible refine wpList_loadMid6 (.tmp 10) g (off + j * 6) k b m t x _ o1.c0 o1.c1 o1.c2 o1.c3 o1.c4 o1.c5 ?_ ?_ ?_ ?_); rfl; rfl; rfl))
      rw [← HW.out]
      clear o1
      have HCP := Lib.hid hcp
      have HCL := Lib.hid hcl
      have HCX := Lib.hid hcx
      clear hcp hcl hcx
      refine wp_region_held_drew (S := fun W => ∃ p' n' c', Six W wr.heap.size k b m t x p' n' c') (by kernel_rfl) ⟨p, q.length, cp, u1⟩ (fun hHeld => ?_)
      replace bw := bw.drew
      replace u1 : Six W1.drew wr.heap.size k b m t x p q.length cp := u1
      refine wpAnyH_take (i := 0) (v := .pointer (some ⟨wr.heap.size, 3, none⟩)) rfl (by kernel_rfl) (by kernel_rfl) (by kernel_rfl) (fun _ _ _ h => h) (Or.inl ⟨by rfl, fun W _ => by go_simp⟩) hHeld ?_
      try simp only [Act.put, List.getElem_toArray, List.getElem_cons_succ, List.getElem_cons_zero, List.setIfInBounds_toArray, List.set_cons_zero, List.set_cons_succ]
      refine wpAnyH_take (i := 3) (v := .pointer (some ⟨wr.heap.size, 4, none⟩)) rfl (by kernel_rfl) (by kernel_rfl) (by kernel_rfl) (fun _ _ _ h => h) (Or.inl ⟨by rfl, fun W _ => by go_simp⟩) hHeld ?_
      try simp only [Act.put, List.getElem_toArray, List.getElem_cons_succ, List.getElem_cons_zero, List.setIfInBounds_toArray, List.set_cons_zero, List.set_cons_succ]
      refine wpAnyH_take (i := 6) (v := .pointer (some ⟨wr.heap.size, 5, none⟩)) rfl (by kernel_rfl) (by kernel_rfl) (by kernel_rfl) (fun _ _ _ h => h) (Or.inl ⟨by rfl, fun W _ => by go_simp⟩) hHeld ?_
      try simp only [Act.put, List.getElem_toArray, List.getElem_cons_succ, List.getElem_cons_zero, List.setIfInBounds_toArray, List.set_cons_zero, List.set_cons_succ]
      refine wpAnyH_take (i := 1) (v := .string t) rfl (by kernel_rfl) (by kernel_rfl) (by kernel_rfl) (fun _ _ _ h => h) (Or.inl ⟨by rfl, fun W ⟨_, _, _, h⟩ => by have c0 := h.c3; go_simp⟩) hHeld ?_
      try simp only [Act.put, List.getElem_toArray, List.getElem_cons_succ, List.getElem_cons_zero, List.setIfInBounds_toArray, List.set_cons_zero, List.set_cons_succ]
      refine wpAnyH_take (i := 4) (v := .string x) rfl (by kernel_rfl) (by kernel_rfl) (by kernel_rfl) (fun _ _ _ h => h) (Or.inl ⟨by rfl, fun W ⟨_, _, _, h⟩ => by have c0 := h.c4; go_simp⟩) hHeld ?_
      try simp only [Act.put, List.getElem_toArray, List.getElem_cons_succ, List.getElem_cons_zero, List.setIfInBounds_toArray, List.set_cons_zero, List.set_cons_succ]
      clear hHeld
      refine wpAnyH_ready (rs := [2, 7]) (by kernel_rfl) (by simp) ?_
      refine AllReadyH.cons rfl (fun K hK => ?_) (AllReadyH.cons rfl (fun K hK => ?_) AllReadyH.nil)
      · skip
        rw [if_pos (by rfl)]
        go_simp
        refine (HCL.out _).mono ?_
        rintro e0 w3 ⟨rfl, hb3⟩
        replace u1 := u1.below hb3
        replace bw := below_any bw hb3 bw.size
        refine hK.out _ _ ⟨_, _, _, u1⟩ (fun _ => ?_)
        clear hK K hb3
        try simp only [Act.put, List.getElem_toArray, List.getElem_cons_succ, List.getElem_cons_zero, List.setIfInBounds_toArray, List.set_cons_zero, List.set_cons_succ]
        refine wpAnyH_ready (rs := [5, 7]) (by kernel_rfl) (by simp) ?_
        refine AllReadyH.cons rfl (fun K hK => ?_) (AllReadyH.cons rfl (fun K hK => ?_) AllReadyH.nil)
        · skip
          rw [if_pos (by rfl)]
          go_simp
          refine (HCX.out _).mono ?_
          rintro e0 w3 ⟨rfl, hb3⟩
          replace u1 := u1.below hb3
          replace bw := below_any bw hb3 bw.size
          refine hK.out _ _ ⟨_, _, _, u1⟩ (fun _ => ?_)
          clear hK K hb3
          try simp only [Act.put, List.getElem_toArray, List.getElem_cons_succ, List.getElem_cons_zero, List.setIfInBounds_toArray, List.set_cons_zero, List.set_cons_succ]
          refine wpAnyH_ready (rs := [7]) (by kernel_rfl) (by simp) ?_
          refine AllReadyH.cons rfl (fun K hK => ?_) AllReadyH.nil
          have c5 := u1.c5
          go_simp
          refine hK.out _ _ ⟨_, _, _, u1⟩ (fun _ => ?_)
          clear hK K c5
          try simp only [Act.put, List.getElem_toArray, List.getElem_cons_succ, List.getElem_cons_zero, List.setIfInBounds_toArray, List.set_cons_zero, List.set_cons_succ]
          refine wpAnyH_take (i := 9) (v := .pointer (some ⟨wr.heap.size, 3, none⟩)) rfl (by kernel_rfl) (by kernel_rfl) (by kernel_rfl) (fun _ _ _ h => h) (Or.inl ⟨by rfl, fun W _ => by go_simp⟩) ⟨_, _, _, u1⟩ ?_
          try simp only [Act.put, List.getElem_toArray, List.getElem_cons_succ, List.getElem_cons_zero, List.setIfInBounds_toArray, List.set_cons_zero, List.set_cons_succ]
          refine wpAnyH_ready (rs := [8]) (by kernel_rfl) (by simp) ?_
          refine AllReadyH.cons rfl (fun K hK => ?_) AllReadyH.nil
          rw [if_pos (by rfl)]
          go_simp
          refine (HCP.out _ bw).mono ?_
          rintro e0 w5 ⟨V, ys, rfl, hv, hcs, hb5⟩
          have hlt5 := u1.lt
          have hq5 : HeldT w5 (wr.heap.size + 1) w5.heap.size V q := HeldT.wide (by omega) (Nat.le_refl _) q (heldT_of_own hv hcs (Nat.le_refl _) (Nat.le_refl _))
          obtain ⟨p5, c5, rfl⟩ := held_slice (HeldT.held q hq5)
          replace u1 := u1.below hb5
          replace bw := below_any bw hb5 bw.size
          have HQ := Lib.hid hq5
          clear hq5 hv hcs hlt5
          have on : Only wr.heap.size w5 w5 := Only.refl _ _
          refine hK.out _ _ ⟨_, _, _, u1⟩ (fun _ => ?_)
          clear hK K hb5
          try simp only [Act.put, List.getElem_toArray, List.getElem_cons_succ, List.getElem_cons_zero, List.setIfInBounds_toArray, List.set_cons_zero, List.set_cons_succ]
          refine wpAnyH_ready (rs := [10]) (by kernel_rfl) (by simp) ?_
          refine AllReadyH.cons rfl (fun K hK => ?_) AllReadyH.nil
          have c0 := u1.c3
          have f0 := u1.free 3
          go_simp
          replace on := on.setCell 3 none (.string t)
          replace u1 := u1.set3 t
          refine hK.out _ _ ⟨_, _, _, u1⟩ (fun _ => ?_)
          clear hK K c0 f0
          try simp only [Act.put, List.getElem_toArray, List.getElem_cons_succ, List.getElem_cons_zero, List.setIfInBounds_toArray, List.set_cons_zero, List.set_cons_succ]
          refine wpAnyH_take (i := 11) (v := .pointer (some ⟨wr.heap.size, 4, none⟩)) rfl (by kernel_rfl) (by kernel_rfl) (by kernel_rfl) (fun _ _ _ h => h) (Or.inl ⟨by rfl, fun W _ => by go_simp⟩) ⟨_, _, _, u1⟩ ?_
          try simp only [Act.put, List.getElem_toArray, List.getElem_cons_succ, List.getElem_cons_zero, List.setIfInBounds_toArray, List.set_cons_zero, List.set_cons_succ]
          refine wpAnyH_ready (rs := [12]) (by kernel_rfl) (by simp) ?_
          refine AllReadyH.cons rfl (fun K hK => ?_) AllReadyH.nil
          have c0 := u1.c4
          have f0 := u1.free 4
          go_simp
          replace on := on.setCell 4 none (.string x)
          replace u1 := u1.set4 x
          refine hK.out _ _ ⟨_, _, _, u1⟩ (fun _ => ?_)
          clear hK K c0 f0
          try simp only [Act.put, List.getElem_toArray, List.getElem_cons_succ, List.getElem_cons_zero, List.setIfInBounds_toArray, List.set_cons_zero, List.set_cons_succ]
          refine wpAnyH_take (i := 13) (v := .pointer (some ⟨wr.heap.size, 5, none⟩)) rfl (by kernel_rfl) (by kernel_rfl) (by kernel_rfl) (fun _ _ _ h => h) (Or.inl ⟨by rfl, fun W _ => by go_simp⟩) ⟨_, _, _, u1⟩ ?_
          try simp only [Act.put, List.getElem_toArray, List.getElem_cons_succ, List.getElem_cons_zero, List.setIfInBounds_toArray, List.set_cons_zero, List.set_cons_succ]
          refine wpAnyH_ready (rs := [14]) (by kernel_rfl) (by simp) ?_
          refine AllReadyH.cons rfl (fun K hK => ?_) AllReadyH.nil
          have c0 := u1.c5
          have f0 := u1.free 5
          go_simp
          replace on := on.setCell 5 none (.slice p5 q.length c5)
          replace u1 := u1.set5 p5 q.length c5
          refine hK.out _ _ ⟨_, _, _, u1⟩ (fun _ => ?_)
          clear hK K c0 f0
          try simp only [Act.put, List.getElem_toArray, List.getElem_cons_succ, List.getElem_cons_zero, List.setIfInBounds_toArray, List.set_cons_zero, List.set_cons_succ]
          refine wpAnyH_done (by kernel_rfl) ?_ _
          have bf0 := below_only bw on (Nat.le_refl _) bw.size
          have hq0 : HeldT (((w5.setCell ⟨wr.heap.size, 3, none⟩ (.string t)).setCell ⟨wr.heap.size, 4, none⟩ (.string x)).setCell ⟨wr.heap.size, 5, none⟩ (.slice p5 q.length c5)) wr.heap.size (((w5.setCell ⟨wr.heap.size, 3, none⟩ (.string t)).setCell ⟨wr.heap.size, 4, none⟩ (.string x)).setCell ⟨wr.heap.size, 5, none⟩ (.slice p5 q.length c5)).heap.size (.slice p5 q.length c5) q := HeldT.wide (by omega) on.size q (HeldT.stays (fun i a b' => on.block i b' (by omega)) q HQ.out)
          generalize (((w5.setCell ⟨wr.heap.size, 3, none⟩ (.string t)).setCell ⟨wr.heap.size, 4, none⟩ (.string x)).setCell ⟨wr.heap.size, 5, none⟩ (.slice p5 q.length c5)) = wX at on u1 bf0 hq0 ⊢
          clear on bw HQ
          obtain ⟨⟨xs, hi9, hown, hcs, hh1, hh2⟩, hbel⟩ := HA.out
          have hjl : (l.take j).length = j := by rw [List.length_take]; omega
          have hownX := own_below hown bf0
          have hbs := hbel.size
          have hfs := bf0.size
          have HX := Lib.hid (And.intro hown (And.intro hcs (And.intro hh1 (And.intro hh2 (And.intro hbel (And.intro bf0 hq0))))))
          clear hown hcs hh1 hh2 hbel bf0 hq0 HA
          go_wp2_with (first
            | ((with_reducible refine wpList_load6 (.tmp 5) wr.heap.size u1 ?_ ?_ ?_ ?_); rfl; rfl; rfl)
            | (at_builtin; refine wpList_append_own_at _ rfl _ _ 22 rfl w.heap.size 28 i0 (.agg #[.int .i64 0, .bool false, .int .i64 0, .string ⟨#[]⟩, .string ⟨#[]⟩, .slice none 0 0]) 6 80 Tryz.underlying22 hi hz0 hz1 hz2 rfl (by decide) _ _ _ rfl (hownX.alloc _) ⟨wX.heap.size, 0, none⟩ 1 1 [.int .i64 k, .bool b, .int .i64 m, .string t, .string x, .slice p5 q.length c5] rfl rfl (cell_six_new _ _ _ _ _ _ _ _) ?_ ?_ ?_ ?_ ?_))
          all_goals (try (first | (rw [hjl]; unfold maxLen; omega) | (rw [hjl]; omega) | (simp; omega) | (intro u hu; simp only [List.mem_cons, List.mem_nil_iff, or_false] at hu; rcases hu with rfl | rfl | rfl | rfl | rfl | rfl <;> rfl)))
          intro v' w1 hown' hgrow _ hloc
          have acc := AccT.next (k := k) (b := b) (n := m) (t := t) (x := x) (q := q) HX.out.1 HX.out.2.1 HX.out.2.2.1 HX.out.2.2.2.1 HX.out.2.2.2.2.1 HX.out.2.2.2.2.2.1 HF.out HX.out.2.2.2.2.2.2 (by rw [hjl]; exact hown') hgrow hloc
          have e : l.take (j + 1) = l.take j ++ [.mk k b m t x q] := by rw [List.take_succ_eq_append_getElem hj1, HV.out]
          rw [← e] at acc
          have ACC := Lib.hid acc
          clear acc hown' hgrow hloc hownX
          go_wp2_with fail
          go_roundg (gk - 1)
          case measure => omega
          case rel => exact ⟨j + 1, by omega, by go_num, ACC⟩
        · skip
          have c5 := u1.c5
          go_simp
          refine hK.out _ _ ⟨_, _, _, u1⟩ (fun _ => ?_)
          clear hK K c5
          try simp only [Act.put, List.getElem_toArray, List.getElem_cons_succ, List.getElem_cons_zero, List.setIfInBounds_toArray, List.set_cons_zero, List.set_cons_succ]
          refine wpAnyH_take (i := 9) (v := .pointer (some ⟨wr.heap.size, 3, none⟩)) rfl (by kernel_rfl) (by kernel_rfl) (by kernel_rfl) (fun _ _ _ h => h) (Or.inl ⟨by rfl, fun W _ => by go_simp⟩) ⟨_, _, _, u1⟩ ?_
          try simp only [Act.put, List.getElem_toArray, List.getElem_cons_succ, List.getElem_cons_zero, List.setIfInBounds_toArray, List.set_cons_zero, List.set_cons_succ]
          refine wpAnyH_ready (rs := [5]) (by kernel_rfl) (by simp) ?_
          refine AllReadyH.cons rfl (fun K hK => ?_) AllReadyH.nil
          rw [if_pos (by rfl)]
          go_simp
          refine (HCX.out _).mono ?_
          rintro e0 w3 ⟨rfl, hb3⟩
          replace u1 := u1.below hb3
          replace bw := below_any bw hb3 bw.size
          refine hK.out _ _ ⟨_, _, _, u1⟩ (fun _ => ?_)
          clear hK K hb3
          try simp only [Act.put, List.getElem_toArray, List.getElem_cons_succ, List.getElem_cons_zero, List.setIfInBounds_toArray, List.set_cons_zero, List.set_cons_succ]
          refine wpAnyH_ready (rs := [8]) (by kernel_rfl) (by simp) ?_
          refine AllReadyH.cons rfl (fun K hK => ?_) AllReadyH.nil
          rw [if_pos (by rfl)]
          go_simp
          refine (HCP.out _ bw).mono ?_
          rintro e0 w5 ⟨V, ys, rfl, hv, hcs, hb5⟩
          have hlt5 := u1.lt
          have hq5 : HeldT w5 (wr.heap.size + 1) w5.heap.size V q := HeldT.wide (by omega) (Nat.le_refl _) q (heldT_of_own hv hcs (Nat.le_refl _) (Nat.le_refl _))
          obtain ⟨p5, c5, rfl⟩ := held_slice (HeldT.held q hq5)
          replace u1 := u1.below hb5
          replace bw := below_any bw hb5 bw.size
          have HQ := Lib.hid hq5
          clear hq5 hv hcs hlt5
          have on : Only wr.heap.size w5 w5 := Only.refl _ _
          refine hK.out _ _ ⟨_, _, _, u1⟩ (fun _ => ?_)
          clear hK K hb5
          try simp only [Act.put, List.getElem_toArray, List.getElem_cons_succ, List.getElem_cons_zero, List.setIfInBounds_toArray, List.set_cons_zero, List.set_cons_succ]
          refine wpAnyH_ready (rs := [10]) (by kernel_rfl) (by simp) ?_
          refine AllReadyH.cons rfl (fun K hK => ?_) AllReadyH.nil
          have c0 := u1.c3
          have f0 := u1.free 3
          go_simp
          replace on := on.setCell 3 none (.string t)
          replace u1 := u1.set3 t
          refine hK.out _ _ ⟨_, _, _, u1⟩ (fun _ => ?_)
          clear hK K c0 f0
          try simp only [Act.put, List.getElem_toArray, List.getElem_cons_succ, List.getElem_cons_zero, List.setIfInBounds_toArray, List.set_cons_zero, List.set_cons_succ]
          refine wpAnyH_take (i := 11) (v := .pointer (some ⟨wr.heap.size, 4, none⟩)) rfl (by kernel_rfl) (by kernel_rfl) (by kernel_rfl) (fun _ _ _ h => h) (Or.inl ⟨by rfl, fun W _ => by go_simp⟩) ⟨_, _, _, u1⟩ ?_
          try simp only [Act.put, List.getElem_toArray, List.getElem_cons_succ, List.getElem_cons_zero, List.setIfInBounds_toArray, List.set_cons_zero, List.set_cons_succ]
          refine wpAnyH_ready (rs := [12]) (by kernel_rfl) (by simp) ?_
          refine AllReadyH.cons rfl (fun K hK => ?_) AllReadyH.nil
          have c0 := u1.c4
          have f0 := u1.free 4
          go_simp
          replace on := on.setCell 4 none (.string x)
          replace u1 := u1.set4 x
          refine hK.out _ _ ⟨_, _, _, u1⟩ (fun _ => ?_)
          clear hK K c0 f0
          try simp only [Act.put, List.getElem_toArray, List.getElem_cons_succ, List.getElem_cons_zero, List.setIfInBounds_toArray, List.set_cons_zero, List.set_cons_succ]
          refine wpAnyH_take (i := 13) (v := .pointer (some ⟨wr.heap.size, 5, none⟩)) rfl (by kernel_rfl) (by kernel_rfl) (by kernel_rfl) (fun _ _ _ h => h) (Or.inl ⟨by rfl, fun W _ => by go_simp⟩) ⟨_, _, _, u1⟩ ?_
          try simp only [Act.put, List.getElem_toArray, List.getElem_cons_succ, List.getElem_cons_zero, List.setIfInBounds_toArray, List.set_cons_zero, List.set_cons_succ]
          refine wpAnyH_ready (rs := [14]) (by kernel_rfl) (by simp) ?_
          refine AllReadyH.cons rfl (fun K hK => ?_) AllReadyH.nil
          have c0 := u1.c5
          have f0 := u1.free 5
          go_simp
          replace on := on.setCell 5 none (.slice p5 q.length c5)
          replace u1 := u1.set5 p5 q.length c5
          refine hK.out _ _ ⟨_, _, _, u1⟩ (fun _ => ?_)
          clear hK K c0 f0
          try simp only [Act.put, List.getElem_toArray, List.getElem_cons_succ, List.getElem_cons_zero, List.setIfInBounds_toArray, List.set_cons_zero, List.set_cons_succ]
          refine wpAnyH_done (by kernel_rfl) ?_ _
          have bf0 := below_only bw on (Nat.le_refl _) bw.size
          have hq0 : HeldT (((w5.setCell ⟨wr.heap.size, 3, none⟩ (.string t)).setCell ⟨wr.heap.size, 4, none⟩ (.string x)).setCell ⟨wr.heap.size, 5, none⟩ (.slice p5 q.length c5)) wr.heap.size (((w5.setCell ⟨wr.heap.size, 3, none⟩ (.string t)).setCell ⟨wr.heap.size, 4, none⟩ (.string x)).setCell ⟨wr.heap.size, 5, none⟩ (.slice p5 q.length c5)).heap.size (.slice p5 q.length c5) q := HeldT.wide (by omega) on.size q (HeldT.stays (fun i a b' => on.block i b' (by omega)) q HQ.out)
          generalize (((w5.setCell ⟨wr.heap.size, 3, none⟩ (.string t)).setCell ⟨wr.heap.size, 4, none⟩ (.string x)).setCell ⟨wr.heap.size, 5, none⟩ (.slice p5 q.length c5)) = wX at on u1 bf0 hq0 ⊢
          clear on bw HQ
          obtain ⟨⟨xs, hi9, hown, hcs, hh1, hh2⟩, hbel⟩ := HA.out
          have hjl : (l.take j).length = j := by rw [List.length_take]; omega
          have hownX := own_below hown bf0
          have hbs := hbel.size
          have hfs := bf0.size
          have HX := Lib.hid (And.intro hown (And.intro hcs (And.intro hh1 (And.intro hh2 (And.intro hbel (And.intro bf0 hq0))))))
          clear hown hcs hh1 hh2 hbel bf0 hq0 HA
          go_wp2_with (first
            | ((with_reducible refine wpList_load6 (.tmp 5) wr.heap.size u1 ?_ ?_ ?_ ?_); rfl; rfl; rfl)
            | (at_builtin; refine wpList_append_own_at _ rfl _ _ 22 rfl w.heap.size 28 i0 (.agg #[.int .i64 0, .bool false, .int .i64 0, .string ⟨#[]⟩, .string ⟨#[]⟩, .slice none 0 0]) 6 80 Tryz.underlying22 hi hz0 hz1 hz2 rfl (by decide) _ _ _ rfl (hownX.alloc _) ⟨wX.heap.size, 0, none⟩ 1 1 [.int .i64 k, .bool b, .int .i64 m, .string t, .string x, .slice p5 q.length c5] rfl rfl (cell_six_new _ _ _ _ _ _ _ _) ?_ ?_ ?_ ?_ ?_))
          all_goals (try (first | (rw [hjl]; unfold maxLen; omega) | (rw [hjl]; omega) | (simp; omega) | (intro u hu; simp only [List.mem_cons, List.mem_nil_iff, or_false] at hu; rcases hu with rfl | rfl | rfl | rfl | rfl | rfl <;> rfl)))
          intro v' w1 hown' hgrow _ hloc
          have acc := AccT.next (k := k) (b := b) (n := m) (t := t) (x := x) (q := q) HX.out.1 HX.out.2.1 HX.out.2.2.1 HX.out.2.2.2.1 HX.out.2.2.2.2.1 HX.out.2.2.2.2.2.1 HF.out HX.out.2.2.2.2.2.2 (by rw [hjl]; exact hown') hgrow hloc
          have e : l.take (j + 1) = l.take j ++ [.mk k b m t x q] := by rw [List.take_succ_eq_append_getElem hj1, HV.out]
          rw [← e] at acc
          have ACC := Lib.hid acc
          clear acc hown' hgrow hloc hownX
          go_wp2_with fail
          go_roundg (gk - 1)
          case measure => omega
          case rel => exact ⟨j + 1, by omega, by go_num, ACC⟩
      · skip
        have c5 := u1.c5
        go_simp
        refine hK.out _ _ ⟨_, _, _, u1⟩ (fun _ => ?_)
        clear hK K c5
        try simp only [Act.put, List.getElem_toArray, List.getElem_cons_succ, List.getElem_cons_zero, List.setIfInBounds_toArray, List.set_cons_zero, List.set_cons_succ]
        refine wpAnyH_ready (rs := [2]) (by kernel_rfl) (by simp) ?_
        refine AllReadyH.cons rfl (fun K hK => ?_) AllReadyH.nil
        rw [if_pos (by rfl)]
        go_simp
        refine (HCL.out _).mono ?_
        rintro e0 w3 ⟨rfl, hb3⟩
        replace u1 := u1.below hb3
        replace bw := below_any bw hb3 bw.size
        refine hK.out _ _ ⟨_, _, _, u1⟩ (fun _ => ?_)
        clear hK K hb3
        try simp only [Act.put, List.getElem_toArray, List.getElem_cons_succ, List.getElem_cons_zero, List.setIfInBounds_toArray, List.set_cons_zero, List.set_cons_succ]
        refine wpAnyH_take (i := 9) (v := .pointer (some ⟨wr.heap.size, 3, none⟩)) rfl (by kernel_rfl) (by kernel_rfl) (by kernel_rfl) (fun _ _ _ h => h) (Or.inl ⟨by rfl, fun W _ => by go_simp⟩) ⟨_, _, _, u1⟩ ?_
        try simp only [Act.put, List.getElem_toArray, List.getElem_cons_succ, List.getElem_cons_zero, List.setIfInBounds_toArray, List.set_cons_zero, List.set_cons_succ]
        refine wpAnyH_ready (rs := [5]) (by kernel_rfl) (by simp) ?_
        refine AllReadyH.cons rfl (fun K hK => ?_) AllReadyH.nil
        rw [if_pos (by rfl)]
        go_simp
        refine (HCX.out _).mono ?_
        rintro e0 w3 ⟨rfl, hb3⟩
        replace u1 := u1.below hb3
        replace bw := below_any bw hb3 bw.size
        refine hK.out _ _ ⟨_, _, _, u1⟩ (fun _ => ?_)
        clear hK K hb3
        try simp only [Act.put, List.getElem_toArray, List.getElem_cons_succ, List.getElem_cons_zero, List.setIfInBounds_toArray, List.set_cons_zero, List.set_cons_succ]
        refine wpAnyH_ready (rs := [8]) (by kernel_rfl) (by simp) ?_
        refine AllReadyH.cons rfl (fun K hK => ?_) AllReadyH.nil
        rw [if_pos (by rfl)]
        go_simp
        refine (HCP.out _ bw).mono ?_
        rintro e0 w5 ⟨V, ys, rfl, hv, hcs, hb5⟩
        have hlt5 := u1.lt
        have hq5 : HeldT w5 (wr.heap.size + 1) w5.heap.size V q := HeldT.wide (by omega) (Nat.le_refl _) q (heldT_of_own hv hcs (Nat.le_refl _) (Nat.le_refl _))
        obtain ⟨p5, c5, rfl⟩ := held_slice (HeldT.held q hq5)
        replace u1 := u1.below hb5
        replace bw := below_any bw hb5 bw.size
        have HQ := Lib.hid hq5
        clear hq5 hv hcs hlt5
        have on : Only wr.heap.size w5 w5 := Only.refl _ _
        refine hK.out _ _ ⟨_, _, _, u1⟩ (fun _ => ?_)
        clear hK K hb5
        try simp only [Act.put, List.getElem_toArray, List.getElem_cons_succ, List.getElem_cons_zero, List.setIfInBounds_toArray, List.set_cons_zero, List.set_cons_succ]
        refine wpAnyH_ready (rs := [10]) (by kernel_rfl) (by simp) ?_
        refine AllReadyH.cons rfl (fun K hK => ?_) AllReadyH.nil
        have c0 := u1.c3
        have f0 := u1.free 3
        go_simp
        replace on := on.setCell 3 none (.string t)
        replace u1 := u1.set3 t
        refine hK.out _ _ ⟨_, _, _, u1⟩ (fun _ => ?_)
        clear hK K c0 f0
        try simp only [Act.put, List.getElem_toArray, List.getElem_cons_succ, List.getElem_cons_zero, List.setIfInBounds_toArray, List.set_cons_zero, List.set_cons_succ]
        refine wpAnyH_take (i := 11) (v := .pointer (some ⟨wr.heap.size, 4, none⟩)) rfl (by kernel_rfl) (by kernel_rfl) (by kernel_rfl) (fun _ _ _ h => h) (Or.inl ⟨by rfl, fun W _ => by go_simp⟩) ⟨_, _, _, u1⟩ ?_
        try simp only [Act.put, List.getElem_toArray, List.getElem_cons_succ, List.getElem_cons_zero, List.setIfInBounds_toArray, List.set_cons_zero, List.set_cons_succ]
        refine wpAnyH_ready (rs := [12]) (by kernel_rfl) (by simp) ?_
        refine AllReadyH.cons rfl (fun K hK => ?_) AllReadyH.nil
        have c0 := u1.c4
        have f0 := u1.free 4
        go_simp
        replace on := on.setCell 4 none (.string x)
        replace u1 := u1.set4 x
        refine hK.out _ _ ⟨_, _, _, u1⟩ (fun _ => ?_)
        clear hK K c0 f0
        try simp only [Act.put, List.getElem_toArray, List.getElem_cons_succ, List.getElem_cons_zero, List.setIfInBounds_toArray, List.set_cons_zero, List.set_cons_succ]
        refine wpAnyH_take (i := 13) (v := .pointer (some ⟨wr.heap.size, 5, none⟩)) rfl (by kernel_rfl) (by kernel_rfl) (by kernel_rfl) (fun _ _ _ h => h) (Or.inl ⟨by rfl, fun W _ => by go_simp⟩) ⟨_, _, _, u1⟩ ?_
        try simp only [Act.put, List.getElem_toArray, List.getElem_cons_succ, List.getElem_cons_zero, List.setIfInBounds_toArray, List.set_cons_zero, List.set_cons_succ]
        refine wpAnyH_ready (rs := [14]) (by kernel_rfl) (by simp) ?_
        refine AllReadyH.cons rfl (fun K hK => ?_) AllReadyH.nil
        have c0 := u1.c5
        have f0 := u1.free 5
        go_simp
        replace on := on.setCell 5 none (.slice p5 q.length c5)
        replace u1 := u1.set5 p5 q.length c5
        refine hK.out _ _ ⟨_, _, _, u1⟩ (fun _ => ?_)
        clear hK K c0 f0
        try simp only [Act.put, List.getElem_toArray, List.getElem_cons_succ, List.getElem_cons_zero, List.setIfInBounds_toArray, List.set_cons_zero, List.set_cons_succ]
        refine wpAnyH_done (by kernel_rfl) ?_ _
        have bf0 := below_only bw on (Nat.le_refl _) bw.size
        have hq0 : HeldT (((w5.setCell ⟨wr.heap.size, 3, none⟩ (.string t)).setCell ⟨wr.heap.size, 4, none⟩ (.string x)).setCell ⟨wr.heap.size, 5, none⟩ (.slice p5 q.length c5)) wr.heap.size (((w5.setCell ⟨wr.heap.size, 3, none⟩ (.string t)).setCell ⟨wr.heap.size, 4, none⟩ (.string x)).setCell ⟨wr.heap.size, 5, none⟩ (.slice p5 q.length c5)).heap.size (.slice p5 q.length c5) q := HeldT.wide (by omega) on.size q (HeldT.stays (fun i a b' => on.block i b' (by omega)) q HQ.out)
        generalize (((w5.setCell ⟨wr.heap.size, 3, none⟩ (.string t)).setCell ⟨wr.heap.size, 4, none⟩ (.string x)).setCell ⟨wr.heap.size, 5, none⟩ (.slice p5 q.length c5)) = wX at on u1 bf0 hq0 ⊢
        clear on bw HQ
        obtain ⟨⟨xs, hi9, hown, hcs, hh1, hh2⟩, hbel⟩ := HA.out
        have hjl : (l.take j).length = j := by rw [List.length_take]; omega
        have hownX := own_below hown bf0
        have hbs := hbel.size
        have hfs := bf0.size
        have HX := Lib.hid (And.intro hown (And.intro hcs (And.intro hh1 (And.intro hh2 (And.intro hbel (And.intro bf0 hq0))))))
        clear hown hcs hh1 hh2 hbel bf0 hq0 HA
        go_wp2_with (first
          | ((with_reducible refine wpList_load6 (.tmp 5) wr.heap.size u1 ?_ ?_ ?_ ?_); rfl; rfl; rfl)
          | (at_builtin; refine wpList_append_own_at _ rfl _ _ 22 rfl w.heap.size 28 i0 (.agg #[.int .i64 0, .bool false, .int .i64 0, .string ⟨#[]⟩, .string ⟨#[]⟩, .slice none 0 0]) 6 80 Tryz.underlying22 hi hz0 hz1 hz2 rfl (by decide) _ _ _ rfl (hownX.alloc _) ⟨wX.heap.size, 0, none⟩ 1 1 [.int .i64 k, .bool b, .int .i64 m, .string t, .string x, .slice p5 q.length c5] rfl rfl (cell_six_new _ _ _ _ _ _ _ _) ?_ ?_ ?_ ?_ ?_))
        all_goals (try (first | (rw [hjl]; unfold maxLen; omega) | (rw [hjl]; omega) | (simp; omega) | (intro u hu; simp only [List.mem_cons, List.mem_nil_iff, or_false] at hu; rcases hu with rfl | rfl | rfl | rfl | rfl | rfl <;> rfl)))
        intro v' w1 hown' hgrow _ hloc
        have acc := AccT.next (k := k) (b := b) (n := m) (t := t) (x := x) (q := q) HX.out.1 HX.out.2.1 HX.out.2.2.1 HX.out.2.2.2.1 HX.out.2.2.2.2.1 HX.out.2.2.2.2.2.1 HF.out HX.out.2.2.2.2.2.2 (by rw [hjl]; exact hown') hgrow hloc
        have e : l.take (j + 1) = l.take j ++ [.mk k b m t x q] := by rw [List.take_succ_eq_append_getElem hj1, HV.out]
        rw [← e] at acc
        have ACC := Lib.hid acc
        clear acc hown' hgrow hloc hownX
        go_wp2_with fail
        go_roundg (gk - 1)
        case measure => omega
        case rel => exact ⟨j + 1, by omega, by go_num, ACC⟩
    · have e : l.take j = l := by rw [List.take_of_length_le]; have := HL.out; omega
      have hA := HA.out
      rw [e] at hA
      obtain ⟨⟨xs, hi9, hown, hcs, hh1, hh2⟩, hbel⟩ := hA
      have HX := Lib.hid (And.intro hown (And.intro (CellsT.high hh2 l _ hcs) hbel))
      clear hown hcs hbel HA hh1 hh2
      go_wp2_with fail
      go_ret
      exact ⟨_, xs, rfl, HX.out.1, HX.out.2.1, HX.out.2.2⟩

theorem scopy_list (q : List Val) (p : Option Addr) (cap : Nat) (w : World) (hl : Held w (.slice p q.length cap) q) (hn : q.length ≤ 2097152) (each : ∀ u ∈ q, SCopyV u) :
    Calls Tryz.prog 133 #[.slice p q.length cap] w (CopyT w q) := by
  cases q with
  | nil =>
    go_enter Tryz.func133, Tryz.ntmps133
    go_wp2_with fail
    go_loopg [3, 8] 0 (fun gg s3 s8 wr => gg = 0 ∧ s3 = .slice none 0 0 ∧ s8 = .int .i64 0 ∧ wr = w)
    case atStart => exact ⟨rfl, rfl, rfl, rfl⟩
    case round =>
      obtain ⟨_, rfl, rfl, rfl⟩ := hrel
      go_wp2_with fail
      go_ret
      exact ⟨_, [], rfl, World.ownsRow_nil _ _ _ _, by unfold CellsT; rfl, Below.refl _ _⟩
  | cons v r =>
    obtain ⟨g, off, rfl, hh⟩ := hl.form
    exact scopySome (v :: r) g off cap w hh hn each
mutual
theorem scopyVal : (v : Val) → SCopyV v
  | .mk k b n t x q => fun W k1 b1 n1 t1 x1 q1 p cap e hn hl => by
    cases e
    exact scopy_list q p cap W hl hn (scopyEach q)
theorem scopyEach : (q : List Val) → ∀ u ∈ q, SCopyV u
  | [], _, h => absurd h (by simp)
  | v :: r, u, h => by
    rcases List.mem_cons.1 h with h | h
    · rw [h]; exact scopyVal v
    · exact scopyEach r u h
end
theorem scopyAt (q : List Val) (p : Option Addr) (cap : Nat) (w : World) (hl : Held w (.slice p q.length cap) q) (hn : q.length ≤ 2097152) : Calls Tryz.prog 133 #[.slice p q.length cap] w (CopyT w q) :=
  scopy_list q p cap w hl hn (scopyEach q)
end Go.Proofs.YtoifjjgakblhhaaGreatDoor

/- Two lists joined by the program: the lists in them lie apart. -/
namespace Go.Proofs.YtoifjjgakblhhaaGreatDoor
open Go.RowKit

theorem CellsT.low {w : World} {own : Option Nat} {hi lo lo2 : Nat} (h2 : lo2 ≤ lo) : (l : List Val) → {xs : List Value} → CellsT w own lo hi xs l → CellsT w own lo2 hi xs l
  | [], _, h => by unfold CellsT at h ⊢; exact h
  | .mk k b n t x q :: l, _, h => by
    unfold CellsT at h ⊢
    obtain ⟨L, ys, s, e, rfl, hf, g1, h⟩ := h
    exact ⟨L, ys, s, e, rfl, hf, by omega, h⟩
theorem CellsT.append {w : World} {own : Option Nat} {mid hi : Nat} {ys : List Value} {r : List Val} (hm : mid ≤ hi) (hr : CellsT w own mid hi ys r) : (l : List Val) → (lo : Nat) → {xs : List Value} → lo ≤ mid → CellsT w own lo mid xs l → CellsT w own lo hi (xs ++ ys) (l ++ r)
  | [], lo, _, h1, h => by
    unfold CellsT at h
    subst h
    exact CellsT.low h1 r hr
  | .mk k b n t x q :: l, lo, _, h1, h => by
    unfold CellsT at h
    obtain ⟨L, zs, s, e, rfl, hf, g1, g2, g3, g4, hq, hl⟩ := h
    show CellsT w own lo hi _ (.mk k b n t x q :: (l ++ r))
    unfold CellsT
    exact ⟨L, _, s, e, rfl, hf, g1, g2, by omega, g4, hq, CellsT.append hm hr l e g3 hl⟩
theorem CellsT.owner2 {w : World} {own own2 : Option Nat} {hi : Nat} : (l : List Val) → (lo : Nat) → {xs : List Value} → (∀ g, own2 = some g → g < lo ∨ hi ≤ g) → CellsT w own lo hi xs l → CellsT w own2 lo hi xs l
  | [], _, _, _, h => by unfold CellsT at h ⊢; exact h
  | .mk k b n t x q :: l, lo, _, ho, h => by
    unfold CellsT at h ⊢
    obtain ⟨L, ys, s, e, rfl, hf, g1, g2, g3, g4, hq, hr⟩ := h
    exact ⟨L, ys, s, e, rfl, hf, g1, g2, g3, fun g hg => by have := ho g hg; omega, hq, CellsT.owner2 l e (fun g hg => by have := ho g hg; omega) hr⟩
/-- What joinLists tells. -/
def JoinT (w : World) (la lb : List Val) (e : Ending) (w' : World) : Prop := ∃ p c, e = .returned (.tuple #[.agg #[.int .i64 5, .bool false, .int .i64 0, .string ⟨#[]⟩, .string ⟨#[]⟩, .slice p (la.length + lb.length) c], .int .i64 0]) ∧
  HeldT w' w.heap.size w'.heap.size (.slice p (la.length + lb.length) c) (la ++ lb) ∧ Below w.heap.size w w'
theorem joinHeldT {w W0 w1 w2 w3 : World} {la lb : List Val} {V1 V2 V3 : Value} {xs1 xs2 : List Value} (_z0 : W0.heap.size = w.heap.size + 1) (hb1 : Below W0.heap.size W0 w1) (hb2 : Below w1.heap.size w1 w2)
    (hv1 : w1.ownsRow W0.heap.size 28 6 V1 la.length xs1) (hc1 : CellsT w1 V1.ownBlock W0.heap.size w1.heap.size xs1 la)
    (hc2 : CellsT w2 V2.ownBlock w1.heap.size w2.heap.size xs2 lb)
    (hown : w3.ownsRow W0.heap.size 28 6 V3 (la.length + lb.length) (xs1 ++ xs2)) (hgrow : w2.grownBy w3 V1.ownBlock) (hloc : V3.ownBlock = V1.ownBlock ∨ V3.ownBlock = some w2.heap.size) :
    HeldT w3 W0.heap.size w3.heap.size V3 (la ++ lb) := by
  have s1 := hb1.size
  have s2 := hb2.size
  have s3 : w2.heap.size ≤ w3.heap.size := hgrow.size
  have c1 : CellsT w3 V1.ownBlock W0.heap.size w1.heap.size xs1 la := CellsT.stays la _ (fun i a c hne => (hgrow.block i (by omega) (fun h => hne h.symm)).trans (hb2.block i c)) hc1
  have c2 : CellsT w3 V2.ownBlock w1.heap.size w2.heap.size xs2 lb := CellsT.stays lb _ (fun i a c _ => hgrow.block i c (fun h => by have := (hv1.lt i h.symm).2; omega)) hc2
  have d1 : CellsT w3 V3.ownBlock W0.heap.size w1.heap.size xs1 la := CellsT.owner (hloc.imp id fun h => ⟨_, h, s2⟩) la _ c1
  have d2 : CellsT w3 V3.ownBlock w1.heap.size w2.heap.size xs2 lb := CellsT.owner2 lb _ (fun g hg => by
    rcases hloc with h | h
    · exact .inl (hv1.lt g (h ▸ hg)).2
    · rw [h] at hg; injection hg with hg; omega) c2
  exact heldT_of_own (by rw [List.length_append]; exact hown) (CellsT.high s3 _ _ (CellsT.append s2 d2 la _ s1 d1)) (Nat.le_refl _) (Nat.le_refl _)

set_option maxRecDepth 20000 in
set_option maxHeartbeats 6400000 in
theorem joinT (la lb : List Val) (p : Option Addr) (cap : Nat) (p2 : Option Addr) (cap2 : Nat) (w : World) (hl : Held w (.slice p la.length cap) la) (hl2 : Held w (.slice p2 lb.length cap2) lb) (hs : la.length + lb.length ≤ 4096) :
    Calls Tryz.prog 100 #[.slice p la.length cap, .slice p2 lb.length cap2] w (JoinT w la lb) := by
  obtain ⟨W0, hW0⟩ : ∃ W0, W0 = w.alloc (.cells #[.int .i64 0, .bool false, .int .i64 0, .string ⟨#[]⟩, .string ⟨#[]⟩, .slice none 0 0] 28) := ⟨_, rfl⟩
  obtain ⟨i0, hi, hz0, hz1, hz2⟩ := info_parts info28b
  have S8 : Six W0 w.heap.size 0 false 0 ⟨#[]⟩ ⟨#[]⟩ none 0 0 := by rw [hW0]; exact six_new _ rfl
  have b0 : Below w.heap.size w W0 := by rw [hW0]; exact below1 _ _
  have z0 : W0.heap.size = w.heap.size + 1 := by rw [hW0]; simp
  have hca := scopyAt la p cap W0 (Held.below la hl b0) (by omega)
  have hcb := fun W (h : Below w.heap.size w W) => scopyAt lb p2 cap2 W (Held.below lb hl2 h) (by omega)
  have H0 := Lib.hid hW0
  have HB := Lib.hid hcb
  have HZ := Lib.hid z0
  clear hl hl2 hW0 hcb z0
  go_enter Tryz.func100, Tryz.ntmps100
  go_wp2_with (first
    | (go_at_call 133; rw [← H0.out]; (with_reducible refine hca.mono ?_); rintro e w1 ⟨V1, xs1, rfl, hv1, hc1, hb1⟩; have b1 := below_any b0 hb1 b0.size; have s1 := hb1.size; have S81 := S8.below hb1))
  go_at_call 133
  with_reducible refine (HB.out _ b1).mono ?_
  rintro e w2 ⟨V2, xs2, rfl, hv2, hc2, hb2⟩
  have b2 := below_any b1 hb2 b1.size
  have s2 := hb2.size
  have S82 := S81.below hb2
  have hv12 := own_below hv1 hb2
  have HV2 := Lib.hid hv2
  have HX := Lib.hid (And.intro hb1 (And.intro hb2 (And.intro hv1 (And.intro hc1 (And.intro hc2 b2)))))
  rcases hv2.2 with ⟨rfl, hn0⟩ | ⟨g2, cp2, cur, rfl, hr2⟩
  · obtain rfl := List.length_eq_zero_iff.1 hn0
    have hcells : xs2 = [] := by have := hv2.1; rw [hn0] at this; simpa using this
    subst hcells
    have hh0 := joinHeldT (V3 := V1) (w3 := w2) HZ.out HX.out.1 HX.out.2.1 HX.out.2.2.1 HX.out.2.2.2.1 HX.out.2.2.2.2.1 (by simpa using hv12) ⟨rfl, rfl, rfl, Nat.le_refl _, fun _ _ _ => rfl⟩ (.inl rfl)
    have hh : HeldT w2 W0.heap.size w2.heap.size V1 la := by simpa using hh0
    clear hh0
    obtain ⟨p3, c3, rfl⟩ := held_slice (HeldT.held _ hh)
    have HH := Lib.hid hh
    have HV := Lib.hid hv12
    clear hh hv2 hv1 hc1 hc2 hb1 hb2 b2 S81
    have hv12 := HV.out
    go_wp2_with (first
      | (at_builtin; refine wpList_append_own_none rfl _ _ 22 rfl W0.heap.size 28 i0 6 Tryz.underlying22 hi _ _ _ rfl hv12 rfl ?_)
      | ((with_reducible refine wpList_store6 (k' := 5) (b' := false) (n' := 0) (t' := ⟨#[]⟩) (x' := ⟨#[]⟩) (p' := p3) (len' := la.length) (cap' := c3) (.tmp 4) (.tmp 18) w.heap.size S82 ?_ ?_ ?_ ?_ ?_); rfl; rfl; rfl; rfl; intro w9 on9 S9))
    have s9 := on9.size
    refine bodyPost_ret (results_six_tmp (p := 4) (q := 5) Tryz.results100 _ (.int .i64 0) rfl rfl S9) rfl ⟨p3, c3, ?_, ?_, below_only HX.out.2.2.2.2.2 on9 (Nat.le_refl _) HX.out.2.2.2.2.2.size⟩
    · rfl
    · have hq := HeldT.wide (lo2 := w.heap.size) (hi2 := w9.heap.size) (by have := HZ.out; omega) s9 la (HeldT.stays (fun i a c => on9.block i (by omega) (by have := HZ.out; omega)) la HH.out)
      simpa using hq
  · have hnews := HV2.out.cells (g := g2) rfl
    have hl2 := hv2.1
    have h1c := CellsT.cells1 lb _ hc2
    clear hv2 hv1 hc1 hc2 hb1 hb2 S81 hr2
    go_wp2_with (first
      | (at_builtin; refine wpList_append_own_at _ rfl _ _ 22 rfl W0.heap.size 28 i0 (.agg #[.int .i64 0, .bool false, .int .i64 0, .string ⟨#[]⟩, .string ⟨#[]⟩, .slice none 0 0]) 6 80 Tryz.underlying22 hi hz0 hz1 hz2 rfl (by decide) _ _ _ rfl hv12 ⟨g2, 0, none⟩ lb.length cp2 xs2 rfl hl2 hnews h1c ?_ ?_ ?_ ?_))
    all_goals (try (first | (unfold maxLen; omega) | omega))
    intro V3 w3 hown3 hgrow _ hloc
    have hh := joinHeldT HZ.out HX.out.1 HX.out.2.1 HX.out.2.2.1 HX.out.2.2.2.1 HX.out.2.2.2.2.1 hown3 hgrow hloc
    obtain ⟨p3, c3, e3⟩ := held_slice (HeldT.held _ hh)
    rw [List.length_append] at e3
    subst e3
    have S83 : Six w3 w.heap.size 0 false 0 ⟨#[]⟩ ⟨#[]⟩ none 0 0 := (hgrow.block _ S82.lt (fun h => by have := (HX.out.2.2.1.lt _ h.symm).1; have := HZ.out; omega)).trans S82
    have b3 := b2.grown hgrow b2.size (fun k hk => by have := (HX.out.2.2.1.lt k hk).1; have := HZ.out; omega)
    have HH := Lib.hid hh
    have B3 := Lib.hid b3
    clear hh hown3 hgrow hloc hnews hl2 h1c hv12 b2 b3
    go_wp2_with (first
      | ((with_reducible refine wpList_store6 (k' := 5) (b' := false) (n' := 0) (t' := ⟨#[]⟩) (x' := ⟨#[]⟩) (p' := p3) (len' := la.length + lb.length) (cap' := c3) (.tmp 4) (.tmp 18) w.heap.size S83 ?_ ?_ ?_ ?_ ?_); rfl; rfl; rfl; rfl; intro w9 on9 S9))
    have s9 := on9.size
    refine bodyPost_ret (results_six_tmp (p := 4) (q := 5) Tryz.results100 _ (.int .i64 0) rfl rfl S9) rfl ⟨p3, c3, ?_, ?_, below_only B3.out on9 (Nat.le_refl _) B3.out.size⟩
    · rfl
    · have hq := HeldT.wide (lo2 := w.heap.size) (hi2 := w9.heap.size) (by have := HZ.out; omega) s9 (la ++ lb) (HeldT.stays (fun i a c => on9.block i (by omega) (by have := HZ.out; omega)) (la ++ lb) HH.out)
      exact hq
end Go.Proofs.YtoifjjgakblhhaaGreatDoor
