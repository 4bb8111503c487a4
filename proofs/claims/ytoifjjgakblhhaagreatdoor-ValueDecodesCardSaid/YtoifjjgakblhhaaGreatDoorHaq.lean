/- Texts of one kind, one behind the other: each says ahead of itself what it shows. -/
import Derived.Test.YtoifjjgakblhhaaGreatDoorHap
import Derived.Test.YtoifjjgakblhhaaGreatDoorHal
import Derived.WalkKit
import Derived.OwnWalk
import Derived.Maps.AppendAt
import Derived.Deep.LoopGhost
import Derived.Laws.AppendOwnNone
import Derived.Test.YtoifjjgakblhhaaGreatDoorHah
import Derived.Lib.AppendStr
/- A list of values copied: none of it lies where the old one lay. -/
namespace Go.Proofs.YtoifjjgakblhhaaGreatDoor
open Go.RowKit

/-- What copyList tells: the same values, in blocks of its own. -/
def CopyPost (w : World) (q : List Val) (e : Ending) (w' : World) : Prop := ∃ V xs, e = .returned V ∧ w'.ownsRow w.heap.size 28 6 V q.length xs ∧ CellsF w' (fun g => w.heap.size ≤ g ∧ g < w'.heap.size ∧ V.ownBlock ≠ some g) xs q ∧ Below w.heap.size w w'
def CopyV (v : Val) : Prop := ∀ (W : World) (k : Int) (b : Bool) (n : Int) (t x : ByteArray) (q : List Val) (p : Option Addr) (cap : Nat), v = .mk k b n t x q → q.length ≤ 2097152 → Held W (.slice p q.length cap) q →
  Calls Tryz.prog 133 #[.slice p q.length cap] W (CopyPost W q)
/-- What a round keeps. -/
structure Acc (w : World) (l : List Val) (A : Value) (wr : World) : Prop where
  own : ∃ xs, wr.ownsRow w.heap.size 28 6 A l.length xs ∧ CellsF wr (fun g => w.heap.size ≤ g ∧ g < wr.heap.size ∧ A.ownBlock ≠ some g) xs l
  bel : Below w.heap.size w wr
theorem own_below {w w' : World} {base : Nat} {e : TypeId} {size : Nat} {v : Value} {n : Nat} {xs : List Value} (h : w.ownsRow base e size v n xs) (b : Below w.heap.size w w') : w'.ownsRow base e size v n xs := by
  refine ⟨h.1, ?_⟩
  rcases h.2 with h0 | ⟨g, cap, cur, e1, h1, h2, h3⟩
  · exact .inl h0
  · exact .inr ⟨g, cap, cur, e1, h1, (b.block g (lt_of_heap h2)).trans h2, h3⟩
theorem info28b : (Tryz.prog.info? 28).map (fun i => (i.zero, i.size, i.bytes)) = some (some (.agg #[.int .i64 0, .bool false, .int .i64 0, .string ⟨#[]⟩, .string ⟨#[]⟩, .slice none 0 0]), 6, 80) := by kernel_rfl
theorem cell_six_new (w : World) (a b c d e f : Value) (t : TypeId) : ∀ j u, [a, b, c, d, e, f][j]? = some u → (w.alloc (.cells #[a, b, c, d, e, f] t)).cell? ((⟨w.heap.size, 0, none⟩ : Addr).add j) = some u := by
  intro j u hj
  rw [Addr.add_mid, Nat.zero_add]
  exact cell_of (heap_new w _ rfl) j (by simpa using hj)
/-- The round's end: one value more. -/
theorem Acc.next {w wr wf w1 : World} {l : List Val} {A A2 : Value} {xs : List Value} {k : Int} {b : Bool} {n : Int} {t x : ByteArray} {q : List Val} {V : Value} {e : Nat} {o : Obj} (he : e = wr.heap.size)
    (hx : wr.ownsRow w.heap.size 28 6 A l.length xs) (hc : CellsF wr (fun g => w.heap.size ≤ g ∧ g < wr.heap.size ∧ A.ownBlock ≠ some g) xs l) (hbel : Below w.heap.size w wr)
    (bf : Below wr.heap.size wr wf) (hf : Fine n t x q.length) (hq : HeldF wf (fun g => e < g ∧ g < wf.heap.size) V q)
    (hown : w1.ownsRow w.heap.size 28 6 A2 (l.length + 1) (xs ++ [.int .i64 k, .bool b, .int .i64 n, .string t, .string x, V])) (hgrow : (wf.alloc o).grownBy w1 A.ownBlock) (hloc : A2.ownBlock = A.ownBlock ∨ A2.ownBlock = some (wf.heap.size + 1)) :
    Acc w (l ++ [.mk k b n t x q]) A2 w1 := by
  have hA : ∀ g, A.ownBlock = some g → g < wr.heap.size := fun g hg => (hx.lt g hg).2
  have s1 : (wf.alloc o).heap.size = wf.heap.size + 1 := by simp
  have s2 : wr.heap.size ≤ wf.heap.size := bf.size
  have s3 : (wf.alloc o).heap.size ≤ w1.heap.size := hgrow.size
  have s0 : w.heap.size ≤ wr.heap.size := hbel.size
  have hn2 : ∀ g, g < wf.heap.size → A.ownBlock ≠ some g → A2.ownBlock ≠ some g := fun g hg hne h => by
    rcases hloc with h2 | h2
    · exact hne (h2 ▸ h)
    · rw [h2] at h
      have := Option.some.inj h
      omega
  have keep : ∀ g, g < wf.heap.size → A.ownBlock ≠ some g → w1.heap[g]? = wf.heap[g]? := fun g hg hne => by
    rw [hgrow.block g (by omega) (fun h => hne h.symm)]
    exact Below.heap_alloc _ _ _ hg
  refine ⟨⟨_, by rw [List.length_append]; exact hown, ?_⟩, (hbel.trans (bf.mono s0) |>.alloc (by omega) o).grown hgrow (by omega) (fun g hg => (hx.lt g hg).1)⟩
  refine CellsF.append l _ (hc.stays (fun g hg => ⟨⟨hg.1, by omega, hn2 g (by omega) hg.2.2⟩, ?_⟩) l) (CellsF.one hf (hq.stays (fun g hg => ?_) q))
  · rw [keep g (by omega) hg.2.2]
    exact bf.block g hg.2.1
  · have hne : A.ownBlock ≠ some g := fun h => by have := hA g h; omega
    exact ⟨⟨by omega, by omega, hn2 g hg.2 hne⟩, keep g hg.2 hne⟩

set_option maxRecDepth 20000 in
set_option maxHeartbeats 6400000 in
theorem copySome (l : List Val) (g off cap : Nat) (w : World) (hl : Holds w g off l) (hn : l.length ≤ 2097152) (each : ∀ v ∈ l, CopyV v) :
    Calls Tryz.prog 133 #[.slice (some ⟨g, off, none⟩) l.length cap] w (CopyPost w l) := by
  obtain ⟨n, hln⟩ : ∃ n, n = l.length := ⟨_, rfl⟩
  rw [← hln] at hn ⊢
  obtain ⟨i0, hi, hz0, hz1, hz2⟩ := info_parts info28b
  have HL := Lib.hid hln
  have HH := Lib.hid hl
  have HE := Lib.hid each
  clear hl hln each
  go_enter Tryz.func133, Tryz.ntmps133
  go_wp2_with fail
  go_loopg [3, 8] n (fun gg s3 s8 wr => ∃ j : Nat, j + gg = n ∧ s8 = .int .i64 j ∧ Hid (Acc w (l.take j) s3 wr))
  case atStart => exact ⟨0, by omega, rfl, Lib.hid ⟨⟨[], by simpa using World.ownsRow_nil w w.heap.size 28 6, by unfold CellsF; rfl⟩, Below.refl _ _⟩⟩
  case round =>
    obtain ⟨j, hjg, rfl, HA⟩ := hrel
    by_cases hlt : (j : Int) < n
    · have hj1 : j < l.length := by have := HL.out; omega
      obtain ⟨k, b, m, t, x, q, p, cp, o1⟩ := ((Holds.at_ l off HH.out j hj1).below _ HA.out.bel).opens
      obtain ⟨W1, hW1⟩ : ∃ W1, W1 = wr.alloc (.cells #[.int .i64 k, .bool b, .int .i64 m, .string t, .string x, .slice p q.length cp] 28) := ⟨_, rfl⟩
      have u1 : Six W1 wr.heap.size k b m t x p q.length cp := by rw [hW1]; exact six_new _ rfl
      have bw : Below wr.heap.size wr W1 := by rw [hW1]; exact below1 _ _
      have HW := Lib.hid hW1
      clear hW1
      have hcl := fun W => cloneAt t W (by have := o1.hf.ht; omega)
      have hcx := fun W => cloneAt x W (by have := o1.hf.hx; omega)
      have hcp := fun W (h : Below wr.heap.size wr W) => HE.out l[j] (List.getElem_mem hj1) W k b m t x q p cp o1.e o1.hf.hn (Held.below q o1.hl h)
      have HF := Lib.hid o1.hf
      have HV := Lib.hid o1.e
      go_upto_region 5 with (first
        | ((with_reducible refine wpList_loadMid6 (.tmp 10) g (off + j * 6) k b m t x _ o1.c0 o1.c1 o1.c2 o1.c3 o1.c4 o1.c5 ?_ ?_ ?_ ?_); rfl; rfl; rfl))
      rw [← HW.out]
      clear o1
      have HCP := Lib.hid hcp
      have HCL := Lib.hid hcl
      have HCX := Lib.hid hcx
      clear hcp hcl hcx
      refine wp_region_held_drew (S := fun W => ∃ p' n' c', Six W wr.heap.size k b m t x p' n' c') (by kernel_rfl) ⟨p, q.length, cp, u1⟩ (fun hHeld => ?_)
      replace bw := bw.drew
      replace u1 : Six W1.drew wr.heap.size k b m t x p q.length cp := u1
      refine wpAnyH_take (i := 0) (v := .pointer (some ⟨wr.heap.size, 3, none⟩)) rfl (by kernel_rfl) (by kernel_rfl) (by kernel_rfl) (fun _ _ _ h => h) (Or.inl ⟨by rfl, fun W _ => by go_simp⟩) hHeld ?_
      try simp only [Act.put, List.getElem_toArray, List.getElem_cons_succ, List.getElem_cons_zero, List.setIfInBounds_toArray, List.set_cons_zero, List.set_cons_succ]
      refine wpAnyH_take (i := 3) (v := .pointer (some ⟨wr.heap.size, 4, none⟩)) rfl (by kernel_rfl) (by kernel_rfl) (by kernel_rfl) (fun _ _ _ h => h) (Or.inl ⟨by rfl, fun W _ => by go_simp⟩) hHeld ?_
      try simp only [Act.put, List.getElem_toArray, List.getElem_cons_succ, List.getElem_cons_zero, List.setIfInBounds_toArray, List.set_cons_zero, List.set_cons_succ]
      refine wpAnyH_take (i := 6) (v := .pointer (some ⟨wr.heap.size, 5, none⟩)) rfl (by kernel_rfl) (by kernel_rfl) (by kernel_rfl) (fun _ _ _ h => h) (Or.inl ⟨by rfl, fun W _ => by go_simp⟩) hHeld ?_
      try simp only [Act.put, List.getElem_toArray, List.getElem_cons_succ, List.getElem_cons_zero, List.setIfInBounds_toArray, List.set_cons_zero, List.set_cons_succ]
      refine wpAnyH_take (i := 1) (v := .string t) rfl (by kernel_rfl) (by kernel_rfl) (by kernel_rfl) (fun _ _ _ h => h) (Or.inl ⟨by rfl, fun W ⟨_, _, _, h⟩ => by have c0 := h.c3; go_simp⟩) hHeld ?_
      try simp only [Act.put, List.getElem_toArray, List.getElem_cons_succ, List.getElem_cons_zero, List.setIfInBounds_toArray, List.set_cons_zero, List.set_cons_succ]
      refine wpAnyH_take (i := 4) (v := .string x) rfl (by kernel_rfl) (by kernel_rfl) (by kernel_rfl) (fun _ _ _ h => h) (Or.inl ⟨by rfl, fun W ⟨_, _, _, h⟩ => by have c0 := h.c4; go_simp⟩) hHeld ?_
      try simp only [Act.put, List.getElem_toArray, List.getElem_cons_succ, List.getElem_cons_zero, List.setIfInBounds_toArray, List.set_cons_zero, List.set_cons_succ]
      clear hHeld
      refine wpAnyH_ready (rs := [2, 7]) (by kernel_rfl) (by simp) ?_
      refine AllReadyH.cons rfl (fun K hK => ?_) (AllReadyH.cons rfl (fun K hK => ?_) AllReadyH.nil)
      · skip
        rw [if_pos (by rfl)]
        go_simp
        refine (HCL.out _).mono ?_
        rintro e0 w3 ⟨rfl, hb3⟩
        replace u1 := u1.below hb3
        replace bw := below_any bw hb3 bw.size
        refine hK.out _ _ ⟨_, _, _, u1⟩ (fun _ => ?_)
        clear hK K hb3
        try simp only [Act.put, List.getElem_toArray, List.getElem_cons_succ, List.getElem_cons_zero, List.setIfInBounds_toArray, List.set_cons_zero, List.set_cons_succ]
        refine wpAnyH_ready (rs := [5, 7]) (by kernel_rfl) (by simp) ?_
        refine AllReadyH.cons rfl (fun K hK => ?_) (AllReadyH.cons rfl (fun K hK => ?_) AllReadyH.nil)
        · skip
          rw [if_pos (by rfl)]
          go_simp
          refine (HCX.out _).mono ?_
          rintro e0 w3 ⟨rfl, hb3⟩
          replace u1 := u1.below hb3
          replace bw := below_any bw hb3 bw.size
          refine hK.out _ _ ⟨_, _, _, u1⟩ (fun _ => ?_)
          clear hK K hb3
          try simp only [Act.put, List.getElem_toArray, List.getElem_cons_succ, List.getElem_cons_zero, List.setIfInBounds_toArray, List.set_cons_zero, List.set_cons_succ]
          refine wpAnyH_ready (rs := [7]) (by kernel_rfl) (by simp) ?_
          refine AllReadyH.cons rfl (fun K hK => ?_) AllReadyH.nil
          have c5 := u1.c5
          go_simp
          refine hK.out _ _ ⟨_, _, _, u1⟩ (fun _ => ?_)
          clear hK K c5
          try simp only [Act.put, List.getElem_toArray, List.getElem_cons_succ, List.getElem_cons_zero, List.setIfInBounds_toArray, List.set_cons_zero, List.set_cons_succ]
          refine wpAnyH_take (i := 9) (v := .pointer (some ⟨wr.heap.size, 3, none⟩)) rfl (by kernel_rfl) (by kernel_rfl) (by kernel_rfl) (fun _ _ _ h => h) (Or.inl ⟨by rfl, fun W _ => by go_simp⟩) ⟨_, _, _, u1⟩ ?_
          try simp only [Act.put, List.getElem_toArray, List.getElem_cons_succ, List.getElem_cons_zero, List.setIfInBounds_toArray, List.set_cons_zero, List.set_cons_succ]
          refine wpAnyH_ready (rs := [8]) (by kernel_rfl) (by simp) ?_
          refine AllReadyH.cons rfl (fun K hK => ?_) AllReadyH.nil
          rw [if_pos (by rfl)]
          go_simp
          refine (HCP.out _ bw).mono ?_
          rintro e0 w5 ⟨V, ys, rfl, hv, hcs, hb5⟩
          have hlt5 := u1.lt
          have hq5 : HeldF w5 (fun g => wr.heap.size < g ∧ g < w5.heap.size) V q := heldF_of_own hv hcs (fun g hg => ⟨by have := hg.1; omega, hg.2.1⟩) (fun g hg => ⟨by have := (hv.lt g hg).1; omega, (hv.lt g hg).2⟩)
          obtain ⟨p5, c5, rfl⟩ := held_slice hq5.held
          replace u1 := u1.below hb5
          replace bw := below_any bw hb5 bw.size
          have HQ := Lib.hid hq5
          clear hq5 hv hcs hlt5
          have on : Only wr.heap.size w5 w5 := Only.refl _ _
          refine hK.out _ _ ⟨_, _, _, u1⟩ (fun _ => ?_)
          clear hK K hb5
          try simp only [Act.put, List.getElem_toArray, List.getElem_cons_succ, List.getElem_cons_zero, List.setIfInBounds_toArray, List.set_cons_zero, List.set_cons_succ]
          refine wpAnyH_ready (rs := [10]) (by kernel_rfl) (by simp) ?_
          refine AllReadyH.cons rfl (fun K hK => ?_) AllReadyH.nil
          have c0 := u1.c3
          have f0 := u1.free 3
          go_simp
          replace on := on.setCell 3 none (.string t)
          replace u1 := u1.set3 t
          refine hK.out _ _ ⟨_, _, _, u1⟩ (fun _ => ?_)
          clear hK K c0 f0
          try simp only [Act.put, List.getElem_toArray, List.getElem_cons_succ, List.getElem_cons_zero, List.setIfInBounds_toArray, List.set_cons_zero, List.set_cons_succ]
          refine wpAnyH_take (i := 11) (v := .pointer (some ⟨wr.heap.size, 4, none⟩)) rfl (by kernel_rfl) (by kernel_rfl) (by kernel_rfl) (fun _ _ _ h => h) (Or.inl ⟨by rfl, fun W _ => by go_simp⟩) ⟨_, _, _, u1⟩ ?_
          try simp only [Act.put, List.getElem_toArray, List.getElem_cons_succ, List.getElem_cons_zero, List.setIfInBounds_toArray, List.set_cons_zero, List.set_cons_succ]
          refine wpAnyH_ready (rs := [12]) (by kernel_rfl) (by simp) ?_
          refine AllReadyH.cons rfl (fun K hK => ?_) AllReadyH.nil
          have c0 := u1.c4
          have f0 := u1.free 4
          go_simp
          replace on := on.setCell 4 none (.string x)
          replace u1 := u1.set4 x
          refine hK.out _ _ ⟨_, _, _, u1⟩ (fun _ => ?_)
          clear hK K c0 f0
          try simp only [Act.put, List.getElem_toArray, List.getElem_cons_succ, List.getElem_cons_zero, List.setIfInBounds_toArray, List.set_cons_zero, List.set_cons_succ]
          refine wpAnyH_take (i := 13) (v := .pointer (some ⟨wr.heap.size, 5, none⟩)) rfl (by kernel_rfl) (by kernel_rfl) (by kernel_rfl) (fun _ _ _ h => h) (Or.inl ⟨by rfl, fun W _ => by go_simp⟩) ⟨_, _, _, u1⟩ ?_
          try simp only [Act.put, List.getElem_toArray, List.getElem_cons_succ, List.getElem_cons_zero, List.setIfInBounds_toArray, List.set_cons_zero, List.set_cons_succ]
          refine wpAnyH_ready (rs := [14]) (by kernel_rfl) (by simp) ?_
          refine AllReadyH.cons rfl (fun K hK => ?_) AllReadyH.nil
          have c0 := u1.c5
          have f0 := u1.free 5
          go_simp
          replace on := on.setCell 5 none (.slice p5 q.length c5)
          replace u1 := u1.set5 p5 q.length c5
          refine hK.out _ _ ⟨_, _, _, u1⟩ (fun _ => ?_)
          clear hK K c0 f0
          try simp only [Act.put, List.getElem_toArray, List.getElem_cons_succ, List.getElem_cons_zero, List.setIfInBounds_toArray, List.set_cons_zero, List.set_cons_succ]
          refine wpAnyH_done (by kernel_rfl) ?_ _
          have bf0 := below_only bw on (Nat.le_refl _) bw.size
          have hq0 := HQ.out.stays (P' := fun g => wr.heap.size < g ∧ g < (((w5.setCell ⟨wr.heap.size, 3, none⟩ (.string t)).setCell ⟨wr.heap.size, 4, none⟩ (.string x)).setCell ⟨wr.heap.size, 5, none⟩ (.slice p5 q.length c5)).heap.size) (fun g hg => ⟨⟨hg.1, Nat.lt_of_lt_of_le hg.2 on.size⟩, on.block g hg.2 (by have := hg.1; omega)⟩) q
          generalize (((w5.setCell ⟨wr.heap.size, 3, none⟩ (.string t)).setCell ⟨wr.heap.size, 4, none⟩ (.string x)).setCell ⟨wr.heap.size, 5, none⟩ (.slice p5 q.length c5)) = wX at on u1 bf0 hq0 ⊢
          clear on bw HQ
          obtain ⟨⟨xs, hown, hcs⟩, hbel⟩ := HA.out
          have hjl : (l.take j).length = j := by rw [List.length_take]; omega
          have hownX := own_below hown bf0
          have hbs := hbel.size
          have hfs := bf0.size
          have HX := Lib.hid (And.intro hown (And.intro hcs (And.intro hbel (And.intro bf0 hq0))))
          clear hown hcs hbel bf0 hq0 HA
          go_wp2_with (first
            | ((with_reducible refine wpList_load6 (.tmp 5) wr.heap.size u1 ?_ ?_ ?_ ?_); rfl; rfl; rfl)
            | (at_builtin; refine wpList_append_own_at _ rfl _ _ 22 rfl w.heap.size 28 i0 (.agg #[.int .i64 0, .bool false, .int .i64 0, .string ⟨#[]⟩, .string ⟨#[]⟩, .slice none 0 0]) 6 80 Tryz.underlying22 hi hz0 hz1 hz2 rfl (by decide) _ _ _ rfl (hownX.alloc _) ⟨wX.heap.size, 0, none⟩ 1 1 [.int .i64 k, .bool b, .int .i64 m, .string t, .string x, .slice p5 q.length c5] rfl rfl (cell_six_new _ _ _ _ _ _ _ _) ?_ ?_ ?_ ?_ ?_))
          all_goals (try (first | (rw [hjl]; unfold maxLen; omega) | (rw [hjl]; omega) | (simp; omega) | (intro u hu; simp only [List.mem_cons, List.mem_nil_iff, or_false] at hu; rcases hu with rfl | rfl | rfl | rfl | rfl | rfl <;> rfl)))
          intro v' w1 hown' hgrow _ hloc
          have acc := Acc.next (k := k) (b := b) (n := m) (t := t) (x := x) (q := q) rfl HX.out.1 HX.out.2.1 HX.out.2.2.1 HX.out.2.2.2.1 HF.out HX.out.2.2.2.2 (by rw [hjl]; exact hown') hgrow hloc
          have e : l.take (j + 1) = l.take j ++ [.mk k b m t x q] := by rw [List.take_succ_eq_append_getElem hj1, HV.out]
          rw [← e] at acc
          have ACC := Lib.hid acc
          clear acc hown' hgrow hloc hownX
          go_wp2_with fail
          go_roundg (gk - 1)
          case measure => omega
          case rel => exact ⟨j + 1, by omega, by go_num, ACC⟩
        · skip
          have c5 := u1.c5
          go_simp
          refine hK.out _ _ ⟨_, _, _, u1⟩ (fun _ => ?_)
          clear hK K c5
          try simp only [Act.put, List.getElem_toArray, List.getElem_cons_succ, List.getElem_cons_zero, List.setIfInBounds_toArray, List.set_cons_zero, List.set_cons_succ]
          refine wpAnyH_take (i := 9) (v := .pointer (some ⟨wr.heap.size, 3, none⟩)) rfl (by kernel_rfl) (by kernel_rfl) (by kernel_rfl) (fun _ _ _ h => h) (Or.inl ⟨by rfl, fun W _ => by go_simp⟩) ⟨_, _, _, u1⟩ ?_
          try simp only [Act.put, List.getElem_toArray, List.getElem_cons_succ, List.getElem_cons_zero, List.setIfInBounds_toArray, List.set_cons_zero, List.set_cons_succ]
          refine wpAnyH_ready (rs := [5]) (by kernel_rfl) (by simp) ?_
          refine AllReadyH.cons rfl (fun K hK => ?_) AllReadyH.nil
          rw [if_pos (by rfl)]
          go_simp
          refine (HCX.out _).mono ?_
          rintro e0 w3 ⟨rfl, hb3⟩
          replace u1 := u1.below hb3
          replace bw := below_any bw hb3 bw.size
          refine hK.out _ _ ⟨_, _, _, u1⟩ (fun _ => ?_)
          clear hK K hb3
          try simp only [Act.put, List.getElem_toArray, List.getElem_cons_succ, List.getElem_cons_zero, List.setIfInBounds_toArray, List.set_cons_zero, List.set_cons_succ]
          refine wpAnyH_ready (rs := [8]) (by kernel_rfl) (by simp) ?_
          refine AllReadyH.cons rfl (fun K hK => ?_) AllReadyH.nil
          rw [if_pos (by rfl)]
          go_simp
          refine (HCP.out _ bw).mono ?_
          rintro e0 w5 ⟨V, ys, rfl, hv, hcs, hb5⟩
          have hlt5 := u1.lt
          have hq5 : HeldF w5 (fun g => wr.heap.size < g ∧ g < w5.heap.size) V q := heldF_of_own hv hcs (fun g hg => ⟨by have := hg.1; omega, hg.2.1⟩) (fun g hg => ⟨by have := (hv.lt g hg).1; omega, (hv.lt g hg).2⟩)
          obtain ⟨p5, c5, rfl⟩ := held_slice hq5.held
          replace u1 := u1.below hb5
          replace bw := below_any bw hb5 bw.size
          have HQ := Lib.hid hq5
          clear hq5 hv hcs hlt5
          have on : Only wr.heap.size w5 w5 := Only.refl _ _
          refine hK.out _ _ ⟨_, _, _, u1⟩ (fun _ => ?_)
          clear hK K hb5
          try simp only [Act.put, List.getElem_toArray, List.getElem_cons_succ, List.getElem_cons_zero, List.setIfInBounds_toArray, List.set_cons_zero, List.set_cons_succ]
          refine wpAnyH_ready (rs := [10]) (by kernel_rfl) (by simp) ?_
          refine AllReadyH.cons rfl (fun K hK => ?_) AllReadyH.nil
          have c0 := u1.c3
          have f0 := u1.free 3
          go_simp
          replace on := on.setCell 3 none (.string t)
          replace u1 := u1.set3 t
          refine hK.out _ _ ⟨_, _, _, u1⟩ (fun _ => ?_)
          clear hK K c0 f0
          try simp only [Act.put, List.getElem_toArray, List.getElem_cons_succ, List.getElem_cons_zero, List.setIfInBounds_toArray, List.set_cons_zero, List.set_cons_succ]
          refine wpAnyH_take (i := 11) (v := .pointer (some ⟨wr.heap.size, 4, none⟩)) rfl (by kernel_rfl) (by kernel_rfl) (by kernel_rfl) (fun _ _ _ h => h) (Or.inl ⟨by rfl, fun W _ => by go_simp⟩) ⟨_, _, _, u1⟩ ?_
          try simp only [Act.put, List.getElem_toArray, List.getElem_cons_succ, List.getElem_cons_zero, List.setIfInBounds_toArray, List.set_cons_zero, List.set_cons_succ]
          refine wpAnyH_ready (rs := [12]) (by kernel_rfl) (by simp) ?_
          refine AllReadyH.cons rfl (fun K hK => ?_) AllReadyH.nil
          have c0 := u1.c4
          have f0 := u1.free 4
          go_simp
          replace on := on.setCell 4 none (.string x)
          replace u1 := u1.set4 x
          refine hK.out _ _ ⟨_, _, _, u1⟩ (fun _ => ?_)
          clear hK K c0 f0
          try simp only [Act.put, List.getElem_toArray, List.getElem_cons_succ, List.getElem_cons_zero, List.setIfInBounds_toArray, List.set_cons_zero, List.set_cons_succ]
          refine wpAnyH_take (i := 13) (v := .pointer (some ⟨wr.heap.size, 5, none⟩)) rfl (by kernel_rfl) (by kernel_rfl) (by kernel_rfl) (fun _ _ _ h => h) (Or.inl ⟨by rfl, fun W _ => by go_simp⟩) ⟨_, _, _, u1⟩ ?_
          try simp only [Act.put, List.getElem_toArray, List.getElem_cons_succ, List.getElem_cons_zero, List.setIfInBounds_toArray, List.set_cons_zero, List.set_cons_succ]
          refine wpAnyH_ready (rs := [14]) (by kernel_rfl) (by simp) ?_
          refine AllReadyH.cons rfl (fun K hK => ?_) AllReadyH.nil
          have c0 := u1.c5
          have f0 := u1.free 5
          go_simp
          replace on := on.setCell 5 none (.slice p5 q.length c5)
          replace u1 := u1.set5 p5 q.length c5
          refine hK.out _ _ ⟨_, _, _, u1⟩ (fun _ => ?_)
          clear hK K c0 f0
          try simp only [Act.put, List.getElem_toArray, List.getElem_cons_succ, List.getElem_cons_zero, List.setIfInBounds_toArray, List.set_cons_zero, List.set_cons_succ]
          refine wpAnyH_done (by kernel_rfl) ?_ _
          have bf0 := below_only bw on (Nat.le_refl _) bw.size
          have hq0 := HQ.out.stays (P' := fun g => wr.heap.size < g ∧ g < (((w5.setCell ⟨wr.heap.size, 3, none⟩ (.string t)).setCell ⟨wr.heap.size, 4, none⟩ (.string x)).setCell ⟨wr.heap.size, 5, none⟩ (.slice p5 q.length c5)).heap.size) (fun g hg => ⟨⟨hg.1, Nat.lt_of_lt_of_le hg.2 on.size⟩, on.block g hg.2 (by have := hg.1; omega)⟩) q
          generalize (((w5.setCell ⟨wr.heap.size, 3, none⟩ (.string t)).setCell ⟨wr.heap.size, 4, none⟩ (.string x)).setCell ⟨wr.heap.size, 5, none⟩ (.slice p5 q.length c5)) = wX at on u1 bf0 hq0 ⊢
          clear on bw HQ
          obtain ⟨⟨xs, hown, hcs⟩, hbel⟩ := HA.out
          have hjl : (l.take j).length = j := by rw [List.length_take]; omega
          have hownX := own_below hown bf0
          have hbs := hbel.size
          have hfs := bf0.size
          have HX := Lib.hid (And.intro hown (And.intro hcs (And.intro hbel (And.intro bf0 hq0))))
          clear hown hcs hbel bf0 hq0 HA
          go_wp2_with (first
            | ((with_reducible refine wpList_load6 (.tmp 5) wr.heap.size u1 ?_ ?_ ?_ ?_); rfl; rfl; rfl)
            | (at_builtin; refine wpList_append_own_at _ rfl _ _ 22 rfl w.heap.size 28 i0 (.agg #[.int .i64 0, .bool false, .int .i64 0, .string ⟨#[]⟩, .string ⟨#[]⟩, .slice none 0 0]) 6 80 Tryz.underlying22 hi hz0 hz1 hz2 rfl (by decide) _ _ _ rfl (hownX.alloc _) ⟨wX.heap.size, 0, none⟩ 1 1 [.int .i64 k, .bool b, .int .i64 m, .string t, .string x, .slice p5 q.length c5] rfl rfl (cell_six_new _ _ _ _ _ _ _ _) ?_ ?_ ?_ ?_ ?_))
          all_goals (try (first | (rw [hjl]; unfold maxLen; omega) | (rw [hjl]; omega) | (simp; omega) | (intro u hu; simp only [List.mem_cons, List.mem_nil_iff, or_false] at hu; rcases hu with rfl | rfl | rfl | rfl | rfl | rfl <;> rfl)))
          intro v' w1 hown' hgrow _ hloc
          have acc := Acc.next (k := k) (b := b) (n := m) (t := t) (x := x) (q := q) rfl HX.out.1 HX.out.2.1 HX.out.2.2.1 HX.out.2.2.2.1 HF.out HX.out.2.2.2.2 (by rw [hjl]; exact hown') hgrow hloc
          have e : l.take (j + 1) = l.take j ++ [.mk k b m t x q] := by rw [List.take_succ_eq_append_getElem hj1, HV.out]
          rw [← e] at acc
          have ACC := Lib.hid acc
          clear acc hown' hgrow hloc hownX
          go_wp2_with fail
          go_roundg (gk - 1)
          case measure => omega
          case rel => exact ⟨j + 1, by omega, by go_num, ACC⟩
      · skip
        have c5 := u1.c5
        go_simp
        refine hK.out _ _ ⟨_, _, _, u1⟩ (fun _ => ?_)
        clear hK K c5
        try simp only [Act.put, List.getElem_toArray, List.getElem_cons_succ, List.getElem_cons_zero, List.setIfInBounds_toArray, List.set_cons_zero, List.set_cons_succ]
        refine wpAnyH_ready (rs := [2]) (by kernel_rfl) (by simp) ?_
        refine AllReadyH.cons rfl (fun K hK => ?_) AllReadyH.nil
        rw [if_pos (by rfl)]
        go_simp
        refine (HCL.out _).mono ?_
        rintro e0 w3 ⟨rfl, hb3⟩
        replace u1 := u1.below hb3
        replace bw := below_any bw hb3 bw.size
        refine hK.out _ _ ⟨_, _, _, u1⟩ (fun _ => ?_)
        clear hK K hb3
        try simp only [Act.put, List.getElem_toArray, List.getElem_cons_succ, List.getElem_cons_zero, List.setIfInBounds_toArray, List.set_cons_zero, List.set_cons_succ]
        refine wpAnyH_take (i := 9) (v := .pointer (some ⟨wr.heap.size, 3, none⟩)) rfl (by kernel_rfl) (by kernel_rfl) (by kernel_rfl) (fun _ _ _ h => h) (Or.inl ⟨by rfl, fun W _ => by go_simp⟩) ⟨_, _, _, u1⟩ ?_
        try simp only [Act.put, List.getElem_toArray, List.getElem_cons_succ, List.getElem_cons_zero, List.setIfInBounds_toArray, List.set_cons_zero, List.set_cons_succ]
        refine wpAnyH_ready (rs := [5]) (by kernel_rfl) (by simp) ?_
        refine AllReadyH.cons rfl (fun K hK => ?_) AllReadyH.nil
        rw [if_pos (by rfl)]
        go_simp
        refine (HCX.out _).mono ?_
        rintro e0 w3 ⟨rfl, hb3⟩
        replace u1 := u1.below hb3
        replace bw := below_any bw hb3 bw.size
        refine hK.out _ _ ⟨_, _, _, u1⟩ (fun _ => ?_)
        clear hK K hb3
        try simp only [Act.put, List.getElem_toArray, List.getElem_cons_succ, List.getElem_cons_zero, List.setIfInBounds_toArray, List.set_cons_zero, List.set_cons_succ]
        refine wpAnyH_ready (rs := [8]) (by kernel_rfl) (by simp) ?_
        refine AllReadyH.cons rfl (fun K hK => ?_) AllReadyH.nil
        rw [if_pos (by rfl)]
        go_simp
        refine (HCP.out _ bw).mono ?_
        rintro e0 w5 ⟨V, ys, rfl, hv, hcs, hb5⟩
        have hlt5 := u1.lt
        have hq5 : HeldF w5 (fun g => wr.heap.size < g ∧ g < w5.heap.size) V q := heldF_of_own hv hcs (fun g hg => ⟨by have := hg.1; omega, hg.2.1⟩) (fun g hg => ⟨by have := (hv.lt g hg).1; omega, (hv.lt g hg).2⟩)
        obtain ⟨p5, c5, rfl⟩ := held_slice hq5.held
        replace u1 := u1.below hb5
        replace bw := below_any bw hb5 bw.size
        have HQ := Lib.hid hq5
        clear hq5 hv hcs hlt5
        have on : Only wr.heap.size w5 w5 := Only.refl _ _
        refine hK.out _ _ ⟨_, _, _, u1⟩ (fun _ => ?_)
        clear hK K hb5
        try simp only [Act.put, List.getElem_toArray, List.getElem_cons_succ, List.getElem_cons_zero, List.setIfInBounds_toArray, List.set_cons_zero, List.set_cons_succ]
        refine wpAnyH_ready (rs := [10]) (by kernel_rfl) (by simp) ?_
        refine AllReadyH.cons rfl (fun K hK => ?_) AllReadyH.nil
        have c0 := u1.c3
        have f0 := u1.free 3
        go_simp
        replace on := on.setCell 3 none (.string t)
        replace u1 := u1.set3 t
        refine hK.out _ _ ⟨_, _, _, u1⟩ (fun _ => ?_)
        clear hK K c0 f0
        try simp only [Act.put, List.getElem_toArray, List.getElem_cons_succ, List.getElem_cons_zero, List.setIfInBounds_toArray, List.set_cons_zero, List.set_cons_succ]
        refine wpAnyH_take (i := 11) (v := .pointer (some ⟨wr.heap.size, 4, none⟩)) rfl (by kernel_rfl) (by kernel_rfl) (by kernel_rfl) (fun _ _ _ h => h) (Or.inl ⟨by rfl, fun W _ => by go_simp⟩) ⟨_, _, _, u1⟩ ?_
        try simp only [Act.put, List.getElem_toArray, List.getElem_cons_succ, List.getElem_cons_zero, List.setIfInBounds_toArray, List.set_cons_zero, List.set_cons_succ]
        refine wpAnyH_ready (rs := [12]) (by kernel_rfl) (by simp) ?_
        refine AllReadyH.cons rfl (fun K hK => ?_) AllReadyH.nil
        have c0 := u1.c4
        have f0 := u1.free 4
        go_simp
        replace on := on.setCell 4 none (.string x)
        replace u1 := u1.set4 x
        refine hK.out _ _ ⟨_, _, _, u1⟩ (fun _ => ?_)
        clear hK K c0 f0
        try simp only [Act.put, List.getElem_toArray, List.getElem_cons_succ, List.getElem_cons_zero, List.setIfInBounds_toArray, List.set_cons_zero, List.set_cons_succ]
        refine wpAnyH_take (i := 13) (v := .pointer (some ⟨wr.heap.size, 5, none⟩)) rfl (by kernel_rfl) (by kernel_rfl) (by kernel_rfl) (fun _ _ _ h => h) (Or.inl ⟨by rfl, fun W _ => by go_simp⟩) ⟨_, _, _, u1⟩ ?_
        try simp only [Act.put, List.getElem_toArray, List.getElem_cons_succ, List.getElem_cons_zero, List.setIfInBounds_toArray, List.set_cons_zero, List.set_cons_succ]
        refine wpAnyH_ready (rs := [14]) (by kernel_rfl) (by simp) ?_
        refine AllReadyH.cons rfl (fun K hK => ?_) AllReadyH.nil
        have c0 := u1.c5
        have f0 := u1.free 5
        go_simp
        replace on := on.setCell 5 none (.slice p5 q.length c5)
        replace u1 := u1.set5 p5 q.length c5
        refine hK.out _ _ ⟨_, _, _, u1⟩ (fun _ => ?_)
        clear hK K c0 f0
        try simp only [Act.put, List.getElem_toArray, List.getElem_cons_succ, List.getElem_cons_zero, List.setIfInBounds_toArray, List.set_cons_zero, List.set_cons_succ]
        refine wpAnyH_done (by kernel_rfl) ?_ _
        have bf0 := below_only bw on (Nat.le_refl _) bw.size
        have hq0 := HQ.out.stays (P' := fun g => wr.heap.size < g ∧ g < (((w5.setCell ⟨wr.heap.size, 3, none⟩ (.string t)).setCell ⟨wr.heap.size, 4, none⟩ (.string x)).setCell ⟨wr.heap.size, 5, none⟩ (.slice p5 q.length c5)).heap.size) (fun g hg => ⟨⟨hg.1, Nat.lt_of_lt_of_le hg.2 on.size⟩, on.block g hg.2 (by have := hg.1; omega)⟩) q
        generalize (((w5.setCell ⟨wr.heap.size, 3, none⟩ (.string t)).setCell ⟨wr.heap.size, 4, none⟩ (.string x)).setCell ⟨wr.heap.size, 5, none⟩ (.slice p5 q.length c5)) = wX at on u1 bf0 hq0 ⊢
        clear on bw HQ
        obtain ⟨⟨xs, hown, hcs⟩, hbel⟩ := HA.out
        have hjl : (l.take j).length = j := by rw [List.length_take]; omega
        have hownX := own_below hown bf0
        have hbs := hbel.size
        have hfs := bf0.size
        have HX := Lib.hid (And.intro hown (And.intro hcs (And.intro hbel (And.intro bf0 hq0))))
        clear hown hcs hbel bf0 hq0 HA
        go_wp2_with (first
          | ((with_reducible refine wpList_load6 (.tmp 5) wr.heap.size u1 ?_ ?_ ?_ ?_); rfl; rfl; rfl)
          | (at_builtin; refine wpList_append_own_at _ rfl _ _ 22 rfl w.heap.size 28 i0 (.agg #[.int .i64 0, .bool false, .int .i64 0, .string ⟨#[]⟩, .string ⟨#[]⟩, .slice none 0 0]) 6 80 Tryz.underlying22 hi hz0 hz1 hz2 rfl (by decide) _ _ _ rfl (hownX.alloc _) ⟨wX.heap.size, 0, none⟩ 1 1 [.int .i64 k, .bool b, .int .i64 m, .string t, .string x, .slice p5 q.length c5] rfl rfl (cell_six_new _ _ _ _ _ _ _ _) ?_ ?_ ?_ ?_ ?_))
        all_goals (try (first | (rw [hjl]; unfold maxLen; omega) | (rw [hjl]; omega) | (simp; omega) | (intro u hu; simp only [List.mem_cons, List.mem_nil_iff, or_false] at hu; rcases hu with rfl | rfl | rfl | rfl | rfl | rfl <;> rfl)))
        intro v' w1 hown' hgrow _ hloc
        have acc := Acc.next (k := k) (b := b) (n := m) (t := t) (x := x) (q := q) rfl HX.out.1 HX.out.2.1 HX.out.2.2.1 HX.out.2.2.2.1 HF.out HX.out.2.2.2.2 (by rw [hjl]; exact hown') hgrow hloc
        have e : l.take (j + 1) = l.take j ++ [.mk k b m t x q] := by rw [List.take_succ_eq_append_getElem hj1, HV.out]
        rw [← e] at acc
        have ACC := Lib.hid acc
        clear acc hown' hgrow hloc hownX
        go_wp2_with fail
        go_roundg (gk - 1)
        case measure => omega
        case rel => exact ⟨j + 1, by omega, by go_num, ACC⟩
    · have e : l.take j = l := by rw [List.take_of_length_le]; have := HL.out; omega
      have hA := HA.out
      rw [e] at hA
      obtain ⟨⟨xs, hown, hcs⟩, hbel⟩ := hA
      have HX := Lib.hid (And.intro hown (And.intro hcs hbel))
      clear hown hcs hbel HA
      go_wp2_with fail
      go_ret
      exact ⟨_, xs, rfl, HX.out.1, HX.out.2.1, HX.out.2.2⟩

theorem copy_list (q : List Val) (p : Option Addr) (cap : Nat) (w : World) (hl : Held w (.slice p q.length cap) q) (hn : q.length ≤ 2097152) (each : ∀ u ∈ q, CopyV u) :
    Calls Tryz.prog 133 #[.slice p q.length cap] w (CopyPost w q) := by
  cases q with
  | nil =>
    go_enter Tryz.func133, Tryz.ntmps133
    go_wp2_with fail
    go_loopg [3, 8] 0 (fun gg s3 s8 wr => gg = 0 ∧ s3 = .slice none 0 0 ∧ s8 = .int .i64 0 ∧ wr = w)
    case atStart => exact ⟨rfl, rfl, rfl, rfl⟩
    case round =>
      obtain ⟨_, rfl, rfl, rfl⟩ := hrel
      go_wp2_with fail
      go_ret
      exact ⟨_, [], rfl, World.ownsRow_nil _ _ _ _, by unfold CellsF; rfl, Below.refl _ _⟩
  | cons v r =>
    obtain ⟨g, off, rfl, hh⟩ := hl.form
    exact copySome (v :: r) g off cap w hh hn each
mutual
theorem copyVal : (v : Val) → CopyV v
  | .mk k b n t x q => fun W k1 b1 n1 t1 x1 q1 p cap e hn hl => by
    cases e
    exact copy_list q p cap W hl hn (copyEach q)
theorem copyEach : (q : List Val) → ∀ u ∈ q, CopyV u
  | [], _, h => absurd h (by simp)
  | v :: r, u, h => by
    rcases List.mem_cons.1 h with h | h
    · rw [h]; exact copyVal v
    · exact copyEach r u h
end
theorem copyAt (q : List Val) (p : Option Addr) (cap : Nat) (w : World) (hl : Held w (.slice p q.length cap) q) (hn : q.length ≤ 2097152) : Calls Tryz.prog 133 #[.slice p q.length cap] w (CopyPost w q) :=
  copy_list q p cap w hl hn (copyEach q)
end Go.Proofs.YtoifjjgakblhhaaGreatDoor

/- Two lists, one behind the other: joinLists. -/
namespace Go.Proofs.YtoifjjgakblhhaaGreatDoor
open Go.RowKit

theorem results_six_tmp {fn : Func} {p q : Tmp} (h : fn.results = #[.cell p 28, .tmp q]) (tmps : Array Value) {w : World} {g : Nat} {k : Int} {b : Bool} {n : Int} {t x : ByteArray} {pp : Option Addr} {len cap : Nat} (v : Value)
    (hp : tmps.getD p undef = .pointer (some ⟨g, 0, none⟩)) (hq : tmps.getD q undef = v) (hg : Six w g k b n t x pp len cap) : (results fn tmps).run Tryz.prog w = .ok (.tuple #[.agg #[.int .i64 k, .bool b, .int .i64 n, .string t, .string x, .slice pp len cap], v]) w := by
  have hp' : tmps[p]?.getD undef = .pointer (some ⟨g, 0, none⟩) := by simpa using hp
  have hq' : tmps[q]?.getD undef = v := by simpa using hq
  have hl := run_loadVar_row (P := Tryz.prog) w g 28 28 _ (0, 0) _ hg Tryz.underlying28 rfl info28
  simp [results, h, hp', hq', asAddr, hl]
/-- What joinLists tells. -/
def JoinPost (w : World) (la lb : List Val) (e : Ending) (w' : World) : Prop := ∃ p c, e = .returned (.tuple #[.agg #[.int .i64 5, .bool false, .int .i64 0, .string ⟨#[]⟩, .string ⟨#[]⟩, .slice p (la.length + lb.length) c], .int .i64 0]) ∧
  HeldF w' (fun g => w.heap.size ≤ g ∧ g < w'.heap.size) (.slice p (la.length + lb.length) c) (la ++ lb) ∧ Below w.heap.size w w'
theorem joinHeld {w W0 w1 w2 w3 : World} {la lb : List Val} {V1 V2 V3 : Value} {xs1 xs2 : List Value} (z0 : W0.heap.size = w.heap.size + 1) (hb1 : Below W0.heap.size W0 w1) (hb2 : Below w1.heap.size w1 w2)
    (hv1 : w1.ownsRow W0.heap.size 28 6 V1 la.length xs1) (hc1 : CellsF w1 (fun g => W0.heap.size ≤ g ∧ g < w1.heap.size ∧ V1.ownBlock ≠ some g) xs1 la)
    (hc2 : CellsF w2 (fun g => w1.heap.size ≤ g ∧ g < w2.heap.size ∧ V2.ownBlock ≠ some g) xs2 lb)
    (hown : w3.ownsRow W0.heap.size 28 6 V3 (la.length + lb.length) (xs1 ++ xs2)) (hgrow : w2.grownBy w3 V1.ownBlock) :
    HeldF w3 (fun g => w.heap.size < g ∧ g < w3.heap.size) V3 (la ++ lb) := by
  have s1 := hb1.size
  have s2 := hb2.size
  have s3 : w2.heap.size ≤ w3.heap.size := hgrow.size
  refine heldF_of_own (P := fun g => w.heap.size < g ∧ g < w3.heap.size) (by rw [List.length_append]; exact hown) (CellsF.append la lb (hc1.stays (fun g hg => ⟨⟨by omega, by omega⟩, ?_⟩) la) (hc2.stays (fun g hg => ⟨⟨by omega, by omega⟩, ?_⟩) lb)) (fun _ h => h) (fun g hg => ⟨by have := (hown.lt g hg).1; omega, (hown.lt g hg).2⟩)
  · exact (hgrow.block g (by omega) (fun h => hg.2.2 h.symm)).trans (hb2.block g hg.2.1)
  · exact hgrow.block g hg.2.1 (fun h => by have := (hv1.lt g h.symm).2; omega)

set_option maxRecDepth 20000 in
set_option maxHeartbeats 6400000 in
theorem joinAt (la lb : List Val) (p : Option Addr) (cap : Nat) (p2 : Option Addr) (cap2 : Nat) (w : World) (hl : Held w (.slice p la.length cap) la) (hl2 : Held w (.slice p2 lb.length cap2) lb) (hs : la.length + lb.length ≤ 4096) :
    Calls Tryz.prog 100 #[.slice p la.length cap, .slice p2 lb.length cap2] w (JoinPost w la lb) := by
  obtain ⟨W0, hW0⟩ : ∃ W0, W0 = w.alloc (.cells #[.int .i64 0, .bool false, .int .i64 0, .string ⟨#[]⟩, .string ⟨#[]⟩, .slice none 0 0] 28) := ⟨_, rfl⟩
  obtain ⟨i0, hi, hz0, hz1, hz2⟩ := info_parts info28b
  have S8 : Six W0 w.heap.size 0 false 0 ⟨#[]⟩ ⟨#[]⟩ none 0 0 := by rw [hW0]; exact six_new _ rfl
  have b0 : Below w.heap.size w W0 := by rw [hW0]; exact below1 _ _
  have z0 : W0.heap.size = w.heap.size + 1 := by rw [hW0]; simp
  have hca := copyAt la p cap W0 (Held.below la hl b0) (by omega)
  have hcb := fun W (h : Below w.heap.size w W) => copyAt lb p2 cap2 W (Held.below lb hl2 h) (by omega)
  have H0 := Lib.hid hW0
  have HB := Lib.hid hcb
  have HZ := Lib.hid z0
  clear hl hl2 hW0 hcb z0
  go_enter Tryz.func100, Tryz.ntmps100
  go_wp2_with (first
    | (go_at_call 133; rw [← H0.out]; (with_reducible refine hca.mono ?_); rintro e w1 ⟨V1, xs1, rfl, hv1, hc1, hb1⟩; have b1 := below_any b0 hb1 b0.size; have s1 := hb1.size; have S81 := S8.below hb1))
  go_at_call 133
  with_reducible refine (HB.out _ b1).mono ?_
  rintro e w2 ⟨V2, xs2, rfl, hv2, hc2, hb2⟩
  have b2 := below_any b1 hb2 b1.size
  have s2 := hb2.size
  have S82 := S81.below hb2
  have hv12 := own_below hv1 hb2
  have HV2 := Lib.hid hv2
  have HX := Lib.hid (And.intro hb1 (And.intro hb2 (And.intro hv1 (And.intro hc1 (And.intro hc2 b2)))))
  rcases hv2.2 with ⟨rfl, hn0⟩ | ⟨g2, cp2, cur, rfl, hr2⟩
  · obtain rfl := List.length_eq_zero_iff.1 hn0
    have hcells : xs2 = [] := by have := hv2.1; rw [hn0] at this; simpa using this
    subst hcells
    have hh0 := joinHeld (V3 := V1) (w3 := w2) HZ.out HX.out.1 HX.out.2.1 HX.out.2.2.1 HX.out.2.2.2.1 HX.out.2.2.2.2.1 (by simpa using hv12) ⟨rfl, rfl, rfl, Nat.le_refl _, fun _ _ _ => rfl⟩
    have hh : HeldF w2 (fun g => w.heap.size < g ∧ g < w2.heap.size) V1 la := by simpa using hh0
    clear hh0
    obtain ⟨p3, c3, rfl⟩ := held_slice hh.held
    have HH := Lib.hid hh
    have HV := Lib.hid hv12
    clear hh hv2 hv1 hc1 hc2 hb1 hb2 b2 S81
    have hv12 := HV.out
    go_wp2_with (first
      | (at_builtin; refine wpList_append_own_none rfl _ _ 22 rfl W0.heap.size 28 i0 6 Tryz.underlying22 hi _ _ _ rfl hv12 rfl ?_)
      | ((with_reducible refine wpList_store6 (k' := 5) (b' := false) (n' := 0) (t' := ⟨#[]⟩) (x' := ⟨#[]⟩) (p' := p3) (len' := la.length) (cap' := c3) (.tmp 4) (.tmp 18) w.heap.size S82 ?_ ?_ ?_ ?_ ?_); rfl; rfl; rfl; rfl; intro w9 on9 S9))
    have s9 := on9.size
    refine bodyPost_ret (results_six_tmp (p := 4) (q := 5) Tryz.results100 _ (.int .i64 0) rfl rfl S9) rfl ⟨p3, c3, ?_, ?_, below_only HX.out.2.2.2.2.2 on9 (Nat.le_refl _) HX.out.2.2.2.2.2.size⟩
    · rfl
    · have hq := HH.out.stays (P' := fun g => w.heap.size ≤ g ∧ g < w9.heap.size) (fun g hg => ⟨⟨by omega, by omega⟩, on9.block g hg.2 (by omega)⟩) la
      simpa using hq
  · have hnews := HV2.out.cells (g := g2) rfl
    have hl2 := hv2.1
    have h1c := CellsF.cells1 lb hc2
    clear hv2 hv1 hc1 hc2 hb1 hb2 S81 hr2
    go_wp2_with (first
      | (at_builtin; refine wpList_append_own_at _ rfl _ _ 22 rfl W0.heap.size 28 i0 (.agg #[.int .i64 0, .bool false, .int .i64 0, .string ⟨#[]⟩, .string ⟨#[]⟩, .slice none 0 0]) 6 80 Tryz.underlying22 hi hz0 hz1 hz2 rfl (by decide) _ _ _ rfl hv12 ⟨g2, 0, none⟩ lb.length cp2 xs2 rfl hl2 hnews h1c ?_ ?_ ?_ ?_))
    all_goals (try (first | (unfold maxLen; omega) | omega))
    intro V3 w3 hown3 hgrow _ _
    have hh := joinHeld HZ.out HX.out.1 HX.out.2.1 HX.out.2.2.1 HX.out.2.2.2.1 HX.out.2.2.2.2.1 hown3 hgrow
    obtain ⟨p3, c3, e3⟩ := held_slice hh.held
    rw [List.length_append] at e3
    subst e3
    have S83 : Six w3 w.heap.size 0 false 0 ⟨#[]⟩ ⟨#[]⟩ none 0 0 := (hgrow.block _ S82.lt (fun h => by have := (HX.out.2.2.1.lt _ h.symm).1; have := HZ.out; omega)).trans S82
    have b3 := b2.grown hgrow b2.size (fun k hk => by have := (HX.out.2.2.1.lt k hk).1; have := HZ.out; omega)
    have HH := Lib.hid hh
    have B3 := Lib.hid b3
    clear hh hown3 hgrow hnews hl2 h1c hv12 b2 b3
    go_wp2_with (first
      | ((with_reducible refine wpList_store6 (k' := 5) (b' := false) (n' := 0) (t' := ⟨#[]⟩) (x' := ⟨#[]⟩) (p' := p3) (len' := la.length + lb.length) (cap' := c3) (.tmp 4) (.tmp 18) w.heap.size S83 ?_ ?_ ?_ ?_ ?_); rfl; rfl; rfl; rfl; intro w9 on9 S9))
    have s9 := on9.size
    refine bodyPost_ret (results_six_tmp (p := 4) (q := 5) Tryz.results100 _ (.int .i64 0) rfl rfl S9) rfl ⟨p3, c3, ?_, ?_, below_only B3.out on9 (Nat.le_refl _) B3.out.size⟩
    · rfl
    · have hq := HH.out.stays (P' := fun g => w.heap.size ≤ g ∧ g < w9.heap.size) (fun g hg => ⟨⟨by omega, by omega⟩, on9.block g hg.2 (by omega)⟩) (la ++ lb)
      exact hq
end Go.Proofs.YtoifjjgakblhhaaGreatDoor

/- How a number is encoded: so many bytes, the highest first. -/
namespace Go.Proofs.YtoifjjgakblhhaaGreatDoor
open Go.RowKit

set_option maxRecDepth 20000 in
set_option maxHeartbeats 3200000 in
theorem encodeIntAt (w0 w : World) (A : Value) (l : List UInt8) (n : Int) (k : Nat) (hk : k ≤ 8) (h0 : 0 ≤ n) (h1 : n < 18446744073709551616) (h : OwnB w0 A l w) (hl : l.length ≤ 1000000000) :
    Calls Tryz.prog 107 #[A, .int .u64 n, .int .i64 k] w fun e w' => ∃ A', e = .returned A' ∧ OwnB w0 A' (l ++ beB n k) w' ∧ Bx w w' := by
  obtain ⟨i0, hi, hz0, hz1, hz2⟩ := info_parts info5
  go_enter Tryz.func107, Tryz.ntmps107
  go_wp2_with fail
  go_loopg [0, 7] k (fun gg s0 s7 wr => ∃ L : List UInt8, s7 = .int .i64 ((gg : Int) - 1) ∧ OwnB w0 s0 L wr ∧ gg ≤ 8 ∧ L.length + gg ≤ 1000000008 ∧ Hid (L ++ beB n gg = l ++ beB n k) ∧ Hid (Bx w wr))
  case atStart => exact ⟨l, rfl, h, hk, by omega, Lib.hid rfl, Lib.hid (Bx.refl _)⟩
  case round =>
    clear h
    obtain ⟨L, rfl, O, hg, hL, HE, HB⟩ := hrel
    cases gk with
    | zero =>
      have HE2 := HE.out
      have e0 : L = l ++ beB n k := by simpa [beB] using HE2
      subst e0
      have HO := Lib.hid O
      clear O HE HE2
      go_wp2_with fail
      go_ret
      exact ⟨_, rfl, HO.out, HB.out⟩
    | succ i =>
      have hown := O.own
      have hlo := O.lo
      have e1 : ((i + 1 : Nat) : Int) - 1 = i := by omega
      rw [e1]
      go_wp2_with (at_builtin; refine wpList_append_own _ rfl _ _ 40 rfl w0.heap.size 5 i0 (.int .u8 0) 1 1 Tryz.underlying40 hi hz0 hz1 hz2 rfl (by decide) _ _ _ rfl (hown.alloc _) ⟨wr.heap.size, 0, none⟩ 1 1 [_] rfl rfl (cell_one_new _ _ _) ?_ ?_ ?_ ?_ ?_)
      all_goals (try (first | rfl | (unfold maxLen; omega) | omega | (simp; omega) | (intro u hu; simp at hu; subst hu; rfl)))
      intro v' w1 hown' hgrow _
      have O2 := (O.alloc _).say (l' := L ++ [byteOf n i]) hown' hgrow (by simp) (by rw [vals_append, vals_one _ (byteOf_int n i)])
      have HB2 := Lib.hid ((HB.out.trans (Bx.below (below1 _ _))).trans ((O.alloc _).bx hgrow))
      have HO := Lib.hid O2
      have HE2 : Hid ((L ++ [byteOf n i]) ++ beB n i = l ++ beB n k) := Lib.hid (by rw [← HE.out]; simp [beB])
      have hL2 : (L ++ [byteOf n i]).length + i ≤ 1000000008 := by simp; omega
      clear hown hown' hgrow O O2 HE hL HB
      go_wp2_with fail
      go_roundg i
      case measure => omega
      case rel => exact ⟨L ++ [byteOf n i], rfl, HO.out, by omega, hL2, HE2, HB2⟩

/-- A text, its length ahead. -/
theorem textLen (t : ByteArray) (ht : t.size ≤ 2097152) : (0 : Int) ≤ t.size ∧ (t.size : Int) < 18446744073709551616 := by omega
set_option maxRecDepth 20000 in
set_option maxHeartbeats 3200000 in
theorem encodeTextAt (w0 w : World) (A : Value) (l : List UInt8) (t : ByteArray) (ht : t.size ≤ 2097152) (h : OwnB w0 A l w) (hl : l.length ≤ 900000000) :
    Calls Tryz.prog 108 #[A, .string t] w fun e w' => ∃ A', e = .returned A' ∧ OwnB w0 A' (l ++ lenB t) w' ∧ Bx w w' := by
  obtain ⟨i0, hi, hz0, hz1, hz2⟩ := info_parts info5
  obtain ⟨n, hn⟩ : ∃ n, n = t.size := ⟨_, rfl⟩
  have hc : Calls Tryz.prog 107 #[A, .int .u64 t.size, .int .i64 4] w fun e w' => ∃ A', e = .returned A' ∧ OwnB w0 A' (l ++ beB t.size 4) w' ∧ Bx w w' := encodeIntAt w0 w A l (t.size : Int) 4 (by omega) (textLen t ht).1 (textLen t ht).2 h (by omega)
  have HC := Lib.hid hc
  clear h hc
  go_enter Tryz.func108, Tryz.ntmps108
  go_wp2_with (first
    | (go_at_call 107; (with_reducible refine HC.out.mono ?_); rintro e w1 ⟨v1, rfl, O, hbx⟩; have hown := O.own; have hlo := O.lo)
    | (at_builtin; refine Lib.wpList_append_own_string _ rfl _ _ 40 9 rfl w0.heap.size 5 i0 Tryz.underlying40 Tryz.underlying9 hi hz0 hz1 hz2 _ _ _ rfl hown t rfl ?_ ?_ hlo ?_))
  all_goals (try (first | rfl | (rw [List.length_append, beB_length]; unfold maxLen; omega) | (rw [List.length_append, beB_length]; omega)))
  intro v' w2 hown' hgrow _
  have O2 := O.say (l' := l ++ lenB t) hown' hgrow (by simp only [lenB, List.length_append, txtB_length]; omega) (by unfold lenB; rw [← List.append_assoc, vals_append (b := txtB t)]; rfl)
  have HB := Lib.hid (hbx.trans (O.bx hgrow))
  have HO := Lib.hid O2
  clear hown hown' hgrow O O2 hbx
  go_wp2_with fail
  go_ret
  exact ⟨_, rfl, HO.out, HB.out⟩
end Go.Proofs.YtoifjjgakblhhaaGreatDoor
