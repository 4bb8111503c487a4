/- Texts of one kind, one behind the other: each says ahead of itself what it shows. -/
import Derived.Test.YtoifjjgakblhhaaGreatDoorHbf
import Derived.Test.YtoifjjgakblhhaaGreatDoorHaq
import Derived.Test.YtoifjjgakblhhaaGreatDoorHbc
import Derived.Test.YtoifjjgakblhhaaGreatDoorHba
/- The document's own reader: lists, values in one another. -/
namespace Go.Proofs.YtoifjjgakblhhaaGreatDoor
open Go.RowKit

theorem wp_append_own_at {P : Program} {w : World} {o : Oper} {a : Act} {K : Act → World → Prop} {Q : Exit → Act → World → Prop} (s x : Operand) (t : TypeId)
    (ho : o.op = .call { callee := .builtin .append, args := #[s, x], argTypes := #[t, t] })
    (base : Nat) (e : TypeId) (i : TypeInfo) (z : Value) (size bytes : Nat) (ht : P.underlying t = some (.slice e)) (hi : P.info? e = some i) (hz : i.zero = some z)
    (hsize : i.size = size) (hby : i.bytes = bytes) (hzs : z.cells.size = size) (hsz : 0 < size)
    (v : Value) (n : Nat) (xs : List Value) (hs : a.eval s = v) (hown : w.ownsRow base e size v n xs)
    (ad : Addr) (m c : Nat) (news : List Value) (hx : a.eval x = .slice (some ad) m c) (hl : news.length = m * size) (hnews : ∀ j u, news[j]? = some u → w.cell? (ad.add j) = some u) (h1 : ∀ u ∈ news, u.oneCell' = true)
    (h63 : n + m ≤ maxLen) (hbytes : (n + m) * bytes ≤ 140737488355328) (hbase : base ≤ w.heap.size)
    (h : ∀ v' w', w'.ownsRow base e size v' (n + m) (xs ++ news) → w.grownBy w' v.ownBlock → (v'.ownBlock = v.ownBlock ∨ v'.ownBlock = some w.heap.size) → K (a.put o.dst v') w') : o.wp P a w K Q := by
  obtain ⟨v', w', hr, h2, h3, h4, h5⟩ := run_append_own_at (P := P) w base t o.type e i z size bytes ht hi hz hsize hby hzs hsz v n xs hown ad m c news hl hnews h1 h63 hbytes hbase
  unfold Oper.wp execOp
  simp only [ho, resolve, invoke, builtin, Sem.run_bind, Sem.run_pure, Result.andThen_ok, List.map_toArray, List.map_cons, List.map_nil, hs, hx, hr]
  exact h v' w' h2 h3 h5
/-- The row of values read so far, above the box. -/
def AccZ (B : Nat) (q : List Val) (A : Value) (wr : World) : Prop := ∃ xs, wr.ownsRow (B + 1) 28 6 A q.length xs ∧ CellsF wr (fun g => B < g ∧ g < wr.heap.size ∧ A.ownBlock ≠ some g) xs q
theorem ownZ_only {w w' : World} {R base : Nat} {e : TypeId} {size : Nat} {v : Value} {n : Nat} {xs : List Value} (h : w.ownsRow base e size v n xs) (o : Only R w w') (hR : R < base) : w'.ownsRow base e size v n xs := by
  refine ⟨h.1, ?_⟩
  rcases h.2 with h0 | ⟨g, cap, cur, e1, h1, h2, h3⟩
  · exact .inl h0
  · exact .inr ⟨g, cap, cur, e1, h1, (o.block g (lt_of_heap h2) (by omega)).trans h2, h3⟩
theorem AccZ.only {B R : Nat} {q : List Val} {A : Value} {w w' : World} (h : AccZ B q A w) (o : Only R w w') (hR : R ≤ B) : AccZ B q A w' := by
  obtain ⟨xs, h1, h2⟩ := h
  exact ⟨xs, ownZ_only h1 o (by omega), h2.stays (fun g hg => ⟨⟨hg.1, Nat.lt_of_lt_of_le hg.2.1 o.size, hg.2.2⟩, o.block g hg.2.1 (by omega)⟩) q⟩
theorem AccZ.next {B : Nat} {wr wf w1 : World} {l : List Val} {A A2 : Value} {xs : List Value} {k : Int} {b : Bool} {n : Int} {t x : ByteArray} {q : List Val} {V : Value} {o : Obj} {R : Nat}
    (hx : wr.ownsRow (B + 1) 28 6 A l.length xs) (hc : CellsF wr (fun g => B < g ∧ g < wr.heap.size ∧ A.ownBlock ≠ some g) xs l) (hB : B < wr.heap.size) (hR : R ≤ B)
    (bf : Only R wr wf) (hf : Fine n t x q.length) (hq : HeldF wf (fun g => wr.heap.size ≤ g ∧ g < wf.heap.size) V q)
    (hown : w1.ownsRow (B + 1) 28 6 A2 (l.length + 1) (xs ++ [.int .i64 k, .bool b, .int .i64 n, .string t, .string x, V])) (hgrow : (wf.alloc o).grownBy w1 A.ownBlock) (hloc : A2.ownBlock = A.ownBlock ∨ A2.ownBlock = some (wf.alloc o).heap.size) :
    AccZ B (l ++ [.mk k b n t x q]) A2 w1 := by
  have hA : ∀ g, A.ownBlock = some g → g < wr.heap.size := fun g hg => (hx.lt g hg).2
  have s1 : (wf.alloc o).heap.size = wf.heap.size + 1 := by simp
  have s2 : wr.heap.size ≤ wf.heap.size := bf.size
  have s3 : (wf.alloc o).heap.size ≤ w1.heap.size := hgrow.size
  have hn2 : ∀ g, g < wf.heap.size → A.ownBlock ≠ some g → A2.ownBlock ≠ some g := fun g hg hne h => by
    rcases hloc with h2 | h2
    · exact hne (h2 ▸ h)
    · rw [h2] at h
      have := Option.some.inj h
      omega
  have keep : ∀ g, g < wf.heap.size → A.ownBlock ≠ some g → w1.heap[g]? = wf.heap[g]? := fun g hg hne => by
    rw [hgrow.block g (by omega) (fun h => hne h.symm)]
    exact Below.heap_alloc _ _ _ hg
  refine ⟨_, by rw [List.length_append]; exact hown, ?_⟩
  refine CellsF.append l _ (hc.stays (fun g hg => ⟨⟨hg.1, by omega, hn2 g (by omega) hg.2.2⟩, ?_⟩) l) (CellsF.one hf (hq.stays (fun g hg => ?_) q))
  · rw [keep g (by omega) hg.2.2]
    exact bf.block g hg.2.1 (by omega)
  · have hne : A.ownBlock ≠ some g := fun h => by have := hA g h; omega
    exact ⟨⟨by omega, by omega, hn2 g hg.2 hne⟩, keep g hg.2 hne⟩
/-- The reader is as it was where a row of values grew. -/
theorem Rz.grown {w w1 : World} {R : Nat} {l : List UInt8} {bad : Bool} {A : Value} {base n : Nat} {xs : List Value} (h : Rz w R l bad) (hx : w.ownsRow base 28 6 A n xs) (k : w.grownBy w1 A.ownBlock) (hR : R < base) : Rz w1 R l bad := by
  have hne : ∀ g, g ≤ R → some g ≠ A.ownBlock := fun g hg e => by have := (hx.lt g e.symm).1; omega
  obtain ⟨p1, cap1, h1, h2, h3, h4⟩ := h
  refine ⟨p1, cap1, (k.block R (lt_of_heap h1) (hne R (Nat.le_refl _))).trans h1, h2, h3, ?_⟩
  rcases h4 with h4 | ⟨g, off, e, hg, hc⟩
  · exact .inl h4
  · exact .inr ⟨g, off, e, hg, fun j c hj => (World.cell?_of_block (w := w) (a := ⟨g, off + j, none⟩) (k.block g (World.block_lt_of_cell? w _ (hc j c hj)) (hne g (by omega)))).trans (hc j c hj)⟩
end Go.Proofs.YtoifjjgakblhhaaGreatDoor

/- What Arith tells, by the document: two lists, one behind the other. -/
namespace Go.Proofs.YtoifjjgakblhhaaGreatDoor
open Go.RowKit

theorem wp_append_none {w : World} {o : Oper} {a : Act} {K : Act → World → Prop} {Q : Exit → Act → World → Prop} (s x : Operand) (t : TypeId)
    (ho : o.op = .call { callee := .builtin .append, args := #[s, x], argTypes := #[t, t] })
    (base : Nat) (e : TypeId) (i : TypeInfo) (size : Nat) (ht : Tryz.prog.underlying t = some (.slice e)) (hi : Tryz.prog.info? e = some i)
    (v : Value) (n : Nat) (xs : List Value) (hs : a.eval s = v) (hown : w.ownsRow base e size v n xs) (hx : a.eval x = .slice none 0 0)
    (h : K (a.put o.dst v) w) : o.wp Tryz.prog a w K Q := by
  have hrun := run_append_owned_none (P := Tryz.prog) (w := w) base t o.type e i size ht hi v n xs hown
  unfold Oper.wp
  simp [execOp, ho, resolve, invoke, builtin, hs, hx, hrun, Result.andThen]
  exact h
theorem joinHeldW {W0 w1 w2 w3 : World} {la lb : List Val} {V1 V2 V3 : Value} {xs1 xs2 : List Value} (h0 : 0 < W0.heap.size) (hb1 : Below W0.heap.size W0 w1) (hb2 : Below w1.heap.size w1 w2)
    (hv1 : w1.ownsRow W0.heap.size 28 6 V1 la.length xs1) (hc1 : CellsT w1 V1.ownBlock W0.heap.size w1.heap.size xs1 la)
    (hc2 : CellsT w2 V2.ownBlock w1.heap.size w2.heap.size xs2 lb)
    (hown : w3.ownsRow W0.heap.size 28 6 V3 (la.length + lb.length) (xs1 ++ xs2)) (hgrow : w2.grownBy w3 V1.ownBlock) (hloc : V3.ownBlock = V1.ownBlock ∨ V3.ownBlock = some w2.heap.size) :
    HeldT w3 W0.heap.size w3.heap.size V3 (la ++ lb) :=
  joinHeldT (w := { W0 with heap := W0.heap.pop }) (by simp; omega) hb1 hb2 hv1 hc1 hc2 hown hgrow hloc

set_option maxRecDepth 20000 in
set_option maxHeartbeats 12800000 in
theorem rfListsYes (lang : Int) (b : Bool) (n : Int) (t x : ByteArray) (q : List Val) (p : Option Addr) (cap : Nat) (b2 : Bool) (n2 : Int) (t2 x2 : ByteArray) (q2 : List Val) (p2 : Option Addr) (cap2 : Nat) (w : World) (m1 m2 : Bool) (hc1 : ∀ W, Below w.heap.size w W → Calls Tryz.prog 14 #[.agg #[.int .i64 5, .bool b, .int .i64 n, .string t, .string x, .slice p q.length cap]] W fun e w' => e = .returned (.bool m1) ∧ Below W.heap.size W w') (hc2 : ∀ W, Below w.heap.size w W → Calls Tryz.prog 14 #[.agg #[.int .i64 5, .bool b2, .int .i64 n2, .string t2, .string x2, .slice p2 q2.length cap2]] W fun e w' => e = .returned (.bool m2) ∧ Below W.heap.size W w') (e1 : m1 = true) (e2 : m2 = true) (el : (lang != 1) = true) (hl : Held w (.slice p q.length cap) q) (hl2 : Held w (.slice p2 q2.length cap2) q2) (hs : q.length + q2.length ≤ 4096) :
    Calls Tryz.prog 26 #[.int .i64 lang, .int .i64 17, .agg #[.int .i64 5, .bool b, .int .i64 n, .string t, .string x, .slice p q.length cap], .agg #[.int .i64 5, .bool b2, .int .i64 n2, .string t2, .string x2, .slice p2 q2.length cap2]] w (APost w 5 0 ⟨#[]⟩ (q ++ q2) 0) := by
  obtain ⟨W0, hW0⟩ : ∃ W0, W0 = ((w.alloc (.cells #[.int .i64 5, .bool b, .int .i64 n, .string t, .string x, .slice p q.length cap] 28)).alloc (.cells #[.int .i64 5, .bool b2, .int .i64 n2, .string t2, .string x2, .slice p2 q2.length cap2] 28)).alloc (.cells #[.int .i64 0, .bool false, .int .i64 0, .string ⟨#[]⟩, .string ⟨#[]⟩, .slice none 0 0] 28) := ⟨_, rfl⟩
  have S4 : Six W0 w.heap.size 5 b n t x p q.length cap := by rw [hW0]; exact ((six_new _ rfl).alloc _).alloc _
  have S5 : Six W0 (w.heap.size + 1) 5 b2 n2 t2 x2 p2 q2.length cap2 := by rw [hW0]; exact (six_new _ (by simp)).alloc _
  have S8 : Six W0 (w.heap.size + 2) 0 false 0 ⟨#[]⟩ ⟨#[]⟩ none 0 0 := by rw [hW0]; exact six_new _ (by simp)
  have b0 : Below w.heap.size w W0 := by rw [hW0]; exact below3 _ _ _ _
  have f0 := S4.c0
  have g0 := S5.c0
  have f2 := S4.c2
  have g2 := S5.c2
  have f3 := S4.c3
  have g3 := S5.c3
  have f5 := S4.c5
  have g5 := S5.c5
  have H0 := Lib.hid hW0
  clear hW0
  subst e1 e2
  obtain ⟨i0, hi, hz0, hz1, hz2⟩ := info_parts info28b
  have hI : ¬ (4096 : Int) < q.length + q2.length := by omega
  have HCA : Hid (∀ W, Below w.heap.size w W → Calls Tryz.prog 37 #[.slice p q.length cap] W (CopyT W q)) := Lib.hid fun W h => tcopy_list q p cap W (Held.below q hl h) (by omega) (tcopyEach q)
  have HCB : Hid (∀ W, Below w.heap.size w W → Calls Tryz.prog 37 #[.slice p2 q2.length cap2] W (CopyT W q2)) := Lib.hid fun W h => tcopy_list q2 p2 cap2 W (Held.below q2 hl2 h) (by omega) (tcopyEach q2)
  clear hl hl2
  go_enter Tryz.func26, Tryz.ntmps26
  go_upto_region 15 with (first
    | ((try rw [← H0.out]); (with_reducible refine wpList_load6 (.tmp 6) w.heap.size S4 ?_ ?_ ?_ ?_); rfl; rfl; rfl)
    | ((try rw [← H0.out]); (with_reducible refine wpList_load6g (.tmp 6) w.heap.size S4 ?_ ?_ ?_ ?_); rfl; rfl; rfl)
    | ((try rw [← H0.out]); (with_reducible refine wpList_load6 (.tmp 7) (w.heap.size + 1) S5 ?_ ?_ ?_ ?_); rfl; rfl; rfl)
    | ((try rw [← H0.out]); (with_reducible refine wpList_load6g (.tmp 7) (w.heap.size + 1) S5 ?_ ?_ ?_ ?_); rfl; rfl; rfl)
    | (go_at_call 14; (try rw [← H0.out]); (with_reducible refine (hc1 _ b0).mono ?_); rintro e w' ⟨rfl, hb⟩; replace S4 := S4.below hb; replace S5 := S5.below hb; replace S8 := S8.below hb; replace b0 := below_any b0 hb b0.size; have f0 := S4.c0; have g0 := S5.c0; have f2 := S4.c2; have g2 := S5.c2; have f3 := S4.c3; have g3 := S5.c3; have f5 := S4.c5; have g5 := S5.c5; clear hb)
    | (go_at_call 14; (try rw [← H0.out]); (with_reducible refine (hc2 _ b0).mono ?_); rintro e w' ⟨rfl, hb⟩; replace S4 := S4.below hb; replace S5 := S5.below hb; replace S8 := S8.below hb; replace b0 := below_any b0 hb b0.size; have f0 := S4.c0; have g0 := S5.c0; have f2 := S4.c2; have g2 := S5.c2; have f3 := S4.c3; have g3 := S5.c3; have f5 := S4.c5; have g5 := S5.c5; clear hb)
    | (go_at_call 45; (try rw [← H0.out]); (with_reducible refine (hn1 _).mono ?_); rintro e w' ⟨rfl, hb⟩; replace S4 := S4.below hb; replace S5 := S5.below hb; replace S8 := S8.below hb; replace b0 := below_any b0 hb b0.size; have f0 := S4.c0; have g0 := S5.c0; have f2 := S4.c2; have g2 := S5.c2; have f3 := S4.c3; have g3 := S5.c3; have f5 := S4.c5; have g5 := S5.c5; clear hb)
    | (go_at_call 45; (try rw [← H0.out]); (with_reducible refine (hn2 _).mono ?_); rintro e w' ⟨rfl, hb⟩; replace S4 := S4.below hb; replace S5 := S5.below hb; replace S8 := S8.below hb; replace b0 := below_any b0 hb b0.size; have f0 := S4.c0; have g0 := S5.c0; have f2 := S4.c2; have g2 := S5.c2; have f3 := S4.c3; have g3 := S5.c3; have f5 := S4.c5; have g5 := S5.c5; clear hb))
  have zw := S8.lt
  refine wp_region_held_drew (S := fun w' => Six w' w.heap.size 5 b n t x p q.length cap ∧ Six w' (w.heap.size + 1) 5 b2 n2 t2 x2 p2 q2.length cap2 ∧ ∃ k8 b8 n8 t8 x8 p8 l8 m8, Six w' (w.heap.size + 2) k8 b8 n8 t8 x8 p8 l8 m8) (by kernel_rfl) ⟨S4, S5, _, _, _, _, _, _, _, _, S8⟩ (fun hHeld => ?_)
  replace b0 := b0.drew
  clear S4 S5 S8 f0 f2 f3 f5 g0 g2 g3 g5
  obtain ⟨S4, S5, k8, b8, n8, t8, x8, p8, l8, m8, S8⟩ := hHeld
  obtain ⟨wr, hwr⟩ : ∃ wr, wr = w'.drew := ⟨_, rfl⟩
  rw [← hwr] at b0 S4 S5 S8 ⊢
  replace zw : w.heap.size + 2 < wr.heap.size := by rw [hwr]; exact zw
  clear hwr
  refine wpAnyH_take (i := 0) (v := .pointer (some ⟨w.heap.size, 5, none⟩)) rfl (by kernel_rfl) (by kernel_rfl) (by kernel_rfl) (fun _ _ _ h => h) (Or.inl ⟨by rfl, fun W _ => by go_simp⟩) ⟨S4, S5, _, _, _, _, _, _, _, _, S8⟩ ?_
  try simp only [Act.put, List.getElem_toArray, List.getElem_cons_succ, List.getElem_cons_zero, List.setIfInBounds_toArray, List.set_cons_zero, List.set_cons_succ]
  refine wpAnyH_take (i := 1) (v := .slice p q.length cap) rfl (by kernel_rfl) (by kernel_rfl) (by kernel_rfl) (fun _ _ _ h => h) (Or.inl ⟨by rfl, fun W h => by have c := h.1.c5; go_simp⟩) ⟨S4, S5, _, _, _, _, _, _, _, _, S8⟩ ?_
  try simp only [Act.put, List.getElem_toArray, List.getElem_cons_succ, List.getElem_cons_zero, List.setIfInBounds_toArray, List.set_cons_zero, List.set_cons_succ]
  refine wpAnyH_take (i := 3) (v := .pointer (some ⟨w.heap.size + 1, 5, none⟩)) rfl (by kernel_rfl) (by kernel_rfl) (by kernel_rfl) (fun _ _ _ h => h) (Or.inl ⟨by rfl, fun W _ => by go_simp⟩) ⟨S4, S5, _, _, _, _, _, _, _, _, S8⟩ ?_
  try simp only [Act.put, List.getElem_toArray, List.getElem_cons_succ, List.getElem_cons_zero, List.setIfInBounds_toArray, List.set_cons_zero, List.set_cons_succ]
  refine wpAnyH_take (i := 4) (v := .slice p2 q2.length cap2) rfl (by kernel_rfl) (by kernel_rfl) (by kernel_rfl) (fun _ _ _ h => h) (Or.inl ⟨by rfl, fun W h => by have c := h.2.1.c5; go_simp⟩) ⟨S4, S5, _, _, _, _, _, _, _, _, S8⟩ ?_
  try simp only [Act.put, List.getElem_toArray, List.getElem_cons_succ, List.getElem_cons_zero, List.setIfInBounds_toArray, List.set_cons_zero, List.set_cons_succ]
  refine wpAnyH_ready (rs := [2]) (by kernel_rfl) (by simp) ?_
  refine AllReadyH.cons rfl (fun K hK => ?_) AllReadyH.nil
  rw [if_pos (by rfl)]
  go_simp
  refine (HCA.out _ b0).mono ?_
  rintro e w1 ⟨V1, xs1, rfl, hv1, hc1, hb1⟩
  replace S4 := S4.below hb1
  replace S5 := S5.below hb1
  replace S8 := S8.below hb1
  have bb1 := below_any b0 hb1 b0.size
  refine hK.out _ _ ⟨S4, S5, _, _, _, _, _, _, _, _, S8⟩ (fun _ => ?_)
  clear hK K
  try simp only [Act.put, List.getElem_toArray, List.getElem_cons_succ, List.getElem_cons_zero, List.setIfInBounds_toArray, List.set_cons_zero, List.set_cons_succ]
  refine wpAnyH_ready (rs := [5]) (by kernel_rfl) (by simp) ?_
  refine AllReadyH.cons rfl (fun K hK => ?_) AllReadyH.nil
  rw [if_pos (by rfl)]
  go_simp
  refine (HCB.out _ bb1).mono ?_
  rintro e w2 ⟨V2, xs2, rfl, hv2, hc2, hb2⟩
  replace S4 := S4.below hb2
  replace S5 := S5.below hb2
  replace S8 := S8.below hb2
  have bb2 := below_any bb1 hb2 bb1.size
  have hv12 := own_below hv1 hb2
  have s1 := hb1.size
  have s2 := hb2.size
  refine hK.out _ _ ⟨S4, S5, _, _, _, _, _, _, _, _, S8⟩ (fun _ => ?_)
  clear hK K
  try simp only [Act.put, List.getElem_toArray, List.getElem_cons_succ, List.getElem_cons_zero, List.setIfInBounds_toArray, List.set_cons_zero, List.set_cons_succ]
  have HV1 := Lib.hid (And.intro hv1 (And.intro hc1 hc2))
  have HV12 := Lib.hid hv12
  have HV2 := Lib.hid hv2
  rcases hv2.2 with ⟨rfl, hn0⟩ | ⟨g2, cp2, cur, rfl, hr2⟩
  · skip
    obtain rfl := List.length_eq_zero_iff.1 hn0
    have hcells : xs2 = [] := by have := hv2.1; rw [hn0] at this; simpa using this
    subst hcells
    have hh0 := joinHeldW (V3 := V1) (w3 := w2) (by omega) hb1 hb2 hv1 hc1 hc2 (by simpa using hv12) ⟨rfl, rfl, rfl, Nat.le_refl _, fun _ _ _ => rfl⟩ (.inl rfl)
    have hh : HeldT w2 wr.heap.size w2.heap.size V1 q := by simpa using hh0
    clear hh0
    obtain ⟨p3, c3, rfl⟩ := held_slice (HeldT.held _ hh)
    have HH0 := Lib.hid hh
    clear hh hv1 hc1 hc2 hv2 hv12
    refine wpAnyH_ready (rs := [6]) (by kernel_rfl) (by simp) ?_
    refine AllReadyH.cons rfl (fun K hK => ?_) AllReadyH.nil
    try rw [if_pos (by rfl)]
    refine wp_append_none _ _ 22 rfl wr.heap.size 28 i0 6 Tryz.underlying22 hi _ _ _ rfl HV12.out rfl ?_
    refine hK.out _ _ ⟨S4, S5, _, _, _, _, _, _, _, _, S8⟩ (fun _ => ?_)
    clear hK K
    try simp only [Act.put, List.getElem_toArray, List.getElem_cons_succ, List.getElem_cons_zero, List.setIfInBounds_toArray, List.set_cons_zero, List.set_cons_succ]
    refine wpAnyH_take (i := 7) (v := .agg #[.int .i64 5, .bool false, .int .i64 0, .string ⟨#[]⟩, .string ⟨#[]⟩, .slice p3 q.length c3]) rfl (by kernel_rfl) (by kernel_rfl) (by kernel_rfl) (fun _ _ _ h => h) (Or.inl ⟨by rfl, fun W _ => by go_simp⟩) ⟨S4, S5, _, _, _, _, _, _, _, _, S8⟩ ?_
    try simp only [Act.put, List.getElem_toArray, List.getElem_cons_succ, List.getElem_cons_zero, List.setIfInBounds_toArray, List.set_cons_zero, List.set_cons_succ]
    refine wpAnyH_ready (rs := [8]) (by kernel_rfl) (by simp) ?_
    refine AllReadyH.cons rfl (fun K hK => ?_) AllReadyH.nil
    try rw [if_pos (by rfl)]
    refine wp_store6 (k' := 5) (b' := false) (n' := 0) (t' := ⟨#[]⟩) (x' := ⟨#[]⟩) (p' := p3) (len' := q.length) (cap' := c3) (.tmp 8) (.tmp 101) rfl (w.heap.size + 2) S8 rfl rfl ?_
    intro w9 on9 S9
    replace S4 := S4.only on9 (by omega)
    replace S5 := S5.only on9 (by omega)
    replace S8 := S9
    refine hK.out _ _ ⟨S4, S5, _, _, _, _, _, _, _, _, S8⟩ (fun _ => ?_)
    clear hK K
    try simp only [Act.put, List.getElem_toArray, List.getElem_cons_succ, List.getElem_cons_zero, List.setIfInBounds_toArray, List.set_cons_zero, List.set_cons_succ]
    refine wpAnyH_ready (rs := [9]) (by kernel_rfl) (by simp) ?_
    refine AllReadyH.cons rfl (fun K hK => ?_) AllReadyH.nil
    try rw [if_pos (by rfl)]
    go_simp
    refine hK.out _ _ ⟨S4, S5, _, _, _, _, _, _, _, _, S8⟩ (fun _ => ?_)
    clear hK K
    try simp only [Act.put, List.getElem_toArray, List.getElem_cons_succ, List.getElem_cons_zero, List.setIfInBounds_toArray, List.set_cons_zero, List.set_cons_succ]
    refine wpAnyH_done (by kernel_rfl) ?_ _
    go_wp2_with fail
    have s9 := on9.size
    refine bodyPost_ret (results_six_tmp (p := 8) (q := 9) Tryz.results26 _ (.int .i64 0) rfl rfl S9) rfl ⟨p3, c3, by simp, HeldT.wide (lo := wr.heap.size) (hi := w2.heap.size) (by omega) s9 (q ++ []) (HeldT.stays (fun i a c => on9.block i c (by omega)) (q ++ []) (by simpa using HH0.out)), below_only bb2 on9 (by omega) bb2.size⟩
  · skip
    have hnews := HV2.out.cells (g := g2) rfl
    have hl2' := hv2.1
    have h1c := CellsT.cells1 q2 _ hc2
    clear hv1 hc1 hc2 hv2 hr2
    refine wpAnyH_ready (rs := [6]) (by kernel_rfl) (by simp) ?_
    refine AllReadyH.cons rfl (fun K hK => ?_) AllReadyH.nil
    try rw [if_pos (by rfl)]
    refine wp_append_own_at _ _ 22 rfl wr.heap.size 28 i0 (.agg #[.int .i64 0, .bool false, .int .i64 0, .string ⟨#[]⟩, .string ⟨#[]⟩, .slice none 0 0]) 6 80 Tryz.underlying22 hi hz0 hz1 hz2 rfl (by decide) _ _ _ rfl HV12.out ⟨g2, 0, none⟩ q2.length cp2 xs2 rfl hl2' hnews h1c (by unfold maxLen; omega) (by omega) (by omega) ?_
    intro V3 w3 hown3 hgrow hloc
    have hh := joinHeldW (by omega) hb1 hb2 HV1.out.1 HV1.out.2.1 HV1.out.2.2 hown3 hgrow hloc
    obtain ⟨p3, c3, e3⟩ := held_slice (HeldT.held _ hh)
    rw [List.length_append] at e3
    subst e3
    have hk : ∀ i, i < w2.heap.size → i < wr.heap.size → w3.heap[i]? = w2.heap[i]? := fun i a c => hgrow.block i a (fun h => by have := (HV1.out.1.lt i h.symm).1; omega)
    replace S4 : Six w3 w.heap.size 5 b n t x p q.length cap := (hk _ S4.lt (by omega)).trans S4
    replace S5 : Six w3 (w.heap.size + 1) 5 b2 n2 t2 x2 p2 q2.length cap2 := (hk _ S5.lt (by omega)).trans S5
    replace S8 : Six w3 (w.heap.size + 2) k8 b8 n8 t8 x8 p8 l8 m8 := (hk _ S8.lt (by omega)).trans S8
    have bb3 := bb2.grown hgrow bb2.size (fun k hk => by have := (HV1.out.1.lt k hk).1; omega)
    have HH0 := Lib.hid hh
    clear hh hown3 hgrow hloc hnews hl2' h1c hk
    refine hK.out _ _ ⟨S4, S5, _, _, _, _, _, _, _, _, S8⟩ (fun _ => ?_)
    clear hK K
    try simp only [Act.put, List.getElem_toArray, List.getElem_cons_succ, List.getElem_cons_zero, List.setIfInBounds_toArray, List.set_cons_zero, List.set_cons_succ]
    refine wpAnyH_take (i := 7) (v := .agg #[.int .i64 5, .bool false, .int .i64 0, .string ⟨#[]⟩, .string ⟨#[]⟩, .slice p3 (q.length + q2.length) c3]) rfl (by kernel_rfl) (by kernel_rfl) (by kernel_rfl) (fun _ _ _ h => h) (Or.inl ⟨by rfl, fun W _ => by go_simp⟩) ⟨S4, S5, _, _, _, _, _, _, _, _, S8⟩ ?_
    try simp only [Act.put, List.getElem_toArray, List.getElem_cons_succ, List.getElem_cons_zero, List.setIfInBounds_toArray, List.set_cons_zero, List.set_cons_succ]
    refine wpAnyH_ready (rs := [8]) (by kernel_rfl) (by simp) ?_
    refine AllReadyH.cons rfl (fun K hK => ?_) AllReadyH.nil
    try rw [if_pos (by rfl)]
    refine wp_store6 (k' := 5) (b' := false) (n' := 0) (t' := ⟨#[]⟩) (x' := ⟨#[]⟩) (p' := p3) (len' := (q.length + q2.length)) (cap' := c3) (.tmp 8) (.tmp 101) rfl (w.heap.size + 2) S8 rfl rfl ?_
    intro w9 on9 S9
    replace S4 := S4.only on9 (by omega)
    replace S5 := S5.only on9 (by omega)
    replace S8 := S9
    refine hK.out _ _ ⟨S4, S5, _, _, _, _, _, _, _, _, S8⟩ (fun _ => ?_)
    clear hK K
    try simp only [Act.put, List.getElem_toArray, List.getElem_cons_succ, List.getElem_cons_zero, List.setIfInBounds_toArray, List.set_cons_zero, List.set_cons_succ]
    refine wpAnyH_ready (rs := [9]) (by kernel_rfl) (by simp) ?_
    refine AllReadyH.cons rfl (fun K hK => ?_) AllReadyH.nil
    try rw [if_pos (by rfl)]
    go_simp
    refine hK.out _ _ ⟨S4, S5, _, _, _, _, _, _, _, _, S8⟩ (fun _ => ?_)
    clear hK K
    try simp only [Act.put, List.getElem_toArray, List.getElem_cons_succ, List.getElem_cons_zero, List.setIfInBounds_toArray, List.set_cons_zero, List.set_cons_succ]
    refine wpAnyH_done (by kernel_rfl) ?_ _
    go_wp2_with fail
    have s9 := on9.size
    refine bodyPost_ret (results_six_tmp (p := 8) (q := 9) Tryz.results26 _ (.int .i64 0) rfl rfl S9) rfl ⟨p3, c3, by simp, HeldT.wide (lo := wr.heap.size) (hi := w3.heap.size) (by omega) s9 (q ++ q2) (HeldT.stays (fun i a c => on9.block i c (by omega)) (q ++ q2) (by simpa using HH0.out)), below_only bb3 on9 (by omega) bb3.size⟩
end Go.Proofs.YtoifjjgakblhhaaGreatDoor
