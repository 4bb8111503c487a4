/- Texts of one kind, one behind the other: each says ahead of itself what it shows. -/
import Derived.Test.YtcfmenkigolnoaaGreatDoorQao
/- Load: the store of a graph that may be. -/
namespace Go.Proofs.YtcfmenkigolnoaaGreatDoor
open Go.RowKit

theorem Groups.low {κ : Type} [DecidableEq κ] {kt : TypeId} {K : κ → Lit} {w : World} {base base' b : Nat} {E : List (κ × Int)} (h : Groups kt K w base b E) (k : base' ≤ base) : Groups kt K w base' b E := by
  obtain ⟨n, f, h1, h2, h3, h4⟩ := h
  refine ⟨n, f, h1, h2, fun x => ?_, h4⟩
  rcases h3 x with h | ⟨v, e, ho⟩
  · exact .inl h
  · exact .inr ⟨v, e, own_base ho k⟩
theorem AllIn.below {α : Type} {E : Elem α} {id : α → Int} {Pl : α → α → Prop} {w w' : World} {b : Nat} {l : List α} (h : AllIn E id Pl w (Old w) b l) (k : Below w.heap.size w w') : AllIn E id Pl w' (Old w') b l := by
  refine AllIn.stays h (old_below k) ?_
  obtain ⟨n, f, _, hm, _⟩ := h
  exact k.block b hm.lt
/-- A store of the graph: its nodes and edges in their plain form, their numbers, rising; the numbers behind each label and at each node. -/
structure StoreE (w : World) (s : Nat) (g : GraphL) : Prop where
  is : ∃ m0 m1 m4 m5 V2 V3, w.heap[s]? = some (.cells #[.map (some m0), .map (some m1), V2, V3, .map (some m4), .map (some m5)] 79 (0, 0)) ∧
    AllIn nodeE NodeL.id PlainN w (Old w) m0 g.nodes ∧ AllIn edgeE EdgeL.id PlainE w (Old w) m1 g.edges ∧
    w.ownsRow 0 2 1 V2 ((g.nodes.map NodeL.id).mergeSort leI).length (((g.nodes.map NodeL.id).mergeSort leI).map (Value.int .i64)) ∧
    w.ownsRow 0 2 1 V3 ((g.edges.map EdgeL.id).mergeSort leI).length (((g.edges.map EdgeL.id).mergeSort leI).map (Value.int .i64)) ∧
    Groups 9 Lit.string w 0 m4 (((g.nodes.map NodeL.id).mergeSort leI).flatMap (evN g.nodes)) ∧ Groups 98 KW w 0 m5 (((g.edges.map EdgeL.id).mergeSort leI).flatMap (evE g.edges))
theorem StoreE.below {w w' : World} {s : Nat} {g : GraphL} (h : StoreE w s g) (b : Below w.heap.size w w') : StoreE w' s g := by
  obtain ⟨m0, m1, m4, m5, V2, V3, q0, q1, q2, q3, q4, q5, q6⟩ := h.is
  exact ⟨m0, m1, m4, m5, V2, V3, (b.block s (lt_of_heap q0)).trans q0, q1.below b, q2.below b, own_keep q3 fun i e => b.block i (q3.lt i e).2, own_keep q4 fun i e => b.block i (q4.lt i e).2, q5.keep fun i _ hi => b.block i hi, q6.keep fun i _ hi => b.block i hi⟩
theorem size25 : (Tryz.prog.info? 25).map (·.size) = some 2 := by kernel_rfl
/-- What Load answers. -/
def LPost (W : World) (g : GraphL) (e : Ending) (w' : World) : Prop :=
  Below W.heap.size W w' ∧ (if graphP g = true then ∃ s, e = .returned (.tuple #[.pointer (some ⟨s, 0, none⟩), .int .i64 0]) ∧ StoreE w' s g else e = .returned (.tuple #[.pointer none, .int .i64 21]))
set_option maxHeartbeats 6400000 in
set_option maxRecDepth 20000 in
theorem loadAt (g : GraphL) (vn ve : Value) (W : World) (hG : Gd W) (hn : SliceE nodeE W (Old W) vn g.nodes) (he : SliceE edgeE W (Old W) ve g.edges) (hn1 : g.nodes.length ≤ 2097152) (hn2 : g.edges.length ≤ 2097152) :
    Calls Tryz.prog 11 #[.agg #[vn, ve]] W (LPost W g) := by
  have hn0 := hn
  have he0 := he
  obtain ⟨p1, cap1, rfl⟩ := hn0.slice
  obtain ⟨p2, cap2, rfl⟩ := he0.slice
  obtain ⟨n1, hl1⟩ : ∃ n, n = g.nodes.length := ⟨_, rfl⟩
  obtain ⟨n2, hl2⟩ : ∃ n, n = g.edges.length := ⟨_, rfl⟩
  rw [← hl1] at hn
  rw [← hl2] at he
  rw [← hl1, ← hl2]
  have u1 : (W.alloc (.cells #[.slice p1 n1 cap1, .slice p2 n2 cap2] 25)).heap[W.heap.size]? = some (.cells #[.slice p1 n1 cap1, .slice p2 n2 cap2] 25 (0, 0)) := heap_new _ _ rfl
  have b0 := below1 W (.cells #[.slice p1 n1 cap1, .slice p2 n2 cap2] 25)
  obtain ⟨W0, hW0⟩ : ∃ W0, W0 = W.alloc (.cells #[.slice p1 n1 cap1, .slice p2 n2 cap2] 25) := ⟨_, rfl⟩
  rw [← hW0] at u1 b0
  have H0 := Lib.hid hW0
  obtain ⟨r, hr⟩ : ∃ r, r = graphP g := ⟨_, rfl⟩
  have HM : Hid (Calls Tryz.prog 36 #[.agg #[.slice p1 n1 cap1, .slice p2 n2 cap2]] W0 fun e w' => e = .returned (.bool r) ∧ Below W0.heap.size W0 w') := Lib.hid (by rw [hr]; exact graphMayAt g _ _ W0 (hG.below b0) (hn.stays (old_below b0)) (he.stays (old_below b0)) hn1 hn2)
  have HN := Lib.hid hn
  have HE := Lib.hid he
  have HR := Lib.hid hr
  have HL := Lib.hid (And.intro hl1 hl2)
  clear hn he hr hG hW0 hl1 hl2 hn1 hn2 hn0 he0
  cases r with
  | false =>
    go_enter Tryz.func11, Tryz.ntmps11
    go_upto_region 1 with fail
    rw [← H0.out]
    go_wp2_with (first
      | ((with_reducible refine wpList_loadRowE (.tmp 1) W.heap.size 25 25 [.slice p1 n1 cap1, .slice p2 n2 cap2] 2 _ u1 rfl Tryz.underlying25 rfl size25 ?_ ?_ ?_ ?_); rfl; rfl; rfl)
      | (go_at_call 36; (with_reducible refine HM.out.mono ?_); rintro e w1 ⟨rfl, hb1⟩; have b1 := below_any b0 hb1 b0.size))
    refine bodyPost_ret (results_tmp2 rfl _ _ _) rfl ?_
    refine ⟨b1, ?_⟩
    rw [← HR.out, if_neg (by simp)]
    try rfl
  | true =>
    have hmm := @run_makeMap Tryz.prog
    go_enter Tryz.func11, Tryz.ntmps11
    go_upto_region 1 with fail
    rw [← H0.out]
    go_upto_region 4 with (first
      | ((with_reducible refine wpList_loadRowE (.tmp 1) W.heap.size 25 25 [.slice p1 n1 cap1, .slice p2 n2 cap2] 2 _ u1 rfl Tryz.underlying25 rfl size25 ?_ ?_ ?_ ?_); rfl; rfl; rfl)
      | (go_at_call 36; (with_reducible refine HM.out.mono ?_); rintro e w1 ⟨rfl, hb1⟩; have b1 := below_any b0 hb1 b0.size; replace u1 := (hb1.block _ (lt_of_heap u1)).trans u1))
    have HW1 := Lib.hid (lt_of_heap u1)
    have hgp := HR.out.symm
    unfold graphP at hgp
    simp only [Bool.and_eq_true, decide_eq_true_eq] at hgp
    obtain ⟨⟨⟨⟨⟨hl1, hl2⟩, hd1⟩, hd2⟩, _⟩, _⟩ := hgp
    obtain ⟨m, hm⟩ : ∃ m, m = w1.heap.size := ⟨_, rfl⟩
    have u2 : (((((w1.alloc (.map #[] 0)).alloc (.map #[] 0)).alloc (.map #[] 0)).alloc (.map #[] 0)).alloc (.cells #[.map (some w1.heap.size), .map (some (w1.heap.size + 1)), .slice none 0 0, .slice none 0 0, .map (some (w1.heap.size + 1 + 1)), .map (some (w1.heap.size + 1 + 1 + 1))] 79)).heap[w1.heap.size + 1 + 1 + 1 + 1]? = some (.cells #[.map (some w1.heap.size), .map (some (w1.heap.size + 1)), .slice none 0 0, .slice none 0 0, .map (some (w1.heap.size + 1 + 1)), .map (some (w1.heap.size + 1 + 1 + 1))] 79 (0, 0)) := heap_new _ _ (by simp)
    have z2 : (((((w1.alloc (.map #[] 0)).alloc (.map #[] 0)).alloc (.map #[] 0)).alloc (.map #[] 0)).alloc (.cells #[.map (some w1.heap.size), .map (some (w1.heap.size + 1)), .slice none 0 0, .slice none 0 0, .map (some (w1.heap.size + 1 + 1)), .map (some (w1.heap.size + 1 + 1 + 1))] 79)).heap.size = w1.heap.size + 1 + 1 + 1 + 1 + 1 := by simp
    have g0 : (((((w1.alloc (.map #[] 0)).alloc (.map #[] 0)).alloc (.map #[] 0)).alloc (.map #[] 0)).alloc (.cells #[.map (some w1.heap.size), .map (some (w1.heap.size + 1)), .slice none 0 0, .slice none 0 0, .map (some (w1.heap.size + 1 + 1)), .map (some (w1.heap.size + 1 + 1 + 1))] 79)).heap[w1.heap.size]? = some (.map #[] 0) := heap_old _ (heap_old _ (heap_old _ (heap_old _ (heap_new _ _ rfl))))
    have g1 : (((((w1.alloc (.map #[] 0)).alloc (.map #[] 0)).alloc (.map #[] 0)).alloc (.map #[] 0)).alloc (.cells #[.map (some w1.heap.size), .map (some (w1.heap.size + 1)), .slice none 0 0, .slice none 0 0, .map (some (w1.heap.size + 1 + 1)), .map (some (w1.heap.size + 1 + 1 + 1))] 79)).heap[w1.heap.size + 1]? = some (.map #[] 0) := heap_old _ (heap_old _ (heap_old _ (heap_new _ _ (by simp))))
    have g2 : (((((w1.alloc (.map #[] 0)).alloc (.map #[] 0)).alloc (.map #[] 0)).alloc (.map #[] 0)).alloc (.cells #[.map (some w1.heap.size), .map (some (w1.heap.size + 1)), .slice none 0 0, .slice none 0 0, .map (some (w1.heap.size + 1 + 1)), .map (some (w1.heap.size + 1 + 1 + 1))] 79)).heap[w1.heap.size + 1 + 1]? = some (.map #[] 0) := heap_old _ (heap_old _ (heap_new _ _ (by simp)))
    have g3 : (((((w1.alloc (.map #[] 0)).alloc (.map #[] 0)).alloc (.map #[] 0)).alloc (.map #[] 0)).alloc (.cells #[.map (some w1.heap.size), .map (some (w1.heap.size + 1)), .slice none 0 0, .slice none 0 0, .map (some (w1.heap.size + 1 + 1)), .map (some (w1.heap.size + 1 + 1 + 1))] 79)).heap[w1.heap.size + 1 + 1 + 1]? = some (.map #[] 0) := heap_old _ (heap_new _ _ (by simp))
    have k2 : Below w1.heap.size w1 (((((w1.alloc (.map #[] 0)).alloc (.map #[] 0)).alloc (.map #[] 0)).alloc (.map #[] 0)).alloc (.cells #[.map (some w1.heap.size), .map (some (w1.heap.size + 1)), .slice none 0 0, .slice none 0 0, .map (some (w1.heap.size + 1 + 1)), .map (some (w1.heap.size + 1 + 1 + 1))] 79)) := (((((Below.refl _ _).alloc (by simp) _).alloc (by simp) _).alloc (by simp; omega) _).alloc (by simp; omega) _).alloc (by simp; omega) _
    obtain ⟨w2, hw2⟩ : ∃ w2, w2 = (((((w1.alloc (.map #[] 0)).alloc (.map #[] 0)).alloc (.map #[] 0)).alloc (.map #[] 0)).alloc (.cells #[.map (some w1.heap.size), .map (some (w1.heap.size + 1)), .slice none 0 0, .slice none 0 0, .map (some (w1.heap.size + 1 + 1)), .map (some (w1.heap.size + 1 + 1 + 1))] 79)) := ⟨_, rfl⟩
    rw [← hw2] at u2 z2 g0 g1 g2 g3 k2 ⊢
    clear hw2
    replace u1 := (k2.block _ (lt_of_heap u1)).trans u1
    have hWm : W.heap.size < m := by rw [hm]; exact HW1.out
    rw [← hm] at u2 z2 g0 g1 g2 g3 k2 ⊢
    have b2 : Below W.heap.size W w2 := b1.trans (k2.mono (by rw [hm]; exact b1.size))
    have HTN := Lib.hid (takeNodesAt W.heap.size (m + 1 + 1 + 1 + 1) m (m + 1 + 1) _ g.nodes (.slice p1 n1 cap1) w2 u2 rfl rfl rfl g0 g2 (by omega) (by omega) (HN.out.stays fun i hi => ⟨hi, b2.block i hi⟩) hd1 hl1)
    have HD2 := Lib.hid (And.intro hd2 hl2)
    have c0 := cell_of u1 0 rfl
    have hbW := b2.size
    clear hd1 hl1 hd2 hl2 b1 hb1 k2 g0 b0 hm
    go_upto_region 5 with (first
      | (go_at_call 37; (with_reducible refine HTN.out.mono ?_); rintro e w3 ⟨rfl, V2, N1, N3, u3, hV2, hA, hG, hN1, hN13, hN3, hVN, k3⟩))
    replace u3 : w3.heap[m + 1 + 1 + 1 + 1]? = some (.cells #[.map (some m), .map (some (m + 1)), V2, .slice none 0 0, .map (some (m + 1 + 1)), .map (some (m + 1 + 1 + 1))] 79 (0, 0)) := u3
    replace u1 := (k3.block _ (lt_of_heap u1) (by omega)).trans u1
    replace g1 := (k3.block _ (lt_of_heap g1) (by omega)).trans g1
    replace g3 := (k3.block _ (lt_of_heap g3) (by omega)).trans g3
    have b3 : Below W.heap.size W w3 := b2.trans (k3.low hbW (fun i hi => by omega))
    have HTE := Lib.hid (takeEdgesAt W.heap.size (m + 1 + 1 + 1 + 1) (m + 1) (m + 1 + 1 + 1) _ g.edges (.slice p2 n2 cap2) w3 u3 rfl rfl rfl g1 g3 (by omega) (by omega) (HE.out.stays fun i hi => ⟨hi, b3.block i hi⟩) HD2.out.1 HD2.out.2)
    have c1 := cell_of u1 1 rfl
    have HX := Lib.hid (And.intro hV2 (And.intro hA (And.intro hG hVN)))
    have hb3 := b3.size
    have hs3 := k3.size
    clear hV2 hA hG hVN g1 g2 g3 c0 u2 k3 b2
    go_wp2_with (first
      | (go_at_call 38; (with_reducible refine HTE.out.mono ?_); rintro e w4 ⟨rfl, V3, N5, N7, u4, hV3, hA3, hG3, hN5, hN57, hN7, hVN3, k4⟩))
    refine bodyPost_ret (results_tmp2 rfl _ _ _) rfl ?_
    obtain ⟨hV2, hA, hG, hVN⟩ := HX.out
    have hs4 := k4.size
    have l0 : m < w3.heap.size := by omega
    have low : ∀ i, i < w3.heap.size → (i ≤ m ∨ i = m + 1 + 1 ∨ w2.heap.size ≤ i) → w4.heap[i]? = w3.heap[i]? := fun i hi h => k4.block i hi (by omega)
    refine ⟨b3.trans (k4.low hb3 (fun i hi => by omega)), ?_⟩
    rw [← HR.out, if_pos rfl]
    refine ⟨_, rfl, ⟨m, m + 1, m + 1 + 1, m + 1 + 1 + 1, V2, V3, u4, ?_, ?_, ?_, ?_, ?_, ?_⟩⟩
    · exact AllIn.stays hA (fun i hi => ⟨(by show i < w4.heap.size; have := hi.2; omega), low i (by have := hi.2; omega) (.inr (.inr hi.1))⟩) (low m l0 (.inl (Nat.le_refl _)))
    · exact AllIn.stays hA3 (fun i hi => ⟨(by show i < w4.heap.size; have := hi.2; omega), rfl⟩) rfl
    · exact own_base (own_keep hV2 fun i e => low i (hV2.lt i e).2 (.inr (.inr (by have := (hV2.lt i e).1; omega)))) (Nat.zero_le _)
    · exact own_base hV3 (Nat.zero_le _)
    · exact (hG.keep fun i hi hl => low i hl (by rcases hi with h | h; exact .inr (.inl h); exact .inr (.inr (by omega)))).low (Nat.zero_le _)
    · exact hG3.low (Nat.zero_le _)
end Go.Proofs.YtcfmenkigolnoaaGreatDoor

/- props: the properties of what is a node's or an edge's number. -/
namespace Go.Proofs.YtcfmenkigolnoaaGreatDoor
open Go.RowKit

/-- What the properties of such a value are, in their plain form. -/
def PropsOf (g : GraphL) (k n : Int) (l : List PairL) : Prop :=
  if k = 6 then (∃ a ∈ g.nodes, a.id = n ∧ PlainP a.props l) ∨ ((∀ a ∈ g.nodes, a.id ≠ n) ∧ l = [])
  else if k = 7 then (∃ a ∈ g.edges, a.id = n ∧ PlainP a.props l) ∨ ((∀ a ∈ g.edges, a.id ≠ n) ∧ l = [])
  else l = []
theorem look_node {w : World} {P : Nat → Prop} {b : Nat} {l : List NodeL} (h : AllIn nodeE NodeL.id PlainN w P b l) (n : Int) : ∃ m f x0 x1 pv ps, m ≤ l.length ∧ HMap w Tryz.prog 2 b m f ∧ (f (.int .i64 n)).getD (.agg #[.int .i64 0, .slice none 0 0, .slice none 0 0]) = .agg #[x0, x1, pv] ∧ SliceE pairE w P pv ps ∧ ps.length ≤ 2097152 ∧
    ((∃ a ∈ l, a.id = n ∧ PlainP a.props ps) ∨ ((∀ a ∈ l, a.id ≠ n) ∧ ps = [])) := by
  obtain ⟨m, f, h1, h2, h3, h4⟩ := h
  by_cases q : ∃ a ∈ l, a.id = n
  · obtain ⟨a, ha, rfl⟩ := q
    obtain ⟨a', c, hp, hf, lv, pv, rfl, _, _, hl, _, hs⟩ := h3 a ha
    exact ⟨m, f, _, lv, pv, a'.props, h1, h2, by rw [hf]; rfl, hs, hl, .inl ⟨a, ha, rfl, hp.2.2⟩⟩
  · have q' : ∀ a ∈ l, a.id ≠ n := fun a ha e => q ⟨a, ha, e⟩
    have e := h4 (.int .i64 n) fun a ha e => q' a ha (by injection e with _ e2; exact e2.symm)
    exact ⟨m, f, _, _, _, [], h1, h2, by rw [e]; rfl, SliceE.nil _ _, by simp, .inr ⟨q', rfl⟩⟩
theorem look_edge {w : World} {P : Nat → Prop} {b : Nat} {l : List EdgeL} (h : AllIn edgeE EdgeL.id PlainE w P b l) (n : Int) : ∃ m f x0 x1 x2 x3 pv ps, m ≤ l.length ∧ HMap w Tryz.prog 2 b m f ∧ (f (.int .i64 n)).getD (.agg #[.int .i64 0, .int .i64 0, .int .i64 0, .string ⟨#[]⟩, .slice none 0 0]) = .agg #[x0, x1, x2, x3, pv] ∧ SliceE pairE w P pv ps ∧ ps.length ≤ 2097152 ∧
    ((∃ a ∈ l, a.id = n ∧ PlainP a.props ps) ∨ ((∀ a ∈ l, a.id ≠ n) ∧ ps = [])) := by
  obtain ⟨m, f, h1, h2, h3, h4⟩ := h
  by_cases q : ∃ a ∈ l, a.id = n
  · obtain ⟨a, ha, rfl⟩ := q
    obtain ⟨a', c, hp, hf, pv, rfl, _, _, hl, hs⟩ := h3 a ha
    exact ⟨m, f, _, _, _, _, pv, a'.props, h1, h2, by rw [hf]; rfl, hs, hl, .inl ⟨a, ha, rfl, hp.2.2.2.2⟩⟩
  · have q' : ∀ a ∈ l, a.id ≠ n := fun a ha e => q ⟨a, ha, e⟩
    have e := h4 (.int .i64 n) fun a ha e => q' a ha (by injection e with _ e2; exact e2.symm)
    exact ⟨m, f, _, _, _, _, _, [], h1, h2, by rw [e]; rfl, SliceE.nil _ _, by simp, .inr ⟨q', rfl⟩⟩
theorem field38_2 (x z y : Value) (w : World) : (Instr.field 38 (.agg #[x, z, y]) 2).run Tryz.prog w = .ok y w := by kernel_rfl
theorem field41_4 (x z y u v : Value) (w : World) : (Instr.field 41 (.agg #[x, z, y, u, v]) 4).run Tryz.prog w = .ok v w := by kernel_rfl
set_option maxHeartbeats 3200000 in
set_option maxRecDepth 20000 in
theorem propsOfAt (W : World) (s : Nat) (g : GraphL) (h : StoreE W s g) (k : Int) (b : Value) (n : Int) (t x L : Value) (hn : (Lit.int .i64 n).wf = true) :
    Calls Tryz.prog 56 #[.pointer (some ⟨s, 0, none⟩), .agg #[.int .i64 k, b, .int .i64 n, t, x, L]] W fun e w' => ∃ pv l, e = .returned pv ∧ SliceE pairE w' (Old w') pv l ∧ l.length ≤ 2097152 ∧ PropsOf g k n l ∧ Below W.heap.size W w' := by
  obtain ⟨m0, m1, m4, m5, V2, V3, q0, q1, q2, _, _, _, _⟩ := h.is
  have hki : keyOf Tryz.prog 2 (.int .i64 n) = some (.int .i64 n) := Go.Maps.keyOf_int_mk Tryz.underlying2 hn
  have u1 : (W.alloc (.cells #[.int .i64 k, b, .int .i64 n, t, x, L] 60)).heap[W.heap.size]? = some (.cells #[.int .i64 k, b, .int .i64 n, t, x, L] 60 (0, 0)) := heap_new _ _ rfl
  have b0 := below1 W (.cells #[.int .i64 k, b, .int .i64 n, t, x, L] 60)
  have us : (W.alloc (.cells #[.int .i64 k, b, .int .i64 n, t, x, L] 60)).heap[s]? = _ := heap_old _ q0
  have c0 := cell_of u1 0 rfl
  have c2 := cell_of u1 2 rfl
  obtain ⟨n0, f0, x0, x1, pv, ps, hn0, hm0, hX0, hs0, hl0, hp0⟩ := look_node q1 n
  obtain ⟨n1, f1, y0, y1, y2, y3, pv1, ps1, hn1, hm1, hX1, hs1, hl1, hp1⟩ := look_edge q2 n
  have HP0 := Lib.hid (And.intro hs0 (And.intro hl0 hp0))
  have HP1 := Lib.hid (And.intro hs1 (And.intro hl1 hp1))
  replace hm0 := hm0.keep (b0.block m0 hm0.lt)
  replace hm1 := hm1.keep (b0.block m1 hm1.lt)
  obtain ⟨W0, hW0⟩ : ∃ W0, W0 = W.alloc (.cells #[.int .i64 k, b, .int .i64 n, t, x, L] 60) := ⟨_, rfl⟩
  rw [← hW0] at u1 b0 us c0 c2 hm0 hm1
  have H0 := Lib.hid hW0
  clear hs0 hl0 hp0 hs1 hl1 hp1 hW0 q0 q1 q2 h hn
  by_cases h6 : k = 6
  · subst h6
    go_enter Tryz.func56, Tryz.ntmps56
    go_upto_region 1 with fail
    rw [← H0.out]
    go_upto_region 3 with fail
    refine wp_region_held_drew (S := fun W' => W'.heap[s]? = some (.cells #[.map (some m0), .map (some m1), V2, V3, .map (some m4), .map (some m5)] 79 (0, 0)) ∧ W'.heap[W.heap.size]? = some (.cells #[.int .i64 6, b, .int .i64 n, t, x, L] 60 (0, 0)) ∧ W'.heap[m0]? = W0.heap[m0]?) (by kernel_rfl) ⟨us, u1, rfl⟩ (fun _ => ?_)
    refine wpAnyH_take (i := 0) (v := .pointer (some ⟨s, 0, none⟩)) rfl (by kernel_rfl) (by kernel_rfl) (by kernel_rfl) (fun _ _ _ h => h) (Or.inl ⟨by rfl, fun W _ => by go_simp⟩) (⟨us, u1, rfl⟩) ?_
    try simp only [Act.put, List.getElem_toArray, List.getElem_cons_succ, List.getElem_cons_zero, List.setIfInBounds_toArray, List.set_cons_zero, List.set_cons_succ]
    refine wpAnyH_take (i := 4) (v := .pointer (some ⟨W.heap.size, 2, none⟩)) rfl (by kernel_rfl) (by kernel_rfl) (by kernel_rfl) (fun _ _ _ h => h) (Or.inl ⟨by rfl, fun W _ => by go_simp⟩) (⟨us, u1, rfl⟩) ?_
    try simp only [Act.put, List.getElem_toArray, List.getElem_cons_succ, List.getElem_cons_zero, List.setIfInBounds_toArray, List.set_cons_zero, List.set_cons_succ]
    refine wpAnyH_take (i := 1) (v := .pointer (some ⟨s, 0, none⟩)) rfl (by kernel_rfl) (by kernel_rfl) (by kernel_rfl) (fun _ _ _ h => h) (Or.inl ⟨by rfl, fun W _ => by go_simp⟩) (⟨us, u1, rfl⟩) ?_
    try simp only [Act.put, List.getElem_toArray, List.getElem_cons_succ, List.getElem_cons_zero, List.setIfInBounds_toArray, List.set_cons_zero, List.set_cons_succ]
    refine wpAnyH_take (i := 5) (v := .int .i64 n) rfl (by kernel_rfl) (by kernel_rfl) (by kernel_rfl) (fun _ _ _ h => h) (Or.inl ⟨by rfl, fun W' h => by have c0 := cell_of h.2.1 2 rfl; go_simp⟩) (⟨us, u1, rfl⟩) ?_
    try simp only [Act.put, List.getElem_toArray, List.getElem_cons_succ, List.getElem_cons_zero, List.setIfInBounds_toArray, List.set_cons_zero, List.set_cons_succ]
    refine wpAnyH_take (i := 2) (v := .pointer (some ⟨s, 0, none⟩)) rfl (by kernel_rfl) (by kernel_rfl) (by kernel_rfl) (fun _ _ _ h => h) (Or.inl ⟨by rfl, fun W _ => by go_simp⟩) (⟨us, u1, rfl⟩) ?_
    try simp only [Act.put, List.getElem_toArray, List.getElem_cons_succ, List.getElem_cons_zero, List.setIfInBounds_toArray, List.set_cons_zero, List.set_cons_succ]
    refine wpAnyH_take (i := 3) (v := .map (some m0)) rfl (by kernel_rfl) (by kernel_rfl) (by kernel_rfl) (fun _ _ _ h => h) (Or.inl ⟨by rfl, fun W' h => by have c0 := cell_of h.1 0 rfl; go_simp⟩) (⟨us, u1, rfl⟩) ?_
    try simp only [Act.put, List.getElem_toArray, List.getElem_cons_succ, List.getElem_cons_zero, List.setIfInBounds_toArray, List.set_cons_zero, List.set_cons_succ]
    refine wpAnyH_take (i := 6) (v := .agg #[x0, x1, pv]) rfl (by kernel_rfl) (by kernel_rfl) (by kernel_rfl) (fun _ _ _ h => h) (Or.inl ⟨by rfl, fun W' h => by have hrun := (hm0.keep h.2.2).look law2 Tryz.underlying73 (zero73 W') hki trivial; rw [hX0] at hrun; go_simp⟩) (⟨us, u1, rfl⟩) ?_
    try simp only [Act.put, List.getElem_toArray, List.getElem_cons_succ, List.getElem_cons_zero, List.setIfInBounds_toArray, List.set_cons_zero, List.set_cons_succ]
    refine wpAnyH_take (i := 7) (v := pv) rfl (by kernel_rfl) (by kernel_rfl) (by kernel_rfl) (fun _ _ _ h => h) (Or.inl ⟨by rfl, fun W' _ => by have hf := field38_2 x0 x1 pv W'; go_simp⟩) (⟨us, u1, rfl⟩) ?_
    try simp only [Act.put, List.getElem_toArray, List.getElem_cons_succ, List.getElem_cons_zero, List.setIfInBounds_toArray, List.set_cons_zero, List.set_cons_succ]
    refine wpAnyH_take (i := 8) (v := pv) rfl (by kernel_rfl) (by kernel_rfl) (by kernel_rfl) (fun _ _ _ h => h) (Or.inl ⟨by rfl, fun W _ => by go_simp⟩) (⟨us, u1, rfl⟩) ?_
    try simp only [Act.put, List.getElem_toArray, List.getElem_cons_succ, List.getElem_cons_zero, List.setIfInBounds_toArray, List.set_cons_zero, List.set_cons_succ]
    refine wpAnyH_done (by kernel_rfl) ?_ _
    go_wp2_with fail
    go_ret
    exact ⟨pv, ps, rfl, HP0.out.1.stays (old_below b0.drew), HP0.out.2.1, by unfold PropsOf; rw [if_pos rfl]; exact HP0.out.2.2, b0.drew⟩
  · by_cases h7 : k = 7
    · subst h7
      go_enter Tryz.func56, Tryz.ntmps56
      go_upto_region 1 with fail
      rw [← H0.out]
      go_upto_region 5 with fail
      refine wp_region_held_drew (S := fun W' => W'.heap[s]? = some (.cells #[.map (some m0), .map (some m1), V2, V3, .map (some m4), .map (some m5)] 79 (0, 0)) ∧ W'.heap[W.heap.size]? = some (.cells #[.int .i64 7, b, .int .i64 n, t, x, L] 60 (0, 0)) ∧ W'.heap[m1]? = W0.heap[m1]?) (by kernel_rfl) ⟨us, u1, rfl⟩ (fun _ => ?_)
      refine wpAnyH_take (i := 0) (v := .pointer (some ⟨s, 0, none⟩)) rfl (by kernel_rfl) (by kernel_rfl) (by kernel_rfl) (fun _ _ _ h => h) (Or.inl ⟨by rfl, fun W _ => by go_simp⟩) (⟨us, u1, rfl⟩) ?_
      try simp only [Act.put, List.getElem_toArray, List.getElem_cons_succ, List.getElem_cons_zero, List.setIfInBounds_toArray, List.set_cons_zero, List.set_cons_succ]
      refine wpAnyH_take (i := 4) (v := .pointer (some ⟨W.heap.size, 2, none⟩)) rfl (by kernel_rfl) (by kernel_rfl) (by kernel_rfl) (fun _ _ _ h => h) (Or.inl ⟨by rfl, fun W _ => by go_simp⟩) (⟨us, u1, rfl⟩) ?_
      try simp only [Act.put, List.getElem_toArray, List.getElem_cons_succ, List.getElem_cons_zero, List.setIfInBounds_toArray, List.set_cons_zero, List.set_cons_succ]
      refine wpAnyH_take (i := 1) (v := .pointer (some ⟨s, 0, none⟩)) rfl (by kernel_rfl) (by kernel_rfl) (by kernel_rfl) (fun _ _ _ h => h) (Or.inl ⟨by rfl, fun W _ => by go_simp⟩) (⟨us, u1, rfl⟩) ?_
      try simp only [Act.put, List.getElem_toArray, List.getElem_cons_succ, List.getElem_cons_zero, List.setIfInBounds_toArray, List.set_cons_zero, List.set_cons_succ]
      refine wpAnyH_take (i := 5) (v := .int .i64 n) rfl (by kernel_rfl) (by kernel_rfl) (by kernel_rfl) (fun _ _ _ h => h) (Or.inl ⟨by rfl, fun W' h => by have c0 := cell_of h.2.1 2 rfl; go_simp⟩) (⟨us, u1, rfl⟩) ?_
      try simp only [Act.put, List.getElem_toArray, List.getElem_cons_succ, List.getElem_cons_zero, List.setIfInBounds_toArray, List.set_cons_zero, List.set_cons_succ]
      refine wpAnyH_take (i := 2) (v := .pointer (some ⟨s, 1, none⟩)) rfl (by kernel_rfl) (by kernel_rfl) (by kernel_rfl) (fun _ _ _ h => h) (Or.inl ⟨by rfl, fun W _ => by go_simp⟩) (⟨us, u1, rfl⟩) ?_
      try simp only [Act.put, List.getElem_toArray, List.getElem_cons_succ, List.getElem_cons_zero, List.setIfInBounds_toArray, List.set_cons_zero, List.set_cons_succ]
      refine wpAnyH_take (i := 3) (v := .map (some m1)) rfl (by kernel_rfl) (by kernel_rfl) (by kernel_rfl) (fun _ _ _ h => h) (Or.inl ⟨by rfl, fun W' h => by have c0 := cell_of h.1 1 rfl; go_simp⟩) (⟨us, u1, rfl⟩) ?_
      try simp only [Act.put, List.getElem_toArray, List.getElem_cons_succ, List.getElem_cons_zero, List.setIfInBounds_toArray, List.set_cons_zero, List.set_cons_succ]
      refine wpAnyH_take (i := 6) (v := .agg #[y0, y1, y2, y3, pv1]) rfl (by kernel_rfl) (by kernel_rfl) (by kernel_rfl) (fun _ _ _ h => h) (Or.inl ⟨by rfl, fun W' h => by have hrun := (hm1.keep h.2.2).look law2 Tryz.underlying74 (zero74 W') hki trivial; rw [hX1] at hrun; go_simp⟩) (⟨us, u1, rfl⟩) ?_
      try simp only [Act.put, List.getElem_toArray, List.getElem_cons_succ, List.getElem_cons_zero, List.setIfInBounds_toArray, List.set_cons_zero, List.set_cons_succ]
      refine wpAnyH_take (i := 7) (v := pv1) rfl (by kernel_rfl) (by kernel_rfl) (by kernel_rfl) (fun _ _ _ h => h) (Or.inl ⟨by rfl, fun W' _ => by have hf := field41_4 y0 y1 y2 y3 pv1 W'; go_simp⟩) (⟨us, u1, rfl⟩) ?_
      try simp only [Act.put, List.getElem_toArray, List.getElem_cons_succ, List.getElem_cons_zero, List.setIfInBounds_toArray, List.set_cons_zero, List.set_cons_succ]
      refine wpAnyH_take (i := 8) (v := pv1) rfl (by kernel_rfl) (by kernel_rfl) (by kernel_rfl) (fun _ _ _ h => h) (Or.inl ⟨by rfl, fun W _ => by go_simp⟩) (⟨us, u1, rfl⟩) ?_
      try simp only [Act.put, List.getElem_toArray, List.getElem_cons_succ, List.getElem_cons_zero, List.setIfInBounds_toArray, List.set_cons_zero, List.set_cons_succ]
      refine wpAnyH_done (by kernel_rfl) ?_ _
      go_wp2_with fail
      go_ret
      exact ⟨pv1, ps1, rfl, HP1.out.1.stays (old_below b0.drew), HP1.out.2.1, by unfold PropsOf; rw [if_neg (by decide), if_pos rfl]; exact HP1.out.2.2, b0.drew⟩
    · have e6 : (k == 6) = false := by simpa using h6
      have e7 : (k == 7) = false := by simpa using h7
      go_enter Tryz.func56, Tryz.ntmps56
      go_upto_region 1 with fail
      rw [← H0.out]
      go_wp2_with fail
      go_ret
      exact ⟨_, [], rfl, SliceE.nil _ _, by simp, by unfold PropsOf; rw [if_neg h6, if_neg h7], b0⟩
end Go.Proofs.YtcfmenkigolnoaaGreatDoor

/- A property is looked for by its key. -/
namespace Go.Proofs.YtcfmenkigolnoaaGreatDoor
open Go.RowKit

theorem wpList_loadEg {P : Program} {ops : Array Oper} {rest : List Oper} {o : Oper} {a : Act} {w : World} {Q : Exit → Act → World → Prop} (y : Operand) (g off : Nat) (ty : TypeId) (cs : List Value) (k : Nat) (d : TypeDesc) (hr : w.rangeAt g off cs) (hk : cs.length = k)
    (hu : P.underlying ty = some d) (hd : d.isRow = true) (hi : (P.info? ty).map (·.size) = some k) (hw : Region.wanted o (yielded ops a.tmps) = true) (ho : o.op = .load ty y) (hx : a.eval y = .pointer (some ⟨g, off, none⟩))
    (h : wpList P ops Q rest (a.put o.dst (.agg cs.toArray)) w) : wpList P ops Q (o :: rest) a w := by
  unfold wpList
  rw [if_pos hw]
  exact .inl (wp_load_mid ty y ho g off hx cs d hr hu hd (by rw [hi, hk]) h)
set_option maxHeartbeats 1600000 in
set_option maxRecDepth 20000 in
theorem cmpKeyAt (x : List Value) (kx ky : ByteArray) (w : World) (hx : x[0]? = some (.string kx)) :
    Calls Tryz.prog 58 #[.agg x.toArray, .string ky] w fun e w' => e = .returned (.int .i64 (Lib.compareBytes (bl kx) (bl ky))) ∧ w' = w.alloc (.cells x.toArray 70) := by
  have c0 : (w.alloc (.cells x.toArray 70)).cell? ⟨w.heap.size, 0, none⟩ = some (.string kx) := cell_of (heap_new _ _ rfl) 0 (by simpa using hx)
  obtain ⟨r, hr⟩ : ∃ r, r = Lib.compareBytes (bl kx) (bl ky) := ⟨_, rfl⟩
  have HC := Lib.hid (fun W => strCmpAt kx ky W)
  rw [← hr] at HC ⊢
  clear hx hr
  go_enter Tryz.func58, Tryz.ntmps58
  go_wp2_with (first
    | (go_at_call 93; (with_reducible refine (HC.out _).mono ?_); rintro e w1 ⟨rfl, rfl⟩))
  go_ret
  exact ⟨rfl, rfl⟩
theorem compareBytes_eq (l m : List UInt8) : Lib.compareBytes l m = 0 ↔ l = m := by
  induction l generalizing m with
  | nil => cases m <;> simp [Lib.compareBytes]
  | cons a x ih =>
    cases m with
    | nil => simp [Lib.compareBytes]
    | cons b y =>
      unfold Lib.compareBytes
      by_cases h : a < b
      · have e : a ≠ b := fun e => by subst e; rw [UInt8.lt_iff_toNat_lt] at h; omega
        simp [h, e]
      · by_cases g : b < a
        · have e : a ≠ b := fun e => by subst e; exact h g
          simp [h, g, e]
        · have e : a = b := by
            rw [UInt8.lt_iff_toNat_lt] at h g
            exact UInt8.toNat_inj.1 (by omega)
          subst e
          simpa [h] using ih y
theorem rising_key {ps : List PairL} (hs : ps.Pairwise (fun x y => leT x.key y.key = true)) (i j : Nat) (hi : i < ps.length) (hj : j < ps.length) (h : i ≤ j) : bl ps[i].key ≤ bl ps[j].key := by
  by_cases e : i = j
  · subst e
    exact List.le_refl _
  · have := List.pairwise_iff_getElem.1 hs i j hi hj (by omega)
    simpa [leT, leB] using this
set_option maxHeartbeats 6400000 in
set_option maxRecDepth 100000 in
theorem searchAt (V : Value) (ps : List PairL) (ky : ByteArray) (w : World) (h : SliceE pairE w (Old w) V ps) (hs : ps.Pairwise (fun x y => leT x.key y.key = true)) (hn : ps.length ≤ 2097152) :
    Calls Tryz.prog 57 #[V, .string ky, .func (.func 58) #[] #[]] w fun e w' => ∃ (i : Nat) (b : Bool), e = .returned (.tuple #[.int .i64 i, .bool b]) ∧ (b = true → ∃ hi : i < ps.length, ps[i].key = ky) ∧ (b = false → ∀ p ∈ ps, p.key ≠ ky) ∧ Below w.heap.size w w' := by
  obtain ⟨p, cap, rfl⟩ := h.slice
  have HH := Lib.hid h
  have HS := Lib.hid hs
  clear h hs
  go_enter Tryz.func57, Tryz.ntmps57
  go_wp2_with fail
  go_loopg [9, 10] ps.length (fun gg s9 s10 wr => ∃ lo hi : Nat, s9 = .int .i64 lo ∧ s10 = .int .i64 hi ∧ lo ≤ hi ∧ hi ≤ ps.length ∧ hi - lo ≤ gg ∧ Hid ((∀ (t : Nat) (ht : t < ps.length), t < lo → bl ps[t].key < bl ky) ∧ (∀ (t : Nat) (ht : t < ps.length), hi ≤ t → ¬ bl ps[t].key < bl ky) ∧ Below w.heap.size w wr))
  case atStart => exact ⟨0, ps.length, rfl, rfl, Nat.zero_le _, Nat.le_refl _, by omega, Lib.hid ⟨fun t _ h => by omega, fun t h1 h2 => by omega, Below.refl _ _⟩⟩
  case round =>
    obtain ⟨lo, hi, rfl, rfl, hlo, hin, hg, hb⟩ := hrel
    by_cases hlt : lo < hi
    · have hx : (lo + hi) / 2 < ps.length := by omega
      obtain ⟨g, off, cap', c, e0, hgo, hrl, hra⟩ := (HH.out.stays (old_below hb.out.2.2)).at_ ((lo + hi) / 2) hx
      injection e0 with e1 e2 e3
      subst e1
      replace hra : wr.rangeAt g (off + (lo + hi) / 2 * 7) c := hra
      have hlen : c.length = 7 := pairE.len hrl
      have hc0 : c[0]? = some (.string ps[(lo + hi) / 2].key) := by
        obtain ⟨c', rfl, _⟩ := hrl
        rfl
      obtain ⟨r, hr⟩ : ∃ r, r = Lib.compareBytes (bl ps[(lo + hi) / 2].key) (bl ky) := ⟨_, rfl⟩
      have HC := Lib.hid (fun W => cmpKeyAt c ps[(lo + hi) / 2].key ky W hc0)
      rw [← hr] at HC
      have HZ : Hid (r < 0 ↔ bl ps[(lo + hi) / 2].key < bl ky) := Lib.hid (by rw [hr]; exact compareBytes_lt _ _)
      have hs1 : (lo : Int) + hi < 9223372036854775808 := by omega
      have t1 : (0 : Int) ≤ ((lo : Int) + hi) / 2 := by omega
      have t2 : ((lo : Int) + hi) / 2 < ps.length := by omega
      have t3 : (((lo : Int) + hi) / 2).toNat = (lo + hi) / 2 := by omega
      have hlt3 : (lo : Int) < hi := by omega
      clear hr hc0 hrl e2 e3
      by_cases hz : r < 0
      · have hz2 := HZ.out.1 hz
        have HB := Lib.hid (show (∀ (t : Nat) (ht : t < ps.length), t < (lo + hi) / 2 + 1 → bl ps[t].key < bl ky) from fun t ht h => List.lt_of_le_of_lt (rising_key HS.out t _ ht hx (by omega)) hz2)
        clear hz2 HZ
        go_wp2_with (first
          | ((with_reducible refine wpList_loadE (.tmp 27) g (off + (lo + hi) / 2 * 7) 70 c 7 _ hra hlen Tryz.underlying70 rfl size_pairE ?_ ?_ ?_ ?_); rfl; rfl; rfl)
          | (go_at_call 58; (with_reducible refine (HC.out _).mono ?_); rintro e w3 ⟨rfl, rfl⟩))
        go_roundg (hi - ((lo + hi) / 2 + 1))
        case measure => omega
        case rel => exact ⟨(lo + hi) / 2 + 1, hi, by rw [show (((lo + hi) / 2 + 1 : Nat) : Int) = ((lo : Int) + (hi : Int)) / 2 + 1 by omega], rfl, by omega, hin, Nat.le_refl _, Lib.hid ⟨HB.out, hb.out.2.1, hb.out.2.2.alloc hb.out.2.2.size _⟩⟩
      · have hz2 : ¬ bl ps[(lo + hi) / 2].key < bl ky := fun h => hz (HZ.out.2 h)
        have HB := Lib.hid (show (∀ (t : Nat) (ht : t < ps.length), (lo + hi) / 2 ≤ t → ¬ bl ps[t].key < bl ky) from fun t ht h q => hz2 (List.lt_of_le_of_lt (rising_key HS.out _ t hx ht h) q))
        have hz3 : decide (r < 0) = false := decide_eq_false hz
        clear hz2 HZ hz
        go_wp2_with (first
          | ((with_reducible refine wpList_loadE (.tmp 27) g (off + (lo + hi) / 2 * 7) 70 c 7 _ hra hlen Tryz.underlying70 rfl size_pairE ?_ ?_ ?_ ?_); rfl; rfl; rfl)
          | (go_at_call 58; (with_reducible refine (HC.out _).mono ?_); rintro e w3 ⟨rfl, rfl⟩))
        go_roundg ((lo + hi) / 2 - lo)
        case measure => omega
        case rel => exact ⟨lo, (lo + hi) / 2, rfl, by rw [show (((lo + hi) / 2 : Nat) : Int) = ((lo : Int) + (hi : Int)) / 2 by omega], by omega, by omega, Nat.le_refl _, Lib.hid ⟨hb.out.1, HB.out, hb.out.2.2.alloc hb.out.2.2.size _⟩⟩
    · obtain rfl : hi = lo := by omega
      by_cases hlt2 : hi < ps.length
      · obtain ⟨g, off, cap', c, e0, hgo, hrl, hra⟩ := (HH.out.stays (old_below hb.out.2.2)).at_ hi hlt2
        injection e0 with e1 e2 e3
        subst e1
        replace hra : wr.rangeAt g (off + hi * 7) c := hra
        have hlen : c.length = 7 := pairE.len hrl
        have hc0 : c[0]? = some (.string ps[hi].key) := by
          obtain ⟨c', rfl, _⟩ := hrl
          rfl
        obtain ⟨r, hr⟩ : ∃ r, r = Lib.compareBytes (bl ps[hi].key) (bl ky) := ⟨_, rfl⟩
        have HC := Lib.hid (fun W => cmpKeyAt c ps[hi].key ky W hc0)
        rw [← hr] at HC
        have HZ : Hid (r = 0 ↔ bl ps[hi].key = bl ky) := Lib.hid (by rw [hr]; exact compareBytes_eq _ _)
        have hlt3 : (hi : Int) < ps.length := by omega
        clear hr hc0 hrl e2 e3
        by_cases hz : r = 0
        · have hz2 := HZ.out.1 hz
          subst hz
          go_wp2_with (first
            | ((with_reducible refine wpList_loadEg (.tmp 43) g (off + hi * 7) 70 c 7 _ hra hlen Tryz.underlying70 rfl size_pairE ?_ ?_ ?_ ?_); rfl; rfl; rfl)
            | (go_at_call 58; (with_reducible refine (HC.out _).mono ?_); rintro e w3 ⟨rfl, rfl⟩))
          refine bodyPost_ret (results_tmp2 rfl _ _ _) rfl ?_
          exact ⟨hi, true, rfl, fun _ => ⟨hlt2, bl_inj hz2⟩, (by simp), hb.out.2.2.alloc hb.out.2.2.size _⟩
        · have hz2 : ¬ bl ps[hi].key = bl ky := fun h => hz (HZ.out.2 h)
          have hz3 : (r == 0) = false := by simpa using hz
          go_wp2_with (first
            | ((with_reducible refine wpList_loadEg (.tmp 43) g (off + hi * 7) 70 c 7 _ hra hlen Tryz.underlying70 rfl size_pairE ?_ ?_ ?_ ?_); rfl; rfl; rfl)
            | (go_at_call 58; (with_reducible refine (HC.out _).mono ?_); rintro e w3 ⟨rfl, rfl⟩))
          refine bodyPost_ret (results_tmp2 rfl _ _ _) rfl ?_
          refine ⟨hi, false, rfl, (by simp), fun _ q hq e => ?_, hb.out.2.2.alloc hb.out.2.2.size _⟩
          obtain ⟨t, ht, rfl⟩ := List.getElem_of_mem hq
          by_cases h1 : t < hi
          · have := hb.out.1 t ht h1
            rw [e] at this
            exact List.lt_irrefl _ this
          · have h2 := rising_key HS.out hi t hlt2 ht (by omega)
            rw [e] at h2
            rcases List.le_iff_lt_or_eq.1 h2 with h3 | h3
            · exact hb.out.2.1 hi hlt2 (Nat.le_refl _) h3
            · exact hz2 h3
      · obtain rfl : hi = ps.length := by omega
        go_wp2_with fail
        refine bodyPost_ret (results_tmp2 rfl _ _ _) rfl ?_
        refine ⟨ps.length, false, rfl, (by simp), fun _ q hq e => ?_, hb.out.2.2⟩
        obtain ⟨t, ht, rfl⟩ := List.getElem_of_mem hq
        have := hb.out.1 t ht ht
        rw [e] at this
        exact List.lt_irrefl _ this
end Go.Proofs.YtcfmenkigolnoaaGreatDoor

/- Prop: a property's value. -/
namespace Go.Proofs.YtcfmenkigolnoaaGreatDoor
open Go.RowKit

def nullV : Val := .mk 0 false 0 ⟨#[]⟩ ⟨#[]⟩ []
/-- What Prop answers of such a value and such a key. -/
def PropIs (g : GraphL) (k n : Int) (ky : ByteArray) (r : Val) : Prop := ∃ l, PropsOf g k n l ∧ ((∃ p ∈ l, p.key = ky ∧ r = p.v) ∨ ((∀ p ∈ l, p.key ≠ ky) ∧ r = nullV))
theorem PropsOf.sorted {g : GraphL} {k n : Int} {l : List PairL} (h : PropsOf g k n l) : l.Pairwise (fun x y => leT x.key y.key = true) := by
  unfold PropsOf at h
  split at h
  · rcases h with ⟨_, _, _, h⟩ | ⟨_, rfl⟩
    · exact h.2
    · exact List.Pairwise.nil
  · split at h
    · rcases h with ⟨_, _, _, h⟩ | ⟨_, rfl⟩
      · exact h.2
      · exact List.Pairwise.nil
    · subst h
      exact List.Pairwise.nil
theorem range_tail {w : World} {g o : Nat} {x : Value} {c : List Value} (h : w.rangeAt g o (x :: c)) : w.rangeAt g (o + 1) c := fun j u hj => by
  have := h (j + 1) u (by simpa using hj)
  rwa [show o + 1 + j = o + (j + 1) by omega]
theorem ownValC : (v : Val) → (W : World) → (c : List Value) → valRel W (Old W) c v → Calls Tryz.prog 59 #[.agg c.toArray] W fun e w' => ∃ cz, e = .returned (.agg cz.toArray) ∧ valRel w' (New W w') cz v ∧ Below W.heap.size W w'
  | .mk k b n t x q, W, c, h => by
    obtain ⟨L, rfl, hf, hq⟩ := h
    obtain ⟨p, cap, rfl⟩ := held_slice (HeldF.held q hq)
    refine (ownStep k b n t x q p cap W hf hq (ownEach q)).mono ?_
    rintro e w' ⟨V, rfl, hV, hb⟩
    exact ⟨[.int .i64 k, .bool b, .int .i64 n, .string t, .string x, V], rfl, ⟨V, rfl, hf, hV⟩, hb⟩
theorem null_fine : Fine 0 ⟨#[]⟩ ⟨#[]⟩ 0 := by constructor <;> decide
set_option maxHeartbeats 6400000 in
set_option maxRecDepth 20000 in
theorem propKeyAt (W : World) (s : Nat) (g : GraphL) (h : StoreE W s g) (k : Int) (b : Value) (n : Int) (t x L : Value) (hn : (Lit.int .i64 n).wf = true) (ky : ByteArray) :
    Calls Tryz.prog 27 #[.pointer (some ⟨s, 0, none⟩), .agg #[.int .i64 k, b, .int .i64 n, t, x, L], .string ky] W fun e w' => ∃ r c, e = .returned (.agg c.toArray) ∧ valE.rel w' (Old w') c r ∧ PropIs g k n ky r ∧ Below W.heap.size W w' := by
  have hz1 : ∀ u ∈ [Value.int .i64 0, .bool false, .int .i64 0, .string ⟨#[]⟩, .string ⟨#[]⟩, .slice none 0 0], u.oneCell' = true := by simp [Value.oneCell']
  have u1 : ((W.alloc (.cells #[.int .i64 k, b, .int .i64 n, t, x, L] 60)).alloc (.cells #[.int .i64 0, .bool false, .int .i64 0, .string ⟨#[]⟩, .string ⟨#[]⟩, .slice none 0 0] 60)).heap[W.heap.size]? = some (.cells #[.int .i64 k, b, .int .i64 n, t, x, L] 60 (0, 0)) := heap_old _ (heap_new _ _ rfl)
  have u2 : ((W.alloc (.cells #[.int .i64 k, b, .int .i64 n, t, x, L] 60)).alloc (.cells #[.int .i64 0, .bool false, .int .i64 0, .string ⟨#[]⟩, .string ⟨#[]⟩, .slice none 0 0] 60)).heap[W.heap.size + 1]? = some (.cells #[.int .i64 0, .bool false, .int .i64 0, .string ⟨#[]⟩, .string ⟨#[]⟩, .slice none 0 0] 60 (0, 0)) := heap_new _ _ (by simp)
  have b0 : Below W.heap.size W ((W.alloc (.cells #[.int .i64 k, b, .int .i64 n, t, x, L] 60)).alloc (.cells #[.int .i64 0, .bool false, .int .i64 0, .string ⟨#[]⟩, .string ⟨#[]⟩, .slice none 0 0] 60)) := below2 _ _ _
  obtain ⟨W0, hW0⟩ : ∃ W0, W0 = ((W.alloc (.cells #[.int .i64 k, b, .int .i64 n, t, x, L] 60)).alloc (.cells #[.int .i64 0, .bool false, .int .i64 0, .string ⟨#[]⟩, .string ⟨#[]⟩, .slice none 0 0] 60)) := ⟨_, rfl⟩
  rw [← hW0] at u1 u2 b0
  have H0 := Lib.hid hW0
  have HP := Lib.hid (propsOfAt W0 s g (h.below b0) k b n t x L hn)
  clear hW0 h hn
  go_enter Tryz.func27, Tryz.ntmps27
  go_upto_region 1 with fail
  rw [← H0.out]
  go_upto_region 3 with (first
    | ((with_reducible refine wpList_loadRowE (.tmp 4) W.heap.size 60 60 [.int .i64 k, b, .int .i64 n, t, x, L] 6 _ u1 rfl Tryz.underlying60 rfl size_valE ?_ ?_ ?_ ?_); rfl; rfl; rfl)
    | (go_at_call 56; (with_reducible refine HP.out.mono ?_); rintro e w1 ⟨pv, l, rfl, hs1, hl1, hp1, hb1⟩; have b1 := below_any b0 hb1 b0.size; replace u2 := (hb1.block _ (lt_of_heap u2)).trans u2; clear u1)
    | (go_at_call 57; (with_reducible refine (searchAt pv l ky _ hs1 hp1.sorted hl1).mono ?_); rintro e w2 ⟨i, found, rfl, ht, hf, hb2⟩; have b2 := below_any b1 hb2 b1.size; replace u2 := (hb2.block _ (lt_of_heap u2)).trans u2))
  cases found with
  | false =>
    have HF := Lib.hid (And.intro hp1 hf)
    clear ht hf hs1 hl1 hp1 hb1 hb2 b1
    go_wp2_with (first
      | ((with_reducible refine wpList_storeE (.tmp 6) (.tmp 21) (W.heap.size + 1) 60 60 _ [.int .i64 0, .bool false, .int .i64 0, .string ⟨#[]⟩, .string ⟨#[]⟩, .slice none 0 0] 6 u2 rfl ?_ ?_ ?_ ?_ size_valE rfl hz1 ?_); rfl; rfl; rfl; rfl; intro wX oX u5))
    exact bodyPost_ret (results_cell_row (p := 6) (ty := 60) Tryz.results27 _ _ (W.heap.size + 1) 60 _ (0, 0) _ rfl u5 Tryz.underlying60 rfl size_valE) rfl
      ⟨nullV, [.int .i64 0, .bool false, .int .i64 0, .string ⟨#[]⟩, .string ⟨#[]⟩, .slice none 0 0], rfl, ⟨_, rfl, null_fine, ⟨_, _, rfl⟩⟩, ⟨l, HF.out.1, .inr ⟨HF.out.2 (by simp), rfl⟩⟩, below_only b2 oX (by omega) b2.size⟩
  | true =>
    obtain ⟨hi, hkey⟩ := ht rfl
    obtain ⟨g2, off, cap, c, e0, hg, hrl, hra⟩ := (hs1.stays (old_below hb2)).at_ i hi
    subst e0
    obtain ⟨c', rfl, _, hv⟩ := hrl
    have ra2 := range_tail hra
    replace ra2 : w2.rangeAt g2 (off + i * 7 + 1) c' := ra2
    have hlen : c'.length = 6 := valE.len hv
    have hmem : l[i] ∈ l := List.getElem_mem hi
    have HF := Lib.hid (And.intro hp1 (And.intro hmem hkey))
    have HC := Lib.hid (ownValC l[i].v w2 c' hv)
    have hi3 : (i : Int) < l.length := by omega
    clear ht hf hs1 hp1 hb1 hb2 b1 hra hv hkey hmem
    go_wp2_with (first
      | ((with_reducible refine wpList_loadE (.tmp 25) g2 (off + i * 7 + 1) 60 c' 6 _ ra2 hlen Tryz.underlying60 rfl size_valE ?_ ?_ ?_ ?_); rfl; rfl; rfl)
      | (go_at_call 59; (with_reducible refine HC.out.mono ?_); rintro e w3 ⟨cz, rfl, hz, hb3⟩; have hl3 := lt_of_heap u2; have b3 := below_any b2 hb3 b2.size; replace u2 := (hb3.block _ (lt_of_heap u2)).trans u2; have hone := valE.one hz; have hlz : cz.length = 6 := valE.len hz)
      | ((with_reducible refine wpList_storeE (.tmp 6) (.tmp 27) (W.heap.size + 1) 60 60 _ cz 6 u2 hlz ?_ ?_ ?_ ?_ size_valE rfl hone ?_); rfl; rfl; rfl; rfl; intro wX oX u5))
    have hoX := oX.size
    exact bodyPost_ret (results_cell_row (p := 6) (ty := 60) Tryz.results27 _ _ (W.heap.size + 1) 60 _ (0, 0) _ rfl u5 Tryz.underlying60 rfl (by rw [size_valE]; simp [hlz])) rfl
      ⟨l[i].v, cz, rfl, valE.stays (fun g hg => ⟨Nat.lt_of_lt_of_le hg.2 hoX, oX.block g hg.2 (by have := hg.1; omega)⟩) hz, ⟨l, HF.out.1, .inl ⟨l[i], HF.out.2.1, HF.out.2.2, rfl⟩⟩, below_only b3 oX (by omega) b3.size⟩
end Go.Proofs.YtcfmenkigolnoaaGreatDoor
