/- Texts of one kind, one behind the other: each says ahead of itself what it shows. -/
import Derived.Test.YtcfmenkigolnoaaGreatDoorTao
/- Load: the store of a graph that may be. -/
namespace Go.Proofs.YtcfmenkigolnoaaGreatDoor
open Go.RowKit

theorem Groups.low {κ : Type} [DecidableEq κ] {kt : TypeId} {K : κ → Lit} {w : World} {base base' b : Nat} {E : List (κ × Int)} (h : Groups kt K w base b E) (k : base' ≤ base) : Groups kt K w base' b E := by
  obtain ⟨n, f, h1, h2, h3, h4⟩ := h
  refine ⟨n, f, h1, h2, fun x => ?_, h4⟩
  rcases h3 x with h | ⟨v, e, ho⟩
  · exact .inl h
  · exact .inr ⟨v, e, own_base ho k⟩
theorem AllIn.below {α : Type} {E : Elem α} {id : α → Int} {Pl : α → α → Prop} {w w' : World} {b : Nat} {l : List α} (h : AllIn E id Pl w (Old w) b l) (k : Below w.heap.size w w') : AllIn E id Pl w' (Old w') b l := by
  refine AllIn.stays h (old_below k) ?_
  obtain ⟨n, f, _, hm, _⟩ := h
  exact k.block b hm.lt
/-- A store of the graph: its nodes and edges in their plain form, their numbers, rising; the numbers behind each label and at each node. -/
structure StoreE (w : World) (s : Nat) (g : GraphL) : Prop where
  is : ∃ m0 m1 m4 m5 V2 V3, w.heap[s]? = some (.cells #[.map (some m0), .map (some m1), V2, V3, .map (some m4), .map (some m5)] 79 (0, 0)) ∧
    AllIn nodeE NodeL.id PlainN w (Old w) m0 g.nodes ∧ AllIn edgeE EdgeL.id PlainE w (Old w) m1 g.edges ∧
    w.ownsRow 0 2 1 V2 ((g.nodes.map NodeL.id).mergeSort leI).length (((g.nodes.map NodeL.id).mergeSort leI).map (Value.int .i64)) ∧
    w.ownsRow 0 2 1 V3 ((g.edges.map EdgeL.id).mergeSort leI).length (((g.edges.map EdgeL.id).mergeSort leI).map (Value.int .i64)) ∧
    Groups 9 Lit.string w 0 m4 (((g.nodes.map NodeL.id).mergeSort leI).flatMap (evN g.nodes)) ∧ Groups 98 KW w 0 m5 (((g.edges.map EdgeL.id).mergeSort leI).flatMap (evE g.edges))
theorem StoreE.below {w w' : World} {s : Nat} {g : GraphL} (h : StoreE w s g) (b : Below w.heap.size w w') : StoreE w' s g := by
  obtain ⟨m0, m1, m4, m5, V2, V3, q0, q1, q2, q3, q4, q5, q6⟩ := h.is
  exact ⟨m0, m1, m4, m5, V2, V3, (b.block s (lt_of_heap q0)).trans q0, q1.below b, q2.below b, own_keep q3 fun i e => b.block i (q3.lt i e).2, own_keep q4 fun i e => b.block i (q4.lt i e).2, q5.keep fun i _ hi => b.block i hi, q6.keep fun i _ hi => b.block i hi⟩
theorem size25 : (Tryz.prog.info? 25).map (·.size) = some 2 := by kernel_rfl
/-- What Load answers. -/
def LPost (W : World) (g : GraphL) (e : Ending) (w' : World) : Prop :=
  Below W.heap.size W w' ∧ (if graphP g = true then ∃ s, e = .returned (.tuple #[.pointer (some ⟨s, 0, none⟩), .int .i64 0]) ∧ StoreE w' s g else e = .returned (.tuple #[.pointer none, .int .i64 21]))
set_option maxHeartbeats 6400000 in
set_option maxRecDepth 20000 in
theorem loadAt (g : GraphL) (vn ve : Value) (W : World) (hG : Gd W) (hn : SliceE nodeE W (Old W) vn g.nodes) (he : SliceE edgeE W (Old W) ve g.edges) (hn1 : g.nodes.length ≤ 2097152) (hn2 : g.edges.length ≤ 2097152) :
    Calls Tryz.prog 11 #[.agg #[vn, ve]] W (LPost W g) := by
  have hn0 := hn
  have he0 := he
  obtain ⟨p1, cap1, rfl⟩ := hn0.slice
  obtain ⟨p2, cap2, rfl⟩ := he0.slice
  obtain ⟨n1, hl1⟩ : ∃ n, n = g.nodes.length := ⟨_, rfl⟩
  obtain ⟨n2, hl2⟩ : ∃ n, n = g.edges.length := ⟨_, rfl⟩
  rw [← hl1] at hn
  rw [← hl2] at he
  rw [← hl1, ← hl2]
  have u1 : (W.alloc (.cells #[.slice p1 n1 cap1, .slice p2 n2 cap2] 25)).heap[W.heap.size]? = some (.cells #[.slice p1 n1 cap1, .slice p2 n2 cap2] 25 (0, 0)) := heap_new _ _ rfl
  have b0 := below1 W (.cells #[.slice p1 n1 cap1, .slice p2 n2 cap2] 25)
  obtain ⟨W0, hW0⟩ : ∃ W0, W0 = W.alloc (.cells #[.slice p1 n1 cap1, .slice p2 n2 cap2] 25) := ⟨_, rfl⟩
  rw [← hW0] at u1 b0
  have H0 := Lib.hid hW0
  obtain ⟨r, hr⟩ : ∃ r, r = graphP g := ⟨_, rfl⟩
  have HM : Hid (Calls Tryz.prog 36 #[.agg #[.slice p1 n1 cap1, .slice p2 n2 cap2]] W0 fun e w' => e = .returned (.bool r) ∧ Below W0.heap.size W0 w') := Lib.hid (by rw [hr]; exact graphMayAt g _ _ W0 (hG.below b0) (hn.stays (old_below b0)) (he.stays (old_below b0)) hn1 hn2)
  have HN := Lib.hid hn
  have HE := Lib.hid he
  have HR := Lib.hid hr
  have HL := Lib.hid (And.intro hl1 hl2)
  clear hn he hr hG hW0 hl1 hl2 hn1 hn2 hn0 he0
  cases r with
  | false =>
    go_enter Tryz.func11, Tryz.ntmps11
    go_upto_region 1 with fail
    rw [← H0.out]
    go_wp2_with (first
      | ((with_reducible refine wpList_loadRowE (.tmp 1) W.heap.size 25 25 [.slice p1 n1 cap1, .slice p2 n2 cap2] 2 _ u1 rfl Tryz.underlying25 rfl size25 ?_ ?_ ?_ ?_); rfl; rfl; rfl)
      | (go_at_call 36; (with_reducible refine HM.out.mono ?_); rintro e w1 ⟨rfl, hb1⟩; have b1 := below_any b0 hb1 b0.size))
    refine bodyPost_ret (results_tmp2 rfl _ _ _) rfl ?_
    refine ⟨b1, ?_⟩
    rw [← HR.out, if_neg (by simp)]
    try rfl
  | true =>
    have hmm := @run_makeMap Tryz.prog
    go_enter Tryz.func11, Tryz.ntmps11
    go_upto_region 1 with fail
    rw [← H0.out]
    go_upto_region 4 with (first
      | ((with_reducible refine wpList_loadRowE (.tmp 1) W.heap.size 25 25 [.slice p1 n1 cap1, .slice p2 n2 cap2] 2 _ u1 rfl Tryz.underlying25 rfl size25 ?_ ?_ ?_ ?_); rfl; rfl; rfl)
      | (go_at_call 36; (with_reducible refine HM.out.mono ?_); rintro e w1 ⟨rfl, hb1⟩; have b1 := below_any b0 hb1 b0.size; replace u1 := (hb1.block _ (lt_of_heap u1)).trans u1))
    have HW1 := Lib.hid (lt_of_heap u1)
    have hgp := HR.out.symm
    unfold graphP at hgp
    simp only [Bool.and_eq_true, decide_eq_true_eq] at hgp
    obtain ⟨⟨⟨⟨⟨hl1, hl2⟩, hd1⟩, hd2⟩, _⟩, _⟩ := hgp
    obtain ⟨m, hm⟩ : ∃ m, m = w1.heap.size := ⟨_, rfl⟩
    have u2 : (((((w1.alloc (.map #[] 0)).alloc (.map #[] 0)).alloc (.map #[] 0)).alloc (.map #[] 0)).alloc (.cells #[.map (some w1.heap.size), .map (some (w1.heap.size + 1)), .slice none 0 0, .slice none 0 0, .map (some (w1.heap.size + 1 + 1)), .map (some (w1.heap.size + 1 + 1 + 1))] 79)).heap[w1.heap.size + 1 + 1 + 1 + 1]? = some (.cells #[.map (some w1.heap.size), .map (some (w1.heap.size + 1)), .slice none 0 0, .slice none 0 0, .map (some (w1.heap.size + 1 + 1)), .map (some (w1.heap.size + 1 + 1 + 1))] 79 (0, 0)) := heap_new _ _ (by simp)
    have z2 : (((((w1.alloc (.map #[] 0)).alloc (.map #[] 0)).alloc (.map #[] 0)).alloc (.map #[] 0)).alloc (.cells #[.map (some w1.heap.size), .map (some (w1.heap.size + 1)), .slice none 0 0, .slice none 0 0, .map (some (w1.heap.size + 1 + 1)), .map (some (w1.heap.size + 1 + 1 + 1))] 79)).heap.size = w1.heap.size + 1 + 1 + 1 + 1 + 1 := by simp
    have g0 : (((((w1.alloc (.map #[] 0)).alloc (.map #[] 0)).alloc (.map #[] 0)).alloc (.map #[] 0)).alloc (.cells #[.map (some w1.heap.size), .map (some (w1.heap.size + 1)), .slice none 0 0, .slice none 0 0, .map (some (w1.heap.size + 1 + 1)), .map (some (w1.heap.size + 1 + 1 + 1))] 79)).heap[w1.heap.size]? = some (.map #[] 0) := heap_old _ (heap_old _ (heap_old _ (heap_old _ (heap_new _ _ rfl))))
    have g1 : (((((w1.alloc (.map #[] 0)).alloc (.map #[] 0)).alloc (.map #[] 0)).alloc (.map #[] 0)).alloc (.cells #[.map (some w1.heap.size), .map (some (w1.heap.size + 1)), .slice none 0 0, .slice none 0 0, .map (some (w1.heap.size + 1 + 1)), .map (some (w1.heap.size + 1 + 1 + 1))] 79)).heap[w1.heap.size + 1]? = some (.map #[] 0) := heap_old _ (heap_old _ (heap_old _ (heap_new _ _ (by simp))))
    have g2 : (((((w1.alloc (.map #[] 0)).alloc (.map #[] 0)).alloc (.map #[] 0)).alloc (.map #[] 0)).alloc (.cells #[.map (some w1.heap.size), .map (some (w1.heap.size + 1)), .slice none 0 0, .slice none 0 0, .map (some (w1.heap.size + 1 + 1)), .map (some (w1.heap.size + 1 + 1 + 1))] 79)).heap[w1.heap.size + 1 + 1]? = some (.map #[] 0) := heap_old _ (heap_old _ (heap_new _ _ (by simp)))
    have g3 : (((((w1.alloc (.map #[] 0)).alloc (.map #[] 0)).alloc (.map #[] 0)).alloc (.map #[] 0)).alloc (.cells #[.map (some w1.heap.size), .map (some (w1.heap.size + 1)), .slice none 0 0, .slice none 0 0, .map (some (w1.heap.size + 1 + 1)), .map (some (w1.heap.size + 1 + 1 + 1))] 79)).heap[w1.heap.size + 1 + 1 + 1]? = some (.map #[] 0) := heap_old _ (heap_new _ _ (by simp))
    have k2 : Below w1.heap.size w1 (((((w1.alloc (.map #[] 0)).alloc (.map #[] 0)).alloc (.map #[] 0)).alloc (.map #[] 0)).alloc (.cells #[.map (some w1.heap.size), .map (some (w1.heap.size + 1)), .slice none 0 0, .slice none 0 0, .map (some (w1.heap.size + 1 + 1)), .map (some (w1.heap.size + 1 + 1 + 1))] 79)) := (((((Below.refl _ _).alloc (by simp) _).alloc (by simp) _).alloc (by simp; omega) _).alloc (by simp; omega) _).alloc (by simp; omega) _
    obtain ⟨w2, hw2⟩ : ∃ w2, w2 = (((((w1.alloc (.map #[] 0)).alloc (.map #[] 0)).alloc (.map #[] 0)).alloc (.map #[] 0)).alloc (.cells #[.map (some w1.heap.size), .map (some (w1.heap.size + 1)), .slice none 0 0, .slice none 0 0, .map (some (w1.heap.size + 1 + 1)), .map (some (w1.heap.size + 1 + 1 + 1))] 79)) := ⟨_, rfl⟩
    rw [← hw2] at u2 z2 g0 g1 g2 g3 k2 ⊢
    clear hw2
    replace u1 := (k2.block _ (lt_of_heap u1)).trans u1
    have hWm : W.heap.size < m := by rw [hm]; exact HW1.out
    rw [← hm] at u2 z2 g0 g1 g2 g3 k2 ⊢
    have b2 : Below W.heap.size W w2 := b1.trans (k2.mono (by rw [hm]; exact b1.size))
    have HTN := Lib.hid (takeNodesAt W.heap.size (m + 1 + 1 + 1 + 1) m (m + 1 + 1) _ g.nodes (.slice p1 n1 cap1) w2 u2 rfl rfl rfl g0 g2 (by omega) (by omega) (HN.out.stays fun i hi => ⟨hi, b2.block i hi⟩) hd1 hl1)
    have HD2 := Lib.hid (And.intro hd2 hl2)
    have c0 := cell_of u1 0 rfl
    have hbW := b2.size
    clear hd1 hl1 hd2 hl2 b1 hb1 k2 g0 b0 hm
    go_upto_region 5 with (first
      | (go_at_call 37; (with_reducible refine HTN.out.mono ?_); rintro e w3 ⟨rfl, V2, N1, N3, u3, hV2, hA, hG, hN1, hN13, hN3, hVN, k3⟩))
    replace u3 : w3.heap[m + 1 + 1 + 1 + 1]? = some (.cells #[.map (some m), .map (some (m + 1)), V2, .slice none 0 0, .map (some (m + 1 + 1)), .map (some (m + 1 + 1 + 1))] 79 (0, 0)) := u3
    replace u1 := (k3.block _ (lt_of_heap u1) (by omega)).trans u1
    replace g1 := (k3.block _ (lt_of_heap g1) (by omega)).trans g1
    replace g3 := (k3.block _ (lt_of_heap g3) (by omega)).trans g3
    have b3 : Below W.heap.size W w3 := b2.trans (k3.low hbW (fun i hi => by omega))
    have HTE := Lib.hid (takeEdgesAt W.heap.size (m + 1 + 1 + 1 + 1) (m + 1) (m + 1 + 1 + 1) _ g.edges (.slice p2 n2 cap2) w3 u3 rfl rfl rfl g1 g3 (by omega) (by omega) (HE.out.stays fun i hi => ⟨hi, b3.block i hi⟩) HD2.out.1 HD2.out.2)
    have c1 := cell_of u1 1 rfl
    have HX := Lib.hid (And.intro hV2 (And.intro hA (And.intro hG hVN)))
    have hb3 := b3.size
    have hs3 := k3.size
    clear hV2 hA hG hVN g1 g2 g3 c0 u2 k3 b2
    go_wp2_with (first
      | (go_at_call 38; (with_reducible refine HTE.out.mono ?_); rintro e w4 ⟨rfl, V3, N5, N7, u4, hV3, hA3, hG3, hN5, hN57, hN7, hVN3, k4⟩))
    refine bodyPost_ret (results_tmp2 rfl _ _ _) rfl ?_
    obtain ⟨hV2, hA, hG, hVN⟩ := HX.out
    have hs4 := k4.size
    have l0 : m < w3.heap.size := by omega
    have low : ∀ i, i < w3.heap.size → (i ≤ m ∨ i = m + 1 + 1 ∨ w2.heap.size ≤ i) → w4.heap[i]? = w3.heap[i]? := fun i hi h => k4.block i hi (by omega)
    refine ⟨b3.trans (k4.low hb3 (fun i hi => by omega)), ?_⟩
    rw [← HR.out, if_pos rfl]
    refine ⟨_, rfl, ⟨m, m + 1, m + 1 + 1, m + 1 + 1 + 1, V2, V3, u4, ?_, ?_, ?_, ?_, ?_, ?_⟩⟩
    · exact AllIn.stays hA (fun i hi => ⟨(by show i < w4.heap.size; have := hi.2; omega), low i (by have := hi.2; omega) (.inr (.inr hi.1))⟩) (low m l0 (.inl (Nat.le_refl _)))
    · exact AllIn.stays hA3 (fun i hi => ⟨(by show i < w4.heap.size; have := hi.2; omega), rfl⟩) rfl
    · exact own_base (own_keep hV2 fun i e => low i (hV2.lt i e).2 (.inr (.inr (by have := (hV2.lt i e).1; omega)))) (Nat.zero_le _)
    · exact own_base hV3 (Nat.zero_le _)
    · exact (hG.keep fun i hi hl => low i hl (by rcases hi with h | h; exact .inr (.inl h); exact .inr (.inr (by omega)))).low (Nat.zero_le _)
    · exact hG3.low (Nat.zero_le _)
end Go.Proofs.YtcfmenkigolnoaaGreatDoor

/- props: the properties of what is a node's or an edge's number. -/
namespace Go.Proofs.YtcfmenkigolnoaaGreatDoor
open Go.RowKit

/-- What the properties of such a value are, in their plain form. -/
def PropsOf (g : GraphL) (k n : Int) (l : List PairL) : Prop :=
  if k = 6 then (∃ a ∈ g.nodes, a.id = n ∧ PlainP a.props l) ∨ ((∀ a ∈ g.nodes, a.id ≠ n) ∧ l = [])
  else if k = 7 then (∃ a ∈ g.edges, a.id = n ∧ PlainP a.props l) ∨ ((∀ a ∈ g.edges, a.id ≠ n) ∧ l = [])
  else l = []
end Go.Proofs.YtcfmenkigolnoaaGreatDoor

/- A property is looked for by its key. -/
namespace Go.Proofs.YtcfmenkigolnoaaGreatDoor
open Go.RowKit

end Go.Proofs.YtcfmenkigolnoaaGreatDoor

/- Prop: a property's value. -/
namespace Go.Proofs.YtcfmenkigolnoaaGreatDoor
open Go.RowKit

theorem PropsOf.sorted {g : GraphL} {k n : Int} {l : List PairL} (h : PropsOf g k n l) : l.Pairwise (fun x y => leT x.key y.key = true) := by
  unfold PropsOf at h
  split at h
  · rcases h with ⟨_, _, _, h⟩ | ⟨_, rfl⟩
    · exact h.2
    · exact List.Pairwise.nil
  · split at h
    · rcases h with ⟨_, _, _, h⟩ | ⟨_, rfl⟩
      · exact h.2
      · exact List.Pairwise.nil
    · subst h
      exact List.Pairwise.nil
theorem range_tail {w : World} {g o : Nat} {x : Value} {c : List Value} (h : w.rangeAt g o (x :: c)) : w.rangeAt g (o + 1) c := fun j u hj => by
  have := h (j + 1) u (by simpa using hj)
  rwa [show o + 1 + j = o + (j + 1) by omega]
end Go.Proofs.YtcfmenkigolnoaaGreatDoor

/- light: how great a graph is. -/
namespace Go.Proofs.YtcfmenkigolnoaaGreatDoor
open Go.RowKit

def LightPost (W : World) (e : Ending) (w' : World) : Prop := ∃ b, e = .returned (.bool b) ∧ Below W.heap.size W w'
theorem wrap64_id {x : Int} (h0 : -9223372036854775808 ≤ x) (h1 : x < 9223372036854775808) : IntKind.i64.wrap x = x := by
  have e1 : (2 : Int) ^ IntKind.i64.bits = 18446744073709551616 := by decide
  have e2 : (2 : Int) ^ (IntKind.i64.bits - 1) = 9223372036854775808 := by decide
  have e3 : IntKind.i64.signed = true := rfl
  unfold IntKind.wrap
  simp only [e1, e2, e3, Bool.true_and, decide_eq_true_eq]
  split <;> omega
set_option maxHeartbeats 6400000 in
set_option maxRecDepth 20000 in
theorem lightAt (g : GraphL) (vn ve : Value) (W : World) (hn : SliceE nodeE W (Old W) vn g.nodes) (he : SliceE edgeE W (Old W) ve g.edges) (hn1 : g.nodes.length ≤ 2097152) (hn2 : g.edges.length ≤ 2097152) :
    Calls Tryz.prog 8 #[.agg #[vn, ve]] W (LightPost W) := by
  have hnn := hn
  have hee := he
  obtain ⟨p1, cap1, rfl⟩ := hn.slice
  obtain ⟨p2, cap2, rfl⟩ := he.slice
  obtain ⟨n1, hl1⟩ : ∃ n, n = g.nodes.length := ⟨_, rfl⟩
  obtain ⟨n2, hl2⟩ : ∃ n, n = g.edges.length := ⟨_, rfl⟩
  rw [← hl1] at hn1
  rw [← hl2] at hn2
  rw [← hl1] at hnn
  rw [← hl2] at hee
  rw [← hl1, ← hl2]
  have u1 : (W.alloc (.cells #[.slice p1 n1 cap1, .slice p2 n2 cap2] 25)).heap[W.heap.size]? = some (.cells #[.slice p1 n1 cap1, .slice p2 n2 cap2] 25 (0, 0)) := heap_new _ _ rfl
  have b0 := below1 W (.cells #[.slice p1 n1 cap1, .slice p2 n2 cap2] 25)
  obtain ⟨W0, hW0⟩ : ∃ W0, W0 = W.alloc (.cells #[.slice p1 n1 cap1, .slice p2 n2 cap2] 25) := ⟨_, rfl⟩
  rw [← hW0] at u1 b0
  have H0 := Lib.hid hW0
  have HN := Lib.hid (hnn.stays (old_below b0))
  have HE := Lib.hid (hee.stays (old_below b0))
  have HL := Lib.hid (And.intro hl1 hl2)
  have D0 : ∀ W' : World, W'.heap = W0.heap → W'.heap[W.heap.size]? = some (.cells #[.slice p1 n1 cap1, .slice p2 n2 cap2] 25 (0, 0)) := fun W' h => by rw [h]; exact u1
  have HD := Lib.hid D0
  have c0 := cell_of u1 0 rfl
  have c1 := cell_of u1 1 rfl
  clear hnn hee hn he hl1 hl2 hW0 D0
  go_enter Tryz.func8, Tryz.ntmps8
  go_upto_region 1 with fail
  rw [← H0.out]
  go_upto_block 0 with fail
  go_cut [3, 4] (fun s3 s4 wx => ∃ N : Nat, s3 = .int .i64 N ∧ N ≤ 17592186044416 ∧ wx.heap = W0.heap ∧ Below W.heap.size W wx)
  case first =>
    go_wp2_with fail
    go_loopg [3, 4] n1 (fun gg s3 s4 wr => ∃ j N : Nat, j + gg = n1 ∧ s4 = .int .i64 j ∧ s3 = .int .i64 N ∧ N ≤ 4194304 + j * 4194304 ∧ wr.heap = W0.heap ∧ Below W.heap.size W wr)
    case atStart => exact ⟨0, n1 + n2, by omega, rfl, by go_num, by omega, rfl, b0⟩
    case round =>
      obtain ⟨j, N, hjg, rfl, rfl, hN, hh, hB⟩ := hrel
      have c0r := cell_of (HD.out wr hh) 0 rfl
      by_cases hlt : (j : Int) < n1
      · have hj1 : j < g.nodes.length := by have := HL.out.1; omega
        obtain ⟨g2, off, cap', c, e0, hg, hrl, hra⟩ := HN.out.at_ j hj1
        injection e0 with e1 e2 e3
        subst e1
        replace hra : W0.rangeAt g2 (off + j * 3) c := hra
        obtain ⟨lv, pv, rfl, _, hm1, hm2, hlv, hpv⟩ := hrl
        obtain ⟨pl, capl, rfl⟩ := hlv.slice
        obtain ⟨pp, capp, rfl⟩ := hpv.slice
        obtain ⟨m, hm⟩ : ∃ m, m = g.nodes[j].labels.length := ⟨_, rfl⟩
        obtain ⟨m2, hm2'⟩ : ∃ m, m = g.nodes[j].props.length := ⟨_, rfl⟩
        rw [← hm] at hm1 hra
        rw [← hm2'] at hm2 hra
        have C0 : ∀ W' : World, W'.heap = W0.heap → W'.cell? ⟨W.heap.size, 0, none⟩ = some (.slice (some ⟨g2, off, none⟩) n1 cap1) := fun W' h => cell_of (HD.out W' h) 0 rfl
        have C1 : ∀ W' : World, W'.heap = W0.heap → W'.cell? ⟨g2, off + j * 3 + 1, none⟩ = some (.slice pl m capl) := fun W' h => by
          have := hra 1 _ rfl
          unfold World.cell? at this ⊢
          rw [h]
          exact this
        have C2 : ∀ W' : World, W'.heap = W0.heap → W'.cell? ⟨g2, off + j * 3 + 2, none⟩ = some (.slice pp m2 capp) := fun W' h => by
          have := hra 2 _ rfl
          unfold World.cell? at this ⊢
          rw [h]
          exact this
        have hs0 : (N : Int) < 9223372036854775808 := by omega
        have hs1 : (N : Int) + m < 9223372036854775808 := by omega
        have hs2 : (N : Int) + m + m2 < 9223372036854775808 := by omega
        clear hlv hpv hra e2 e3 hm hm2' c0 c1 u1
        go_upto_region 5 with fail
        refine wp_region_held_drew (S := fun W' => W'.heap = W0.heap) (by kernel_rfl) hh (fun _ => ?_)
        refine wpAnyH_take (i := 0) (v := .int .i64 (N : Int)) rfl (by kernel_rfl) (by kernel_rfl) (by kernel_rfl) (fun _ _ _ h => h) (Or.inl ⟨by rfl, fun W _ => by go_simp⟩) (hh) ?_
        try simp only [Act.put, List.getElem_toArray, List.getElem_cons_succ, List.getElem_cons_zero, List.setIfInBounds_toArray, List.set_cons_zero, List.set_cons_succ]
        refine wpAnyH_take (i := 1) (v := .pointer (some ⟨W.heap.size, 0, none⟩)) rfl (by kernel_rfl) (by kernel_rfl) (by kernel_rfl) (fun _ _ _ h => h) (Or.inl ⟨by rfl, fun W _ => by go_simp⟩) (hh) ?_
        try simp only [Act.put, List.getElem_toArray, List.getElem_cons_succ, List.getElem_cons_zero, List.setIfInBounds_toArray, List.set_cons_zero, List.set_cons_succ]
        refine wpAnyH_take (i := 3) (v := .int .i64 (j : Int)) rfl (by kernel_rfl) (by kernel_rfl) (by kernel_rfl) (fun _ _ _ h => h) (Or.inl ⟨by rfl, fun W _ => by go_simp⟩) (hh) ?_
        try simp only [Act.put, List.getElem_toArray, List.getElem_cons_succ, List.getElem_cons_zero, List.setIfInBounds_toArray, List.set_cons_zero, List.set_cons_succ]
        refine wpAnyH_take (i := 9) (v := .pointer (some ⟨W.heap.size, 0, none⟩)) rfl (by kernel_rfl) (by kernel_rfl) (by kernel_rfl) (fun _ _ _ h => h) (Or.inl ⟨by rfl, fun W _ => by go_simp⟩) (hh) ?_
        try simp only [Act.put, List.getElem_toArray, List.getElem_cons_succ, List.getElem_cons_zero, List.setIfInBounds_toArray, List.set_cons_zero, List.set_cons_succ]
        refine wpAnyH_take (i := 11) (v := .int .i64 (j : Int)) rfl (by kernel_rfl) (by kernel_rfl) (by kernel_rfl) (fun _ _ _ h => h) (Or.inl ⟨by rfl, fun W _ => by go_simp⟩) (hh) ?_
        try simp only [Act.put, List.getElem_toArray, List.getElem_cons_succ, List.getElem_cons_zero, List.setIfInBounds_toArray, List.set_cons_zero, List.set_cons_succ]
        refine wpAnyH_take (i := 2) (v := .slice (some ⟨g2, off, none⟩) n1 cap1) rfl (by kernel_rfl) (by kernel_rfl) (by kernel_rfl) (fun _ _ _ h => h) (Or.inl ⟨by rfl, fun W' h => by have c0 := C0 W' h; go_simp⟩) (hh) ?_
        try simp only [Act.put, List.getElem_toArray, List.getElem_cons_succ, List.getElem_cons_zero, List.setIfInBounds_toArray, List.set_cons_zero, List.set_cons_succ]
        refine wpAnyH_take (i := 10) (v := .slice (some ⟨g2, off, none⟩) n1 cap1) rfl (by kernel_rfl) (by kernel_rfl) (by kernel_rfl) (fun _ _ _ h => h) (Or.inl ⟨by rfl, fun W' h => by have c0 := C0 W' h; go_simp⟩) (hh) ?_
        try simp only [Act.put, List.getElem_toArray, List.getElem_cons_succ, List.getElem_cons_zero, List.setIfInBounds_toArray, List.set_cons_zero, List.set_cons_succ]
        refine wpAnyH_take (i := 4) (v := .pointer (some ⟨g2, off + j * 3, none⟩)) rfl (by kernel_rfl) (by kernel_rfl) (by kernel_rfl) (fun _ _ _ h => h) (Or.inl ⟨by rfl, fun W' _ => by go_simp⟩) (hh) ?_
        try simp only [Act.put, List.getElem_toArray, List.getElem_cons_succ, List.getElem_cons_zero, List.setIfInBounds_toArray, List.set_cons_zero, List.set_cons_succ]
        refine wpAnyH_take (i := 12) (v := .pointer (some ⟨g2, off + j * 3, none⟩)) rfl (by kernel_rfl) (by kernel_rfl) (by kernel_rfl) (fun _ _ _ h => h) (Or.inl ⟨by rfl, fun W' _ => by go_simp⟩) (hh) ?_
        try simp only [Act.put, List.getElem_toArray, List.getElem_cons_succ, List.getElem_cons_zero, List.setIfInBounds_toArray, List.set_cons_zero, List.set_cons_succ]
        refine wpAnyH_take (i := 5) (v := .pointer (some ⟨g2, off + j * 3 + 1, none⟩)) rfl (by kernel_rfl) (by kernel_rfl) (by kernel_rfl) (fun _ _ _ h => h) (Or.inl ⟨by rfl, fun W _ => by go_simp⟩) (hh) ?_
        try simp only [Act.put, List.getElem_toArray, List.getElem_cons_succ, List.getElem_cons_zero, List.setIfInBounds_toArray, List.set_cons_zero, List.set_cons_succ]
        refine wpAnyH_take (i := 13) (v := .pointer (some ⟨g2, off + j * 3 + 2, none⟩)) rfl (by kernel_rfl) (by kernel_rfl) (by kernel_rfl) (fun _ _ _ h => h) (Or.inl ⟨by rfl, fun W _ => by go_simp⟩) (hh) ?_
        try simp only [Act.put, List.getElem_toArray, List.getElem_cons_succ, List.getElem_cons_zero, List.setIfInBounds_toArray, List.set_cons_zero, List.set_cons_succ]
        refine wpAnyH_take (i := 6) (v := .slice pl m capl) rfl (by kernel_rfl) (by kernel_rfl) (by kernel_rfl) (fun _ _ _ h => h) (Or.inl ⟨by rfl, fun W' h => by have c1 := C1 W' h; go_simp⟩) (hh) ?_
        try simp only [Act.put, List.getElem_toArray, List.getElem_cons_succ, List.getElem_cons_zero, List.setIfInBounds_toArray, List.set_cons_zero, List.set_cons_succ]
        refine wpAnyH_take (i := 14) (v := .slice pp m2 capp) rfl (by kernel_rfl) (by kernel_rfl) (by kernel_rfl) (fun _ _ _ h => h) (Or.inl ⟨by rfl, fun W' h => by have c2 := C2 W' h; go_simp⟩) (hh) ?_
        try simp only [Act.put, List.getElem_toArray, List.getElem_cons_succ, List.getElem_cons_zero, List.setIfInBounds_toArray, List.set_cons_zero, List.set_cons_succ]
        refine wpAnyH_take (i := 7) (v := .int .i64 (m : Int)) rfl (by kernel_rfl) (by kernel_rfl) (by kernel_rfl) (fun _ _ _ h => h) (Or.inl ⟨by rfl, fun W _ => by go_simp⟩) (hh) ?_
        try simp only [Act.put, List.getElem_toArray, List.getElem_cons_succ, List.getElem_cons_zero, List.setIfInBounds_toArray, List.set_cons_zero, List.set_cons_succ]
        refine wpAnyH_take (i := 15) (v := .int .i64 (m2 : Int)) rfl (by kernel_rfl) (by kernel_rfl) (by kernel_rfl) (fun _ _ _ h => h) (Or.inl ⟨by rfl, fun W _ => by go_simp⟩) (hh) ?_
        try simp only [Act.put, List.getElem_toArray, List.getElem_cons_succ, List.getElem_cons_zero, List.setIfInBounds_toArray, List.set_cons_zero, List.set_cons_succ]
        refine wpAnyH_take (i := 8) (v := .int .i64 ((N : Int) + m)) rfl (by kernel_rfl) (by kernel_rfl) (by kernel_rfl) (fun _ _ _ h => h) (Or.inl ⟨by rfl, fun W _ => by go_simp; first | exact wrap64_id (by omega) (by omega) | done⟩) (hh) ?_
        try simp only [Act.put, List.getElem_toArray, List.getElem_cons_succ, List.getElem_cons_zero, List.setIfInBounds_toArray, List.set_cons_zero, List.set_cons_succ]
        refine wpAnyH_take (i := 16) (v := .int .i64 ((N : Int) + m + m2)) rfl (by kernel_rfl) (by kernel_rfl) (by kernel_rfl) (fun _ _ _ h => h) (Or.inl ⟨by rfl, fun W _ => by go_simp; first | exact wrap64_id (by omega) (by omega) | done⟩) (hh) ?_
        try simp only [Act.put, List.getElem_toArray, List.getElem_cons_succ, List.getElem_cons_zero, List.setIfInBounds_toArray, List.set_cons_zero, List.set_cons_succ]
        refine wpAnyH_take (i := 17) (v := .int .i64 ((N : Int) + m + m2)) rfl (by kernel_rfl) (by kernel_rfl) (by kernel_rfl) (fun _ _ _ h => h) (Or.inl ⟨by rfl, fun W _ => by go_simp⟩) (hh) ?_
        try simp only [Act.put, List.getElem_toArray, List.getElem_cons_succ, List.getElem_cons_zero, List.setIfInBounds_toArray, List.set_cons_zero, List.set_cons_succ]
        refine wpAnyH_done (by kernel_rfl) ?_ _
        go_wp2_with fail
        go_roundg (gk - 1)
        case measure => omega
        case rel => exact ⟨j + 1, N + m + m2, by omega, by go_num, by go_num, by omega, by show wr.heap = W0.heap; exact hh, hB.drew⟩
      · go_wp2_with fail
        go_meet
        case rel => exact ⟨N, rfl, by omega, hh, hB⟩
  case rest =>
    obtain ⟨N, rfl, hN, hh, hB⟩ := hcut
    go_wp2_with fail
    go_loopg [3, 5] n2 (fun gg s3 s5 wr => ∃ j N : Nat, j + gg = n2 ∧ s5 = .int .i64 j ∧ s3 = .int .i64 N ∧ N ≤ 17592186044416 + j * 4194304 ∧ wr.heap = W0.heap ∧ Below W.heap.size W wr)
    case atStart => exact ⟨0, N, by omega, rfl, rfl, by omega, hh, hB⟩
    case round =>
      clear hN hh hB N
      obtain ⟨j, N, hjg, rfl, rfl, hN, hh, hB⟩ := hrel
      have c0r := cell_of (HD.out wr hh) 1 rfl
      by_cases hlt : (j : Int) < n2
      · have hj1 : j < g.edges.length := by have := HL.out.2; omega
        obtain ⟨g2, off, cap', c, e0, hg, hrl, hra⟩ := HE.out.at_ j hj1
        injection e0 with e1 e2 e3
        subst e1
        replace hra : W0.rangeAt g2 (off + j * 5) c := hra
        obtain ⟨pv, rfl, _, _, hm2, hpv⟩ := hrl
        obtain ⟨pp, capp, rfl⟩ := hpv.slice
        obtain ⟨m2, hm2'⟩ : ∃ m, m = g.edges[j].props.length := ⟨_, rfl⟩
        rw [← hm2'] at hm2 hra
        have C2 : wr.cell? ⟨g2, off + j * 5 + 4, none⟩ = some (.slice pp m2 capp) := by
          have := hra 4 _ rfl
          unfold World.cell? at this ⊢
          rw [hh]
          exact this
        have hs1 : (N : Int) + m2 < 9223372036854775808 := by omega
        clear hpv hra e2 e3 hm2' c0 c1 u1
        go_wp2_with fail
        go_roundg (gk - 1)
        case measure => omega
        case rel => exact ⟨j + 1, N + m2, by omega, by go_num, by go_num, by omega, hh, hB⟩
      · go_wp2_with fail
        refine bodyPost_ret (results_tmp rfl _ _ _) rfl ?_
        exact ⟨decide ((N : Int) ≤ 360), rfl, hB⟩
end Go.Proofs.YtcfmenkigolnoaaGreatDoor

/- What two sets of numbers have in common. -/
namespace Go.Proofs.YtcfmenkigolnoaaGreatDoor
open Go.RowKit

def bothL (few many : List Int) : List Int := few.filter fun x => many.contains x
def andL (xs ys : List Int) : List Int := if ys.length < xs.length then bothL ys xs else bothL xs ys
theorem own_drewN {w : World} {base size n q : Nat} {e : TypeId} {v : Value} {xs : List Value} (h : w.ownsRow base e size v n xs) : (w.drewN q).ownsRow base e size v n xs := own_keep h fun _ _ => rfl
theorem bothL_len (a b : List Int) : (bothL a b).length ≤ a.length := List.length_filter_le _ _
set_option maxHeartbeats 6400000 in
set_option maxRecDepth 20000 in
theorem andAt (V U : Value) (xs ys : List Int) (W : World) (hx : IntsAt W V xs) (hy : IntsAt W U ys) (sx : xs.Pairwise (· ≤ ·)) (sy : ys.Pairwise (· ≤ ·)) (nx : xs.length ≤ 2097152) (ny : ys.length ≤ 2097152) :
    Calls Tryz.prog 62 #[V, U] W fun e w' => ∃ R, e = .returned R ∧ w'.ownsRow W.heap.size 2 1 R (andL xs ys).length ((andL xs ys).map (Value.int .i64)) ∧ Below W.heap.size W w' := by
  obtain ⟨p1, cap1, rfl, _⟩ := id hx
  obtain ⟨p2, cap2, rfl, _⟩ := id hy
  obtain ⟨i0, hi, hz0, hz1, hz2⟩ := info_parts zero_intE
  have HX := Lib.hid hx
  have HY := Lib.hid hy
  obtain ⟨n1, hl1⟩ : ∃ n, n = xs.length := ⟨_, rfl⟩
  obtain ⟨n2, hl2⟩ : ∃ n, n = ys.length := ⟨_, rfl⟩
  rw [← hl1] at nx
  rw [← hl2] at ny
  have HNX := Lib.hid hx
  have HMX := Lib.hid (fun W' (hb : Below W.heap.size W W') (x : Int) => hasIntAt _ xs x W' (hx.below hb) sx (by omega))
  have HMY := Lib.hid (fun W' (hb : Below W.heap.size W W') (x : Int) => hasIntAt _ ys x W' (hy.below hb) sy (by omega))
  rw [← hl1] at HMX
  rw [← hl2] at HMY
  rw [← hl1, ← hl2]
  have HL := Lib.hid (And.intro hl1 hl2)
  clear hx hy sx sy HNX hl1 hl2
  by_cases hlt : n2 < n1
  · have ea : andL xs ys = bothL ys xs := by unfold andL; rw [if_pos (by have := HL.out; omega)]
    rw [ea]
    have hgt : (n1 : Int) > n2 := by omega
    clear ea
    go_enter Tryz.func62, Tryz.ntmps62
    go_wp2_with fail
    go_loopg [7, 21] n2 (fun gg s7 s21 wr => ∃ j : Nat, j + gg = n2 ∧ s21 = .int .i64 j ∧ Hid (wr.ownsRow W.heap.size 2 1 s7 (bothL (ys.take j) xs).length ((bothL (ys.take j) xs).map (Value.int .i64)) ∧ Below W.heap.size W wr))
    case atStart => exact ⟨0, by omega, rfl, Lib.hid ⟨by simp [bothL]; exact World.ownsRow_nil _ _ _ _, Below.refl _ _⟩⟩
    case round =>
      obtain ⟨j, hjg, rfl, HA⟩ := hrel
      by_cases hj : (j : Int) < n2
      · have hj1 : j < ys.length := by have := HL.out; omega
        obtain ⟨pp, cc, e0, hcv⟩ := HY.out.below HA.out.2
        injection e0 with e1 e2 e3
        subst e1
        obtain ⟨g, off, rfl, hcj⟩ := hcv (by intro q; rw [q] at hj1; simp at hj1)
        obtain ⟨x, hxj⟩ : ∃ x, x = ys[j] := ⟨_, rfl⟩
        have cj : wr.cell? ⟨g, off + j, none⟩ = some (.int .i64 x) := by
          rw [hcj j hj1, hxj]
          simp [hj1]
        have etk : bothL (ys.take (j + 1)) xs = bothL (ys.take j) xs ++ (if xs.contains x then [x] else []) := by
          unfold bothL
          rw [List.take_succ_eq_append_getElem hj1, List.filter_append, ← hxj]
          by_cases q : xs.contains x = true
          · rw [if_pos q, List.filter_cons_of_pos q]; rfl
          · rw [if_neg q, List.filter_cons_of_neg q]; rfl
        have hlen : (bothL (ys.take j) xs).length ≤ 2097152 := by
          have := bothL_len (ys.take j) xs
          have := List.length_take_le j ys
          have := HL.out
          omega
        have HC := Lib.hid (HMX.out wr HA.out.2 x)
        obtain ⟨r, hr⟩ : ∃ r, r = xs.contains x := ⟨_, rfl⟩
        rw [← hr] at HC etk
        have HT := Lib.hid etk
        obtain ⟨l, hl⟩ : ∃ l, l = bothL (ys.take j) xs := ⟨_, rfl⟩
        rw [← hl] at HA HT hlen
        clear hcj hcv e2 e3 hxj hr etk hl
        cases r with
        | true =>
          go_wp2_with (first
            | (go_at_call 76; (with_reducible refine HC.out.mono ?_); rintro e w1 ⟨rfl, q, rfl⟩
               have ho : (wr.drewN q).ownsRow W.heap.size 2 1 _ l.length (l.map (Value.int .i64)) := own_drewN HA.out.1
               have hb : Below W.heap.size W (wr.drewN q) := below_drewN HA.out.2 q
               generalize wr.drewN q = w1 at *)
            | (at_builtin; refine wpList_append_own_at _ rfl _ _ 77 rfl W.heap.size 2 i0 (.int .i64 0) 1 8 Tryz.underlying77 hi hz0 hz1 hz2 rfl (by decide) _ _ _ rfl (ho.alloc _) ⟨w1.heap.size, 0, none⟩ 1 1 [.int .i64 x] rfl rfl (cells_new w1 [.int .i64 x] 2) (by simp [Value.oneCell']) ?_ ?_ ?_ ?_))
          all_goals (try (first | (unfold maxLen; omega) | omega | (simp; have := hb.size; omega)))
          intro v' w5 ho5 hg5 _ hloc5
          have hb5 : Below W.heap.size W w5 := (hb.alloc hb.size _).grown hg5 (by have := hb.size; simp; omega) (fun j e => (ho.lt j e).1)
          have HB := Lib.hid (show w5.ownsRow W.heap.size 2 1 v' (l ++ [x]).length ((l ++ [x]).map (Value.int .i64)) by rw [List.length_append, List.map_append]; exact ho5)
          clear ho5 hg5 hloc5 ho hb
          go_wp2_with fail
          go_roundg (gk - 1)
          case measure => omega
          case rel => exact ⟨j + 1, by omega, by go_num, Lib.hid (by rw [HT.out, if_pos (by trivial)]; exact ⟨HB.out, hb5⟩)⟩
        | false =>
          go_wp2_with (first
            | (go_at_call 76; (with_reducible refine HC.out.mono ?_); rintro e w1 ⟨rfl, q, rfl⟩
               have ho : (wr.drewN q).ownsRow W.heap.size 2 1 _ l.length (l.map (Value.int .i64)) := own_drewN HA.out.1
               have hb : Below W.heap.size W (wr.drewN q) := below_drewN HA.out.2 q
               generalize wr.drewN q = w1 at *))
          go_roundg (gk - 1)
          case measure => omega
          case rel => exact ⟨j + 1, by omega, by go_num, Lib.hid (by rw [HT.out, if_neg (by simp), List.append_nil]; exact ⟨ho, hb⟩)⟩
      · have e : ys.take j = ys := by rw [List.take_of_length_le]; have := HL.out; omega
        have hA := HA.out
        rw [e] at hA
        have HZ := Lib.hid hA
        clear hA HA e
        go_wp2_with fail
        go_ret
        exact ⟨_, rfl, HZ.out⟩
  · have ea : andL xs ys = bothL xs ys := by unfold andL; rw [if_neg (by have := HL.out; omega)]
    rw [ea]
    have hgt : ¬ (n1 : Int) > n2 := by omega
    clear ea
    go_enter Tryz.func62, Tryz.ntmps62
    go_wp2_with fail
    go_loopg [7, 21] n1 (fun gg s7 s21 wr => ∃ j : Nat, j + gg = n1 ∧ s21 = .int .i64 j ∧ Hid (wr.ownsRow W.heap.size 2 1 s7 (bothL (xs.take j) ys).length ((bothL (xs.take j) ys).map (Value.int .i64)) ∧ Below W.heap.size W wr))
    case atStart => exact ⟨0, by omega, rfl, Lib.hid ⟨by simp [bothL]; exact World.ownsRow_nil _ _ _ _, Below.refl _ _⟩⟩
    case round =>
      obtain ⟨j, hjg, rfl, HA⟩ := hrel
      by_cases hj : (j : Int) < n1
      · have hj1 : j < xs.length := by have := HL.out; omega
        obtain ⟨pp, cc, e0, hcv⟩ := HX.out.below HA.out.2
        injection e0 with e1 e2 e3
        subst e1
        obtain ⟨g, off, rfl, hcj⟩ := hcv (by intro q; rw [q] at hj1; simp at hj1)
        obtain ⟨x, hxj⟩ : ∃ x, x = xs[j] := ⟨_, rfl⟩
        have cj : wr.cell? ⟨g, off + j, none⟩ = some (.int .i64 x) := by
          rw [hcj j hj1, hxj]
          simp [hj1]
        have etk : bothL (xs.take (j + 1)) ys = bothL (xs.take j) ys ++ (if ys.contains x then [x] else []) := by
          unfold bothL
          rw [List.take_succ_eq_append_getElem hj1, List.filter_append, ← hxj]
          by_cases q : ys.contains x = true
          · rw [if_pos q, List.filter_cons_of_pos q]; rfl
          · rw [if_neg q, List.filter_cons_of_neg q]; rfl
        have hlen : (bothL (xs.take j) ys).length ≤ 2097152 := by
          have := bothL_len (xs.take j) ys
          have := List.length_take_le j xs
          have := HL.out
          omega
        have HC := Lib.hid (HMY.out wr HA.out.2 x)
        obtain ⟨r, hr⟩ : ∃ r, r = ys.contains x := ⟨_, rfl⟩
        rw [← hr] at HC etk
        have HT := Lib.hid etk
        obtain ⟨l, hl⟩ : ∃ l, l = bothL (xs.take j) ys := ⟨_, rfl⟩
        rw [← hl] at HA HT hlen
        clear hcj hcv e2 e3 hxj hr etk hl
        cases r with
        | true =>
          go_wp2_with (first
            | (go_at_call 76; (with_reducible refine HC.out.mono ?_); rintro e w1 ⟨rfl, q, rfl⟩
               have ho : (wr.drewN q).ownsRow W.heap.size 2 1 _ l.length (l.map (Value.int .i64)) := own_drewN HA.out.1
               have hb : Below W.heap.size W (wr.drewN q) := below_drewN HA.out.2 q
               generalize wr.drewN q = w1 at *)
            | (at_builtin; refine wpList_append_own_at _ rfl _ _ 77 rfl W.heap.size 2 i0 (.int .i64 0) 1 8 Tryz.underlying77 hi hz0 hz1 hz2 rfl (by decide) _ _ _ rfl (ho.alloc _) ⟨w1.heap.size, 0, none⟩ 1 1 [.int .i64 x] rfl rfl (cells_new w1 [.int .i64 x] 2) (by simp [Value.oneCell']) ?_ ?_ ?_ ?_))
          all_goals (try (first | (unfold maxLen; omega) | omega | (simp; have := hb.size; omega)))
          intro v' w5 ho5 hg5 _ hloc5
          have hb5 : Below W.heap.size W w5 := (hb.alloc hb.size _).grown hg5 (by have := hb.size; simp; omega) (fun j e => (ho.lt j e).1)
          have HB := Lib.hid (show w5.ownsRow W.heap.size 2 1 v' (l ++ [x]).length ((l ++ [x]).map (Value.int .i64)) by rw [List.length_append, List.map_append]; exact ho5)
          clear ho5 hg5 hloc5 ho hb
          go_wp2_with fail
          go_roundg (gk - 1)
          case measure => omega
          case rel => exact ⟨j + 1, by omega, by go_num, Lib.hid (by rw [HT.out, if_pos (by trivial)]; exact ⟨HB.out, hb5⟩)⟩
        | false =>
          go_wp2_with (first
            | (go_at_call 76; (with_reducible refine HC.out.mono ?_); rintro e w1 ⟨rfl, q, rfl⟩
               have ho : (wr.drewN q).ownsRow W.heap.size 2 1 _ l.length (l.map (Value.int .i64)) := own_drewN HA.out.1
               have hb : Below W.heap.size W (wr.drewN q) := below_drewN HA.out.2 q
               generalize wr.drewN q = w1 at *))
          go_roundg (gk - 1)
          case measure => omega
          case rel => exact ⟨j + 1, by omega, by go_num, Lib.hid (by rw [HT.out, if_neg (by simp), List.append_nil]; exact ⟨ho, hb⟩)⟩
      · have e : xs.take j = xs := by rw [List.take_of_length_le]; have := HL.out; omega
        have hA := HA.out
        rw [e] at hA
        have HZ := Lib.hid hA
        clear hA HA e
        go_wp2_with fail
        go_ret
        exact ⟨_, rfl, HZ.out⟩
end Go.Proofs.YtcfmenkigolnoaaGreatDoor

/- Labeled: its parts: a set copied (63); what stands behind a label; what two sets have in common, where both are of one row's. -/
namespace Go.Proofs.YtcfmenkigolnoaaGreatDoor
open Go.RowKit

theorem cloneSetAt (v : Value) (zs : List Int) (w : World) (h : IntsAt w v zs) (hn : zs.length ≤ 2097152) :
    Calls Tryz.prog 63 #[v] w fun e w' => ∃ v', e = .returned v' ∧ w'.ownsRow w.heap.size 2 1 v' zs.length (zs.map (Value.int .i64)) ∧ Below w.heap.size w w' := by
  obtain ⟨p, cap, rfl, h⟩ := h
  cases p with
  | none =>
    have : zs = [] := by
      cases zs with
      | nil => rfl
      | cons z l => obtain ⟨g, off, e, _⟩ := h (by simp); cases e
    subst this
    refine (AnyG.slices_Clone_int_nil Tryz.cloneJ 0 cap w).mono ?_
    rintro e w' ⟨rfl, rfl⟩
    exact ⟨_, rfl, World.ownsRow_nil _ _ _ _, Below.refl _ _⟩
  | some a =>
    by_cases h0 : zs = []
    · subst h0
      refine (AnyG.slices_Clone_int_zero Tryz.cloneJ a cap w).mono ?_
      rintro e w' ⟨v', rfl, ho, _, hb⟩
      exact ⟨v', rfl, ho, hb⟩
    · obtain ⟨g, off, e, hc⟩ := h h0
      cases e
      refine (AnyG.slices_Clone_int Tryz.cloneJ g off zs.length cap zs w (Nat.le_refl _) (by omega) hc).mono ?_
      rintro e w' ⟨v', rfl, ho, _, hb⟩
      rw [List.take_length] at ho
      exact ⟨v', rfl, ho, hb⟩
theorem grp_append {κ : Type} [DecidableEq κ] (E F : List (κ × Int)) (x : κ) : grp (E ++ F) x = grp E x ++ grp F x := by
  unfold grp
  rw [List.filter_append, List.map_append]
theorem grp_flat {κ : Type} [DecidableEq κ] (f : Int → List (κ × Int)) (x : κ) : (nums : List Int) → grp (nums.flatMap f) x = nums.flatMap fun i => grp (f i) x
  | [] => rfl
  | i :: l => by rw [List.flatMap_cons, List.flatMap_cons, grp_append, grp_flat f x l]
theorem flat_if (p : Int → Bool) : (nums : List Int) → (nums.flatMap fun i => if p i = true then [i] else []) = nums.filter p
  | [] => rfl
  | i :: l => by
    rw [List.flatMap_cons, flat_if p l]
    by_cases h : p i = true
    · rw [if_pos h, List.filter_cons_of_pos h]; rfl
    · rw [if_neg h, List.filter_cons_of_neg h]; rfl
/-- Has the node with this number this label? -/
def hasLbl (l : List NodeL) (t : ByteArray) (i : Int) : Bool := decide (bl t ∈ (labelsOf l i).map bl)
theorem grp_one (i : Int) (x : List UInt8) : (L : List (List UInt8)) → L.Nodup → grp (L.map fun t => (t, i)) x = if decide (x ∈ L) = true then [i] else []
  | [], _ => by simp [grp]
  | a :: L, h => by
    rw [List.nodup_cons] at h
    have ih := grp_one i x L h.2
    rw [List.map_cons, show ((a, i) :: L.map fun t => (t, i)) = [(a, i)] ++ L.map (fun t => (t, i)) from rfl, grp_append, ih]
    by_cases e : a = x
    · subst e
      have : decide (a ∈ L) = false := decide_eq_false h.1
      simp [grp, this]
    · have e2 : ¬ x = a := fun q => e q.symm
      simp [grp, e, e2]
theorem grp_label (l : List NodeL) (nums : List Int) (t : ByteArray) (h : ∀ i ∈ nums, ((labelsOf l i).map bl).Nodup) : grp (nums.flatMap (evN l)) (bl t) = nums.filter (hasLbl l t) := by
  rw [grp_flat, ← flat_if]
  have : ∀ i ∈ nums, grp (evN l i) (bl t) = if hasLbl l t i = true then [i] else [] := fun i hi => by
    have q := grp_one i (bl t) ((labelsOf l i).map bl) (h i hi)
    rw [List.map_map] at q
    exact q
  induction nums with
  | nil => rfl
  | cons i r ih =>
    rw [List.flatMap_cons, List.flatMap_cons, this i (by simp), ih (fun j hj => h j (by simp [hj])) (fun j hj => this j (by simp [hj]))]
theorem bothL_filter (nums : List Int) (p q : Int → Bool) : bothL (nums.filter p) (nums.filter q) = nums.filter fun i => p i && q i := by
  unfold bothL
  rw [List.filter_filter]
  refine List.filter_congr fun x hx => ?_
  have : (nums.filter q).contains x = q x := by
    cases h : q x with
    | true => simp [hx, h]
    | false => simp [h]
  rw [this, Bool.and_comm]
theorem andL_filter (nums : List Int) (p q : Int → Bool) : andL (nums.filter p) (nums.filter q) = nums.filter fun i => p i && q i := by
  unfold andL
  split
  · rw [bothL_filter]
    exact List.filter_congr fun x _ => Bool.and_comm _ _
  · exact bothL_filter nums p q
theorem labels_nodup {l : List NodeL} {a : NodeL} (hd : (l.map NodeL.id).Nodup) (ha : a ∈ l) (h : (a.labels.map bl).Nodup) : ((labelsOf l a.id).map bl).Nodup := by
  rw [labelsOf_eq hd ha]
  have e : (sortS a.labels).map bl = (a.labels.map bl).mergeSort leB := by
    unfold sortS
    rw [List.map_map]
    exact (List.map_congr_left fun x _ => bl_ofL x).trans (List.map_id _)
  rw [e]
  exact (List.mergeSort_perm _ _).nodup_iff.2 h
end Go.Proofs.YtcfmenkigolnoaaGreatDoor
