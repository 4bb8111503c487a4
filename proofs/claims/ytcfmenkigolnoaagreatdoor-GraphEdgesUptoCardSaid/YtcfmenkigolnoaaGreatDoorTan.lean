/- Texts of one kind, one behind the other: each says ahead of itself what it shows. -/
import Derived.Test.YtcfmenkigolnoaaGreatDoorTal
import Derived.Test.YtcfmenkigolnoaaGreatDoorTam
/- The ways of edges as keys; rows behind keys that shun some blocks. -/
namespace Go.Proofs.YtcfmenkigolnoaaGreatDoor
open Go.RowKit

abbrev Way := { p : Int × Int // (Lit.int .i64 p.1).wf = true ∧ (Lit.int .i64 p.2).wf = true }
def KW (p : Way) : Lit := .string (keyBytes [.int .i64 p.1.1, .int .i64 p.1.2])
theorem KW_key (p : Way) : keyOf Tryz.prog 98 (.agg #[.int .i64 p.1.1, .int .i64 p.1.2]) = some (KW p) := keyW p.2.1 p.2.2
theorem KW_inj (x y : Way) (h : KW x = KW y) : x = y := by
  have h1 := KW_key x
  rw [h] at h1
  have := law98.inj h1 (KW_key y)
  simp only [Value.agg.injEq, Array.mk.injEq, List.cons.injEq, Value.int.injEq, true_and, and_true] at this
  exact Subtype.ext (Prod.ext this.1 this.2)
def mkW (p : Int × Int) : Way := if h : (Lit.int .i64 p.1).wf = true ∧ (Lit.int .i64 p.2).wf = true then ⟨p, h⟩ else ⟨(0, 0), by decide⟩
theorem mkW_eq {p : Int × Int} (h : (Lit.int .i64 p.1).wf = true ∧ (Lit.int .i64 p.2).wf = true) : (mkW p).1 = p := by unfold mkW; rw [dif_pos h]
/-- The ways of the edge with this number; which go behind which way. -/
def edgeWays (l : List EdgeL) (i : Int) : List (Int × Int) := ((l.find? fun a => decide (a.id = i)).map fun a => waysL a.src a.dst).getD []
def evE (l : List EdgeL) (i : Int) : List (Way × Int) := (edgeWays l i).map fun p => (mkW p, i)
theorem find_id {α : Type} {id : α → Int} {l : List α} (h : (l.map id).Nodup) {a : α} (ha : a ∈ l) : l.find? (fun b => decide (id b = id a)) = some a := by
  induction l with
  | nil => cases ha
  | cons b l ih =>
    rw [List.find?_cons]
    rw [List.map_cons, List.nodup_cons] at h
    by_cases q : id b = id a
    · rcases List.mem_cons.1 ha with r | r
      · subst r; simp
      · exact absurd (List.mem_map_of_mem (f := id) r) (by rw [← q]; exact h.1)
    · rcases List.mem_cons.1 ha with r | r
      · subst r; exact absurd rfl q
      · simp only [q, decide_false]
        exact ih h.2 r
theorem edgeWays_eq {l : List EdgeL} (h : (l.map EdgeL.id).Nodup) {a : EdgeL} (ha : a ∈ l) : edgeWays l a.id = waysL a.src a.dst := by
  unfold edgeWays
  rw [find_id h ha]
  rfl
theorem waysL_len (s d : Int) : (waysL s d).length ≤ 4 ∧ 0 < (waysL s d).length := by
  unfold waysL
  by_cases h : d = s <;> simp [h]
theorem waysL_wf {s d : Int} (h1 : (Lit.int .i64 s).wf = true) (h2 : (Lit.int .i64 d).wf = true) : ∀ p ∈ waysL s d, (Lit.int .i64 p.1).wf = true ∧ (Lit.int .i64 p.2).wf = true := by
  intro p hp
  unfold waysL at hp
  rcases List.mem_append.1 hp with hp | hp
  · simp only [List.mem_cons, List.mem_nil_iff, or_false] at hp
    rcases hp with rfl | rfl | rfl
    · exact ⟨h1, (show (Lit.int .i64 (1)).wf = true by decide)⟩
    · exact ⟨h2, (show (Lit.int .i64 (-1)).wf = true by decide)⟩
    · exact ⟨h1, (show (Lit.int .i64 (0)).wf = true by decide)⟩
  · by_cases h : d = s
    · simp [h] at hp
    · simp only [h, if_false, List.mem_cons, List.mem_nil_iff, or_false] at hp
      subst hp
      exact ⟨h2, (show (Lit.int .i64 (0)).wf = true by decide)⟩
/-- As Groups; and no key's row lies in a block of No. -/
def GroupsN {κ : Type} [DecidableEq κ] (No : Nat → Prop) (kt : TypeId) (K : κ → Lit) (w : World) (base b : Nat) (E : List (κ × Int)) : Prop :=
  ∃ n f, n ≤ E.length ∧ HMap w Tryz.prog kt b n f ∧ (∀ x, (f (K x) = none ∧ grp E x = []) ∨ ∃ v, f (K x) = some v ∧ w.ownsRow base 2 1 v (grp E x).length ((grp E x).map (Value.int .i64))) ∧
    (∀ x y v u g, x ≠ y → f (K x) = some v → f (K y) = some u → v.ownBlock = some g → u.ownBlock ≠ some g) ∧ ∀ x v g, f (K x) = some v → v.ownBlock = some g → ¬ No g
section
variable {κ : Type} [DecidableEq κ] {No : Nat → Prop} {kt : TypeId} {K : κ → Lit} {w w' : World} {base b : Nat} {E : List (κ × Int)}
theorem GroupsN.is (h : GroupsN No kt K w base b E) : Groups kt K w base b E := by
  obtain ⟨n, f, h1, h2, h3, h4, _⟩ := h
  exact ⟨n, f, h1, h2, h3, h4⟩
theorem Groups.shuns (h : Groups kt K w base b E) (hN : ∀ g, No g → w.heap.size ≤ g) : GroupsN No kt K w base b E := by
  obtain ⟨n, f, h1, h2, h3, h4⟩ := h
  refine ⟨n, f, h1, h2, h3, h4, fun x v g hf hg hn => ?_⟩
  rcases h3 x with ⟨e, _⟩ | ⟨u, e, ho⟩
  · rw [e] at hf; cases hf
  · rw [e] at hf
    cases hf
    have := (ho.lt g hg).2
    have := hN g hn
    omega
theorem GroupsN.keep (h : GroupsN No kt K w base b E) (hk : ∀ i, (i = b ∨ base ≤ i) → i < w.heap.size → w'.heap[i]? = w.heap[i]?) : GroupsN No kt K w' base b E := by
  obtain ⟨n, f, h1, h2, h3, h4, h5⟩ := h
  refine ⟨n, f, h1, h2.keep (hk b (.inl rfl) h2.lt), fun x => ?_, h4, h5⟩
  rcases h3 x with h | ⟨v, e, ho⟩
  · exact .inl h
  · exact .inr ⟨v, e, own_keep ho fun g q => hk g (.inr (ho.lt g q).1) (ho.lt g q).2⟩
theorem GroupsN.add {w5 w6 w7 : World} {n : Nat} {f : Lit → Option Value} {x : κ} {i : Int} {v' : Value} (inj : ∀ x y, K x = K y → x = y) (hb : b < base) (h1 : n ≤ E.length)
    (h3 : ∀ x, (f (K x) = none ∧ grp E x = []) ∨ ∃ v, f (K x) = some v ∧ w.ownsRow base 2 1 v (grp E x).length ((grp E x).map (Value.int .i64)))
    (h4 : ∀ x y v u g, x ≠ y → f (K x) = some v → f (K y) = some u → v.ownBlock = some g → u.ownBlock ≠ some g) (h5 : ∀ x v g, f (K x) = some v → v.ownBlock = some g → ¬ No g) (s5 : w.heap.size ≤ w5.heap.size) (b5 : ∀ i, i < w.heap.size → i ≠ b → w5.heap[i]? = w.heap[i]?)
    (ho : w6.ownsRow base 2 1 v' ((grp E x).length + 1) ((grp E x).map (Value.int .i64) ++ [.int .i64 i])) (hg6 : w5.grownBy w6 ((f (K x)).getD (.slice none 0 0)).ownBlock)
    (hloc : v'.ownBlock = ((f (K x)).getD (.slice none 0 0)).ownBlock ∨ v'.ownBlock = some w5.heap.size) (hN5 : ¬ No w5.heap.size) (hm : HMap w7 Tryz.prog kt b (n + 1) (updH f (K x) v')) (hg7 : w6.grownBy w7 (some b)) : GroupsN No kt K w7 base b (E ++ [(x, i)]) := by
  have low : ∀ {u : Value} {m : Nat} {xs : List Value} {W : World}, W.ownsRow base 2 1 u m xs → ∀ g, u.ownBlock = some g → some b ≠ some g := fun h g e q => by
    have := (h.lt g e).1
    cases q
    omega
  have apart : ∀ y u, y ≠ x → f (K y) = some u → w.ownsRow base 2 1 u (grp E y).length ((grp E y).map (Value.int .i64)) → ∀ g, u.ownBlock = some g → ((f (K x)).getD (.slice none 0 0)).ownBlock ≠ some g ∧ v'.ownBlock ≠ some g := fun y u hne e hu g hgu => by
    have a1 : ((f (K x)).getD (.slice none 0 0)).ownBlock ≠ some g := by
      cases q : f (K x) with
      | none => intro r; cases r
      | some v => exact h4 y x u v g hne e q hgu
    refine ⟨a1, ?_⟩
    rcases hloc with r | r
    · rw [r]; exact a1
    · rw [r]
      intro q
      have := (hu.lt g hgu).2
      cases q
      omega
  refine ⟨n + 1, _, by simp; omega, hm, fun y => ?_, fun y z v u g hne ey ez hv => ?_, fun y v g ey hv => ?_⟩
  · by_cases e : y = x
    · subst e
      refine .inr ⟨v', updH_same _ _ _, ?_⟩
      rw [grp_snoc, if_pos rfl, List.length_append, List.map_append]
      exact own_grown ho hg7 (fun g q => low ho g q)
    · have ne : K y ≠ K x := fun q => e (inj _ _ q)
      rw [updH_other ne, grp_snoc, if_neg (fun q => e q.symm)]
      rcases h3 y with h | ⟨u, eu, hu⟩
      · exact .inl h
      · refine .inr ⟨u, eu, ?_⟩
        have k5 : w5.ownsRow base 2 1 u (grp E y).length ((grp E y).map (Value.int .i64)) := own_keep hu fun g q => b5 g (hu.lt g q).2 (fun (r : g = b) => by have := (hu.lt g q).1; omega)
        exact own_grown (own_grown k5 hg6 (fun g q => (apart y u e eu hu g q).1)) hg7 (fun g q => low hu g q)
  · by_cases e1 : y = x
    · subst e1
      rw [updH_same] at ey
      cases ey
      have ne : K z ≠ K y := fun q => hne (inj _ _ q).symm
      rw [updH_other ne] at ez
      rcases h3 z with ⟨q, _⟩ | ⟨u', eu, hu⟩
      · rw [q] at ez; cases ez
      · rw [ez] at eu
        cases eu
        intro q
        exact (apart z u (fun q => hne q.symm) ez hu g q).2 hv
    · have ne1 : K y ≠ K x := fun q => e1 (inj _ _ q)
      rw [updH_other ne1] at ey
      by_cases e2 : z = x
      · subst e2
        rw [updH_same] at ez
        cases ez
        rcases h3 y with ⟨q, _⟩ | ⟨u', eu, hu⟩
        · rw [q] at ey; cases ey
        · rw [ey] at eu
          cases eu
          exact (apart y v e1 ey hu g hv).2
      · have ne2 : K z ≠ K x := fun q => e2 (inj _ _ q)
        rw [updH_other ne2] at ez
        exact h4 y z v u g hne ey ez hv
  · by_cases e1 : y = x
    · subst e1
      rw [updH_same] at ey
      cases ey
      rcases hloc with r | r
      · cases q : f (K y) with
        | none =>
          rw [r, q] at hv
          cases hv
        | some v =>
          rw [r, q] at hv
          exact h5 y v g q hv
      · rw [r] at hv
        cases hv
        exact hN5
    · have ne1 : K y ≠ K x := fun q => e1 (inj _ _ q)
      rw [updH_other ne1] at ey
      exact h5 y v g ey hv
end
theorem way_range {w : World} {base g cap : Nat} {l : List (Int × Int)} (h : w.ownsRow base 98 2 (.slice (some ⟨g, 0, none⟩) l.length cap) l.length (wayCells l)) (i : Nat) (hi : i < l.length) : w.rangeAt g (i * 2) [.int .i64 l[i].1, .int .i64 l[i].2] := by
  have hc : ∀ (l : List (Int × Int)) (i : Nat) (hi : i < l.length), (wayCells l)[i * 2]? = some (.int .i64 l[i].1) ∧ (wayCells l)[i * 2 + 1]? = some (.int .i64 l[i].2) := by
    intro l
    induction l with
    | nil => intro i hi; simp at hi
    | cons p l ih =>
      intro i hi
      cases i with
      | zero => exact ⟨rfl, rfl⟩
      | succ i =>
        have := ih i (by simpa using hi)
        rw [show (i + 1) * 2 = i * 2 + 2 by omega]
        exact this
  obtain ⟨c1, c2⟩ := hc l i hi
  intro j u hu
  match j with
  | 0 =>
    obtain rfl : Value.int .i64 l[i].1 = u := by simpa using hu
    exact (h.cellAt (i * 2) (by omega)).trans c1
  | 1 =>
    obtain rfl : Value.int .i64 l[i].2 = u := by simpa using hu
    exact (h.cellAt (i * 2 + 1) (by omega)).trans c2
  | j + 2 => simp at hu
theorem zero74 (w : World) : (zeroValue 41).run Tryz.prog w = .ok (.agg #[.int .i64 0, .int .i64 0, .int .i64 0, .string ⟨#[]⟩, .slice none 0 0]) w := by kernel_rfl
theorem size98 : (Tryz.prog.info? 98).map (·.size) = some 2 := by kernel_rfl
/-- What the loop over the ways of an edge keeps. -/
structure T3 (gw : Nat) (V : Value) (ways : List (Int × Int)) (b : Nat) (w : World) (E : List (Way × Int)) (wr : World) : Prop where
  grp : GroupsN (fun i => i = gw) 98 KW wr w.heap.size b E
  kept : Kept (fun i => i = b) w wr
  row : wr.ownsRow w.heap.size 98 2 V ways.length (wayCells ways)
  lt : gw < wr.heap.size
/-- What takeEdges leaves. -/
def EPost (w : World) (s mb lb : Nat) (sc : Array Value) (l : List EdgeL) (e : Ending) (w' : World) : Prop :=
  e = .returned (.tuple #[]) ∧ ∃ V N1 N3, w'.heap[s]? = some (.cells (sc.setIfInBounds 3 V) 79 (0, 0)) ∧ w'.ownsRow (N1 + 1) 2 1 V ((l.map EdgeL.id).mergeSort leI).length (((l.map EdgeL.id).mergeSort leI).map (Value.int .i64)) ∧
    AllIn edgeE EdgeL.id PlainE w' (fun g => w.heap.size ≤ g ∧ g < N1) mb l ∧ Groups 98 KW w' N3 lb (((l.map EdgeL.id).mergeSort leI).flatMap (evE l)) ∧ w.heap.size ≤ N1 ∧ N1 ≤ N3 ∧ N3 ≤ w'.heap.size ∧ (∀ g, V.ownBlock = some g → g < N3) ∧ Kept (fun i => i = s ∨ i = mb ∨ i = lb) w w'
end Go.Proofs.YtcfmenkigolnoaaGreatDoor
