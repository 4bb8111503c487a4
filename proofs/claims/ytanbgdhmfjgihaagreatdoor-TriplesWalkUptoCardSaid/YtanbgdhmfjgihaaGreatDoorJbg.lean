/- Texts of one kind, one behind the other: each says ahead of itself what it shows. -/
import Derived.Test.YtanbgdhmfjgihaaGreatDoorJbe
import Derived.Test.YtanbgdhmfjgihaaGreatDoorJbf
import Derived.Test.YtanbgdhmfjgihaaGreatDoorJbc
/- A tree, walked: which triple comes next. -/
namespace Go.Proofs.YtanbgdhmfjgihaaGreatDoor
open Go.RowKit

/-- What a place of a list shows at a part. -/
def SM.part (s : SM) (k v j : Nat) : Val := (s.vs[s.num k v j]?).getD nulV
/-- The triple at a place of a list. -/
def SM.leaf (s : SM) (k j : Nat) : Tri3 := ⟨s.part k 0 j, s.part k 1 j, s.part k 2 j⟩
theorem lev_all (k v : Nat) (hv : v < 3) : v = (lev k).1 ∨ v = (lev k).2.1 ∨ v = (lev k).2.2 := by
  unfold lev
  split <;> simp <;> omega
section
variable {l : List Tri3} {s : SM} (h : Loaded l s)
include h
theorem rows_nodup : s.rs.Nodup := h.rows.imp fun {a b} q e => by subst e; exact R3.irr _ q
theorem list_nodup (k : Nat) (hk : k < 6) : (s.ls k).Nodup := (h.nums k hk).perm.nodup_iff.2 List.nodup_range
theorem tri_inj (a b : R3) (ha : a ∈ s.rs) (hb : b ∈ s.rs) (e : s.tri a = s.tri b) : a = b := by
  obtain ⟨t, _, a1, a2, a3⟩ := h.row a ha
  obtain ⟨u, _, b1, b2, b3⟩ := h.row b hb
  unfold SM.tri at e
  rw [a1, a2, a3, b1, b2, b3] at e
  injection e with e1 e2 e3
  simp only [Option.getD_some] at e1 e2 e3
  rw [e1] at a1
  rw [e2] at a2
  rw [e3] at a3
  have key : ∀ (i j : Nat) (v : Val), s.vs[i]? = some v → s.vs[j]? = some v → i = j := fun i j v hi hj => by
    obtain ⟨x1, y1⟩ := List.getElem?_eq_some_iff.1 hi
    obtain ⟨x2, y2⟩ := List.getElem?_eq_some_iff.1 hj
    exact h.rise.inj i j x1 x2 (y1.trans y2.symm)
  obtain ⟨p, q, r⟩ := a
  obtain ⟨p2, q2, r2⟩ := b
  simp only at a1 a2 a3 b1 b2 b3
  rw [key _ _ _ a1 b1, key _ _ _ a2 b2, key _ _ _ a3 b3]
theorem all_nodup : s.all.Nodup := by
  unfold SM.all
  rw [List.Nodup, List.pairwise_map]
  refine (rows_nodup h).imp_of_mem fun {a b} ha hb hne e => hne (tri_inj h a b ha hb e)
theorem leaf_tri (k : Nat) (j : Nat) (hj : j < (s.ls k).length) : s.leaf k j = s.tri (s.rs[(s.ls k)[j]]'(h.lt k _ (List.getElem_mem hj))) := by
  have hr := h.lt k _ (List.getElem_mem hj)
  unfold SM.leaf SM.part SM.tri
  rw [s.num_eq k 0 j hj hr, s.num_eq k 1 j hj hr, s.num_eq k 2 j hj hr]
  rfl
theorem leaf_mem (k : Nat) (j : Nat) (hj : j < (s.ls k).length) : s.leaf k j ∈ s.all := by
  rw [leaf_tri h k j hj]
  exact List.mem_map_of_mem (List.getElem_mem _)
theorem place_inj (k : Nat) (hk : k < 6) (i j : Nat) (hi : i < (s.ls k).length) (hj : j < (s.ls k).length) (e : s.rs[(s.ls k)[i]]'(h.lt k _ (List.getElem_mem hi)) = s.rs[(s.ls k)[j]]'(h.lt k _ (List.getElem_mem hj))) : i = j :=
  (List.getElem_inj (list_nodup h k hk)).1 ((List.getElem_inj (rows_nodup h)).1 e)
theorem leaf_inj (k : Nat) (hk : k < 6) (i j : Nat) (hi : i < (s.ls k).length) (hj : j < (s.ls k).length) (e : s.leaf k i = s.leaf k j) : i = j := by
  rw [leaf_tri h k i hi, leaf_tri h k j hj] at e
  exact place_inj h k hk i j hi hj (tri_inj h _ _ (List.getElem_mem _) (List.getElem_mem _) e)
theorem nums_inj (k : Nat) (hk : k < 6) (i j : Nat) (hi : i < (s.ls k).length) (hj : j < (s.ls k).length) (e0 : s.num k (lev k).1 i = s.num k (lev k).1 j) (e1 : s.num k (lev k).2.1 i = s.num k (lev k).2.1 j) (e2 : s.num k (lev k).2.2 i = s.num k (lev k).2.2 j) : i = j := by
  have hall : ∀ v, v < 3 → s.num k v i = s.num k v j := fun v hv => by
    rcases lev_all k v hv with e | e | e
    · rw [e]; exact e0
    · rw [e]; exact e1
    · rw [e]; exact e2
  refine place_inj h k hk i j hi hj ?_
  have f := fun v => s.num_eq k v i hi (h.lt k _ (List.getElem_mem hi))
  have g := fun v => s.num_eq k v j hj (h.lt k _ (List.getElem_mem hj))
  have a0 := hall 0 (by omega)
  have a1 := hall 1 (by omega)
  have a2 := hall 2 (by omega)
  rw [f 0, g 0] at a0
  rw [f 1, g 1] at a1
  rw [f 2, g 2] at a2
  generalize s.rs[(s.ls k)[i]]'(h.lt k _ (List.getElem_mem hi)) = a at *
  generalize s.rs[(s.ls k)[j]]'(h.lt k _ (List.getElem_mem hj)) = b at *
  obtain ⟨p, q, r⟩ := a
  obtain ⟨p2, q2, r2⟩ := b
  simp only [R3.at] at a0 a1 a2
  rw [a0, a1, a2]
end
section
variable {s : SM} {k : Nat} {c : CS}
/-- Next, told true, shows a value above. -/
theorem next_above (h : Fit s k c) (ok : SMok s) (so : SMsort s) (hk : k < 6) (hon : c.on = true) (hn : (c.next s k).on = true) : orderI 1 (c.val s k) ((c.next s k).val s k) < 0 := by
  obtain ⟨h1, hpf⟩ := CS.on_is hon
  have h3 := h.d3
  have hin := h.in_ h1
  have hcn := h.n
  have e : c.next s k = c.go (c.bot s k) := by unfold CS.next; rw [if_pos hon]
  rw [e, CS.go_on c h1 h3] at hn
  have hb := of_decide_eq_true hn
  have hbi := c.bot_in s k hin.1
  have hno := gal_no (s.same k c.lev c.pos) (c.fin - c.pos) c.pos (by show c.bot s k < _; omega)
  change s.same k c.lev c.pos (c.bot s k) = false at hno
  have hr := h.rise so hk h1 c.pos (c.bot s k) (Nat.le_refl _) hbi.1 hb
  have l1 := s.num_lt ok k c.lev c.pos (by omega)
  have l2 := s.num_lt ok k c.lev (c.bot s k) (by omega)
  have hne : s.num k c.lev (c.bot s k) ≠ s.num k c.lev c.pos := fun q => by
    have := SM.same_of q
    rw [hno] at this
    cases this
  rw [e]
  unfold CS.val
  rw [CS.go_pos c _ h1 h3, CS.go_lev c _ h1 h3, List.getElem?_eq_getElem l1, List.getElem?_eq_getElem l2, Option.getD_some, Option.getD_some]
  have hv : Rise s.vs := so.v
  rw [hv.lt _ _ l1 l2]
  omega
theorem bot_above (h1 : c.pos < c.fin) : c.pos < c.bot s k := by
  have hb := c.bot_in s k (Nat.le_of_lt h1)
  rcases Nat.lt_or_ge c.pos (c.bot s k) with q | q
  · exact q
  · have e : c.bot s k = c.pos := by omega
    have := gal_no (s.same k c.lev c.pos) (c.fin - c.pos) c.pos (by show c.bot s k < _; omega)
    change s.same k c.lev c.pos (c.bot s k) = false at this
    rw [e] at this
    unfold SM.same at this
    simp at this
theorem opens_on (h : Fit s k c) (hd : c.d < 3) (h1 : 1 ≤ c.d) (hp : c.pos < c.fin) : c.opens s k = true := by
  have := bot_above (s := s) (k := k) hp
  unfold CS.opens CS.lo CS.hi
  rw [if_neg (by omega), if_neg (by omega)]
  simp [hd, this]
end
end Go.Proofs.YtanbgdhmfjgihaaGreatDoor

/- A tree, walked step by step: what each step finds. -/
namespace Go.Proofs.YtanbgdhmfjgihaaGreatDoor
open Go.RowKit

/-- A value in cells of its own. -/
structure VY (y : V6) (u : Val) : Prop where
  p : y.p = none
  l : y.len = 0
  c : y.cap = 0
  e : u = .mk y.k y.b y.n y.t y.x []
  f : Fine y.n y.t y.x 0
theorem VY.is {y : V6} {u : Val} (h : VY y u) (W : World) : Is W y u [] := by
  obtain ⟨k, b, n, t, x, p, len, cap⟩ := y
  obtain ⟨hp, hl, hc, he, hf⟩ := h
  simp only at hp hl hc he hf
  subst hp hl hc
  exact ⟨he, rfl, hf, ⟨none, 0, rfl⟩⟩
/-- Where a walk stands: whether it goes down, its cursor, how many triples were told. -/
inductive Step (s : SM) (k n : Nat) : Bool → CS → Nat → Prop where
  | d0 (c : CS) (h : c.d = 0) : Step s k n true c 0
  | d1 (c : CS) (L : Nat) (h : c.d = 1) (a : c.a0 = L) (l : L < n) : Step s k n true c L
  | d2 (c : CS) (L : Nat) (h : c.d = 2) (a : c.a1 = L) (l : L < c.e1) : Step s k n true c L
  | f3 (c : CS) (L : Nat) (h : c.d = 3) (a : c.a2 + 1 = L) (l : c.a2 < c.e2) : Step s k n false c L
  | f2 (c : CS) (L : Nat) (h : c.d = 2) (a : c.bot s k = L) (l : c.a1 < c.e1) : Step s k n false c L
  | f1 (c : CS) (L : Nat) (h : c.d = 1) (a : c.bot s k = L) (l : c.a0 < c.e0) : Step s k n false c L
section
variable {l : List Tri3} {s : SM} {k : Nat} {c : CS}
theorem opn_eq (h : c.opens s k = true) : c.opn s k = c.down c.lo (c.hi s k) := by unfold CS.opn; rw [if_pos h]
theorem next_eq (h : c.on = true) : c.next s k = c.go (c.bot s k) := by unfold CS.next; rw [if_pos h]
theorem t0 (hd : c.d = 0) (hn : 0 < c.n) : c.opens s k = true ∧ (c.opn s k).d = 1 ∧ (c.opn s k).a0 = 0 := by
  have ho : c.opens s k = true := by unfold CS.opens CS.lo CS.hi; rw [if_pos hd, if_pos hd, hd]; simp [hn]
  rw [opn_eq ho]
  unfold CS.lo CS.hi
  rw [if_pos hd, if_pos hd]
  obtain ⟨sp, pl, n, cl, l0, l1, l2, a0, e0, a1, e1, a2, e2, d⟩ := c
  simp only at hd
  subst hd
  exact ⟨ho, rfl, rfl⟩
theorem t0n (hd : c.d = 0) (hn : c.n = 0) : c.opens s k = false := by unfold CS.opens CS.lo CS.hi; rw [if_pos hd, if_pos hd, hn]; simp
theorem t1 (h : Fit s k c) (hd : c.d = 1) (hp : c.a0 < c.e0) : c.opens s k = true ∧ (c.opn s k).d = 2 ∧ (c.opn s k).a1 = c.a0 ∧ (c.opn s k).a1 < (c.opn s k).e1 ∧ (c.opn s k).a0 = c.a0 := by
  obtain ⟨p, f, lv⟩ := CS.pos1 hd
  have ho := opens_on h (by omega) (by omega) (by rw [p, f]; exact hp)
  have hb := bot_above (s := s) (k := k) (c := c) (by rw [p, f]; exact hp)
  rw [opn_eq ho]
  unfold CS.lo CS.hi
  rw [if_neg (by omega), if_neg (by omega)]
  rw [p] at hb ⊢
  generalize c.bot s k = b at *
  obtain ⟨sp, pl, n, cl, l0, l1, l2, a0, e0, a1, e1, a2, e2, d⟩ := c
  simp only at hd
  subst hd
  exact ⟨ho, rfl, rfl, hb, rfl⟩
theorem t2 (h : Fit s k c) (hd : c.d = 2) (hp : c.a1 < c.e1) : c.opens s k = true ∧ (c.opn s k).d = 3 ∧ (c.opn s k).a2 = c.a1 ∧ (c.opn s k).a2 < (c.opn s k).e2 ∧ (c.opn s k).a0 = c.a0 ∧ (c.opn s k).a1 = c.a1 := by
  obtain ⟨p, f, lv⟩ := CS.pos2 hd
  have ho := opens_on h (by omega) (by omega) (by rw [p, f]; exact hp)
  have hb := bot_above (s := s) (k := k) (c := c) (by rw [p, f]; exact hp)
  rw [opn_eq ho]
  unfold CS.lo CS.hi
  rw [if_neg (by omega), if_neg (by omega)]
  rw [p] at hb ⊢
  generalize c.bot s k = b at *
  obtain ⟨sp, pl, n, cl, l0, l1, l2, a0, e0, a1, e1, a2, e2, d⟩ := c
  simp only at hd
  subst hd
  exact ⟨ho, rfl, rfl, hb, rfl, rfl⟩
/-- On the third level each place is one triple. -/
theorem bot3 (hl : Loaded l s) (hk : k < 6) (h : Fit s k c) (hd : c.d = 3) (hp : c.a2 < c.e2) : c.bot s k = c.a2 + 1 := by
  obtain ⟨p, f, lv⟩ := CS.pos3 hd
  have hb := bot_above (s := s) (k := k) (c := c) (by rw [p, f]; exact hp)
  have hin := h.in_ (by omega)
  have hbi := c.bot_in s k hin.1
  have hn := h.n
  rcases Nat.lt_or_ge (c.a2 + 1) (c.bot s k) with q | q
  · have q2 := h.f2 (by omega)
    have q3 := h.f3 (by omega)
    have g1 := h.e1 (by omega)
    have g2 := h.e2 (by omega)
    rw [f] at hin hbi
    rw [p] at hb
    have y1 := SM.same_is (gal_yes (s.same k c.lev c.pos) (c.fin - c.pos) c.pos (c.a2 + 1) (by omega) (by show _ < c.bot s k; exact q))
    rw [p, lv, h.l2] at y1
    have z1 := SM.same_is (gal_yes (s.same k c.l1 c.a1) (c.e1 - c.a1) c.a1 (c.a2 + 1) (by omega) (by omega))
    have z2 := SM.same_is (gal_yes (s.same k c.l1 c.a1) (c.e1 - c.a1) c.a1 c.a2 (by omega) (by omega))
    have x1 := SM.same_is (gal_yes (s.same k c.l0 c.a0) (c.e0 - c.a0) c.a0 (c.a2 + 1) (by omega) (by omega))
    have x2 := SM.same_is (gal_yes (s.same k c.l0 c.a0) (c.e0 - c.a0) c.a0 c.a2 (by omega) (by omega))
    rw [h.l1] at z1 z2
    rw [h.l0] at x1 x2
    have := nums_inj hl k hk (c.a2 + 1) c.a2 (by omega) (by omega) (x1.trans x2.symm) (z1.trans z2.symm) y1
    omega
  · rw [p] at hb
    omega
theorem go_d3 (hd : c.d = 3) (x : Nat) : (c.go x).a2 = x ∧ (c.go x).a1 = c.a1 ∧ (c.go x).a0 = c.a0 ∧ (c.go x).e2 = c.e2 ∧ (c.go x).e1 = c.e1 ∧ (c.go x).e0 = c.e0 := by
  obtain ⟨sp, pl, n, cl, l0, l1, l2, a0, e0, a1, e1, a2, e2, d⟩ := c
  simp only at hd
  subst hd
  exact ⟨rfl, rfl, rfl, rfl, rfl, rfl⟩
theorem go_d2 (hd : c.d = 2) (x : Nat) : (c.go x).a1 = x ∧ (c.go x).a0 = c.a0 ∧ (c.go x).e1 = c.e1 ∧ (c.go x).e0 = c.e0 := by
  obtain ⟨sp, pl, n, cl, l0, l1, l2, a0, e0, a1, e1, a2, e2, d⟩ := c
  simp only at hd
  subst hd
  exact ⟨rfl, rfl, rfl, rfl⟩
theorem go_d1 (hd : c.d = 1) (x : Nat) : (c.go x).a0 = x ∧ (c.go x).e0 = c.e0 := by
  obtain ⟨sp, pl, n, cl, l0, l1, l2, a0, e0, a1, e1, a2, e2, d⟩ := c
  simp only at hd
  subst hd
  exact ⟨rfl, rfl⟩
theorem up_is (c : CS) : c.up.d = c.d - 1 ∧ c.up.a0 = c.a0 ∧ c.up.a1 = c.a1 ∧ c.up.e0 = c.e0 ∧ c.up.e1 = c.e1 := ⟨rfl, rfl, rfl, rfl, rfl⟩
/-- What lies below a value ends where its level below ends. -/
theorem up3_bot (h : Fit s k c) (hd : c.d = 3) : c.up.bot s k = c.e2 ∧ c.a1 < c.e1 := by
  have q3 := h.f3 (by omega)
  refine ⟨?_, q3.1⟩
  rw [q3.2.1]
  obtain ⟨sp, pl, n, cl, l0, l1, l2, a0, e0, a1, e1, a2, e2, d⟩ := c
  simp only at hd
  subst hd
  rfl
theorem up2_bot (h : Fit s k c) (hd : c.d = 2) : c.up.bot s k = c.e1 ∧ c.a0 < c.e0 := by
  have q2 := h.f2 (by omega)
  refine ⟨?_, q2.1⟩
  rw [q2.2.1]
  obtain ⟨sp, pl, n, cl, l0, l1, l2, a0, e0, a1, e1, a2, e2, d⟩ := c
  simp only at hd
  subst hd
  rfl
/-- Standing on the third level, the triple at that place is what the levels show. -/
theorem leaf3 (h : Fit s k c) (hd : c.d = 3) (hp : c.a2 < c.e2) : s.part k (lev k).1 c.a2 = s.part k (lev k).1 c.a0 ∧ s.part k (lev k).2.1 c.a2 = s.part k (lev k).2.1 c.a1 := by
  have q2 := h.f2 (by omega)
  have q3 := h.f3 (by omega)
  have g1 := h.e1 (by omega)
  have g2 := h.e2 (by omega)
  have z2 := SM.same_is (gal_yes (s.same k c.l1 c.a1) (c.e1 - c.a1) c.a1 c.a2 (by omega) (by omega))
  have x2 := SM.same_is (gal_yes (s.same k c.l0 c.a0) (c.e0 - c.a0) c.a0 c.a2 (by omega) (by omega))
  rw [h.l1] at z2
  rw [h.l0] at x2
  unfold SM.part
  rw [z2, x2]
  exact ⟨rfl, rfl⟩
theorem val_d1 (h : Fit s k c) (hd : c.d = 1) : c.val s k = s.part k (lev k).1 c.a0 := by
  obtain ⟨p, _, lv⟩ := CS.pos1 hd
  unfold CS.val SM.part nulV
  rw [p, lv, h.l0]
theorem val_d2 (h : Fit s k c) (hd : c.d = 2) : c.val s k = s.part k (lev k).2.1 c.a1 := by
  obtain ⟨p, _, lv⟩ := CS.pos2 hd
  unfold CS.val SM.part nulV
  rw [p, lv, h.l1]
theorem val_d3 (h : Fit s k c) (hd : c.d = 3) : c.val s k = s.part k (lev k).2.2 c.a2 := by
  obtain ⟨p, _, lv⟩ := CS.pos3 hd
  unfold CS.val SM.part nulV
  rw [p, lv, h.l2]
end
end Go.Proofs.YtanbgdhmfjgihaaGreatDoor

/- A walk, a step at a time: what each answer of a cursor says. -/
namespace Go.Proofs.YtanbgdhmfjgihaaGreatDoor
open Go.RowKit

/-- How many rounds a place is worth. -/
def rk (dn : Bool) (d : Nat) : Nat := match dn with | true => 3 - d | false => 2 + d
/-- A value is shown: where it stands, with what stood above. -/
inductive Got (n L : Nat) (c c' : CS) : Prop where
  | g1 (d : c'.d = 1) (a : c'.a0 = L) (l : L < n)
  | g2 (d : c'.d = 2) (b : 1 ≤ c.d) (a : c'.a1 = L) (l : L < c'.e1) (k0 : c'.a0 = c.a0)
  | g3 (d : c'.d = 3) (b : 2 ≤ c.d) (a : c'.a2 = L) (l : L < c'.e2) (k0 : c'.a0 = c.a0) (k1 : c'.a1 = c.a1)
section
variable {l : List Tri3} {s : SM} {k n L : Nat} {c : CS}
theorem open_go (h : Fit s k c) (hn : c.n = n) (st : Step s k n true c L) :
    (c.opens s k = true ∧ (c.opn s k).on = true ∧ Got n L c (c.opn s k) ∧ rk true c.d = rk true (c.opn s k).d + 1) ∨ (c.opens s k = false ∧ c.opn s k = c ∧ c.d = 0 ∧ L = n) := by
  have h2 : Fit s k (c.opn s k) := h.opn
  have hn2 : (c.opn s k).n = n := by rw [h2.n, ← h.n, hn]
  cases st with
  | d0 _ hd =>
    rcases Nat.eq_zero_or_pos n with e | e
    · refine Or.inr ⟨t0n hd (hn.trans e), ?_, hd, e.symm⟩
      unfold CS.opn
      rw [if_neg (by rw [t0n hd (hn.trans e)]; exact Bool.false_ne_true)]
    · obtain ⟨a, b, d⟩ := t0 (s := s) (k := k) hd (by omega)
      refine Or.inl ⟨a, CS.on_of (by omega) ?_, .g1 b d e, by rw [b, hd]; rfl⟩
      obtain ⟨p, f, _⟩ := CS.pos1 b
      rw [p, f, d, (h2.f1 (by omega)).1]
      omega
  | d1 _ L hd ha hl =>
    have q1 := h.f1 (by omega)
    obtain ⟨a, b, d, e, f⟩ := t1 h hd (by omega)
    refine Or.inl ⟨a, CS.on_of (by omega) ?_, .g2 b (by omega) (d.trans ha) (by omega) f, by rw [b, hd]; rfl⟩
    obtain ⟨p, q, _⟩ := CS.pos2 b
    rw [p, q]
    exact e
  | d2 _ L hd ha hl =>
    obtain ⟨a, b, d, e, f, g⟩ := t2 h hd (by omega)
    refine Or.inl ⟨a, CS.on_of (by omega) ?_, .g3 b (by omega) (d.trans ha) (by omega) f g, by rw [b, hd]; rfl⟩
    obtain ⟨p, q, _⟩ := CS.pos3 b
    rw [p, q]
    exact e
theorem next_go (hl : Loaded l s) (hk : k < 6) (h : Fit s k c) (hn : c.n = n) (st : Step s k n false c L) :
    c.on = true ∧ (c.next s k).d = c.d ∧ (((c.next s k).on = true ∧ Got n L c (c.next s k)) ∨
    ((c.next s k).on = false ∧ ((c.d = 1 ∧ L = n) ∨ (2 ≤ c.d ∧ (c.next s k).up.d = c.d - 1 ∧ Step s k n false (c.next s k).up L ∧ (1 ≤ (c.next s k).up.d → (c.next s k).up.a0 = c.a0) ∧ (2 ≤ (c.next s k).up.d → (c.next s k).up.a1 = c.a1))))) := by
  have h2 : Fit s k (c.next s k) := h.next
  cases st with
  | f3 _ L hd ha hl2 =>
    obtain ⟨p, f, _⟩ := CS.pos3 hd
    have hon : c.on = true := CS.on_of (by omega) (by rw [p, f]; exact hl2)
    have hb := bot3 hl hk h hd hl2
    rw [next_eq hon] at h2 ⊢
    have hd2 : (c.go (c.bot s k)).d = 3 := by rw [CS.go_d]; exact hd
    have ho := CS.go_on c (by omega) (by omega) (c.bot s k)
    obtain ⟨g1, g2, g3, g4, g5, g6⟩ := go_d3 hd (c.bot s k)
    refine ⟨hon, by rw [CS.go_d], ?_⟩
    by_cases hlt : c.bot s k < c.fin
    · rw [decide_eq_true hlt] at ho
      refine Or.inl ⟨ho, .g3 hd2 (by omega) (by omega) (by omega) g3 g2⟩
    · rw [decide_eq_false hlt] at ho
      obtain ⟨u1, u2⟩ := up3_bot h2 hd2
      obtain ⟨v1, v2, v3, v4, v5⟩ := up_is (c.go (c.bot s k))
      have q3 := h.f3 (by omega)
      have hbi := c.bot_in s k (by omega)
      refine Or.inr ⟨ho, Or.inr ⟨by omega, by omega, .f2 _ _ (by omega) ?_ ?_, fun _ => by omega, fun _ => by omega⟩⟩
      · rw [u1]; omega
      · rw [v3, v5]; omega
  | f2 _ L hd ha hl2 =>
    obtain ⟨p, f, _⟩ := CS.pos2 hd
    have hon : c.on = true := CS.on_of (by omega) (by rw [p, f]; exact hl2)
    rw [next_eq hon] at h2 ⊢
    have hd2 : (c.go (c.bot s k)).d = 2 := by rw [CS.go_d]; exact hd
    have ho := CS.go_on c (by omega) (by omega) (c.bot s k)
    obtain ⟨g1, g2, g3, g4⟩ := go_d2 hd (c.bot s k)
    refine ⟨hon, by rw [CS.go_d], ?_⟩
    by_cases hlt : c.bot s k < c.fin
    · rw [decide_eq_true hlt] at ho
      refine Or.inl ⟨ho, .g2 hd2 (by omega) (by omega) (by omega) g2⟩
    · rw [decide_eq_false hlt] at ho
      obtain ⟨u1, u2⟩ := up2_bot h2 hd2
      obtain ⟨v1, v2, v3, v4, v5⟩ := up_is (c.go (c.bot s k))
      have hbi := c.bot_in s k (by omega)
      refine Or.inr ⟨ho, Or.inr ⟨by omega, by omega, .f1 _ _ (by omega) ?_ ?_, fun _ => by omega, fun q => by omega⟩⟩
      · rw [u1]; omega
      · rw [v2, v4]; omega
  | f1 _ L hd ha hl2 =>
    obtain ⟨p, f, _⟩ := CS.pos1 hd
    have hon : c.on = true := CS.on_of (by omega) (by rw [p, f]; exact hl2)
    rw [next_eq hon] at h2 ⊢
    have hd2 : (c.go (c.bot s k)).d = 1 := by rw [CS.go_d]; exact hd
    have ho := CS.go_on c (by omega) (by omega) (c.bot s k)
    obtain ⟨g1, g2⟩ := go_d1 hd (c.bot s k)
    have q1 := h.f1 (by omega)
    have hbi := c.bot_in s k (by omega)
    refine ⟨hon, by rw [CS.go_d], ?_⟩
    by_cases hlt : c.bot s k < c.fin
    · rw [decide_eq_true hlt] at ho
      exact Or.inl ⟨ho, .g1 hd2 (by omega) (by omega)⟩
    · rw [decide_eq_false hlt] at ho
      exact Or.inr ⟨ho, Or.inl ⟨hd, by omega⟩⟩
end
/-- A cursor, where a list of the walk's own has grown. -/
theorem Stand.grown {W0 W W' : World} {s : SM} {g k : Nat} {c : CS} {row : Option Nat} (h : Stand W0 s W g c k) (hg : W.grownBy W' row) (hr : ∀ q, row = some q → g < q) : Stand W0 s W' g c k := by
  have h0 := h.at_.hg
  refine ⟨⟨h.at_.S, h.at_.n, h.at_.l, h.at_.h0, h.at_.h1, h.at_.h2, h0, h.at_.b.grown hg h.at_.b.size fun q e => by have := hr q e; omega, ?_⟩, h.fit, h.ok, h.so, h.hk⟩
  exact (hg.block g (lt_of_heap h.at_.B) fun e => by have := hr g e.symm; omega).trans h.at_.B
/-- What a walk keeps. -/
structure WI (l : List Tri3) (s : SM) (k n : Nat) (w3 : World) (g b10 base : Nat) (V : Value) (L st : Nat) (dn : Bool) (c : CS) (wr : World) : Prop where
  ln : L ≤ n
  cost : st + 8 * (n - L) + rk dn c.d ≤ 8 * n + 3
  step : Step s k n dn c L
  stand : Stand w3 s wr g c k
  bel : Below w3.heap.size w3 wr
  way : ∃ y0 y1 y2, Way wr b10 y0 y1 y2 ∧ (1 ≤ c.d → VY y0 (s.part k (lev k).1 c.a0)) ∧ (2 ≤ c.d → VY y1 (s.part k (lev k).2.1 c.a1)) ∧ (3 ≤ c.d → VY y2 (s.part k (lev k).2.2 c.a2))
  own : ∃ dd : List VE, dd.map VE.val = flat ((List.range L).map (s.leaf k)) ∧ wr.ownsRow base 41 18 V L (dd.flatMap VE.enc)
end Go.Proofs.YtanbgdhmfjgihaaGreatDoor

/- What a walk's end wants: a list of its own as triples; two lists the same; a triple, made in any world. -/
namespace Go.Proofs.YtanbgdhmfjgihaaGreatDoor
open Go.RowKit

theorem triLawAny (k : Nat) (hk : k < 6) (e0 e1 e2 : V6) : ∃ T : Nat → V6, T (lev k).1 = e0 ∧ T (lev k).2.1 = e1 ∧ T (lev k).2.2 = e2 ∧ ∀ w,
    Calls Tryz.prog 35 #[.string (onm k), .agg #[.int .i64 e0.k, .bool e0.b, .int .i64 e0.n, .string e0.t, .string e0.x, .slice e0.p e0.len e0.cap, .int .i64 e1.k, .bool e1.b, .int .i64 e1.n, .string e1.t, .string e1.x, .slice e1.p e1.len e1.cap, .int .i64 e2.k, .bool e2.b, .int .i64 e2.n, .string e2.t, .string e2.x, .slice e2.p e2.len e2.cap]] w fun e w' => e = .returned (.agg #[.int .i64 (T 0).k, .bool (T 0).b, .int .i64 (T 0).n, .string (T 0).t, .string (T 0).x, .slice (T 0).p (T 0).len (T 0).cap, .int .i64 (T 1).k, .bool (T 1).b, .int .i64 (T 1).n, .string (T 1).t, .string (T 1).x, .slice (T 1).p (T 1).len (T 1).cap, .int .i64 (T 2).k, .bool (T 2).b, .int .i64 (T 2).n, .string (T 2).t, .string (T 2).x, .slice (T 2).p (T 2).len (T 2).cap]) ∧ Below w.heap.size w w' := by
  match k, hk with
  | 0, _ => exact ⟨fun | 0 => e0 | 1 => e1 | _ => e2, rfl, rfl, rfl, triLaw0 e0 e1 e2⟩
  | 1, _ => exact ⟨fun | 0 => e0 | 2 => e1 | _ => e2, rfl, rfl, rfl, triLaw1 e0 e1 e2⟩
  | 2, _ => exact ⟨fun | 1 => e0 | 0 => e1 | _ => e2, rfl, rfl, rfl, triLaw2 e0 e1 e2⟩
  | 3, _ => exact ⟨fun | 1 => e0 | 2 => e1 | _ => e2, rfl, rfl, rfl, triLaw3 e0 e1 e2⟩
  | 4, _ => exact ⟨fun | 2 => e0 | 0 => e1 | _ => e2, rfl, rfl, rfl, triLaw4 e0 e1 e2⟩
  | 5, _ => exact ⟨fun | 2 => e0 | 1 => e1 | _ => e2, rfl, rfl, rfl, triLaw5 e0 e1 e2⟩
theorem step_d2 {s : SM} {k n L : Nat} {c : CS} (h : Step s k n true c L) : c.d ≤ 2 := by
  cases h <;> omega
theorem step_d1 {s : SM} {k n L : Nat} {c : CS} (h : Step s k n false c L) : 1 ≤ c.d := by
  cases h <;> omega
/-- A list of the walk's own, as triples. -/
theorem tris_of_own {w : World} {base : Nat} {V : Value} (A : List Tri3) (dd : List VE) (h : w.ownsRow base 41 18 V A.length (dd.flatMap VE.enc)) (hd : dd.map VE.val = flat A) : Tris w V A := by
  have h1 := h.1
  rcases h.2 with ⟨rfl, h0⟩ | ⟨g, cap, cur, rfl, hg, hh, _⟩
  · exact ⟨none, 0, by rw [h0], fun hne => absurd (List.length_eq_zero_iff.1 h0) hne⟩
  · refine ⟨some ⟨g, 0, none⟩, cap, rfl, fun _ => ⟨g, 0, rfl, ?_⟩⟩
    rw [← hd]
    refine holds_of_cells w g dd 0 fun t u hu => ?_
    have ht : t < A.length * 18 := by
      have := (List.getElem?_eq_some_iff.1 hu).1
      omega
    rw [Nat.zero_add, h.cellAt t ht]
    exact hu
set_option maxHeartbeats 3200000 in
set_option maxRecDepth 20000 in
theorem onceNone (pa pb : Option Addr) (ca cb n : Nat) (hn : n = 0) (w : World) :
    Calls Tryz.prog 36 #[.slice pa n ca, .slice pb n cb] w fun e w' => e = .returned (.bool true) ∧ Below w.heap.size w w' := by
  have hmk := fun W => makeBools n (by omega) W
  have hn0 : ¬ (0 : Int) < n := by omega
  have HB0 : Hid (Below w.heap.size w (w.alloc (.cells (madeCells #[.bool false] n) 4))) := Lib.hid (below1 _ _)
  clear hn
  go_enter Tryz.func36, Tryz.ntmps36
  go_wp2_with fail
  clear hmk
  go_loopg [6] 0 (fun gg s6 wr => s6 = .int .i64 0 ∧ Hid (Below w.heap.size w wr))
  case atStart => exact ⟨rfl, HB0⟩
  case round =>
    clear HB0
    obtain ⟨rfl, HB⟩ := hrel
    go_wp2_with fail
    go_ret
    exact ⟨rfl, HB.out⟩
theorem onceAny (A B : List Tri3) (VA VB : Value) (w : World) (hA : Tris w VA A) (hB : Tris w VB B) (hlen : B.length = A.length) (hn : A.length ≤ 65536) (hpA : ∀ t ∈ A, Plain3 t) (hpB : ∀ t ∈ B, Plain3 t) (hmem : ∀ t ∈ A, t ∈ B) (hdA : A.Nodup) (hdB : B.Nodup) :
    Calls Tryz.prog 36 #[VA, VB] w fun e w' => e = .returned (.bool true) ∧ Below w.heap.size w w' := by
  obtain ⟨pa, ca, rfl, ka⟩ := hA
  obtain ⟨pb, cb, rfl, kb⟩ := hB
  rw [hlen]
  by_cases h0 : A.length = 0
  · exact onceNone pa pb ca cb _ h0 w
  · obtain ⟨ga, oa, rfl, xa⟩ := ka (by intro e; rw [e] at h0; exact h0 rfl)
    obtain ⟨gb, ob, rfl, xb⟩ := kb (by intro e; rw [e] at hlen; exact h0 hlen.symm)
    exact onceSome A B ga oa ca gb ob cb w xa xb hlen hn hpA hpB hmem hdA hdB
theorem all_plain {s : SM} (hp : ∀ u ∈ s.vs, Plain u) : ∀ t ∈ s.all, Plain3 t := by
  have key : ∀ j : Nat, Plain ((s.vs[j]?).getD nulV) := fun j => by
    cases e : s.vs[j]? with
    | none => exact ⟨0, false, 0, _, _, rfl⟩
    | some u => exact hp u (List.mem_of_getElem? e)
  intro t ht
  unfold SM.all at ht
  obtain ⟨r, _, rfl⟩ := List.mem_map.1 ht
  exact ⟨key _, key _, key _⟩
section
variable {l : List Tri3} {s : SM} (h : Loaded l s)
include h
theorem list_len (k : Nat) (hk : k < 6) : (s.ls k).length = s.rs.length := by
  rw [(h.nums k hk).perm.length_eq, List.length_range]
/-- All that a walk told, held beside all triples. -/
theorem onceWalk (hp : ∀ u ∈ s.vs, Plain u) (k n : Nat) (hk : k < 6) (hn : n = (s.ls k).length) (hn6 : n ≤ 60) (VA VB : Value) (w : World) (hA : Tris w VA ((List.range n).map (s.leaf k))) (hB : Tris w VB s.all) :
    Calls Tryz.prog 36 #[VA, VB] w fun e w' => e = .returned (.bool true) ∧ Below w.heap.size w w' := by
  have hl := list_len h k hk
  have hm : ∀ t ∈ (List.range n).map (s.leaf k), t ∈ s.all := fun t ht => by
    obtain ⟨j, hj, rfl⟩ := List.mem_map.1 ht
    exact leaf_mem h k j (by rw [← hn]; exact List.mem_range.1 hj)
  have hpB := all_plain hp
  refine onceAny _ s.all VA VB w hA hB ?_ ?_ (fun t ht => hpB t (hm t ht)) hpB hm ?_ (all_nodup h)
  · unfold SM.all
    rw [List.length_map, List.length_map, List.length_range, hn, hl]
  · rw [List.length_map, List.length_range]
    omega
  · rw [List.Nodup, List.pairwise_map]
    refine List.nodup_range.imp_of_mem fun {a b} ha hb hne e => hne ?_
    rw [List.mem_range] at ha hb
    exact leaf_inj h k hk a b (by omega) (by omega) e
end
end Go.Proofs.YtanbgdhmfjgihaaGreatDoor

/- What the law TriplesSeeks does where the triples may be. -/
namespace Go.Proofs.YtanbgdhmfjgihaaGreatDoor
open Go.RowKit

theorem StoreIs.below {W W' : World} {sp : Nat} {s : SM} {pv pr : Option Addr} {cv cr : Nat} {pp : Nat → Option Addr} {cc : Nat → Nat} (k : StoreIs W sp s pv pr cv cr pp cc) (b : Below W.heap.size W W') : StoreIs W' sp s pv pr cv cr pp cc :=
  ⟨(b.block _ (lt_of_heap k.h)).trans k.h, k.v.below b, k.r.below b, fun i hi => (k.l i hi).below b⟩
end Go.Proofs.YtanbgdhmfjgihaaGreatDoor
