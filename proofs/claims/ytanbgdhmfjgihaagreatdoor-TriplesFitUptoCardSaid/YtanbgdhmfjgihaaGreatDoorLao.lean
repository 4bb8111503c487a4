/- Texts of one kind, one behind the other: each says ahead of itself what it shows. -/
import Derived.Test.YtanbgdhmfjgihaaGreatDoorLab
import Derived.Test.YtanbgdhmfjgihaaGreatDoorLan
/- A store in memory; what a cursor over it shows. -/
namespace Go.Proofs.YtanbgdhmfjgihaaGreatDoor
open Go.RowKit

/-- A row: three numbers of values. -/
structure R3 where
  a : Nat
  b : Nat
  c : Nat
deriving DecidableEq, Inhabited
def R3.at (r : R3) : Nat → Nat
  | 0 => r.a
  | 1 => r.b
  | _ => r.c
/-- A store: its values, its rows, the rows' numbers in each order. -/
structure SM where
  vs : List Val
  rs : List R3
  ls : Nat → List Nat
structure SMok (s : SM) : Prop where
  r : ∀ x ∈ s.rs, x.a < s.vs.length ∧ x.b < s.vs.length ∧ x.c < s.vs.length
  l : ∀ k, ∀ x ∈ s.ls k, x < s.rs.length
  nv : s.vs.length < 1073741824
  nr : s.rs.length < 1073741824
  nl : ∀ k, (s.ls k).length < 1073741824
theorem SMok.at {s : SM} (h : SMok s) (x : R3) (hx : x ∈ s.rs) (v : Nat) : x.at v < s.vs.length := by
  have := h.r x hx
  match v with
  | 0 => exact this.1
  | 1 => exact this.2.1
  | v + 2 => exact this.2.2
def NumsAt (W : World) (p : Option Addr) (l : List Nat) : Prop := l ≠ [] → ∃ g o, p = some ⟨g, o, none⟩ ∧ ∀ (j : Nat) (h : j < l.length), W.cell? ⟨g, o + j, none⟩ = some (.int .i64 (l[j] : Nat))
def RowsAt (W : World) (p : Option Addr) (l : List R3) : Prop := l ≠ [] → ∃ g o, p = some ⟨g, o, none⟩ ∧ ∀ (j : Nat) (h : j < l.length), W.rangeAt g (o + j * 3) [.int .i64 (l[j].a : Nat), .int .i64 (l[j].b : Nat), .int .i64 (l[j].c : Nat)]
def ValsAt (W : World) (p : Option Addr) (l : List Val) : Prop := l ≠ [] → ∃ g o, p = some ⟨g, o, none⟩ ∧ Holds W g o l
section
variable {W W' : World} {p : Option Addr}
theorem NumsAt.below {l : List Nat} (h : NumsAt W p l) (b : Below W.heap.size W W') : NumsAt W' p l := fun hn => by
  obtain ⟨g, o, e, k⟩ := h hn
  exact ⟨g, o, e, fun j hj => (b.cell (p := ⟨g, o + j, none⟩) (World.block_lt_of_cell? W _ (k j hj))).trans (k j hj)⟩
theorem RowsAt.below {l : List R3} (h : RowsAt W p l) (b : Below W.heap.size W W') : RowsAt W' p l := fun hn => by
  obtain ⟨g, o, e, k⟩ := h hn
  exact ⟨g, o, e, fun j hj => range_below (k j hj) b⟩
theorem ValsAt.below {l : List Val} (h : ValsAt W p l) (b : Below W.heap.size W W') : ValsAt W' p l := fun hn => by
  obtain ⟨g, o, e, k⟩ := h hn
  exact ⟨g, o, e, Holds.below _ k b⟩
end
/-- A store's block. -/
structure StoreIs (W : World) (sp : Nat) (s : SM) (pv pr : Option Addr) (cv cr : Nat) (pp : Nat → Option Addr) (cc : Nat → Nat) : Prop where
  h : W.heap[sp]? = some (.cells #[.slice pv s.vs.length cv, .slice pr s.rs.length cr, .slice (pp 0) (s.ls 0).length (cc 0), .slice (pp 1) (s.ls 1).length (cc 1), .slice (pp 2) (s.ls 2).length (cc 2), .slice (pp 3) (s.ls 3).length (cc 3), .slice (pp 4) (s.ls 4).length (cc 4), .slice (pp 5) (s.ls 5).length (cc 5)] 76)
  v : ValsAt W pv s.vs
  r : RowsAt W pr s.rs
  l : ∀ k, k < 6 → NumsAt W (pp k) (s.ls k)
def StoreAt (W : World) (sp : Nat) (s : SM) : Prop := ∃ pv pr cv cr pp cc, StoreIs W sp s pv pr cv cr pp cc
theorem StoreAt.below {W W' : World} {sp : Nat} {s : SM} (h : StoreAt W sp s) (b : Below W.heap.size W W') : StoreAt W' sp s := by
  obtain ⟨pv, pr, cv, cr, pp, cc, k⟩ := h
  exact ⟨pv, pr, cv, cr, pp, cc, (b.block _ (lt_of_heap k.h)).trans k.h, k.v.below b, k.r.below b, fun i hi => (k.l i hi).below b⟩
/-- A cursor over a store that was made before it. -/
structure At (W0 : World) (s : SM) (W : World) (g : Nat) (c : CS) (k : Nat) : Prop where
  S : StoreAt W0 c.sp s
  n : c.n = (s.ls k).length
  l : NumsAt W0 c.pl (s.ls k)
  h0 : c.l0 < 3
  h1 : c.l1 < 3
  h2 : c.l2 < 3
  hg : W0.heap.size ≤ g
  b : Below W0.heap.size W0 W
  B : Cur W g c
theorem At.low {W0 W W' : World} {s : SM} {g k : Nat} {c : CS} (h : At W0 s W g c k) (b : Low W.heap.size W W') : At W0 s W' g c k :=
  ⟨h.S, h.n, h.l, h.h0, h.h1, h.h2, h.hg, below_any h.b b.is h.b.size, h.B.low b⟩
theorem At.bel {W0 W W' : World} {s : SM} {g k : Nat} {c : CS} (h : At W0 s W g c k) (b : Below W.heap.size W W') : At W0 s W' g c k :=
  ⟨h.S, h.n, h.l, h.h0, h.h1, h.h2, h.hg, below_any h.b b h.b.size, h.B.below b⟩
/-- The number of the value that a place shows at a part. -/
def SM.num (s : SM) (k v j : Nat) : Nat := ((s.rs[((s.ls k)[j]?).getD 0]?).getD default).at v
theorem SM.num_eq (s : SM) (k v j : Nat) (hj : j < (s.ls k).length) (hr : (s.ls k)[j] < s.rs.length) : s.num k v j = (s.rs[(s.ls k)[j]]).at v := by
  unfold SM.num
  rw [List.getElem?_eq_getElem hj, Option.getD_some, List.getElem?_eq_getElem hr, Option.getD_some]
theorem SM.num_lt (s : SM) (ok : SMok s) (k v j : Nat) (hj : j < (s.ls k).length) : s.num k v j < s.vs.length := by
  have hr := ok.l k _ (List.getElem_mem hj)
  rw [s.num_eq k v j hj hr]
  exact ok.at _ (List.getElem_mem hr) v
theorem CS.lev_lt {W0 W : World} {s : SM} {g k : Nat} {c : CS} (h : At W0 s W g c k) : c.lev < 3 := by
  unfold CS.lev
  have := h.h0
  have := h.h1
  have := h.h2
  split <;> assumption
theorem CS.lev_cell (c : CS) (h1 : 1 ≤ c.d) (h3 : c.d ≤ 3) : c.cells[2 + (c.d - 1)]? = some (.int .i64 c.lev) := by
  obtain ⟨sp, pl, n, cl, l0, l1, l2, a0, e0, a1, e1, a2, e2, d⟩ := c
  simp only at h1 h3
  obtain rfl | rfl | rfl : d = 1 ∨ d = 2 ∨ d = 3 := by omega
  · rfl
  · rfl
  · rfl
theorem numC {W0 W : World} {s : SM} {g k : Nat} {c : CS} (h : At W0 s W g c k) (ok : SMok s) (h1 : 1 ≤ c.d) (h3 : c.d ≤ 3) (j : Nat) (hj : j < c.n) :
    Calls Tryz.prog 93 #[.pointer (some ⟨g, 0, none⟩), .int .i64 j] W fun e w' => e = .returned (.int .i64 (s.num k c.lev j : Nat)) ∧ Low W.heap.size W w' := by
  obtain ⟨pv, pr, cv, cr, pp, cc, k0⟩ := h.S
  have hn := h.n
  have hj2 : j < (s.ls k).length := by omega
  have hne : s.ls k ≠ [] := by intro e; rw [e] at hj2; exact absurd hj2 (by simp)
  obtain ⟨gl, ol, el, kl⟩ := (h.l.below h.b) hne
  have hr := ok.l k _ (List.getElem_mem hj2)
  have hne2 : s.rs ≠ [] := by intro e; rw [e] at hr; exact absurd hr (by simp)
  obtain ⟨gr, fr, er, kr⟩ := (k0.r.below h.b) hne2
  have S' := (h.b.block _ (lt_of_heap k0.h)).trans k0.h
  have B := h.B
  rw [s.num_eq k c.lev j hj2 hr]
  refine numAt g c.sp gl ol c.n c.cl gr fr s.rs.length cr (c.d - 1) c.lev j ((s.ls k)[j]) _ W (by omega) (CS.lev_lt h) hj hr (B.cell 0 _ rfl) ?_ ?_ (B.cell _ _ (c.lev_cell h1 h3)) ?_ (kl j hj2) ?_
  · rw [← el]; exact B.cell 1 _ rfl
  · rw [show c.d - 1 + 1 = c.d by omega]; exact B.cell 11 _ rfl
  · rw [← er]; exact cell_of S' 1 rfl
  · have hv := CS.lev_lt h
    have R := kr _ hr
    generalize c.lev = v at hv ⊢
    match v, hv with
    | 0, _ => exact R 0 _ rfl
    | 1, _ => exact R 1 _ rfl
    | 2, _ => exact R 2 _ rfl
theorem hereC {W0 W : World} {s : SM} {g k : Nat} {c : CS} (h : At W0 s W g c k) (h1 : 1 ≤ c.d) (h3 : c.d ≤ 3) :
    Calls Tryz.prog 65 #[.pointer (some ⟨g, 0, none⟩)] W fun e w' => e = .returned (.agg #[.int .i64 c.pos, .int .i64 c.fin]) ∧ Low W.heap.size W w' := by
  have B := h.B
  obtain ⟨sp, pl, n, cl, l0, l1, l2, a0, e0, a1, e1, a2, e2, d⟩ := c
  simp only at h1 h3
  obtain rfl | rfl | rfl : d = 1 ∨ d = 2 ∨ d = 3 := by omega
  · exact here1 g a0 e0 W (B.cell 11 _ rfl) (range2 (B.cell 5 _ rfl) (B.cell 6 _ rfl))
  · exact here2 g a1 e1 W (B.cell 11 _ rfl) (range2 (B.cell 7 _ rfl) (B.cell 8 _ rfl))
  · exact here3 g a2 e2 W (B.cell 11 _ rfl) (range2 (B.cell 9 _ rfl) (B.cell 10 _ rfl))
set_option maxHeartbeats 1600000 in
set_option maxRecDepth 20000 in
theorem atValueC {W0 W : World} {s : SM} {g k : Nat} {c : CS} (h : At W0 s W g c k) (h3 : c.d ≤ 3) :
    Calls Tryz.prog 62 #[.pointer (some ⟨g, 0, none⟩)] W fun e w' => e = .returned (.bool (decide (1 ≤ c.d) && decide (c.pos < c.fin))) ∧ Low W.heap.size W w' := by
  have c11 := h.B.c11
  by_cases h1 : 1 ≤ c.d
  · have hh := hereC h h1 h3
    have he := fun w => emptyAt c.pos c.fin w
    have hr : (decide (1 ≤ c.d) && decide (c.pos < c.fin)) = !decide (c.fin ≤ c.pos) := by
      rw [decide_eq_true h1, Bool.true_and]
      by_cases q : c.pos < c.fin
      · rw [decide_eq_true q, decide_eq_false (by omega)]; rfl
      · rw [decide_eq_false q, decide_eq_true (by omega)]; rfl
    rw [hr]
    have hd : (0 : Int) < (c.d : Int) := by omega
    clear hr h
    generalize decide (c.fin ≤ c.pos) = z at *
    generalize (c.pos : Nat) = a at *
    generalize (c.fin : Nat) = f at *
    go_enter Tryz.func62, Tryz.ntmps62
    go_wp2_with (first
      | (go_at_call 65; (with_reducible refine hh.mono ?_); rintro e w3 ⟨rfl, hb3⟩)
      | (go_at_call 56; (with_reducible refine (he _).mono ?_); rintro e w4 ⟨rfl, hb4⟩; have hb5 := low_any hb3 hb4 hb3.size))
    go_ret
    exact ⟨rfl, hb5⟩
  · have hz : c.d = 0 := by omega
    have c11 : W.cell? ⟨g, 11, none⟩ = some (.int .i64 0) := by have := h.B.c11; rw [hz] at this; exact this
    rw [decide_eq_false h1, Bool.false_and]
    clear h
    go_enter Tryz.func62, Tryz.ntmps62
    go_wp2_with fail
    go_ret
    exact ⟨rfl, Low.refl _ _⟩
theorem field90 (a f : Int) (w : World) : (Instr.field 90 (.agg #[.int .i64 a, .int .i64 f]) 0).run Tryz.prog w = .ok (.int .i64 a) w := by
  unfold Instr.field
  rw [Sem.run_bind, run_underlying Tryz.underlying90 w]
  simp [part, asAgg, Sem.run_bind, isAgg, sizeOf]
set_option maxHeartbeats 1600000 in
set_option maxRecDepth 20000 in
theorem holdsC {W0 W : World} {s : SM} {g k : Nat} {c : CS} (h : At W0 s W g c k) (ok : SMok s) (h1 : 1 ≤ c.d) (h3 : c.d ≤ 3) (j : Nat) (hj : j < c.n) (hp : c.pos < c.n) :
    Calls Tryz.prog 59 #[.pointer (some ⟨g, 0, none⟩), .int .i64 j] W fun e w' => e = .returned (.bool (s.num k c.lev j == s.num k c.lev c.pos)) ∧ Low W.heap.size W w' := by
  have hc1 := fun W' (b : Low W.heap.size W W') => numC (h.low b) ok h1 h3 j hj
  have hc2 := fun W' (b : Low W.heap.size W W') => numC (h.low b) ok h1 h3 c.pos hp
  have hc3 := fun W' (b : Low W.heap.size W W') => hereC (h.low b) h1 h3
  have b0 := Low.refl W.heap.size W
  have hr : (s.num k c.lev j == s.num k c.lev c.pos) = ((s.num k c.lev j : Int) == (s.num k c.lev c.pos : Int)) := by
    rw [Bool.eq_iff_iff]; simp only [beq_iff_eq]; omega
  rw [hr]
  clear hr h
  generalize ((s.num k c.lev j : Nat) : Int) = x at *
  generalize ((s.num k c.lev c.pos : Nat) : Int) = y at *
  generalize (c.pos : Nat) = a at *
  generalize (c.fin : Nat) = f at *
  have hfl := fun w => field90 a f w
  go_enter Tryz.func59, Tryz.ntmps59
  go_wp2_with (first
    | (go_at_call 93; (with_reducible refine (hc1 _ b0).mono ?_); rintro e w3 ⟨rfl, hb3⟩; replace b0 := low_any b0 hb3 b0.size; clear hb3; clear hc1)
    | (go_at_call 93; (with_reducible refine (hc2 _ b0).mono ?_); rintro e w3 ⟨rfl, hb3⟩; replace b0 := low_any b0 hb3 b0.size; clear hb3)
    | (go_at_call 65; (with_reducible refine (hc3 _ b0).mono ?_); rintro e w3 ⟨rfl, hb3⟩; replace b0 := low_any b0 hb3 b0.size; clear hb3))
  go_ret
  exact ⟨rfl, b0⟩
end Go.Proofs.YtanbgdhmfjgihaaGreatDoor

/- The value that a place shows. -/
namespace Go.Proofs.YtanbgdhmfjgihaaGreatDoor
open Go.RowKit

theorem Six.low {w w' : World} {g : Nat} {k : Int} {b : Bool} {n : Int} {t x : ByteArray} {p : Option Addr} {len cap : Nat} (h : Six w g k b n t x p len cap) (c : Low w.heap.size w w') : Six w' g k b n t x p len cap := h.below c.is
set_option maxHeartbeats 3200000 in
set_option maxRecDepth 20000 in
theorem valueRaw (g sp gv ov nv cv j m : Nat) (v : V6) (w : World) (hm : m < nv)
    (k0 : w.cell? ⟨g, 0, none⟩ = some (.pointer (some ⟨sp, 0, none⟩))) (k1 : w.cell? ⟨sp, 0, none⟩ = some (.slice (some ⟨gv, ov, none⟩) nv cv)) (kr : w.rangeAt gv (ov + m * 6) [.int .i64 v.k, .bool v.b, .int .i64 v.n, .string v.t, .string v.x, .slice v.p v.len v.cap])
    (hn : ∀ W, Low w.heap.size w W → Calls Tryz.prog 93 #[.pointer (some ⟨g, 0, none⟩), .int .i64 j] W fun e w' => e = .returned (.int .i64 m) ∧ Low W.heap.size W w') :
    Calls Tryz.prog 64 #[.pointer (some ⟨g, 0, none⟩), .int .i64 j] w fun e w' => e = .returned (.agg #[.int .i64 v.k, .bool v.b, .int .i64 v.n, .string v.t, .string v.x, .slice v.p v.len v.cap]) ∧ Low w.heap.size w w' := by
  obtain ⟨W1, hW1⟩ : ∃ W1, W1 = w.alloc (.cells #[.int .i64 0, .bool false, .int .i64 0, .string ⟨#[]⟩, .string ⟨#[]⟩, .slice none 0 0] 39) := ⟨_, rfl⟩
  have hS : Six W1.drew w.heap.size 0 false 0 ⟨#[]⟩ ⟨#[]⟩ none 0 0 := by rw [hW1]; exact six_new _ rfl
  have b0 : Low w.heap.size w W1 := by rw [hW1]; exact low1 _ _
  have K0 : Hid (∀ W, Low w.heap.size w W → W.cell? ⟨g, 0, none⟩ = some (.pointer (some ⟨sp, 0, none⟩))) := Lib.hid fun W h => (h.cell (p := ⟨g, 0, none⟩) (World.block_lt_of_cell? w _ k0)).trans k0
  have K1 : Hid (∀ W, Low w.heap.size w W → W.cell? ⟨sp, 0, none⟩ = some (.slice (some ⟨gv, ov, none⟩) nv cv)) := Lib.hid fun W h => (h.cell (p := ⟨sp, 0, none⟩) (World.block_lt_of_cell? w _ k1)).trans k1
  have KR : Hid (∀ W, Low w.heap.size w W → W.rangeAt gv (ov + m * 6) [.int .i64 v.k, .bool v.b, .int .i64 v.n, .string v.t, .string v.x, .slice v.p v.len v.cap]) := Lib.hid fun W h => range_below kr h.is
  have HN := Lib.hid hn
  have hmi : (m : Int) < nv := by omega
  have HW := Lib.hid hW1
  clear hW1 k0 k1 kr hn
  go_enter Tryz.func64, Tryz.ntmps64
  go_upto_region 1 with fail
  rw [← HW.out]
  refine wp_region_held_drew (S := fun W => Low w.heap.size w W) (by kernel_rfl) b0.drew (fun hHeld => ?_)
  refine wpAnyH_take (i := 0) (v := .pointer (some ⟨g, 0, none⟩)) rfl (by kernel_rfl) (by kernel_rfl) (by kernel_rfl) (fun _ _ _ h => h) (Or.inl ⟨by rfl, fun W _ => by go_simp⟩) hHeld ?_
  try simp only [putS]
  refine wpAnyH_take (i := 1) (v := .pointer (some ⟨g, 0, none⟩)) rfl (by kernel_rfl) (by kernel_rfl) (by kernel_rfl) (fun _ _ _ h => h) (Or.inl ⟨by rfl, fun W _ => by go_simp⟩) hHeld ?_
  try simp only [putS]
  refine wpAnyH_take (i := 2) (v := .pointer (some ⟨g, 0, none⟩)) rfl (by kernel_rfl) (by kernel_rfl) (by kernel_rfl) (fun _ _ _ h => h) (Or.inl ⟨by rfl, fun W _ => by go_simp⟩) hHeld ?_
  try simp only [putS]
  refine wpAnyH_take (i := 3) (v := .pointer (some ⟨sp, 0, none⟩)) rfl (by kernel_rfl) (by kernel_rfl) (by kernel_rfl) (fun _ _ _ h => h) (Or.inl ⟨by rfl, fun W h => by have c0 := K0.out W h; go_simp⟩) hHeld ?_
  try simp only [putS]
  refine wpAnyH_take (i := 4) (v := .pointer (some ⟨sp, 0, none⟩)) rfl (by kernel_rfl) (by kernel_rfl) (by kernel_rfl) (fun _ _ _ h => h) (Or.inl ⟨by rfl, fun W _ => by go_simp⟩) hHeld ?_
  try simp only [putS]
  refine wpAnyH_take (i := 5) (v := .pointer (some ⟨sp, 0, none⟩)) rfl (by kernel_rfl) (by kernel_rfl) (by kernel_rfl) (fun _ _ _ h => h) (Or.inl ⟨by rfl, fun W _ => by go_simp⟩) hHeld ?_
  try simp only [putS]
  refine wpAnyH_take (i := 6) (v := .slice (some ⟨gv, ov, none⟩) nv cv) rfl (by kernel_rfl) (by kernel_rfl) (by kernel_rfl) (fun _ _ _ h => h) (Or.inl ⟨by rfl, fun W h => by have c0 := K1.out W h; go_simp⟩) hHeld ?_
  try simp only [putS]
  refine wpAnyH_take (i := 7) (v := .pointer (some ⟨g, 0, none⟩)) rfl (by kernel_rfl) (by kernel_rfl) (by kernel_rfl) (fun _ _ _ h => h) (Or.inl ⟨by rfl, fun W _ => by go_simp⟩) hHeld ?_
  try simp only [putS]
  refine wpAnyH_take (i := 8) (v := .int .i64 j) rfl (by kernel_rfl) (by kernel_rfl) (by kernel_rfl) (fun _ _ _ h => h) (Or.inl ⟨by rfl, fun W _ => by go_simp⟩) hHeld ?_
  try simp only [putS]
  refine wpAnyH_ready (rs := [9]) (by kernel_rfl) (by simp) ?_
  refine AllReadyH.cons rfl (fun K hK => ?_) AllReadyH.nil
  rw [if_pos (by rfl)]
  go_simp
  refine (HN.out _ hHeld).mono ?_
  rintro e0 w3 ⟨rfl, hb3⟩
  have hH2 := low_any hHeld hb3 hHeld.size
  have hS3 := Six.low hS hb3
  clear hb3
  refine hK.out _ _ hH2 (fun hH2 => ?_)
  clear hK K
  try simp only [putS]
  refine wpAnyH_take (i := 10) (v := .pointer (some ⟨gv, ov + m * 6, none⟩)) rfl (by kernel_rfl) (by kernel_rfl) (by kernel_rfl) (fun _ _ _ h => h) (Or.inl ⟨by rfl, fun W _ => by go_simp⟩) hH2 ?_
  try simp only [putS]
  refine wpAnyH_take (i := 11) rfl (by kernel_rfl) (by kernel_rfl) (by kernel_rfl) (fun _ _ _ h => h) (yieldsIf_load_mid (by rfl) 39 (.tmp 15) rfl (gv) (ov + m * 6) rfl _ _ (fun w h => KR.out w h) Tryz.underlying39 rfl info28) hH2 ?_
  try simp only [putS]
  refine wpAnyH_ready (rs := [12]) (by kernel_rfl) (by simp) ?_
  refine AllReadyH.cons rfl (fun K hK => ?_) AllReadyH.nil
  rw [if_pos (by rfl)]
  obtain ⟨hH3, u4⟩ : Low w.heap.size w w3 ∧ Six w3 w.heap.size 0 false 0 ⟨#[]⟩ ⟨#[]⟩ none 0 0 := ⟨hH2, hS3⟩
  have b1 := low_only hH3 (Only.setRow (b := w.heap.size) w3 #[.int .i64 v.k, .bool v.b, .int .i64 v.n, .string v.t, .string v.x, .slice v.p v.len v.cap]) (Nat.le_refl _) hH3.size
  refine wp_store_row 39 (.tmp 4) (.tmp 16) rfl w.heap.size #[.int .i64 v.k, .bool v.b, .int .i64 v.n, .string v.t, .string v.x, .slice v.p v.len v.cap] rfl rfl 39 _ u4 info28 rfl (by simp [Value.oneCell']) ?_
  refine hK.out _ _ b1 (fun _ => ?_)
  have u5 := heap_setRow (w := w3) (g := w.heap.size) (c' := #[.int .i64 v.k, .bool v.b, .int .i64 v.n, .string v.t, .string v.x, .slice v.p v.len v.cap]) u4
  generalize w3.setRow w.heap.size #[.int .i64 v.k, .bool v.b, .int .i64 v.n, .string v.t, .string v.x, .slice v.p v.len v.cap] = w5 at *
  clear hK K
  refine wpAnyH_done (by kernel_rfl) ?_ _
  go_wp2_with fail
  exact bodyPost_ret (v := .agg #[.int .i64 v.k, .bool v.b, .int .i64 v.n, .string v.t, .string v.x, .slice v.p v.len v.cap]) (results_cell_row (p := 4) (ty := 39) Tryz.results64 _ _ w.heap.size 39 _ (0, 0) _ rfl u5 Tryz.underlying39 rfl (by exact info28)) rfl ⟨rfl, b1⟩
theorem valueC {W0 W : World} {s : SM} {g k : Nat} {c : CS} (h : At W0 s W g c k) (ok : SMok s) (h1 : 1 ≤ c.d) (h3 : c.d ≤ 3) (j : Nat) (hj : j < c.n) :
    ∃ v : V6, ∃ q, Is W v (s.vs[s.num k c.lev j]'(s.num_lt ok k c.lev j (by have := h.n; omega))) q ∧
      ∀ W', Low W.heap.size W W' → Calls Tryz.prog 64 #[.pointer (some ⟨g, 0, none⟩), .int .i64 j] W' fun e w' => e = .returned (.agg #[.int .i64 v.k, .bool v.b, .int .i64 v.n, .string v.t, .string v.x, .slice v.p v.len v.cap]) ∧ Low W'.heap.size W' w' := by
  have hm := s.num_lt ok k c.lev j (by have := h.n; omega)
  obtain ⟨pv, pr, cv, cr, pp, cc, k0⟩ := h.S
  have hne : s.vs ≠ [] := by intro e; rw [e] at hm; exact absurd hm (by simp)
  obtain ⟨gv, ov, ev, kv⟩ := (k0.v.below h.b) hne
  have h0 := Holds.at_ s.vs ov kv (s.num k c.lev j) hm
  obtain ⟨v, q, i1, i2⟩ := isOf h0
  refine ⟨v, q, i1, fun W' b => ?_⟩
  have h' := h.low b
  have S' := (h'.b.block _ (lt_of_heap k0.h)).trans k0.h
  refine valueRaw g c.sp gv ov s.vs.length cv j (s.num k c.lev j) v W' hm (h'.B.cell 0 _ rfl) (by rw [← ev]; exact cell_of S' 0 rfl) (range_below i2 b.is) (fun W2 b2 => numC (h'.low b2) ok h1 h3 j hj)
end Go.Proofs.YtanbgdhmfjgihaaGreatDoor

/- A cursor goes on: pass. -/
namespace Go.Proofs.YtanbgdhmfjgihaaGreatDoor
open Go.RowKit

def CS.go (c : CS) (x : Nat) : CS := match c.d with | 1 => { c with a0 := x } | 2 => { c with a1 := x } | _ => { c with a2 := x }
def CS.up (c : CS) : CS := { c with d := c.d - 1 }
def CS.down (c : CS) (a e : Nat) : CS := match c.d with | 0 => { c with a0 := a, e0 := e, d := 1 } | 1 => { c with a1 := a, e1 := e, d := 2 } | _ => { c with a2 := a, e2 := e, d := 3 }
/-- Cursors over the same list. -/
structure SameList (c c' : CS) : Prop where
  sp : c'.sp = c.sp
  pl : c'.pl = c.pl
  n : c'.n = c.n
  l0 : c'.l0 = c.l0
  l1 : c'.l1 = c.l1
  l2 : c'.l2 = c.l2
theorem CS.go_alike (c : CS) (x : Nat) : SameList c (c.go x) := by unfold CS.go; split <;> exact ⟨rfl, rfl, rfl, rfl, rfl, rfl⟩
theorem CS.up_alike (c : CS) : SameList c c.up := ⟨rfl, rfl, rfl, rfl, rfl, rfl⟩
theorem CS.down_alike (c : CS) (a e : Nat) : SameList c (c.down a e) := by unfold CS.down; split <;> exact ⟨rfl, rfl, rfl, rfl, rfl, rfl⟩
theorem CS.go_d (c : CS) (x : Nat) : (c.go x).d = c.d := by unfold CS.go; split <;> rfl
theorem CS.go_pos (c : CS) (x : Nat) (h1 : 1 ≤ c.d) (h3 : c.d ≤ 3) : (c.go x).pos = x := by
  obtain ⟨sp, pl, n, cl, l0, l1, l2, a0, e0, a1, e1, a2, e2, d⟩ := c
  simp only at h1 h3
  obtain rfl | rfl | rfl : d = 1 ∨ d = 2 ∨ d = 3 := by omega
  · rfl
  · rfl
  · rfl
theorem CS.go_fin (c : CS) (x : Nat) (h1 : 1 ≤ c.d) (h3 : c.d ≤ 3) : (c.go x).fin = c.fin := by
  obtain ⟨sp, pl, n, cl, l0, l1, l2, a0, e0, a1, e1, a2, e2, d⟩ := c
  simp only at h1 h3
  obtain rfl | rfl | rfl : d = 1 ∨ d = 2 ∨ d = 3 := by omega
  · rfl
  · rfl
  · rfl
theorem CS.go_lev (c : CS) (x : Nat) (h1 : 1 ≤ c.d) (h3 : c.d ≤ 3) : (c.go x).lev = c.lev := by
  obtain ⟨sp, pl, n, cl, l0, l1, l2, a0, e0, a1, e1, a2, e2, d⟩ := c
  simp only at h1 h3
  obtain rfl | rfl | rfl : d = 1 ∨ d = 2 ∨ d = 3 := by omega
  · rfl
  · rfl
  · rfl
theorem At.only {W0 W W' : World} {s : SM} {g k : Nat} {c c' : CS} (h : At W0 s W g c k) (a : SameList c c') (b : Only g W W') (B : Cur W' g c') : At W0 s W' g c' k where
  S := by rw [a.sp]; exact h.S
  n := by rw [a.n]; exact h.n
  l := by rw [a.pl]; exact h.l
  h0 := by rw [a.l0]; exact h.h0
  h1 := by rw [a.l1]; exact h.h1
  h2 := by rw [a.l2]; exact h.h2
  hg := h.hg
  b := below_only h.b b h.hg h.b.size
  B := B
theorem only_low {g : Nat} {x y z : World} (h : Only g x y) (k : Low y.heap.size y z) : Only g x z := h.trans (Only.of_low k)

/-- Up. -/
theorem upC {W : World} {g : Nat} {c : CS} (B : Cur W g c) (h3 : c.d ≤ 3) :
    Calls Tryz.prog 24 #[.pointer (some ⟨g, 0, none⟩)] W fun e w' => e = .returned (.bool (decide (1 ≤ c.d))) ∧ Only g W w' ∧ Cur w' g c.up := by
  by_cases h1 : 1 ≤ c.d
  · have c11 := B.c11
    have f11 : W.frozen? ⟨g, 11, none⟩ = false := free_of B _
    have e1 : ((c.d : Int) == 0) = false := by simp; omega
    have e2 : IntKind.i64.wrap ((c.d : Int) - 1) = (c.d : Int) - 1 := IntWalk.i64_in _ (by omega)
    rw [decide_eq_true h1]
    have fin : Only g W (W.setCell ⟨g, 11, none⟩ (.int .i64 ((c.d : Int) - 1))) ∧ Cur (W.setCell ⟨g, 11, none⟩ (.int .i64 ((c.d : Int) - 1))) g c.up := by
      refine ⟨(Only.refl g W).setCell 11 none _, ?_⟩
      have := heap_set B 11 (.int .i64 ((c.d : Int) - 1))
      rw [show (c.d : Int) - 1 = ((c.d - 1 : Nat) : Int) by omega] at this ⊢
      exact this
    have FIN := Lib.hid fin
    clear fin B
    generalize (c.d : Int) = d at *
    go_enter Tryz.func24, Tryz.ntmps24
    go_wp2_with fail
    go_ret
    exact ⟨rfl, FIN.out⟩
  · have hz : c.d = 0 := by omega
    have c11 : W.cell? ⟨g, 11, none⟩ = some (.int .i64 0) := by have := B.c11; rw [hz] at this; exact this
    rw [decide_eq_false h1]
    have fin : Cur W g c.up := by
      have e : c.up = c := by
        obtain ⟨sp, pl, n, cl, l0, l1, l2, a0, e0, a1, e1, a2, e2, d⟩ := c
        simp only at hz
        subst hz
        rfl
      rw [e]; exact B
    have FIN := Lib.hid fin
    clear fin B
    go_enter Tryz.func24, Tryz.ntmps24
    go_wp2_with fail
    go_ret
    exact ⟨rfl, Only.refl _ _, FIN.out⟩
/-- Depth. -/
theorem depthC {W : World} {g : Nat} {c : CS} (B : Cur W g c) :
    Calls Tryz.prog 33 #[.pointer (some ⟨g, 0, none⟩)] W fun e w' => e = .returned (.int .i64 c.d) ∧ w' = W := by
  have c11 := B.c11
  clear B
  go_enter Tryz.func33, Tryz.ntmps33
  go_wp2_with fail
  go_ret
  exact ⟨rfl, rfl⟩

/-- Above the tree, or at an end: pass stays. -/
theorem passNo {W : World} {g : Nat} {F : Value} (h : Calls Tryz.prog 62 #[.pointer (some ⟨g, 0, none⟩)] W fun e w' => e = .returned (.bool false) ∧ Low W.heap.size W w') :
    Calls Tryz.prog 58 #[.pointer (some ⟨g, 0, none⟩), F] W fun e w' => e = .returned (.bool false) ∧ Low W.heap.size W w' := by
  go_enter Tryz.func58, Tryz.ntmps58
  go_wp2_with (go_at_call 62; (with_reducible refine h.mono ?_); rintro e w3 ⟨rfl, hb3⟩)
  go_ret
  exact ⟨rfl, hb3⟩

set_option maxHeartbeats 3200000 in
set_option maxRecDepth 20000 in
theorem passGo1 (g : Nat) (F : Value) (a e r : Nat) (z : Bool) (cs cs' : Array Value) (w : World) (B : w.heap[g]? = some (.cells cs 93)) (k11 : cs[11]? = some (.int .i64 1)) (ka : cs[5]? = some (.int .i64 a)) (kc : cs.setIfInBounds 5 (.int .i64 r) = cs') (k12 : cs'[11]? = some (.int .i64 1))
    (h1 : Calls Tryz.prog 62 #[.pointer (some ⟨g, 0, none⟩)] w fun e w' => e = .returned (.bool true) ∧ Low w.heap.size w w')
    (h2 : ∀ W, Low w.heap.size w W → Calls Tryz.prog 65 #[.pointer (some ⟨g, 0, none⟩)] W fun e' w' => e' = .returned (.agg #[.int .i64 a, .int .i64 e]) ∧ Low W.heap.size W w')
    (h3 : ∀ W, Low w.heap.size w W → Calls Tryz.prog 91 #[.agg #[.int .i64 a, .int .i64 e], F] W fun e' w' => e' = .returned (.int .i64 r) ∧ Low W.heap.size W w')
    (h4 : ∀ W, Only g w W → W.heap[g]? = some (.cells cs' 93) → Calls Tryz.prog 62 #[.pointer (some ⟨g, 0, none⟩)] W fun e' w' => e' = .returned (.bool z) ∧ Low W.heap.size W w') :
    Calls Tryz.prog 58 #[.pointer (some ⟨g, 0, none⟩), F] w fun e w' => e = .returned (.bool z) ∧ Only g w w' ∧ w'.heap[g]? = some (.cells cs' 93) := by
  have H2 := Lib.hid h2
  have H3 := Lib.hid h3
  have H4 := Lib.hid h4
  have HC := Lib.hid kc
  have HK := Lib.hid k11
  have HK2 := Lib.hid ka
  have HK3 := Lib.hid k12
  clear h2 h3 h4 kc k11 ka k12
  go_enter Tryz.func58, Tryz.ntmps58
  go_upto_region 3 with (go_at_call 62; (with_reducible refine h1.mono ?_); rintro e0 w2 ⟨rfl, l1⟩)
  replace l1 := l1.drew
  have B1 := (l1.block _ (lt_of_heap B)).trans B
  have q11 : w2.drew.cell? ⟨g, 11, none⟩ = some (.int .i64 1) := cell_of B1 11 HK.out
  refine wp_region_held_drew (S := fun W => W.cell? ⟨g, 11, none⟩ = some (.int .i64 1)) (by kernel_rfl) q11 (fun hHeld => ?_)
  refine wpAnyH_take (i := 0) (v := .pointer (some ⟨g, 0, none⟩)) rfl (by kernel_rfl) (by kernel_rfl) (by kernel_rfl) (fun _ _ _ h => h) (Or.inl ⟨by rfl, fun W _ => by go_simp⟩) hHeld ?_
  try simp only [putS]
  refine wpAnyH_take (i := 1) (v := .pointer (some ⟨g, 0, none⟩)) rfl (by kernel_rfl) (by kernel_rfl) (by kernel_rfl) (fun _ _ _ h => h) (Or.inl ⟨by rfl, fun W _ => by go_simp⟩) hHeld ?_
  try simp only [putS]
  refine wpAnyH_take (i := 2) (v := .pointer (some ⟨g, 0, none⟩)) rfl (by kernel_rfl) (by kernel_rfl) (by kernel_rfl) (fun _ _ _ h => h) (Or.inl ⟨by rfl, fun W _ => by go_simp⟩) hHeld ?_
  try simp only [putS]
  refine wpAnyH_take (i := 3) (v := .pointer (some ⟨g, 11, none⟩)) rfl (by kernel_rfl) (by kernel_rfl) (by kernel_rfl) (fun _ _ _ h => h) (Or.inl ⟨by rfl, fun W _ => by go_simp⟩) hHeld ?_
  try simp only [putS]
  refine wpAnyH_take (i := 4) (v := .int .i64 1) rfl (by kernel_rfl) (by kernel_rfl) (by kernel_rfl) (fun _ _ _ h => h) (Or.inl ⟨by rfl, fun W h => by have c0 := h; go_simp⟩) hHeld ?_
  try simp only [putS]
  refine wpAnyH_take (i := 5) (v := .int .i64 0) rfl (by kernel_rfl) (by kernel_rfl) (by kernel_rfl) (fun _ _ _ h => h) (Or.inl ⟨by rfl, fun W _ => by go_simp; try rfl⟩) hHeld ?_
  try simp only [putS]
  refine wpAnyH_take (i := 6) (v := .pointer (some ⟨g, 0, none⟩)) rfl (by kernel_rfl) (by kernel_rfl) (by kernel_rfl) (fun _ _ _ h => h) (Or.inl ⟨by rfl, fun W _ => by go_simp⟩) hHeld ?_
  try simp only [putS]
  refine wpAnyH_take (i := 8) (v := F) rfl (by kernel_rfl) (by kernel_rfl) (by kernel_rfl) (fun _ _ _ h => h) (Or.inl ⟨by rfl, fun W _ => by go_simp⟩) hHeld ?_
  try simp only [putS]
  refine wpAnyH_take (i := 10) (v := .pointer (some ⟨g, 0, none⟩)) rfl (by kernel_rfl) (by kernel_rfl) (by kernel_rfl) (fun _ _ _ h => h) (Or.inl ⟨by rfl, fun W _ => by go_simp⟩) hHeld ?_
  try simp only [putS]
  refine wpAnyH_take (i := 11) (v := .pointer (some ⟨g, 5, none⟩)) rfl (by kernel_rfl) (by kernel_rfl) (by kernel_rfl) (fun _ _ _ h => h) (Or.inl ⟨by rfl, fun W _ => by go_simp⟩) hHeld ?_
  try simp only [putS]
  refine wpAnyH_ready (rs := [7]) (by kernel_rfl) (by simp) ?_
  refine AllReadyH.cons rfl (fun K hK => ?_) AllReadyH.nil
  rw [if_pos (by rfl)]
  go_simp
  refine (H2.out _ l1).mono ?_
  rintro e0 w3 ⟨rfl, hb3⟩
  have B2 := (hb3.block _ (lt_of_heap B1)).trans B1
  have l2 := low_any l1 hb3 l1.size
  have q11 : w3.cell? ⟨g, 11, none⟩ = some (.int .i64 1) := cell_of B2 11 (HK.out)
  clear hb3
  refine hK.out _ _ q11 (fun hHeld2 => ?_)
  clear hK K
  try simp only [putS]
  refine wpAnyH_ready (rs := [9]) (by kernel_rfl) (by simp) ?_
  refine AllReadyH.cons rfl (fun K hK => ?_) AllReadyH.nil
  rw [if_pos (by rfl)]
  go_simp
  refine (H3.out _ l2).mono ?_
  rintro e0 w3 ⟨rfl, hb3⟩
  have B3 := (hb3.block _ (lt_of_heap B2)).trans B2
  have l3 := low_any l2 hb3 l2.size
  have q11 : w3.cell? ⟨g, 11, none⟩ = some (.int .i64 1) := cell_of B3 11 (HK.out)
  clear hb3
  refine hK.out _ _ q11 (fun hHeld3 => ?_)
  clear hK K
  try simp only [putS]
  refine wpAnyH_take (i := 12) (v := .pointer (some ⟨g, 5, none⟩)) rfl (by kernel_rfl) (by kernel_rfl) (by kernel_rfl) (fun _ _ _ h => h) (Or.inl ⟨by rfl, fun W _ => by go_simp⟩) hHeld3 ?_
  try simp only [putS]
  refine wpAnyH_take (i := 13) (v := .pointer (some ⟨g, 5, none⟩)) rfl (by kernel_rfl) (by kernel_rfl) (by kernel_rfl) (fun _ _ _ h => h) (Or.inl ⟨by rfl, fun W _ => by go_simp⟩) hHeld3 ?_
  try simp only [putS]
  refine wpAnyH_ready (rs := [14]) (by kernel_rfl) (by simp) ?_
  refine AllReadyH.cons rfl (fun K hK => ?_) AllReadyH.nil
  have c0 := cell_of B3 5 HK2.out
  have f0 : w3.frozen? ⟨g, 5, none⟩ = false := free_of B3 _
  go_simp
  have hon : Only g w (w3.setCell ⟨g, 5, none⟩ (.int .i64 r)) := (Only.of_low (b := g) l3).setCell 5 none _
  have hcur := heap_set B3 5 (.int .i64 r)
  rw [HC.out] at hcur
  generalize w3.setCell ⟨g, 5, none⟩ (.int .i64 r) = w5 at *
  have q12 : w5.cell? ⟨g, 11, none⟩ = some (.int .i64 1) := cell_of hcur 11 HK3.out
  refine hK.out _ _ q12 (fun _ => ?_)
  clear hK K
  refine wpAnyH_done (by kernel_rfl) ?_ _
  go_wp2_with (go_at_call 62; (with_reducible refine (H4.out _ hon hcur).mono ?_); rintro e0 w6 ⟨rfl, hb6⟩)
  go_ret
  exact ⟨rfl, only_low hon hb6, (hb6.block _ (lt_of_heap hcur)).trans hcur⟩

set_option maxHeartbeats 3200000 in
set_option maxRecDepth 20000 in
theorem passGo2 (g : Nat) (F : Value) (a e r : Nat) (z : Bool) (cs cs' : Array Value) (w : World) (B : w.heap[g]? = some (.cells cs 93)) (k11 : cs[11]? = some (.int .i64 2)) (ka : cs[7]? = some (.int .i64 a)) (kc : cs.setIfInBounds 7 (.int .i64 r) = cs') (k12 : cs'[11]? = some (.int .i64 2))
    (h1 : Calls Tryz.prog 62 #[.pointer (some ⟨g, 0, none⟩)] w fun e w' => e = .returned (.bool true) ∧ Low w.heap.size w w')
    (h2 : ∀ W, Low w.heap.size w W → Calls Tryz.prog 65 #[.pointer (some ⟨g, 0, none⟩)] W fun e' w' => e' = .returned (.agg #[.int .i64 a, .int .i64 e]) ∧ Low W.heap.size W w')
    (h3 : ∀ W, Low w.heap.size w W → Calls Tryz.prog 91 #[.agg #[.int .i64 a, .int .i64 e], F] W fun e' w' => e' = .returned (.int .i64 r) ∧ Low W.heap.size W w')
    (h4 : ∀ W, Only g w W → W.heap[g]? = some (.cells cs' 93) → Calls Tryz.prog 62 #[.pointer (some ⟨g, 0, none⟩)] W fun e' w' => e' = .returned (.bool z) ∧ Low W.heap.size W w') :
    Calls Tryz.prog 58 #[.pointer (some ⟨g, 0, none⟩), F] w fun e w' => e = .returned (.bool z) ∧ Only g w w' ∧ w'.heap[g]? = some (.cells cs' 93) := by
  have H2 := Lib.hid h2
  have H3 := Lib.hid h3
  have H4 := Lib.hid h4
  have HC := Lib.hid kc
  have HK := Lib.hid k11
  have HK2 := Lib.hid ka
  have HK3 := Lib.hid k12
  clear h2 h3 h4 kc k11 ka k12
  go_enter Tryz.func58, Tryz.ntmps58
  go_upto_region 3 with (go_at_call 62; (with_reducible refine h1.mono ?_); rintro e0 w2 ⟨rfl, l1⟩)
  replace l1 := l1.drew
  have B1 := (l1.block _ (lt_of_heap B)).trans B
  have q11 : w2.drew.cell? ⟨g, 11, none⟩ = some (.int .i64 2) := cell_of B1 11 HK.out
  refine wp_region_held_drew (S := fun W => W.cell? ⟨g, 11, none⟩ = some (.int .i64 2)) (by kernel_rfl) q11 (fun hHeld => ?_)
  refine wpAnyH_take (i := 0) (v := .pointer (some ⟨g, 0, none⟩)) rfl (by kernel_rfl) (by kernel_rfl) (by kernel_rfl) (fun _ _ _ h => h) (Or.inl ⟨by rfl, fun W _ => by go_simp⟩) hHeld ?_
  try simp only [putS]
  refine wpAnyH_take (i := 1) (v := .pointer (some ⟨g, 0, none⟩)) rfl (by kernel_rfl) (by kernel_rfl) (by kernel_rfl) (fun _ _ _ h => h) (Or.inl ⟨by rfl, fun W _ => by go_simp⟩) hHeld ?_
  try simp only [putS]
  refine wpAnyH_take (i := 2) (v := .pointer (some ⟨g, 0, none⟩)) rfl (by kernel_rfl) (by kernel_rfl) (by kernel_rfl) (fun _ _ _ h => h) (Or.inl ⟨by rfl, fun W _ => by go_simp⟩) hHeld ?_
  try simp only [putS]
  refine wpAnyH_take (i := 3) (v := .pointer (some ⟨g, 11, none⟩)) rfl (by kernel_rfl) (by kernel_rfl) (by kernel_rfl) (fun _ _ _ h => h) (Or.inl ⟨by rfl, fun W _ => by go_simp⟩) hHeld ?_
  try simp only [putS]
  refine wpAnyH_take (i := 4) (v := .int .i64 2) rfl (by kernel_rfl) (by kernel_rfl) (by kernel_rfl) (fun _ _ _ h => h) (Or.inl ⟨by rfl, fun W h => by have c0 := h; go_simp⟩) hHeld ?_
  try simp only [putS]
  refine wpAnyH_take (i := 5) (v := .int .i64 1) rfl (by kernel_rfl) (by kernel_rfl) (by kernel_rfl) (fun _ _ _ h => h) (Or.inl ⟨by rfl, fun W _ => by go_simp; try rfl⟩) hHeld ?_
  try simp only [putS]
  refine wpAnyH_take (i := 6) (v := .pointer (some ⟨g, 0, none⟩)) rfl (by kernel_rfl) (by kernel_rfl) (by kernel_rfl) (fun _ _ _ h => h) (Or.inl ⟨by rfl, fun W _ => by go_simp⟩) hHeld ?_
  try simp only [putS]
  refine wpAnyH_take (i := 8) (v := F) rfl (by kernel_rfl) (by kernel_rfl) (by kernel_rfl) (fun _ _ _ h => h) (Or.inl ⟨by rfl, fun W _ => by go_simp⟩) hHeld ?_
  try simp only [putS]
  refine wpAnyH_take (i := 10) (v := .pointer (some ⟨g, 0, none⟩)) rfl (by kernel_rfl) (by kernel_rfl) (by kernel_rfl) (fun _ _ _ h => h) (Or.inl ⟨by rfl, fun W _ => by go_simp⟩) hHeld ?_
  try simp only [putS]
  refine wpAnyH_take (i := 11) (v := .pointer (some ⟨g, 5, none⟩)) rfl (by kernel_rfl) (by kernel_rfl) (by kernel_rfl) (fun _ _ _ h => h) (Or.inl ⟨by rfl, fun W _ => by go_simp⟩) hHeld ?_
  try simp only [putS]
  refine wpAnyH_ready (rs := [7]) (by kernel_rfl) (by simp) ?_
  refine AllReadyH.cons rfl (fun K hK => ?_) AllReadyH.nil
  rw [if_pos (by rfl)]
  go_simp
  refine (H2.out _ l1).mono ?_
  rintro e0 w3 ⟨rfl, hb3⟩
  have B2 := (hb3.block _ (lt_of_heap B1)).trans B1
  have l2 := low_any l1 hb3 l1.size
  have q11 : w3.cell? ⟨g, 11, none⟩ = some (.int .i64 2) := cell_of B2 11 (HK.out)
  clear hb3
  refine hK.out _ _ q11 (fun hHeld2 => ?_)
  clear hK K
  try simp only [putS]
  refine wpAnyH_ready (rs := [9]) (by kernel_rfl) (by simp) ?_
  refine AllReadyH.cons rfl (fun K hK => ?_) AllReadyH.nil
  rw [if_pos (by rfl)]
  go_simp
  refine (H3.out _ l2).mono ?_
  rintro e0 w3 ⟨rfl, hb3⟩
  have B3 := (hb3.block _ (lt_of_heap B2)).trans B2
  have l3 := low_any l2 hb3 l2.size
  have q11 : w3.cell? ⟨g, 11, none⟩ = some (.int .i64 2) := cell_of B3 11 (HK.out)
  clear hb3
  refine hK.out _ _ q11 (fun hHeld3 => ?_)
  clear hK K
  try simp only [putS]
  refine wpAnyH_take (i := 12) (v := .pointer (some ⟨g, 7, none⟩)) rfl (by kernel_rfl) (by kernel_rfl) (by kernel_rfl) (fun _ _ _ h => h) (Or.inl ⟨by rfl, fun W _ => by go_simp⟩) hHeld3 ?_
  try simp only [putS]
  refine wpAnyH_take (i := 13) (v := .pointer (some ⟨g, 7, none⟩)) rfl (by kernel_rfl) (by kernel_rfl) (by kernel_rfl) (fun _ _ _ h => h) (Or.inl ⟨by rfl, fun W _ => by go_simp⟩) hHeld3 ?_
  try simp only [putS]
  refine wpAnyH_ready (rs := [14]) (by kernel_rfl) (by simp) ?_
  refine AllReadyH.cons rfl (fun K hK => ?_) AllReadyH.nil
  have c0 := cell_of B3 7 HK2.out
  have f0 : w3.frozen? ⟨g, 7, none⟩ = false := free_of B3 _
  go_simp
  have hon : Only g w (w3.setCell ⟨g, 7, none⟩ (.int .i64 r)) := (Only.of_low (b := g) l3).setCell 7 none _
  have hcur := heap_set B3 7 (.int .i64 r)
  rw [HC.out] at hcur
  generalize w3.setCell ⟨g, 7, none⟩ (.int .i64 r) = w5 at *
  have q12 : w5.cell? ⟨g, 11, none⟩ = some (.int .i64 2) := cell_of hcur 11 HK3.out
  refine hK.out _ _ q12 (fun _ => ?_)
  clear hK K
  refine wpAnyH_done (by kernel_rfl) ?_ _
  go_wp2_with (go_at_call 62; (with_reducible refine (H4.out _ hon hcur).mono ?_); rintro e0 w6 ⟨rfl, hb6⟩)
  go_ret
  exact ⟨rfl, only_low hon hb6, (hb6.block _ (lt_of_heap hcur)).trans hcur⟩

set_option maxHeartbeats 3200000 in
set_option maxRecDepth 20000 in
theorem passGo3 (g : Nat) (F : Value) (a e r : Nat) (z : Bool) (cs cs' : Array Value) (w : World) (B : w.heap[g]? = some (.cells cs 93)) (k11 : cs[11]? = some (.int .i64 3)) (ka : cs[9]? = some (.int .i64 a)) (kc : cs.setIfInBounds 9 (.int .i64 r) = cs') (k12 : cs'[11]? = some (.int .i64 3))
    (h1 : Calls Tryz.prog 62 #[.pointer (some ⟨g, 0, none⟩)] w fun e w' => e = .returned (.bool true) ∧ Low w.heap.size w w')
    (h2 : ∀ W, Low w.heap.size w W → Calls Tryz.prog 65 #[.pointer (some ⟨g, 0, none⟩)] W fun e' w' => e' = .returned (.agg #[.int .i64 a, .int .i64 e]) ∧ Low W.heap.size W w')
    (h3 : ∀ W, Low w.heap.size w W → Calls Tryz.prog 91 #[.agg #[.int .i64 a, .int .i64 e], F] W fun e' w' => e' = .returned (.int .i64 r) ∧ Low W.heap.size W w')
    (h4 : ∀ W, Only g w W → W.heap[g]? = some (.cells cs' 93) → Calls Tryz.prog 62 #[.pointer (some ⟨g, 0, none⟩)] W fun e' w' => e' = .returned (.bool z) ∧ Low W.heap.size W w') :
    Calls Tryz.prog 58 #[.pointer (some ⟨g, 0, none⟩), F] w fun e w' => e = .returned (.bool z) ∧ Only g w w' ∧ w'.heap[g]? = some (.cells cs' 93) := by
  have H2 := Lib.hid h2
  have H3 := Lib.hid h3
  have H4 := Lib.hid h4
  have HC := Lib.hid kc
  have HK := Lib.hid k11
  have HK2 := Lib.hid ka
  have HK3 := Lib.hid k12
  clear h2 h3 h4 kc k11 ka k12
  go_enter Tryz.func58, Tryz.ntmps58
  go_upto_region 3 with (go_at_call 62; (with_reducible refine h1.mono ?_); rintro e0 w2 ⟨rfl, l1⟩)
  replace l1 := l1.drew
  have B1 := (l1.block _ (lt_of_heap B)).trans B
  have q11 : w2.drew.cell? ⟨g, 11, none⟩ = some (.int .i64 3) := cell_of B1 11 HK.out
  refine wp_region_held_drew (S := fun W => W.cell? ⟨g, 11, none⟩ = some (.int .i64 3)) (by kernel_rfl) q11 (fun hHeld => ?_)
  refine wpAnyH_take (i := 0) (v := .pointer (some ⟨g, 0, none⟩)) rfl (by kernel_rfl) (by kernel_rfl) (by kernel_rfl) (fun _ _ _ h => h) (Or.inl ⟨by rfl, fun W _ => by go_simp⟩) hHeld ?_
  try simp only [putS]
  refine wpAnyH_take (i := 1) (v := .pointer (some ⟨g, 0, none⟩)) rfl (by kernel_rfl) (by kernel_rfl) (by kernel_rfl) (fun _ _ _ h => h) (Or.inl ⟨by rfl, fun W _ => by go_simp⟩) hHeld ?_
  try simp only [putS]
  refine wpAnyH_take (i := 2) (v := .pointer (some ⟨g, 0, none⟩)) rfl (by kernel_rfl) (by kernel_rfl) (by kernel_rfl) (fun _ _ _ h => h) (Or.inl ⟨by rfl, fun W _ => by go_simp⟩) hHeld ?_
  try simp only [putS]
  refine wpAnyH_take (i := 3) (v := .pointer (some ⟨g, 11, none⟩)) rfl (by kernel_rfl) (by kernel_rfl) (by kernel_rfl) (fun _ _ _ h => h) (Or.inl ⟨by rfl, fun W _ => by go_simp⟩) hHeld ?_
  try simp only [putS]
  refine wpAnyH_take (i := 4) (v := .int .i64 3) rfl (by kernel_rfl) (by kernel_rfl) (by kernel_rfl) (fun _ _ _ h => h) (Or.inl ⟨by rfl, fun W h => by have c0 := h; go_simp⟩) hHeld ?_
  try simp only [putS]
  refine wpAnyH_take (i := 5) (v := .int .i64 2) rfl (by kernel_rfl) (by kernel_rfl) (by kernel_rfl) (fun _ _ _ h => h) (Or.inl ⟨by rfl, fun W _ => by go_simp; try rfl⟩) hHeld ?_
  try simp only [putS]
  refine wpAnyH_take (i := 6) (v := .pointer (some ⟨g, 0, none⟩)) rfl (by kernel_rfl) (by kernel_rfl) (by kernel_rfl) (fun _ _ _ h => h) (Or.inl ⟨by rfl, fun W _ => by go_simp⟩) hHeld ?_
  try simp only [putS]
  refine wpAnyH_take (i := 8) (v := F) rfl (by kernel_rfl) (by kernel_rfl) (by kernel_rfl) (fun _ _ _ h => h) (Or.inl ⟨by rfl, fun W _ => by go_simp⟩) hHeld ?_
  try simp only [putS]
  refine wpAnyH_take (i := 10) (v := .pointer (some ⟨g, 0, none⟩)) rfl (by kernel_rfl) (by kernel_rfl) (by kernel_rfl) (fun _ _ _ h => h) (Or.inl ⟨by rfl, fun W _ => by go_simp⟩) hHeld ?_
  try simp only [putS]
  refine wpAnyH_take (i := 11) (v := .pointer (some ⟨g, 5, none⟩)) rfl (by kernel_rfl) (by kernel_rfl) (by kernel_rfl) (fun _ _ _ h => h) (Or.inl ⟨by rfl, fun W _ => by go_simp⟩) hHeld ?_
  try simp only [putS]
  refine wpAnyH_ready (rs := [7]) (by kernel_rfl) (by simp) ?_
  refine AllReadyH.cons rfl (fun K hK => ?_) AllReadyH.nil
  rw [if_pos (by rfl)]
  go_simp
  refine (H2.out _ l1).mono ?_
  rintro e0 w3 ⟨rfl, hb3⟩
  have B2 := (hb3.block _ (lt_of_heap B1)).trans B1
  have l2 := low_any l1 hb3 l1.size
  have q11 : w3.cell? ⟨g, 11, none⟩ = some (.int .i64 3) := cell_of B2 11 (HK.out)
  clear hb3
  refine hK.out _ _ q11 (fun hHeld2 => ?_)
  clear hK K
  try simp only [putS]
  refine wpAnyH_ready (rs := [9]) (by kernel_rfl) (by simp) ?_
  refine AllReadyH.cons rfl (fun K hK => ?_) AllReadyH.nil
  rw [if_pos (by rfl)]
  go_simp
  refine (H3.out _ l2).mono ?_
  rintro e0 w3 ⟨rfl, hb3⟩
  have B3 := (hb3.block _ (lt_of_heap B2)).trans B2
  have l3 := low_any l2 hb3 l2.size
  have q11 : w3.cell? ⟨g, 11, none⟩ = some (.int .i64 3) := cell_of B3 11 (HK.out)
  clear hb3
  refine hK.out _ _ q11 (fun hHeld3 => ?_)
  clear hK K
  try simp only [putS]
  refine wpAnyH_take (i := 12) (v := .pointer (some ⟨g, 9, none⟩)) rfl (by kernel_rfl) (by kernel_rfl) (by kernel_rfl) (fun _ _ _ h => h) (Or.inl ⟨by rfl, fun W _ => by go_simp⟩) hHeld3 ?_
  try simp only [putS]
  refine wpAnyH_take (i := 13) (v := .pointer (some ⟨g, 9, none⟩)) rfl (by kernel_rfl) (by kernel_rfl) (by kernel_rfl) (fun _ _ _ h => h) (Or.inl ⟨by rfl, fun W _ => by go_simp⟩) hHeld3 ?_
  try simp only [putS]
  refine wpAnyH_ready (rs := [14]) (by kernel_rfl) (by simp) ?_
  refine AllReadyH.cons rfl (fun K hK => ?_) AllReadyH.nil
  have c0 := cell_of B3 9 HK2.out
  have f0 : w3.frozen? ⟨g, 9, none⟩ = false := free_of B3 _
  go_simp
  have hon : Only g w (w3.setCell ⟨g, 9, none⟩ (.int .i64 r)) := (Only.of_low (b := g) l3).setCell 9 none _
  have hcur := heap_set B3 9 (.int .i64 r)
  rw [HC.out] at hcur
  generalize w3.setCell ⟨g, 9, none⟩ (.int .i64 r) = w5 at *
  have q12 : w5.cell? ⟨g, 11, none⟩ = some (.int .i64 3) := cell_of hcur 11 HK3.out
  refine hK.out _ _ q12 (fun _ => ?_)
  clear hK K
  refine wpAnyH_done (by kernel_rfl) ?_ _
  go_wp2_with (go_at_call 62; (with_reducible refine (H4.out _ hon hcur).mono ?_); rintro e0 w6 ⟨rfl, hb6⟩)
  go_ret
  exact ⟨rfl, only_low hon hb6, (hb6.block _ (lt_of_heap hcur)).trans hcur⟩
end Go.Proofs.YtanbgdhmfjgihaaGreatDoor
