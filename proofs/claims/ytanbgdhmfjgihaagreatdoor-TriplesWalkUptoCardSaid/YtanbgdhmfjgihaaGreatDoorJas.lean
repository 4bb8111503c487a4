/- Texts of one kind, one behind the other: each says ahead of itself what it shows. -/
import Derived.Test.YtanbgdhmfjgihaaGreatDoorJar
import Derived.Test.YtanbgdhmfjgihaaGreatDoorJab
/- Whether two triples are the same, as the document has it. -/
namespace Go.Proofs.YtanbgdhmfjgihaaGreatDoor
open Go.RowKit

def triSame (a b c a2 b2 c2 : Val) : Bool := sameP a a2 && sameP b b2 && sameP c c2
theorem sameIs (v v2 : V6) (u u2 : Val) (q q2 : List Val) (W : World) (h : Is W v u q) (h2 : Is W v2 u2 q2) :
    Calls Tryz.prog 32 #[.agg #[.int .i64 v.k, .bool v.b, .int .i64 v.n, .string v.t, .string v.x, .slice v.p v.len v.cap], .agg #[.int .i64 v2.k, .bool v2.b, .int .i64 v2.n, .string v2.t, .string v2.x, .slice v2.p v2.len v2.cap]] W fun e w' => e = .returned (.bool (sameP u u2)) ∧ Below W.heap.size W w' := by
  obtain ⟨k, b, n, t, x, p, len, cap⟩ := v
  obtain ⟨k2, b2, n2, t2, x2, p2, len2, cap2⟩ := v2
  obtain ⟨e, hq, hf, hl⟩ := h
  obtain ⟨e2, hq2, hf2, hl2⟩ := h2
  simp only at e hq hf hl e2 hq2 hf2 hl2
  subst hq hq2
  exact sameZAll u W k b n t x q p cap u2 k2 b2 n2 t2 x2 q2 p2 cap2 e e2 hf.hn hl hl2

set_option maxHeartbeats 3200000 in
set_option maxRecDepth 20000 in
theorem eqTri (s q o s2 q2 o2 : V6) (us uq uo us2 uq2 uo2 : Val) (ls lq lo ls2 lq2 lo2 : List Val) (W : World) (hs : Is W s us ls) (hq : Is W q uq lq) (ho : Is W o uo lo) (hs2 : Is W s2 us2 ls2) (hq2 : Is W q2 uq2 lq2) (ho2 : Is W o2 uo2 lo2) :
    Calls Tryz.prog 37 #[.agg #[.int .i64 s.k, .bool s.b, .int .i64 s.n, .string s.t, .string s.x, .slice s.p s.len s.cap, .int .i64 q.k, .bool q.b, .int .i64 q.n, .string q.t, .string q.x, .slice q.p q.len q.cap, .int .i64 o.k, .bool o.b, .int .i64 o.n, .string o.t, .string o.x, .slice o.p o.len o.cap], .agg #[.int .i64 s2.k, .bool s2.b, .int .i64 s2.n, .string s2.t, .string s2.x, .slice s2.p s2.len s2.cap, .int .i64 q2.k, .bool q2.b, .int .i64 q2.n, .string q2.t, .string q2.x, .slice q2.p q2.len q2.cap, .int .i64 o2.k, .bool o2.b, .int .i64 o2.n, .string o2.t, .string o2.x, .slice o2.p o2.len o2.cap]] W fun e w' => e = .returned (.bool (triSame us uq uo us2 uq2 uo2)) ∧ Below W.heap.size W w' := by
  obtain ⟨W0, hW0⟩ : ∃ W0, W0 = (W.alloc (.cells #[.int .i64 s.k, .bool s.b, .int .i64 s.n, .string s.t, .string s.x, .slice s.p s.len s.cap, .int .i64 q.k, .bool q.b, .int .i64 q.n, .string q.t, .string q.x, .slice q.p q.len q.cap, .int .i64 o.k, .bool o.b, .int .i64 o.n, .string o.t, .string o.x, .slice o.p o.len o.cap] 41)).alloc (.cells #[.int .i64 s2.k, .bool s2.b, .int .i64 s2.n, .string s2.t, .string s2.x, .slice s2.p s2.len s2.cap, .int .i64 q2.k, .bool q2.b, .int .i64 q2.n, .string q2.t, .string q2.x, .slice q2.p q2.len q2.cap, .int .i64 o2.k, .bool o2.b, .int .i64 o2.n, .string o2.t, .string o2.x, .slice o2.p o2.len o2.cap] 41) := ⟨_, rfl⟩
  have B : Box18 W0 W.heap.size s q o := by rw [hW0]; exact (box18_new _ rfl).alloc _
  have C : Box18 W0 (W.heap.size + 1) s2 q2 o2 := by rw [hW0]; exact box18_new _ (by simp)
  have b0 : Below W.heap.size W W0 := by rw [hW0]; exact below2 _ _ _
  have hc1 := fun w (h : Below W.heap.size W w) => sameIs s s2 us us2 ls ls2 w (hs.below h) (hs2.below h)
  have hc2 := fun w (h : Below W.heap.size W w) => sameIs q q2 uq uq2 lq lq2 w (hq.below h) (hq2.below h)
  have hc3 := fun w (h : Below W.heap.size W w) => sameIs o o2 uo uo2 lo lo2 w (ho.below h) (ho2.below h)
  have HW := Lib.hid hW0
  clear hW0 hs hq ho hs2 hq2 ho2
  unfold triSame
  generalize sameP us us2 = r1 at hc1 ⊢
  generalize sameP uq uq2 = r2 at hc2 ⊢
  generalize sameP uo uo2 = r3 at hc3 ⊢
  cases r1 with
  | false =>
    clear hc2
    clear hc3
    rw [show (false && r2 && r3) = false by simp]
    go_enter Tryz.func37, Tryz.ntmps37
    go_wp2_with (first
      | (rw [← HW.out]; (with_reducible refine wpList_mid6 (.tmp 5) W.heap.size 0 s B.r0 ?_ ?_ ?_ ?_); rfl; rfl; rfl)
      | ((with_reducible refine wpList_mid6 (.tmp 7) (W.heap.size + 1) 0 s2 C.r0 ?_ ?_ ?_ ?_); rfl; rfl; rfl)
      | (go_at_call 32; (with_reducible refine (hc1 _ b0).mono ?_); rintro e w3 ⟨rfl, hb3⟩; replace b0 := below_any b0 hb3 b0.size; replace B := B.below hb3; replace C := C.below hb3; clear hb3))
    go_ret
    exact ⟨rfl, b0⟩
  | true =>
    cases r2 with
    | false =>
      clear hc3
      rw [show (true && false && r3) = false by simp]
      go_enter Tryz.func37, Tryz.ntmps37
      go_wp2_with (first
        | (rw [← HW.out]; (with_reducible refine wpList_mid6 (.tmp 5) W.heap.size 0 s B.r0 ?_ ?_ ?_ ?_); rfl; rfl; rfl)
        | ((with_reducible refine wpList_mid6 (.tmp 7) (W.heap.size + 1) 0 s2 C.r0 ?_ ?_ ?_ ?_); rfl; rfl; rfl)
        | ((with_reducible refine wpList_mid6g (.tmp 11) W.heap.size 6 q B.r1 ?_ ?_ ?_ ?_); rfl; rfl; rfl)
        | ((with_reducible refine wpList_mid6g (.tmp 13) (W.heap.size + 1) 6 q2 C.r1 ?_ ?_ ?_ ?_); rfl; rfl; rfl)
        | (go_at_call 32; (with_reducible refine (hc1 _ b0).mono ?_); rintro e w3 ⟨rfl, hb3⟩; replace b0 := below_any b0 hb3 b0.size; replace B := B.below hb3; replace C := C.below hb3; clear hb3)
        | (go_at_call 32; (with_reducible refine (hc2 _ b0).mono ?_); rintro e w3 ⟨rfl, hb3⟩; replace b0 := below_any b0 hb3 b0.size; replace B := B.below hb3; replace C := C.below hb3; clear hb3))
      go_ret
      exact ⟨rfl, b0⟩
    | true =>
      cases r3 with
      | false =>
        rw [show (true && true && false) = false by simp]
        go_enter Tryz.func37, Tryz.ntmps37
        go_wp2_with (first
          | (rw [← HW.out]; (with_reducible refine wpList_mid6 (.tmp 5) W.heap.size 0 s B.r0 ?_ ?_ ?_ ?_); rfl; rfl; rfl)
          | ((with_reducible refine wpList_mid6 (.tmp 7) (W.heap.size + 1) 0 s2 C.r0 ?_ ?_ ?_ ?_); rfl; rfl; rfl)
          | ((with_reducible refine wpList_mid6g (.tmp 11) W.heap.size 6 q B.r1 ?_ ?_ ?_ ?_); rfl; rfl; rfl)
          | ((with_reducible refine wpList_mid6g (.tmp 13) (W.heap.size + 1) 6 q2 C.r1 ?_ ?_ ?_ ?_); rfl; rfl; rfl)
          | ((with_reducible refine wpList_mid6g (.tmp 18) W.heap.size 12 o B.r2 ?_ ?_ ?_ ?_); rfl; rfl; rfl)
          | ((with_reducible refine wpList_mid6g (.tmp 20) (W.heap.size + 1) 12 o2 C.r2 ?_ ?_ ?_ ?_); rfl; rfl; rfl)
          | (go_at_call 32; (with_reducible refine (hc1 _ b0).mono ?_); rintro e w3 ⟨rfl, hb3⟩; replace b0 := below_any b0 hb3 b0.size; replace B := B.below hb3; replace C := C.below hb3; clear hb3)
          | (go_at_call 32; (with_reducible refine (hc2 _ b0).mono ?_); rintro e w3 ⟨rfl, hb3⟩; replace b0 := below_any b0 hb3 b0.size; replace B := B.below hb3; replace C := C.below hb3; clear hb3)
          | (go_at_call 32; (with_reducible refine (hc3 _ b0).mono ?_); rintro e w3 ⟨rfl, hb3⟩; replace b0 := below_any b0 hb3 b0.size; replace B := B.below hb3; replace C := C.below hb3; clear hb3))
        go_ret
        exact ⟨rfl, b0⟩
      | true =>
        go_enter Tryz.func37, Tryz.ntmps37
        go_wp2_with (first
          | (rw [← HW.out]; (with_reducible refine wpList_mid6 (.tmp 5) W.heap.size 0 s B.r0 ?_ ?_ ?_ ?_); rfl; rfl; rfl)
          | ((with_reducible refine wpList_mid6 (.tmp 7) (W.heap.size + 1) 0 s2 C.r0 ?_ ?_ ?_ ?_); rfl; rfl; rfl)
          | ((with_reducible refine wpList_mid6g (.tmp 11) W.heap.size 6 q B.r1 ?_ ?_ ?_ ?_); rfl; rfl; rfl)
          | ((with_reducible refine wpList_mid6g (.tmp 13) (W.heap.size + 1) 6 q2 C.r1 ?_ ?_ ?_ ?_); rfl; rfl; rfl)
          | ((with_reducible refine wpList_mid6g (.tmp 18) W.heap.size 12 o B.r2 ?_ ?_ ?_ ?_); rfl; rfl; rfl)
          | ((with_reducible refine wpList_mid6g (.tmp 20) (W.heap.size + 1) 12 o2 C.r2 ?_ ?_ ?_ ?_); rfl; rfl; rfl)
          | (go_at_call 32; (with_reducible refine (hc1 _ b0).mono ?_); rintro e w3 ⟨rfl, hb3⟩; replace b0 := below_any b0 hb3 b0.size; replace B := B.below hb3; replace C := C.below hb3; clear hb3)
          | (go_at_call 32; (with_reducible refine (hc2 _ b0).mono ?_); rintro e w3 ⟨rfl, hb3⟩; replace b0 := below_any b0 hb3 b0.size; replace B := B.below hb3; replace C := C.below hb3; clear hb3)
          | (go_at_call 32; (with_reducible refine (hc3 _ b0).mono ?_); rintro e w3 ⟨rfl, hb3⟩; replace b0 := below_any b0 hb3 b0.size; replace B := B.below hb3; replace C := C.below hb3; clear hb3))
        go_ret
        exact ⟨rfl, b0⟩
end Go.Proofs.YtanbgdhmfjgihaaGreatDoor

/- How a list of triples lies in memory: three values each, one behind the other. -/
namespace Go.Proofs.YtanbgdhmfjgihaaGreatDoor
open Go.RowKit

/-- A triple's three values. -/
structure Tri3 where
  s : Val
  p : Val
  o : Val
def Tri3.l (t : Tri3) : List Val := [t.s, t.p, t.o]
def flat (l : List Tri3) : List Val := l.flatMap Tri3.l
theorem flat_nil : flat [] = [] := rfl
theorem flat_cons (t : Tri3) (l : List Tri3) : flat (t :: l) = t.s :: t.p :: t.o :: flat l := rfl
theorem flat_len : (l : List Tri3) → (flat l).length = 3 * l.length
  | [] => rfl
  | t :: l => by rw [flat_cons]; simp only [List.length_cons]; rw [flat_len l]; omega
theorem flat_at : (l : List Tri3) → (j : Nat) → (h : j < l.length) → (flat l)[3 * j]? = some l[j].s ∧ (flat l)[3 * j + 1]? = some l[j].p ∧ (flat l)[3 * j + 2]? = some l[j].o
  | [], _, h => absurd h (by simp)
  | t :: l, 0, _ => ⟨rfl, rfl, rfl⟩
  | t :: l, j + 1, h => by
    have r := flat_at l j (by simpa using h)
    rw [flat_cons, show 3 * (j + 1) = 3 * j + 3 by omega]
    simp only [List.getElem_cons_succ]
    exact r
/-- A list of triples in memory. -/
def Tris (W : World) (L : Value) (l : List Tri3) : Prop :=
  ∃ p cap, L = .slice p l.length cap ∧ (l ≠ [] → ∃ g off, p = some ⟨g, off, none⟩ ∧ Holds W g off (flat l))
theorem Tris.below {W W' : World} {L : Value} {l : List Tri3} (h : Tris W L l) (b : Below W.heap.size W W') : Tris W' L l := by
  obtain ⟨p, cap, e, k⟩ := h
  refine ⟨p, cap, e, fun hn => ?_⟩
  obtain ⟨g, off, e2, k2⟩ := k hn
  exact ⟨g, off, e2, Holds.below _ k2 b⟩
/-- A value that lies in memory opens into its six cells. -/
theorem isOf {W : World} {g off : Nat} {u : Val} (h : HoldsOne W g off u) : ∃ v : V6, ∃ q, Is W v u q ∧ W.rangeAt g off [.int .i64 v.k, .bool v.b, .int .i64 v.n, .string v.t, .string v.x, .slice v.p v.len v.cap] := by
  obtain ⟨k, b, n, t, x, q, p, cp, o1⟩ := h.opens
  exact ⟨⟨k, b, n, t, x, p, q.length, cp⟩, q, ⟨o1.e, rfl, o1.hf, o1.hl⟩, range6 o1.c0 o1.c1 o1.c2 o1.c3 o1.c4 o1.c5⟩
/-- One of the triples. -/
theorem trisAt {W : World} {g off : Nat} {l : List Tri3} (h : Holds W g off (flat l)) (j : Nat) (hj : j < l.length) :
    ∃ s p o : V6, ∃ ls lp lo, Is W s l[j].s ls ∧ Is W p l[j].p lp ∧ Is W o l[j].o lo ∧
      W.rangeAt g (off + j * 18) [.int .i64 s.k, .bool s.b, .int .i64 s.n, .string s.t, .string s.x, .slice s.p s.len s.cap, .int .i64 p.k, .bool p.b, .int .i64 p.n, .string p.t, .string p.x, .slice p.p p.len p.cap, .int .i64 o.k, .bool o.b, .int .i64 o.n, .string o.t, .string o.x, .slice o.p o.len o.cap] := by
  have hl := flat_len l
  obtain ⟨e0, e1, e2⟩ := flat_at l j hj
  have h0 := Holds.at_ (flat l) off h (3 * j) (by omega)
  have h1 := Holds.at_ (flat l) off h (3 * j + 1) (by omega)
  have h2 := Holds.at_ (flat l) off h (3 * j + 2) (by omega)
  rw [List.getElem?_eq_getElem (by omega)] at e0 e1 e2
  rw [Option.some.inj e0, show off + 3 * j * 6 = off + j * 18 by omega] at h0
  rw [Option.some.inj e1, show off + (3 * j + 1) * 6 = off + j * 18 + 6 by omega] at h1
  rw [Option.some.inj e2, show off + (3 * j + 2) * 6 = off + j * 18 + 12 by omega] at h2
  obtain ⟨s, ls, hs, rs⟩ := isOf h0
  obtain ⟨p, lp, hp, rp⟩ := isOf h1
  obtain ⟨o, lo, ho, ro⟩ := isOf h2
  refine ⟨s, p, o, ls, lp, lo, hs, hp, ho, ?_⟩
  intro i v hv
  match i, hv with
  | 0, e => exact rs 0 v e
  | 1, e => exact rs 1 v e
  | 2, e => exact rs 2 v e
  | 3, e => exact rs 3 v e
  | 4, e => exact rs 4 v e
  | 5, e => exact rs 5 v e
  | 6, e => have := rp 0 v e; simpa [Nat.add_assoc] using this
  | 7, e => have := rp 1 v e; simpa [Nat.add_assoc] using this
  | 8, e => have := rp 2 v e; simpa [Nat.add_assoc] using this
  | 9, e => have := rp 3 v e; simpa [Nat.add_assoc] using this
  | 10, e => have := rp 4 v e; simpa [Nat.add_assoc] using this
  | 11, e => have := rp 5 v e; simpa [Nat.add_assoc] using this
  | 12, e => have := ro 0 v e; simpa [Nat.add_assoc] using this
  | 13, e => have := ro 1 v e; simpa [Nat.add_assoc] using this
  | 14, e => have := ro 2 v e; simpa [Nat.add_assoc] using this
  | 15, e => have := ro 3 v e; simpa [Nat.add_assoc] using this
  | 16, e => have := ro 4 v e; simpa [Nat.add_assoc] using this
  | 17, e => have := ro 5 v e; simpa [Nat.add_assoc] using this
  | i + 18, e => simp at e
end Go.Proofs.YtanbgdhmfjgihaaGreatDoor

/- Whether two lists of triples are the same, as the document has it. -/
namespace Go.Proofs.YtanbgdhmfjgihaaGreatDoor
open Go.RowKit

theorem range_below {W W' : World} {g off : Nat} {cs : List Value} (h : W.rangeAt g off cs) (b : Below W.heap.size W W') : W'.rangeAt g off cs :=
  fun i v hv => (b.cell (p := ⟨g, off + i, none⟩) (World.block_lt_of_cell? W _ (h i v hv))).trans (h i v hv)
def t3Same (a b : Tri3) : Bool := triSame a.s a.p a.o b.s b.p b.o
end Go.Proofs.YtanbgdhmfjgihaaGreatDoor

/- A store in memory; what a cursor over it shows. -/
namespace Go.Proofs.YtanbgdhmfjgihaaGreatDoor
open Go.RowKit

/-- A row: three numbers of values. -/
structure R3 where
  a : Nat
  b : Nat
  c : Nat
deriving DecidableEq, Inhabited
def R3.at (r : R3) : Nat → Nat
  | 0 => r.a
  | 1 => r.b
  | _ => r.c
/-- A store: its values, its rows, the rows' numbers in each order. -/
structure SM where
  vs : List Val
  rs : List R3
  ls : Nat → List Nat
structure SMok (s : SM) : Prop where
  r : ∀ x ∈ s.rs, x.a < s.vs.length ∧ x.b < s.vs.length ∧ x.c < s.vs.length
  l : ∀ k, ∀ x ∈ s.ls k, x < s.rs.length
  nv : s.vs.length < 1073741824
  nr : s.rs.length < 1073741824
  nl : ∀ k, (s.ls k).length < 1073741824
theorem SMok.at {s : SM} (h : SMok s) (x : R3) (hx : x ∈ s.rs) (v : Nat) : x.at v < s.vs.length := by
  have := h.r x hx
  match v with
  | 0 => exact this.1
  | 1 => exact this.2.1
  | v + 2 => exact this.2.2
def NumsAt (W : World) (p : Option Addr) (l : List Nat) : Prop := l ≠ [] → ∃ g o, p = some ⟨g, o, none⟩ ∧ ∀ (j : Nat) (h : j < l.length), W.cell? ⟨g, o + j, none⟩ = some (.int .i64 (l[j] : Nat))
def RowsAt (W : World) (p : Option Addr) (l : List R3) : Prop := l ≠ [] → ∃ g o, p = some ⟨g, o, none⟩ ∧ ∀ (j : Nat) (h : j < l.length), W.rangeAt g (o + j * 3) [.int .i64 (l[j].a : Nat), .int .i64 (l[j].b : Nat), .int .i64 (l[j].c : Nat)]
def ValsAt (W : World) (p : Option Addr) (l : List Val) : Prop := l ≠ [] → ∃ g o, p = some ⟨g, o, none⟩ ∧ Holds W g o l
section
variable {W W' : World} {p : Option Addr}
theorem NumsAt.below {l : List Nat} (h : NumsAt W p l) (b : Below W.heap.size W W') : NumsAt W' p l := fun hn => by
  obtain ⟨g, o, e, k⟩ := h hn
  exact ⟨g, o, e, fun j hj => (b.cell (p := ⟨g, o + j, none⟩) (World.block_lt_of_cell? W _ (k j hj))).trans (k j hj)⟩
theorem RowsAt.below {l : List R3} (h : RowsAt W p l) (b : Below W.heap.size W W') : RowsAt W' p l := fun hn => by
  obtain ⟨g, o, e, k⟩ := h hn
  exact ⟨g, o, e, fun j hj => range_below (k j hj) b⟩
theorem ValsAt.below {l : List Val} (h : ValsAt W p l) (b : Below W.heap.size W W') : ValsAt W' p l := fun hn => by
  obtain ⟨g, o, e, k⟩ := h hn
  exact ⟨g, o, e, Holds.below _ k b⟩
end
/-- A store's block. -/
structure StoreIs (W : World) (sp : Nat) (s : SM) (pv pr : Option Addr) (cv cr : Nat) (pp : Nat → Option Addr) (cc : Nat → Nat) : Prop where
  h : W.heap[sp]? = some (.cells #[.slice pv s.vs.length cv, .slice pr s.rs.length cr, .slice (pp 0) (s.ls 0).length (cc 0), .slice (pp 1) (s.ls 1).length (cc 1), .slice (pp 2) (s.ls 2).length (cc 2), .slice (pp 3) (s.ls 3).length (cc 3), .slice (pp 4) (s.ls 4).length (cc 4), .slice (pp 5) (s.ls 5).length (cc 5)] 76)
  v : ValsAt W pv s.vs
  r : RowsAt W pr s.rs
  l : ∀ k, k < 6 → NumsAt W (pp k) (s.ls k)
def StoreAt (W : World) (sp : Nat) (s : SM) : Prop := ∃ pv pr cv cr pp cc, StoreIs W sp s pv pr cv cr pp cc
/-- A cursor over a store that was made before it. -/
structure At (W0 : World) (s : SM) (W : World) (g : Nat) (c : CS) (k : Nat) : Prop where
  S : StoreAt W0 c.sp s
  n : c.n = (s.ls k).length
  l : NumsAt W0 c.pl (s.ls k)
  h0 : c.l0 < 3
  h1 : c.l1 < 3
  h2 : c.l2 < 3
  hg : W0.heap.size ≤ g
  b : Below W0.heap.size W0 W
  B : Cur W g c
theorem At.low {W0 W W' : World} {s : SM} {g k : Nat} {c : CS} (h : At W0 s W g c k) (b : Low W.heap.size W W') : At W0 s W' g c k :=
  ⟨h.S, h.n, h.l, h.h0, h.h1, h.h2, h.hg, below_any h.b b.is h.b.size, h.B.low b⟩
theorem At.bel {W0 W W' : World} {s : SM} {g k : Nat} {c : CS} (h : At W0 s W g c k) (b : Below W.heap.size W W') : At W0 s W' g c k :=
  ⟨h.S, h.n, h.l, h.h0, h.h1, h.h2, h.hg, below_any h.b b h.b.size, h.B.below b⟩
/-- The number of the value that a place shows at a part. -/
def SM.num (s : SM) (k v j : Nat) : Nat := ((s.rs[((s.ls k)[j]?).getD 0]?).getD default).at v
theorem SM.num_eq (s : SM) (k v j : Nat) (hj : j < (s.ls k).length) (hr : (s.ls k)[j] < s.rs.length) : s.num k v j = (s.rs[(s.ls k)[j]]).at v := by
  unfold SM.num
  rw [List.getElem?_eq_getElem hj, Option.getD_some, List.getElem?_eq_getElem hr, Option.getD_some]
theorem SM.num_lt (s : SM) (ok : SMok s) (k v j : Nat) (hj : j < (s.ls k).length) : s.num k v j < s.vs.length := by
  have hr := ok.l k _ (List.getElem_mem hj)
  rw [s.num_eq k v j hj hr]
  exact ok.at _ (List.getElem_mem hr) v
theorem CS.lev_lt {W0 W : World} {s : SM} {g k : Nat} {c : CS} (h : At W0 s W g c k) : c.lev < 3 := by
  unfold CS.lev
  have := h.h0
  have := h.h1
  have := h.h2
  split <;> assumption
theorem CS.lev_cell (c : CS) (h1 : 1 ≤ c.d) (h3 : c.d ≤ 3) : c.cells[2 + (c.d - 1)]? = some (.int .i64 c.lev) := by
  obtain ⟨sp, pl, n, cl, l0, l1, l2, a0, e0, a1, e1, a2, e2, d⟩ := c
  simp only at h1 h3
  obtain rfl | rfl | rfl : d = 1 ∨ d = 2 ∨ d = 3 := by omega
  · rfl
  · rfl
  · rfl
theorem numC {W0 W : World} {s : SM} {g k : Nat} {c : CS} (h : At W0 s W g c k) (ok : SMok s) (h1 : 1 ≤ c.d) (h3 : c.d ≤ 3) (j : Nat) (hj : j < c.n) :
    Calls Tryz.prog 93 #[.pointer (some ⟨g, 0, none⟩), .int .i64 j] W fun e w' => e = .returned (.int .i64 (s.num k c.lev j : Nat)) ∧ Low W.heap.size W w' := by
  obtain ⟨pv, pr, cv, cr, pp, cc, k0⟩ := h.S
  have hn := h.n
  have hj2 : j < (s.ls k).length := by omega
  have hne : s.ls k ≠ [] := by intro e; rw [e] at hj2; exact absurd hj2 (by simp)
  obtain ⟨gl, ol, el, kl⟩ := (h.l.below h.b) hne
  have hr := ok.l k _ (List.getElem_mem hj2)
  have hne2 : s.rs ≠ [] := by intro e; rw [e] at hr; exact absurd hr (by simp)
  obtain ⟨gr, fr, er, kr⟩ := (k0.r.below h.b) hne2
  have S' := (h.b.block _ (lt_of_heap k0.h)).trans k0.h
  have B := h.B
  rw [s.num_eq k c.lev j hj2 hr]
  refine numAt g c.sp gl ol c.n c.cl gr fr s.rs.length cr (c.d - 1) c.lev j ((s.ls k)[j]) _ W (by omega) (CS.lev_lt h) hj hr (B.cell 0 _ rfl) ?_ ?_ (B.cell _ _ (c.lev_cell h1 h3)) ?_ (kl j hj2) ?_
  · rw [← el]; exact B.cell 1 _ rfl
  · rw [show c.d - 1 + 1 = c.d by omega]; exact B.cell 11 _ rfl
  · rw [← er]; exact cell_of S' 1 rfl
  · have hv := CS.lev_lt h
    have R := kr _ hr
    generalize c.lev = v at hv ⊢
    match v, hv with
    | 0, _ => exact R 0 _ rfl
    | 1, _ => exact R 1 _ rfl
    | 2, _ => exact R 2 _ rfl
theorem hereC {W0 W : World} {s : SM} {g k : Nat} {c : CS} (h : At W0 s W g c k) (h1 : 1 ≤ c.d) (h3 : c.d ≤ 3) :
    Calls Tryz.prog 65 #[.pointer (some ⟨g, 0, none⟩)] W fun e w' => e = .returned (.agg #[.int .i64 c.pos, .int .i64 c.fin]) ∧ Low W.heap.size W w' := by
  have B := h.B
  obtain ⟨sp, pl, n, cl, l0, l1, l2, a0, e0, a1, e1, a2, e2, d⟩ := c
  simp only at h1 h3
  obtain rfl | rfl | rfl : d = 1 ∨ d = 2 ∨ d = 3 := by omega
  · exact here1 g a0 e0 W (B.cell 11 _ rfl) (range2 (B.cell 5 _ rfl) (B.cell 6 _ rfl))
  · exact here2 g a1 e1 W (B.cell 11 _ rfl) (range2 (B.cell 7 _ rfl) (B.cell 8 _ rfl))
  · exact here3 g a2 e2 W (B.cell 11 _ rfl) (range2 (B.cell 9 _ rfl) (B.cell 10 _ rfl))
set_option maxHeartbeats 1600000 in
set_option maxRecDepth 20000 in
theorem atValueC {W0 W : World} {s : SM} {g k : Nat} {c : CS} (h : At W0 s W g c k) (h3 : c.d ≤ 3) :
    Calls Tryz.prog 62 #[.pointer (some ⟨g, 0, none⟩)] W fun e w' => e = .returned (.bool (decide (1 ≤ c.d) && decide (c.pos < c.fin))) ∧ Low W.heap.size W w' := by
  have c11 := h.B.c11
  by_cases h1 : 1 ≤ c.d
  · have hh := hereC h h1 h3
    have he := fun w => emptyAt c.pos c.fin w
    have hr : (decide (1 ≤ c.d) && decide (c.pos < c.fin)) = !decide (c.fin ≤ c.pos) := by
      rw [decide_eq_true h1, Bool.true_and]
      by_cases q : c.pos < c.fin
      · rw [decide_eq_true q, decide_eq_false (by omega)]; rfl
      · rw [decide_eq_false q, decide_eq_true (by omega)]; rfl
    rw [hr]
    have hd : (0 : Int) < (c.d : Int) := by omega
    clear hr h
    generalize decide (c.fin ≤ c.pos) = z at *
    generalize (c.pos : Nat) = a at *
    generalize (c.fin : Nat) = f at *
    go_enter Tryz.func62, Tryz.ntmps62
    go_wp2_with (first
      | (go_at_call 65; (with_reducible refine hh.mono ?_); rintro e w3 ⟨rfl, hb3⟩)
      | (go_at_call 56; (with_reducible refine (he _).mono ?_); rintro e w4 ⟨rfl, hb4⟩; have hb5 := low_any hb3 hb4 hb3.size))
    go_ret
    exact ⟨rfl, hb5⟩
  · have hz : c.d = 0 := by omega
    have c11 : W.cell? ⟨g, 11, none⟩ = some (.int .i64 0) := by have := h.B.c11; rw [hz] at this; exact this
    rw [decide_eq_false h1, Bool.false_and]
    clear h
    go_enter Tryz.func62, Tryz.ntmps62
    go_wp2_with fail
    go_ret
    exact ⟨rfl, Low.refl _ _⟩
theorem field90 (a f : Int) (w : World) : (Instr.field 90 (.agg #[.int .i64 a, .int .i64 f]) 0).run Tryz.prog w = .ok (.int .i64 a) w := by
  unfold Instr.field
  rw [Sem.run_bind, run_underlying Tryz.underlying90 w]
  simp [part, asAgg, Sem.run_bind, isAgg, sizeOf]
set_option maxHeartbeats 1600000 in
set_option maxRecDepth 20000 in
theorem holdsC {W0 W : World} {s : SM} {g k : Nat} {c : CS} (h : At W0 s W g c k) (ok : SMok s) (h1 : 1 ≤ c.d) (h3 : c.d ≤ 3) (j : Nat) (hj : j < c.n) (hp : c.pos < c.n) :
    Calls Tryz.prog 59 #[.pointer (some ⟨g, 0, none⟩), .int .i64 j] W fun e w' => e = .returned (.bool (s.num k c.lev j == s.num k c.lev c.pos)) ∧ Low W.heap.size W w' := by
  have hc1 := fun W' (b : Low W.heap.size W W') => numC (h.low b) ok h1 h3 j hj
  have hc2 := fun W' (b : Low W.heap.size W W') => numC (h.low b) ok h1 h3 c.pos hp
  have hc3 := fun W' (b : Low W.heap.size W W') => hereC (h.low b) h1 h3
  have b0 := Low.refl W.heap.size W
  have hr : (s.num k c.lev j == s.num k c.lev c.pos) = ((s.num k c.lev j : Int) == (s.num k c.lev c.pos : Int)) := by
    rw [Bool.eq_iff_iff]; simp only [beq_iff_eq]; omega
  rw [hr]
  clear hr h
  generalize ((s.num k c.lev j : Nat) : Int) = x at *
  generalize ((s.num k c.lev c.pos : Nat) : Int) = y at *
  generalize (c.pos : Nat) = a at *
  generalize (c.fin : Nat) = f at *
  have hfl := fun w => field90 a f w
  go_enter Tryz.func59, Tryz.ntmps59
  go_wp2_with (first
    | (go_at_call 93; (with_reducible refine (hc1 _ b0).mono ?_); rintro e w3 ⟨rfl, hb3⟩; replace b0 := low_any b0 hb3 b0.size; clear hb3; clear hc1)
    | (go_at_call 93; (with_reducible refine (hc2 _ b0).mono ?_); rintro e w3 ⟨rfl, hb3⟩; replace b0 := low_any b0 hb3 b0.size; clear hb3)
    | (go_at_call 65; (with_reducible refine (hc3 _ b0).mono ?_); rintro e w3 ⟨rfl, hb3⟩; replace b0 := low_any b0 hb3 b0.size; clear hb3))
  go_ret
  exact ⟨rfl, b0⟩
end Go.Proofs.YtanbgdhmfjgihaaGreatDoor

/- The value that a place shows. -/
namespace Go.Proofs.YtanbgdhmfjgihaaGreatDoor
open Go.RowKit

theorem Six.low {w w' : World} {g : Nat} {k : Int} {b : Bool} {n : Int} {t x : ByteArray} {p : Option Addr} {len cap : Nat} (h : Six w g k b n t x p len cap) (c : Low w.heap.size w w') : Six w' g k b n t x p len cap := h.below c.is
set_option maxHeartbeats 3200000 in
set_option maxRecDepth 20000 in
theorem valueRaw (g sp gv ov nv cv j m : Nat) (v : V6) (w : World) (hm : m < nv)
    (k0 : w.cell? ⟨g, 0, none⟩ = some (.pointer (some ⟨sp, 0, none⟩))) (k1 : w.cell? ⟨sp, 0, none⟩ = some (.slice (some ⟨gv, ov, none⟩) nv cv)) (kr : w.rangeAt gv (ov + m * 6) [.int .i64 v.k, .bool v.b, .int .i64 v.n, .string v.t, .string v.x, .slice v.p v.len v.cap])
    (hn : ∀ W, Low w.heap.size w W → Calls Tryz.prog 93 #[.pointer (some ⟨g, 0, none⟩), .int .i64 j] W fun e w' => e = .returned (.int .i64 m) ∧ Low W.heap.size W w') :
    Calls Tryz.prog 64 #[.pointer (some ⟨g, 0, none⟩), .int .i64 j] w fun e w' => e = .returned (.agg #[.int .i64 v.k, .bool v.b, .int .i64 v.n, .string v.t, .string v.x, .slice v.p v.len v.cap]) ∧ Low w.heap.size w w' := by
  obtain ⟨W1, hW1⟩ : ∃ W1, W1 = w.alloc (.cells #[.int .i64 0, .bool false, .int .i64 0, .string ⟨#[]⟩, .string ⟨#[]⟩, .slice none 0 0] 39) := ⟨_, rfl⟩
  have hS : Six W1.drew w.heap.size 0 false 0 ⟨#[]⟩ ⟨#[]⟩ none 0 0 := by rw [hW1]; exact six_new _ rfl
  have b0 : Low w.heap.size w W1 := by rw [hW1]; exact low1 _ _
  have K0 : Hid (∀ W, Low w.heap.size w W → W.cell? ⟨g, 0, none⟩ = some (.pointer (some ⟨sp, 0, none⟩))) := Lib.hid fun W h => (h.cell (p := ⟨g, 0, none⟩) (World.block_lt_of_cell? w _ k0)).trans k0
  have K1 : Hid (∀ W, Low w.heap.size w W → W.cell? ⟨sp, 0, none⟩ = some (.slice (some ⟨gv, ov, none⟩) nv cv)) := Lib.hid fun W h => (h.cell (p := ⟨sp, 0, none⟩) (World.block_lt_of_cell? w _ k1)).trans k1
  have KR : Hid (∀ W, Low w.heap.size w W → W.rangeAt gv (ov + m * 6) [.int .i64 v.k, .bool v.b, .int .i64 v.n, .string v.t, .string v.x, .slice v.p v.len v.cap]) := Lib.hid fun W h => range_below kr h.is
  have HN := Lib.hid hn
  have hmi : (m : Int) < nv := by omega
  have HW := Lib.hid hW1
  clear hW1 k0 k1 kr hn
  go_enter Tryz.func64, Tryz.ntmps64
  go_upto_region 1 with fail
  rw [← HW.out]
  refine wp_region_held_drew (S := fun W => Low w.heap.size w W) (by kernel_rfl) b0.drew (fun hHeld => ?_)
  refine wpAnyH_take (i := 0) (v := .pointer (some ⟨g, 0, none⟩)) rfl (by kernel_rfl) (by kernel_rfl) (by kernel_rfl) (fun _ _ _ h => h) (Or.inl ⟨by rfl, fun W _ => by go_simp⟩) hHeld ?_
  try simp only [Act.put, List.getElem_toArray, List.getElem_cons_zero, List.setIfInBounds_toArray, List.set_cons_zero, List.set_cons_succ]
  refine wpAnyH_take (i := 1) (v := .pointer (some ⟨g, 0, none⟩)) rfl (by kernel_rfl) (by kernel_rfl) (by kernel_rfl) (fun _ _ _ h => h) (Or.inl ⟨by rfl, fun W _ => by go_simp⟩) hHeld ?_
  try simp only [Act.put, List.getElem_toArray, List.getElem_cons_succ, List.getElem_cons_zero, List.setIfInBounds_toArray, List.set_cons_zero, List.set_cons_succ]
  refine wpAnyH_take (i := 2) (v := .pointer (some ⟨g, 0, none⟩)) rfl (by kernel_rfl) (by kernel_rfl) (by kernel_rfl) (fun _ _ _ h => h) (Or.inl ⟨by rfl, fun W _ => by go_simp⟩) hHeld ?_
  try simp only [Act.put, List.getElem_toArray, List.getElem_cons_succ, List.getElem_cons_zero, List.setIfInBounds_toArray, List.set_cons_zero, List.set_cons_succ]
  refine wpAnyH_take (i := 3) (v := .pointer (some ⟨sp, 0, none⟩)) rfl (by kernel_rfl) (by kernel_rfl) (by kernel_rfl) (fun _ _ _ h => h) (Or.inl ⟨by rfl, fun W h => by have c0 := K0.out W h; go_simp⟩) hHeld ?_
  try simp only [Act.put, List.getElem_toArray, List.getElem_cons_succ, List.getElem_cons_zero, List.setIfInBounds_toArray, List.set_cons_zero, List.set_cons_succ]
  refine wpAnyH_take (i := 4) (v := .pointer (some ⟨sp, 0, none⟩)) rfl (by kernel_rfl) (by kernel_rfl) (by kernel_rfl) (fun _ _ _ h => h) (Or.inl ⟨by rfl, fun W _ => by go_simp⟩) hHeld ?_
  try simp only [Act.put, List.getElem_toArray, List.getElem_cons_succ, List.getElem_cons_zero, List.setIfInBounds_toArray, List.set_cons_zero, List.set_cons_succ]
  refine wpAnyH_take (i := 5) (v := .pointer (some ⟨sp, 0, none⟩)) rfl (by kernel_rfl) (by kernel_rfl) (by kernel_rfl) (fun _ _ _ h => h) (Or.inl ⟨by rfl, fun W _ => by go_simp⟩) hHeld ?_
  try simp only [Act.put, List.getElem_toArray, List.getElem_cons_succ, List.getElem_cons_zero, List.setIfInBounds_toArray, List.set_cons_zero, List.set_cons_succ]
  refine wpAnyH_take (i := 6) (v := .slice (some ⟨gv, ov, none⟩) nv cv) rfl (by kernel_rfl) (by kernel_rfl) (by kernel_rfl) (fun _ _ _ h => h) (Or.inl ⟨by rfl, fun W h => by have c0 := K1.out W h; go_simp⟩) hHeld ?_
  try simp only [Act.put, List.getElem_toArray, List.getElem_cons_succ, List.getElem_cons_zero, List.setIfInBounds_toArray, List.set_cons_zero, List.set_cons_succ]
  refine wpAnyH_take (i := 7) (v := .pointer (some ⟨g, 0, none⟩)) rfl (by kernel_rfl) (by kernel_rfl) (by kernel_rfl) (fun _ _ _ h => h) (Or.inl ⟨by rfl, fun W _ => by go_simp⟩) hHeld ?_
  try simp only [Act.put, List.getElem_toArray, List.getElem_cons_succ, List.getElem_cons_zero, List.setIfInBounds_toArray, List.set_cons_zero, List.set_cons_succ]
  refine wpAnyH_take (i := 8) (v := .int .i64 j) rfl (by kernel_rfl) (by kernel_rfl) (by kernel_rfl) (fun _ _ _ h => h) (Or.inl ⟨by rfl, fun W _ => by go_simp⟩) hHeld ?_
  try simp only [Act.put, List.getElem_toArray, List.getElem_cons_succ, List.getElem_cons_zero, List.setIfInBounds_toArray, List.set_cons_zero, List.set_cons_succ]
  refine wpAnyH_ready (rs := [9]) (by kernel_rfl) (by simp) ?_
  refine AllReadyH.cons rfl (fun K hK => ?_) AllReadyH.nil
  rw [if_pos (by rfl)]
  go_simp
  refine (HN.out _ hHeld).mono ?_
  rintro e0 w3 ⟨rfl, hb3⟩
  have hH2 := low_any hHeld hb3 hHeld.size
  have hS3 := Six.low hS hb3
  clear hb3
  refine hK.out _ _ hH2 (fun hH2 => ?_)
  clear hK K
  try simp only [Act.put, List.getElem_toArray, List.getElem_cons_succ, List.getElem_cons_zero, List.setIfInBounds_toArray, List.set_cons_zero, List.set_cons_succ]
  refine wpAnyH_take (i := 10) (v := .pointer (some ⟨gv, ov + m * 6, none⟩)) rfl (by kernel_rfl) (by kernel_rfl) (by kernel_rfl) (fun _ _ _ h => h) (Or.inl ⟨by rfl, fun W _ => by go_simp⟩) hH2 ?_
  try simp only [Act.put, List.getElem_toArray, List.getElem_cons_succ, List.getElem_cons_zero, List.setIfInBounds_toArray, List.set_cons_zero, List.set_cons_succ]
  refine wpAnyH_take (i := 11) rfl (by kernel_rfl) (by kernel_rfl) (by kernel_rfl) (fun _ _ _ h => h) (yieldsIf_load_mid (by rfl) 39 (.tmp 15) rfl (gv) (ov + m * 6) rfl _ _ (fun w h => KR.out w h) Tryz.underlying39 rfl info28) hH2 ?_
  try simp only [Act.put, List.getElem_toArray, List.getElem_cons_succ, List.getElem_cons_zero, List.setIfInBounds_toArray, List.set_cons_zero, List.set_cons_succ]
  refine wpAnyH_ready (rs := [12]) (by kernel_rfl) (by simp) ?_
  refine AllReadyH.cons rfl (fun K hK => ?_) AllReadyH.nil
  rw [if_pos (by rfl)]
  obtain ⟨hH3, u4⟩ : Low w.heap.size w w3 ∧ Six w3 w.heap.size 0 false 0 ⟨#[]⟩ ⟨#[]⟩ none 0 0 := ⟨hH2, hS3⟩
  have b1 := low_only hH3 (Only.setRow (b := w.heap.size) w3 #[.int .i64 v.k, .bool v.b, .int .i64 v.n, .string v.t, .string v.x, .slice v.p v.len v.cap]) (Nat.le_refl _) hH3.size
  refine wp_store_row 39 (.tmp 4) (.tmp 16) rfl w.heap.size #[.int .i64 v.k, .bool v.b, .int .i64 v.n, .string v.t, .string v.x, .slice v.p v.len v.cap] rfl rfl 39 _ u4 info28 rfl (by simp [Value.oneCell']) ?_
  refine hK.out _ _ b1 (fun _ => ?_)
  have u5 := heap_setRow (w := w3) (g := w.heap.size) (c' := #[.int .i64 v.k, .bool v.b, .int .i64 v.n, .string v.t, .string v.x, .slice v.p v.len v.cap]) u4
  generalize w3.setRow w.heap.size #[.int .i64 v.k, .bool v.b, .int .i64 v.n, .string v.t, .string v.x, .slice v.p v.len v.cap] = w5 at *
  clear hK K
  refine wpAnyH_done (by kernel_rfl) ?_ _
  go_wp2_with fail
  exact bodyPost_ret (v := .agg #[.int .i64 v.k, .bool v.b, .int .i64 v.n, .string v.t, .string v.x, .slice v.p v.len v.cap]) (results_cell_row (p := 4) (ty := 39) Tryz.results64 _ _ w.heap.size 39 _ (0, 0) _ rfl u5 Tryz.underlying39 rfl (by exact info28)) rfl ⟨rfl, b1⟩
theorem valueC {W0 W : World} {s : SM} {g k : Nat} {c : CS} (h : At W0 s W g c k) (ok : SMok s) (h1 : 1 ≤ c.d) (h3 : c.d ≤ 3) (j : Nat) (hj : j < c.n) :
    ∃ v : V6, ∃ q, Is W v (s.vs[s.num k c.lev j]'(s.num_lt ok k c.lev j (by have := h.n; omega))) q ∧
      ∀ W', Low W.heap.size W W' → Calls Tryz.prog 64 #[.pointer (some ⟨g, 0, none⟩), .int .i64 j] W' fun e w' => e = .returned (.agg #[.int .i64 v.k, .bool v.b, .int .i64 v.n, .string v.t, .string v.x, .slice v.p v.len v.cap]) ∧ Low W'.heap.size W' w' := by
  have hm := s.num_lt ok k c.lev j (by have := h.n; omega)
  obtain ⟨pv, pr, cv, cr, pp, cc, k0⟩ := h.S
  have hne : s.vs ≠ [] := by intro e; rw [e] at hm; exact absurd hm (by simp)
  obtain ⟨gv, ov, ev, kv⟩ := (k0.v.below h.b) hne
  have h0 := Holds.at_ s.vs ov kv (s.num k c.lev j) hm
  obtain ⟨v, q, i1, i2⟩ := isOf h0
  refine ⟨v, q, i1, fun W' b => ?_⟩
  have h' := h.low b
  have S' := (h'.b.block _ (lt_of_heap k0.h)).trans k0.h
  refine valueRaw g c.sp gv ov s.vs.length cv j (s.num k c.lev j) v W' hm (h'.B.cell 0 _ rfl) (by rw [← ev]; exact cell_of S' 0 rfl) (range_below i2 b.is) (fun W2 b2 => numC (h'.low b2) ok h1 h3 j hj)
end Go.Proofs.YtanbgdhmfjgihaaGreatDoor
