/- Texts of one kind, one behind the other: each says ahead of itself what it shows. -/
import Derived.Test.YtanbgdhmfjgihaaGreatDoorJau
import Derived.Shelf.SlSortCmp.WholeK
import Derived.Test.YtanbgdhmfjgihaaGreatDoorJap
import Derived.Lib.SlicesCompact
import Derived.Lib.SliceRun
/- What a cursor answers: Open, Next, Seek, Up, Key, by what its store says. -/
namespace Go.Proofs.YtanbgdhmfjgihaaGreatDoor
open Go.RowKit

/-- The parts that an order's levels show. -/
def lev : Nat → Nat × Nat × Nat
  | 0 => (0, 1, 2)
  | 1 => (0, 2, 1)
  | 2 => (1, 0, 2)
  | 3 => (1, 2, 0)
  | 4 => (2, 0, 1)
  | _ => (2, 1, 0)
/-- A store's values rise, each list is sorted by its order's levels. -/
structure SMsort (s : SM) : Prop where
  v : ∀ (i j : Nat) (_ : i < j) (h : j < s.vs.length), orderI 1 (s.vs[i]'(by omega)) s.vs[j] < 0
  m0 : ∀ k, k < 6 → ∀ i j, i ≤ j → j < (s.ls k).length → s.num k (lev k).1 i ≤ s.num k (lev k).1 j
  m1 : ∀ k, k < 6 → ∀ i j, i ≤ j → j < (s.ls k).length → s.num k (lev k).1 i = s.num k (lev k).1 j → s.num k (lev k).2.1 i ≤ s.num k (lev k).2.1 j
  m2 : ∀ k, k < 6 → ∀ i j, i ≤ j → j < (s.ls k).length → s.num k (lev k).1 i = s.num k (lev k).1 j → s.num k (lev k).2.1 i = s.num k (lev k).2.1 j → s.num k (lev k).2.2 i ≤ s.num k (lev k).2.2 j
/-- Where a cursor may stand. -/
structure Fit (s : SM) (k : Nat) (c : CS) : Prop where
  d3 : c.d ≤ 3
  n : c.n = (s.ls k).length
  l0 : c.l0 = (lev k).1
  l1 : c.l1 = (lev k).2.1
  l2 : c.l2 = (lev k).2.2
  f1 : 1 ≤ c.d → c.e0 = c.n ∧ c.a0 ≤ c.e0
  f2 : 2 ≤ c.d → c.a0 < c.e0 ∧ c.e1 = gal (s.same k c.l0 c.a0) c.a0 (c.e0 - c.a0) ∧ c.a0 ≤ c.a1 ∧ c.a1 ≤ c.e1
  f3 : 3 ≤ c.d → c.a1 < c.e1 ∧ c.e2 = gal (s.same k c.l1 c.a1) c.a1 (c.e1 - c.a1) ∧ c.a1 ≤ c.a2 ∧ c.a2 ≤ c.e2
theorem SM.same_is {s : SM} {k v a j : Nat} (h : s.same k v a j = true) : s.num k v j = s.num k v a := by
  unfold SM.same at h; simpa using h
theorem SM.same_of {s : SM} {k v a j : Nat} (h : s.num k v j = s.num k v a) : s.same k v a j = true := by
  unfold SM.same; simpa using h
section
variable {s : SM} {k : Nat} {c : CS}
theorem CS.pos1 (h : c.d = 1) : c.pos = c.a0 ∧ c.fin = c.e0 ∧ c.lev = c.l0 := by unfold CS.pos CS.fin CS.lev; rw [h]; exact ⟨rfl, rfl, rfl⟩
theorem CS.pos2 (h : c.d = 2) : c.pos = c.a1 ∧ c.fin = c.e1 ∧ c.lev = c.l1 := by unfold CS.pos CS.fin CS.lev; rw [h]; exact ⟨rfl, rfl, rfl⟩
theorem CS.pos3 (h : c.d = 3) : c.pos = c.a2 ∧ c.fin = c.e2 ∧ c.lev = c.l2 := by unfold CS.pos CS.fin CS.lev; rw [h]; exact ⟨rfl, rfl, rfl⟩
theorem Fit.e1 (h : Fit s k c) (h2 : 2 ≤ c.d) : c.e1 ≤ c.n := by
  have g1 := (h.f1 (by omega)).1
  have g2 := h.f2 h2
  have := gal_le (s.same k c.l0 c.a0) (c.e0 - c.a0) c.a0
  omega
theorem Fit.e2 (h : Fit s k c) (h3 : 3 ≤ c.d) : c.e2 ≤ c.e1 := by
  have g3 := h.f3 h3
  have := gal_le (s.same k c.l1 c.a1) (c.e1 - c.a1) c.a1
  omega
theorem Fit.in_ (h : Fit s k c) (h1 : 1 ≤ c.d) : c.pos ≤ c.fin ∧ c.fin ≤ c.n := by
  have hd := h.d3
  have g1 := h.f1 h1
  obtain e | e | e : c.d = 1 ∨ c.d = 2 ∨ c.d = 3 := by omega
  · obtain ⟨p, f, _⟩ := CS.pos1 e
    rw [p, f]; omega
  · obtain ⟨p, f, _⟩ := CS.pos2 e
    have := h.e1 (by omega)
    have := h.f2 (by omega)
    rw [p, f]; omega
  · obtain ⟨p, f, _⟩ := CS.pos3 e
    have := h.e1 (by omega)
    have := h.e2 (by omega)
    have := h.f3 (by omega)
    rw [p, f]; omega
theorem Fit.rise (h : Fit s k c) (so : SMsort s) (hk : k < 6) (h1 : 1 ≤ c.d) (i j : Nat) (hi : c.pos ≤ i) (hij : i ≤ j) (hj : j < c.fin) : s.num k c.lev i ≤ s.num k c.lev j := by
  have hd := h.d3
  have hn := h.n
  have g1 := h.f1 h1
  obtain e | e | e : c.d = 1 ∨ c.d = 2 ∨ c.d = 3 := by omega
  · obtain ⟨p, f, l⟩ := CS.pos1 e
    rw [l, h.l0]
    rw [f] at hj
    exact so.m0 k hk i j hij (by omega)
  · obtain ⟨p, f, l⟩ := CS.pos2 e
    have q2 := h.f2 (by omega)
    have := h.e1 (by omega)
    rw [f] at hj
    rw [p] at hi
    have s1 := SM.same_is (gal_yes (s.same k c.l0 c.a0) (c.e0 - c.a0) c.a0 i (by omega) (by omega))
    have s2 := SM.same_is (gal_yes (s.same k c.l0 c.a0) (c.e0 - c.a0) c.a0 j (by omega) (by omega))
    rw [h.l0] at s1 s2
    rw [l, h.l1]
    exact so.m1 k hk i j hij (by omega) (s1.trans s2.symm)
  · obtain ⟨p, f, l⟩ := CS.pos3 e
    have q2 := h.f2 (by omega)
    have q3 := h.f3 (by omega)
    have := h.e1 (by omega)
    have := h.e2 (by omega)
    rw [f] at hj
    rw [p] at hi
    have s1 := SM.same_is (gal_yes (s.same k c.l0 c.a0) (c.e0 - c.a0) c.a0 i (by omega) (by omega))
    have s2 := SM.same_is (gal_yes (s.same k c.l0 c.a0) (c.e0 - c.a0) c.a0 j (by omega) (by omega))
    have s3 := SM.same_is (gal_yes (s.same k c.l1 c.a1) (c.e1 - c.a1) c.a1 i (by omega) (by omega))
    have s4 := SM.same_is (gal_yes (s.same k c.l1 c.a1) (c.e1 - c.a1) c.a1 j (by omega) (by omega))
    rw [h.l0] at s1 s2
    rw [h.l1] at s3 s4
    rw [l, h.l2]
    exact so.m2 k hk i j hij (by omega) (s1.trans s2.symm) (s3.trans s4.symm)
theorem Fit.up (h : Fit s k c) : Fit s k c.up :=
  ⟨Nat.le_trans (Nat.sub_le _ _) h.d3, h.n, h.l0, h.l1, h.l2, fun q => h.f1 (Nat.le_trans q (Nat.sub_le _ _)), fun q => h.f2 (Nat.le_trans q (Nat.sub_le _ _)), fun q => h.f3 (Nat.le_trans q (Nat.sub_le _ _))⟩
theorem Fit.go (h : Fit s k c) (h1 : 1 ≤ c.d) (x : Nat) (hx : c.pos ≤ x) (hf : x ≤ c.fin) : Fit s k (c.go x) := by
  have hd := h.d3
  obtain ⟨sp, pl, n, cl, l0, l1, l2, a0, e0, a1, e1, a2, e2, d⟩ := c
  obtain ⟨_, hn, m0, m1, m2, f1, f2, f3⟩ := h
  simp only at hd h1 hn m0 m1 m2 f1 f2 f3
  obtain rfl | rfl | rfl : d = 1 ∨ d = 2 ∨ d = 3 := by omega
  · have hx' : a0 ≤ x := hx
    have hf' : x ≤ e0 := hf
    exact ⟨hd, hn, m0, m1, m2, fun _ => ⟨(f1 (by omega)).1, hf'⟩, fun q => absurd q (by show ¬ 2 ≤ 1; omega), fun q => absurd q (by show ¬ 3 ≤ 1; omega)⟩
  · have hx' : a1 ≤ x := hx
    have hf' : x ≤ e1 := hf
    have := f2 (by omega)
    exact ⟨hd, hn, m0, m1, m2, fun _ => f1 (by omega), fun _ => ⟨this.1, this.2.1, by show a0 ≤ x; omega, hf'⟩, fun q => absurd q (by show ¬ 3 ≤ 2; omega)⟩
  · have hx' : a2 ≤ x := hx
    have hf' : x ≤ e2 := hf
    have := f3 (by omega)
    exact ⟨hd, hn, m0, m1, m2, fun _ => f1 (by omega), fun _ => f2 (by omega), fun _ => ⟨this.1, this.2.1, by show a1 ≤ x; omega, hf'⟩⟩
def CS.on (c : CS) : Bool := decide (1 ≤ c.d) && decide (c.pos < c.fin)
theorem CS.on_is (h : c.on = true) : 1 ≤ c.d ∧ c.pos < c.fin := by
  unfold CS.on at h; simpa using h
theorem CS.on_of (h1 : 1 ≤ c.d) (h2 : c.pos < c.fin) : c.on = true := by
  unfold CS.on; simp [h1, h2]
def CS.next (c : CS) (s : SM) (k : Nat) : CS := if c.on then c.go (c.bot s k) else c
def CS.ahead (c : CS) (s : SM) (k : Nat) (u : Val) : Nat := gal (s.less u k c.lev) c.pos (c.fin - c.pos)
def CS.lo (c : CS) : Nat := if c.d = 0 then 0 else c.pos
def CS.hi (c : CS) (s : SM) (k : Nat) : Nat := if c.d = 0 then c.n else c.bot s k
def CS.opens (c : CS) (s : SM) (k : Nat) : Bool := decide (c.d < 3) && decide (c.lo < c.hi s k)
def CS.opn (c : CS) (s : SM) (k : Nat) : CS := if c.opens s k then c.down c.lo (c.hi s k) else c
theorem CS.bot_in (c : CS) (s : SM) (k : Nat) (h : c.pos ≤ c.fin) : c.pos ≤ c.bot s k ∧ c.bot s k ≤ c.fin := by
  have g1 := gal_ge (s.same k c.lev c.pos) (c.fin - c.pos) c.pos
  have g2 := gal_le (s.same k c.lev c.pos) (c.fin - c.pos) c.pos
  unfold CS.bot
  omega
theorem Fit.next (h : Fit s k c) : Fit s k (c.next s k) := by
  unfold CS.next
  split
  · rename_i q
    obtain ⟨q1, q2⟩ := CS.on_is q
    obtain ⟨b1, b2⟩ := c.bot_in s k (by omega)
    exact h.go q1 _ b1 b2
  · exact h
theorem Fit.opn (h : Fit s k c) : Fit s k (c.opn s k) := by
  unfold CS.opn
  split
  · rename_i q
    have q' : c.d < 3 ∧ c.lo < c.hi s k := by unfold CS.opens at q; simpa using q
    obtain ⟨q1, q2⟩ := q'
    have hf := h.f1
    have hf2 := h.f2
    obtain ⟨sp, pl, n, cl, l0, l1, l2, a0, e0, a1, e1, a2, e2, d⟩ := c
    obtain ⟨_, hn, m0, m1, m2, f1, f2, f3⟩ := h
    simp only at q1 hn m0 m1 m2 f1 f2 f3
    obtain rfl | rfl | rfl : d = 0 ∨ d = 1 ∨ d = 2 := by omega
    · exact ⟨by show 1 ≤ 3; omega, hn, m0, m1, m2, fun _ => ⟨rfl, Nat.zero_le _⟩, fun q => absurd q (by show ¬ 2 ≤ 1; omega), fun q => absurd q (by show ¬ 3 ≤ 1; omega)⟩
    · have z := f1 (by omega)
      have g2 := gal_le (s.same k l0 a0) (e0 - a0) a0
      have q3 : a0 < gal (s.same k l0 a0) a0 (e0 - a0) := q2
      exact ⟨by show 2 ≤ 3; omega, hn, m0, m1, m2, fun _ => z, fun _ => ⟨by show a0 < e0; omega, rfl, Nat.le_refl _, Nat.le_of_lt q3⟩, fun q => absurd q (by show ¬ 3 ≤ 2; omega)⟩
    · have z := f2 (by omega)
      have g2 := gal_le (s.same k l1 a1) (e1 - a1) a1
      have q3 : a1 < gal (s.same k l1 a1) a1 (e1 - a1) := q2
      exact ⟨by show 3 ≤ 3; omega, hn, m0, m1, m2, fun _ => f1 (by omega), fun _ => z, fun _ => ⟨by show a1 < e1; omega, rfl, Nat.le_refl _, Nat.le_of_lt q3⟩⟩
  · exact h
theorem Fit.same_mono (h : Fit s k c) (so : SMsort s) (hk : k < 6) (h1 : 1 ≤ c.d) : ∀ i j, c.pos ≤ i → i ≤ j → j < c.fin → s.same k c.lev c.pos j = true → s.same k c.lev c.pos i = true := fun i j hi hij hj q => by
  have e := SM.same_is q
  have r1 := h.rise so hk h1 c.pos i (Nat.le_refl _) hi (by omega)
  have r2 := h.rise so hk h1 i j hi hij hj
  exact SM.same_of (by omega)
end

/-- What every call at a cursor wants. -/
structure Stand (W0 : World) (s : SM) (W : World) (g : Nat) (c : CS) (k : Nat) : Prop where
  at_ : At W0 s W g c k
  fit : Fit s k c
  ok : SMok s
  so : SMsort s
  hk : k < 6
section
variable {W0 W : World} {s : SM} {g k : Nat} {c : CS}
theorem Stand.bel {W' : World} (h : Stand W0 s W g c k) (b : Below W.heap.size W W') : Stand W0 s W' g c k := ⟨h.at_.bel b, h.fit, h.ok, h.so, h.hk⟩
theorem Stand.off (h : Stand W0 s W g c k) (q : c.on = false) : ∀ W', Low W.heap.size W W' → Calls Tryz.prog 62 #[.pointer (some ⟨g, 0, none⟩)] W' fun e w' => e = .returned (.bool false) ∧ Low W'.heap.size W' w' := fun W' b => by
  have := atValueC (h.at_.low b) h.fit.d3
  rwa [show (decide (1 ≤ c.d) && decide (c.pos < c.fin)) = false from q] at this
theorem Stand.onC (h : Stand W0 s W g c k) (q : c.on = true) : ∀ W', Low W.heap.size W W' → Calls Tryz.prog 62 #[.pointer (some ⟨g, 0, none⟩)] W' fun e w' => e = .returned (.bool true) ∧ Low W'.heap.size W' w' := fun W' b => by
  have := atValueC (h.at_.low b) h.fit.d3
  rwa [show (decide (1 ≤ c.d) && decide (c.pos < c.fin)) = true from q] at this
theorem passC (h : Stand W0 s W g c k) (q : c.on = true) (fn : Nat) (b0 : Value) (eg : ∀ args w, (callFunc fn args).run Tryz.prog w = .ok (.enter fn args) w) (p : Nat → Bool)
    (mono : ∀ i j, c.pos ≤ i → i ≤ j → j < c.fin → p j = true → p i = true)
    (hf : ∀ W', Low W.heap.size W W' → ∀ j : Nat, c.pos ≤ j → j < c.fin → Calls Tryz.prog fn #[b0, .int .i64 j] W' fun x w' => x = .returned (.bool (p j)) ∧ Low W'.heap.size W' w') :
    Calls Tryz.prog 58 #[.pointer (some ⟨g, 0, none⟩), .func (.func fn) #[b0] #[]] W fun e w' => e = .returned (.bool (c.go (gal p c.pos (c.fin - c.pos))).on) ∧ Only g W w' ∧ Cur w' g (c.go (gal p c.pos (c.fin - c.pos))) := by
  obtain ⟨h1, hpf⟩ := CS.on_is q
  have hd := h.fit.d3
  have hin := h.fit.in_ h1
  have hnl := h.ok.nl k
  have hn := h.fit.n
  have g1 := gal_ge p (c.fin - c.pos) c.pos
  have g2 := gal_le p (c.fin - c.pos) c.pos
  have H1 := h.onC q W (Low.refl _ _)
  have H2 := fun W' (b : Low W.heap.size W W') => hereC (h.at_.low b) h1 hd
  have H3 := fun W' (b : Low W.heap.size W W') => gallopAt fn b0 eg c.pos c.fin p W' (by omega) mono (fun W2 b2 => hf W2 (low_any b b2 b.size))
  have H4 : ∀ W', Only g W W' → Cur W' g (c.go (gal p c.pos (c.fin - c.pos))) → Calls Tryz.prog 62 #[.pointer (some ⟨g, 0, none⟩)] W' fun e w' => e = .returned (.bool (c.go (gal p c.pos (c.fin - c.pos))).on) ∧ Low W'.heap.size W' w' :=
    fun W' b B => atValueC (h.at_.only (c.go_alike _) b B) (by rw [CS.go_d]; exact hd)
  have B := h.at_.B
  generalize gal p c.pos (c.fin - c.pos) = r at *
  clear hf mono h q
  obtain ⟨sp, pl, n, cl, l0, l1, l2, a0, e0, a1, e1, a2, e2, d⟩ := c
  simp only at h1 hd
  obtain rfl | rfl | rfl : d = 1 ∨ d = 2 ∨ d = 3 := by omega
  · exact passGo1 g _ a0 e0 r _ _ _ W B rfl rfl rfl rfl H1 H2 H3 H4
  · exact passGo2 g _ a1 e1 r _ _ _ W B rfl rfl rfl rfl H1 H2 H3 H4
  · exact passGo3 g _ a2 e2 r _ _ _ W B rfl rfl rfl rfl H1 H2 H3 H4
set_option maxHeartbeats 800000 in
theorem nextC (h : Stand W0 s W g c k) : Calls Tryz.prog 26 #[.pointer (some ⟨g, 0, none⟩)] W fun e w' => e = .returned (.bool (c.next s k).on) ∧ Only g W w' ∧ Cur w' g (c.next s k) := by
  have hc : Calls Tryz.prog 58 #[.pointer (some ⟨g, 0, none⟩), .func (.func 59) #[.pointer (some ⟨g, 0, none⟩)] #[]] W fun e w' => e = .returned (.bool (c.next s k).on) ∧ Only g W w' ∧ Cur w' g (c.next s k) := by
    cases q : c.on with
    | false =>
      have e : c.next s k = c := by unfold CS.next; rw [if_neg (by rw [q]; exact Bool.false_ne_true)]
      rw [e, q]
      exact (passNo (h.off q W (Low.refl _ _))).mono fun e w' hh => ⟨hh.1, Only.of_low hh.2, h.at_.B.low hh.2⟩
    | true =>
      have e : c.next s k = c.go (c.bot s k) := by unfold CS.next; rw [if_pos q]
      rw [e]
      obtain ⟨h1, hpf⟩ := CS.on_is q
      have hin := h.fit.in_ h1
      exact passC h q 59 _ eg59 (s.same k c.lev c.pos) (h.fit.same_mono h.so h.hk h1) (fun W' b j hj hj2 => holdsC (h.at_.low b) h.ok h1 h.fit.d3 j (by omega) (by omega))
  have HC := Lib.hid hc
  clear hc h
  go_enter Tryz.func26, Tryz.ntmps26
  go_wp2_with (go_at_call 58; (with_reducible refine HC.out.mono ?_); rintro e w3 ⟨rfl, hb3⟩)
  go_ret
  exact ⟨rfl, hb3⟩
end
end Go.Proofs.YtanbgdhmfjgihaaGreatDoor

/- Seek, Open, Key, by what the store says. -/
namespace Go.Proofs.YtanbgdhmfjgihaaGreatDoor
open Go.RowKit

section
variable {W0 W : World} {s : SM} {g k : Nat} {c : CS}
theorem Stand.below (h : Stand W0 s W g c k) : Calls Tryz.prog 55 #[.pointer (some ⟨g, 0, none⟩)] W fun e w' => e = .returned (.agg #[.int .i64 c.lo, .int .i64 (c.hi s k)]) ∧ Low W.heap.size W w' := by
  by_cases h0 : c.d = 0
  · unfold CS.lo CS.hi
    rw [if_pos h0, if_pos h0]
    exact belowTop h.at_.B h0
  · unfold CS.lo CS.hi
    rw [if_neg h0, if_neg h0]
    exact belowC h.at_ h.ok (by omega) h.fit.d3 (h.fit.in_ (by omega)).2 (h.fit.same_mono h.so h.hk (by omega))
theorem openC (h : Stand W0 s W g c k) : Calls Tryz.prog 22 #[.pointer (some ⟨g, 0, none⟩)] W fun e w' => e = .returned (.bool (c.opens s k)) ∧ Only g W w' ∧ Cur w' g (c.opn s k) := by
  have hd := h.fit.d3
  have B := h.at_.B
  by_cases e3 : c.d = 3
  · have e : c.opens s k = false := by unfold CS.opens; rw [decide_eq_false (by omega), Bool.false_and]
    have e2 : c.opn s k = c := by unfold CS.opn; rw [if_neg (by rw [e]; exact Bool.false_ne_true)]
    rw [e, e2]
    have c11 := B.c11
    rw [e3] at c11
    exact (openFull g W c11).mono fun e w' hh => ⟨hh.1, Only.of_low hh.2, B.low hh.2⟩
  · by_cases hlt : c.lo < c.hi s k
    · have e : c.opens s k = true := by unfold CS.opens; rw [decide_eq_true (by omega), decide_eq_true hlt]; rfl
      have e2 : c.opn s k = c.down c.lo (c.hi s k) := by unfold CS.opn; rw [if_pos e]
      rw [e, e2]
      have hb := h.below
      generalize c.hi s k = hi at *
      generalize hlo : c.lo = lo at *
      clear h hlo
      obtain ⟨sp, pl, n, cl, l0, l1, l2, a0, e0, a1, e1, a2, e2, d⟩ := c
      simp only at hd e3
      obtain rfl | rfl | rfl : d = 0 ∨ d = 1 ∨ d = 2 := by omega
      · exact openGo0 g lo hi _ _ W hlt B rfl ⟨_, rfl⟩ ⟨_, rfl⟩ rfl rfl hb
      · exact openGo1 g lo hi _ _ W hlt B rfl ⟨_, rfl⟩ ⟨_, rfl⟩ rfl rfl hb
      · exact openGo2 g lo hi _ _ W hlt B rfl ⟨_, rfl⟩ ⟨_, rfl⟩ rfl rfl hb
    · have e : c.opens s k = false := by unfold CS.opens; rw [decide_eq_false hlt, Bool.and_false]
      have e2 : c.opn s k = c := by unfold CS.opn; rw [if_neg (by rw [e]; exact Bool.false_ne_true)]
      rw [e, e2]
      exact (openNo g c.lo (c.hi s k) c.d W hlt B.c11 (by simp; omega) h.below).mono fun e w' hh => ⟨hh.1, Only.of_low hh.2, B.low hh.2⟩
/-- The value at which a cursor stands. -/
def CS.val (c : CS) (s : SM) (k : Nat) : Val := (s.vs[s.num k c.lev c.pos]?).getD (.mk 0 false 0 ⟨#[]⟩ ⟨#[]⟩ [])
theorem keyC (h : Stand W0 s W g c k) (q : c.on = true) : Calls Tryz.prog 30 #[.pointer (some ⟨g, 0, none⟩)] W fun e w' =>
    (∃ kk b n t x l, c.val s k = .mk kk b n t x l ∧ Fine n t x l.length ∧ e = .returned (.tuple #[.agg #[.int .i64 kk, .bool b, .int .i64 n, .string t, .string x, .slice none 0 0], .bool true])) ∧ Below W.heap.size W w' := by
  obtain ⟨h1, hpf⟩ := CS.on_is q
  have hin := h.fit.in_ h1
  have hn := h.fit.n
  have hm := s.num_lt h.ok k c.lev c.pos (by omega)
  obtain ⟨v, l, i1, hv⟩ := valueC h.at_ h.ok h1 h.fit.d3 c.pos (by omega)
  have hval : c.val s k = s.vs[s.num k c.lev c.pos] := by unfold CS.val; rw [List.getElem?_eq_getElem hm, Option.getD_some]
  have hz : (W.alloc (.cells #[.int .i64 0, .bool false, .int .i64 0, .string ⟨#[]⟩, .string ⟨#[]⟩, .slice none 0 0] 39)).heap.size = W.heap.size + 1 := by simp
  have h62 := h.onC q _ (low1 W (.cells #[.int .i64 0, .bool false, .int .i64 0, .string ⟨#[]⟩, .string ⟨#[]⟩, .slice none 0 0] 39))
  rw [hz] at h62
  refine (keyGo g c.pos c.fin v W (by have := i1.hf.ht; omega) (by have := i1.hf.hx; omega) h62 (fun W' b => hereC (h.at_.low b) h1 h.fit.d3) (fun W' b => hv W' b)).mono ?_
  rintro e w' ⟨rfl, hb⟩
  exact ⟨⟨v.k, v.b, v.n, v.t, v.x, l, by rw [hval]; exact i1.e, i1.hf, rfl⟩, hb⟩
theorem keyOff (h : Stand W0 s W g c k) (q : c.on = false) : Calls Tryz.prog 30 #[.pointer (some ⟨g, 0, none⟩)] W fun e w' => e = .returned (.tuple #[.agg #[.int .i64 0, .bool false, .int .i64 0, .string ⟨#[]⟩, .string ⟨#[]⟩, .slice none 0 0], .bool false]) ∧ Below W.heap.size W w' := by
  have hz : (W.alloc (.cells #[.int .i64 0, .bool false, .int .i64 0, .string ⟨#[]⟩, .string ⟨#[]⟩, .slice none 0 0] 39)).heap.size = W.heap.size + 1 := by simp
  have h62 := h.off q _ (low1 W (.cells #[.int .i64 0, .bool false, .int .i64 0, .string ⟨#[]⟩, .string ⟨#[]⟩, .slice none 0 0] 39))
  rw [hz] at h62
  exact keyNo g W h62
end
end Go.Proofs.YtanbgdhmfjgihaaGreatDoor

/- Values and rows sorted by the library's slices.SortFunc: its contract laid at this seat, what it asks of the comparison paid. -/
namespace Go.Proofs
open Go.Shelf
def Tryz.sortV_ren : Go.Shelf.Ren := ⟨fun | 6 => 73 | 15 => 101 | 14 => 100 | 28 => 134 | 29 => 135 | 20 => 126 | 21 => 127 | 22 => 128 | 23 => 129 | 24 => 130 | 25 => 131 | 26 => 132 | 27 => 133 | 46 => 160 | 47 => 161 | 48 => 162 | 49 => 163 | 50 => 164 | 57 => 180 | n => n, fun | 22 => 37 | 24 => 39 | 25 => 112 | 3 => 3 | 39 => 139 | 0 => 0 | 53 => 174 | 55 => 176 | 4 => 4 | 46 => 168 | 45 => 167 | 50 => 87 | 5 => 5 | 9 => 9 | 66 => 193 | 70 => 197 | 76 => 209 | 77 => 210 | n => n, fun | n => n⟩
theorem Tryz.sortV : Go.Proofs.SlLaysF0.n6 Tryz.prog Tryz.sortV_ren := {
  mixed := by kernel_rfl
  f6 := ⟨Tryz.f73.name, by decide, Tryz.func73.trans (congrArg some (by kernel_rfl))⟩
  f14 := ⟨Tryz.f100.name, by decide, Tryz.func100.trans (congrArg some (by kernel_rfl))⟩
  f15 := Tryz.func101.trans (congrArg some (by kernel_rfl))
  f20 := ⟨Tryz.f126.name, by decide, Tryz.func126.trans (congrArg some (by kernel_rfl))⟩
  f21 := ⟨Tryz.f127.name, by decide, Tryz.func127.trans (congrArg some (by kernel_rfl))⟩
  f22 := ⟨Tryz.f128.name, by decide, Tryz.func128.trans (congrArg some (by kernel_rfl))⟩
  f23 := ⟨Tryz.f129.name, by decide, Tryz.func129.trans (congrArg some (by kernel_rfl))⟩
  f24 := ⟨Tryz.f130.name, by decide, Tryz.func130.trans (congrArg some (by kernel_rfl))⟩
  f25 := ⟨Tryz.f131.name, by decide, Tryz.func131.trans (congrArg some (by kernel_rfl))⟩
  f26 := ⟨Tryz.f132.name, by decide, Tryz.func132.trans (congrArg some (by kernel_rfl))⟩
  f27 := ⟨Tryz.f133.name, by decide, Tryz.func133.trans (congrArg some (by kernel_rfl))⟩
  f28 := Tryz.func134.trans (congrArg some (by kernel_rfl))
  f29 := Tryz.func135.trans (congrArg some (by kernel_rfl))
  f46 := ⟨Tryz.f160.name, by decide, Tryz.func160.trans (congrArg some (by kernel_rfl))⟩
  f47 := Tryz.func161.trans (congrArg some (by kernel_rfl))
  f48 := Tryz.func162.trans (congrArg some (by kernel_rfl))
  f49 := ⟨Tryz.f163.name, by decide, Tryz.func163.trans (congrArg some (by kernel_rfl))⟩
  f50 := ⟨Tryz.f164.name, by decide, Tryz.func164.trans (congrArg some (by kernel_rfl))⟩
  f57 := ⟨Tryz.f180.name, by decide, Tryz.func180.trans (congrArg some (by kernel_rfl))⟩
  t0 := Tryz.underlying0
  a0 := Tryz.isAgg0
  z0 := Tryz.sizeOf0
  v0 := Tryz.zeroValue0
  t3 := Tryz.underlying3
  a3 := Tryz.isAgg3
  z3 := Tryz.sizeOf3
  v3 := Tryz.zeroValue3
  t4 := Tryz.underlying4
  a4 := Tryz.isAgg4
  z4 := Tryz.sizeOf4
  v4 := Tryz.zeroValue4
  t5 := Tryz.underlying5
  a5 := Tryz.isAgg5
  z5 := Tryz.sizeOf5
  v5 := Tryz.zeroValue5
  t9 := Tryz.underlying9
  a9 := Tryz.isAgg9
  z9 := Tryz.sizeOf9
  v9 := Tryz.zeroValue9
  t22 := Tryz.underlying37
  a22 := Tryz.isAgg37
  z22 := Tryz.sizeOf37
  v22 := Tryz.zeroValue37
  t25 := Tryz.underlying112
  a25 := Tryz.isAgg112
  z25 := Tryz.sizeOf112
  v25 := Tryz.zeroValue112
  t39 := Tryz.underlying139
  a39 := Tryz.isAgg139
  z39 := Tryz.sizeOf139
  v39 := Tryz.zeroValue139
  t45 := Tryz.underlying167
  a45 := Tryz.isAgg167
  z45 := Tryz.sizeOf167
  v45 := Tryz.zeroValue167
  t46 := Tryz.underlying168
  a46 := Tryz.isAgg168
  z46 := Tryz.sizeOf168
  v46 := Tryz.zeroValue168
  t50 := Tryz.underlying87
  a50 := Tryz.isAgg87
  z50 := Tryz.sizeOf87
  v50 := Tryz.zeroValue87
  t53 := Tryz.underlying174
  a53 := Tryz.isAgg174
  z53 := Tryz.sizeOf174
  v53 := Tryz.zeroValue174
  t55 := Tryz.underlying176
  a55 := Tryz.isAgg176
  z55 := Tryz.sizeOf176
  v55 := Tryz.zeroValue176
  t66 := Tryz.underlying193
  a66 := Tryz.isAgg193
  z66 := Tryz.sizeOf193
  v66 := Tryz.zeroValue193
  t70 := Tryz.underlying197
  a70 := Tryz.isAgg197
  z70 := Tryz.sizeOf197
  v70 := Tryz.zeroValue197
  t76 := Tryz.underlying209
  a76 := Tryz.isAgg209
  z76 := Tryz.sizeOf209
  v76 := Tryz.zeroValue209
  t77 := Tryz.underlying210
  a77 := Tryz.isAgg210
  z77 := Tryz.sizeOf210
  v77 := Tryz.zeroValue210 }
def Tryz.sortR_ren : Go.Shelf.Ren := ⟨fun | 6 => 79 | 15 => 101 | 14 => 104 | 28 => 134 | 29 => 135 | 20 => 138 | 21 => 139 | 22 => 140 | 23 => 141 | 24 => 142 | 25 => 143 | 26 => 144 | 27 => 145 | 46 => 172 | 47 => 161 | 48 => 162 | 49 => 173 | 50 => 174 | 57 => 185 | n => n, fun | 22 => 71 | 24 => 81 | 25 => 118 | 3 => 3 | 39 => 139 | 0 => 0 | 53 => 174 | 55 => 176 | 4 => 4 | 46 => 168 | 45 => 167 | 50 => 87 | 5 => 5 | 9 => 9 | 66 => 193 | 70 => 197 | 76 => 209 | 77 => 210 | n => n, fun | n => n⟩
theorem Tryz.sortR : Go.Proofs.SlLaysF0.n6 Tryz.prog Tryz.sortR_ren := {
  mixed := by kernel_rfl
  f6 := ⟨Tryz.f79.name, by decide, Tryz.func79.trans (congrArg some (by kernel_rfl))⟩
  f14 := ⟨Tryz.f104.name, by decide, Tryz.func104.trans (congrArg some (by kernel_rfl))⟩
  f15 := Tryz.func101.trans (congrArg some (by kernel_rfl))
  f20 := ⟨Tryz.f138.name, by decide, Tryz.func138.trans (congrArg some (by kernel_rfl))⟩
  f21 := ⟨Tryz.f139.name, by decide, Tryz.func139.trans (congrArg some (by kernel_rfl))⟩
  f22 := ⟨Tryz.f140.name, by decide, Tryz.func140.trans (congrArg some (by kernel_rfl))⟩
  f23 := ⟨Tryz.f141.name, by decide, Tryz.func141.trans (congrArg some (by kernel_rfl))⟩
  f24 := ⟨Tryz.f142.name, by decide, Tryz.func142.trans (congrArg some (by kernel_rfl))⟩
  f25 := ⟨Tryz.f143.name, by decide, Tryz.func143.trans (congrArg some (by kernel_rfl))⟩
  f26 := ⟨Tryz.f144.name, by decide, Tryz.func144.trans (congrArg some (by kernel_rfl))⟩
  f27 := ⟨Tryz.f145.name, by decide, Tryz.func145.trans (congrArg some (by kernel_rfl))⟩
  f28 := Tryz.func134.trans (congrArg some (by kernel_rfl))
  f29 := Tryz.func135.trans (congrArg some (by kernel_rfl))
  f46 := ⟨Tryz.f172.name, by decide, Tryz.func172.trans (congrArg some (by kernel_rfl))⟩
  f47 := Tryz.func161.trans (congrArg some (by kernel_rfl))
  f48 := Tryz.func162.trans (congrArg some (by kernel_rfl))
  f49 := ⟨Tryz.f173.name, by decide, Tryz.func173.trans (congrArg some (by kernel_rfl))⟩
  f50 := ⟨Tryz.f174.name, by decide, Tryz.func174.trans (congrArg some (by kernel_rfl))⟩
  f57 := ⟨Tryz.f185.name, by decide, Tryz.func185.trans (congrArg some (by kernel_rfl))⟩
  t0 := Tryz.underlying0
  a0 := Tryz.isAgg0
  z0 := Tryz.sizeOf0
  v0 := Tryz.zeroValue0
  t3 := Tryz.underlying3
  a3 := Tryz.isAgg3
  z3 := Tryz.sizeOf3
  v3 := Tryz.zeroValue3
  t4 := Tryz.underlying4
  a4 := Tryz.isAgg4
  z4 := Tryz.sizeOf4
  v4 := Tryz.zeroValue4
  t5 := Tryz.underlying5
  a5 := Tryz.isAgg5
  z5 := Tryz.sizeOf5
  v5 := Tryz.zeroValue5
  t9 := Tryz.underlying9
  a9 := Tryz.isAgg9
  z9 := Tryz.sizeOf9
  v9 := Tryz.zeroValue9
  t22 := Tryz.underlying71
  a22 := Tryz.isAgg71
  z22 := Tryz.sizeOf71
  v22 := Tryz.zeroValue71
  t25 := Tryz.underlying118
  a25 := Tryz.isAgg118
  z25 := Tryz.sizeOf118
  v25 := Tryz.zeroValue118
  t39 := Tryz.underlying139
  a39 := Tryz.isAgg139
  z39 := Tryz.sizeOf139
  v39 := Tryz.zeroValue139
  t45 := Tryz.underlying167
  a45 := Tryz.isAgg167
  z45 := Tryz.sizeOf167
  v45 := Tryz.zeroValue167
  t46 := Tryz.underlying168
  a46 := Tryz.isAgg168
  z46 := Tryz.sizeOf168
  v46 := Tryz.zeroValue168
  t50 := Tryz.underlying87
  a50 := Tryz.isAgg87
  z50 := Tryz.sizeOf87
  v50 := Tryz.zeroValue87
  t53 := Tryz.underlying174
  a53 := Tryz.isAgg174
  z53 := Tryz.sizeOf174
  v53 := Tryz.zeroValue174
  t55 := Tryz.underlying176
  a55 := Tryz.isAgg176
  z55 := Tryz.sizeOf176
  v55 := Tryz.zeroValue176
  t66 := Tryz.underlying193
  a66 := Tryz.isAgg193
  z66 := Tryz.sizeOf193
  v66 := Tryz.zeroValue193
  t70 := Tryz.underlying197
  a70 := Tryz.isAgg197
  z70 := Tryz.sizeOf197
  v70 := Tryz.zeroValue197
  t76 := Tryz.underlying209
  a76 := Tryz.isAgg209
  z76 := Tryz.sizeOf209
  v76 := Tryz.zeroValue209
  t77 := Tryz.underlying210
  a77 := Tryz.isAgg210
  z77 := Tryz.sizeOf210
  v77 := Tryz.zeroValue210 }
namespace YtanbgdhmfjgihaaGreatDoor
open Go.RowKit

theorem only_sort {α : Type} [Inhabited α] (enc : α → List Value) (k : Nat) (w : World) (blk off m : Nat) (dk : Array α) (os : Array Obj) : Only blk w (sortWorldK enc k w blk off m dk os) := by
  refine ⟨rfl, rfl, rfl, ?_, fun i hi e => ?_, Nat.le_add_right _ _⟩
  · show w.heap.size ≤ ((w.heap.modify blk _) ++ os).size
    rw [Array.size_append, Array.size_modify]
    exact Nat.le_add_right _ _
  · show ((w.heap.modify blk _) ++ os)[i]? = _
    rw [Array.getElem?_append_left (by rw [Array.size_modify]; exact hi), Array.getElem?_modify, if_neg (by omega)]

/-- A value without a list: what a triple is made of. -/
structure VE where
  v : V6
  h0 : v.len = 0
  hf : Fine v.n v.t v.x 0
def VE.val (e : VE) : Val := .mk e.v.k e.v.b e.v.n e.v.t e.v.x []
def VE.enc (e : VE) : List Value := [.int .i64 e.v.k, .bool e.v.b, .int .i64 e.v.n, .string e.v.t, .string e.v.x, .slice e.v.p e.v.len e.v.cap]
def VE.cf (a b : VE) : Int := orderI 1 a.val b.val
instance : Inhabited VE := ⟨⟨⟨0, false, 0, ⟨#[]⟩, ⟨#[]⟩, none, 0, 0⟩, rfl, by constructor <;> decide⟩⟩
theorem VE.one (e : VE) : ∀ v ∈ e.enc, v.oneCell' = true := by
  intro v hv
  simp only [VE.enc, List.mem_cons, List.mem_nil_iff, or_false] at hv
  rcases hv with rfl | rfl | rfl | rfl | rfl | rfl <;> rfl
theorem swoV : Go.Sort.SWO (ltOf VE.cf) where
  irrefl x := decide_eq_false (by
    have h := orderI_neg 1 x.val x.val
    show ¬ orderI 1 x.val x.val < 0
    omega)
  trans x y z h1 h2 := decide_eq_true (by
    have g1 : orderI 1 x.val y.val < 0 := of_decide_eq_true h1
    have g2 : orderI 1 y.val z.val < 0 := of_decide_eq_true h2
    exact (orderI_tri 1 x.val y.val z.val).lt g1 (Int.le_of_lt g2))
  ntrans x y z h1 h2 := decide_eq_false (by
    have g1 : ¬ orderI 1 x.val y.val < 0 := of_decide_eq_false h1
    have g2 : ¬ orderI 1 y.val z.val < 0 := of_decide_eq_false h2
    have h := (orderI_tri 1 z.val y.val x.val).le
    have e1 := orderI_neg 1 x.val y.val
    have e2 := orderI_neg 1 y.val z.val
    have e3 := orderI_neg 1 x.val z.val
    show ¬ orderI 1 x.val z.val < 0
    omega)
end YtanbgdhmfjgihaaGreatDoor
end Go.Proofs

/- Rows of three numbers held against each other, part by part. -/
namespace Go.Proofs.YtanbgdhmfjgihaaGreatDoor
open Go.RowKit

theorem cmpInt85 (a b : Int) (w : World) : Calls Tryz.prog 85 #[.int .i64 a, .int .i64 b] w fun e w' => e = .returned (.int .i64 (cmpZ a b)) ∧ w' = w := by
  by_cases h : a < b
  · have e : cmpZ a b = -1 := by unfold cmpZ; rw [if_pos h]
    rw [e]
    clear e
    go_enter Tryz.func85, Tryz.ntmps85
    go_wp2
    go_ret
    exact ⟨rfl, rfl⟩
  · by_cases h2 : b < a
    · have e : cmpZ a b = 1 := by unfold cmpZ; rw [if_neg h, if_pos h2]
      rw [e]
      clear e
      go_enter Tryz.func85, Tryz.ntmps85
      go_wp2
      go_ret
      exact ⟨rfl, rfl⟩
    · have e : cmpZ a b = 0 := by unfold cmpZ; rw [if_neg h, if_neg h2]
      rw [e]
      obtain rfl : a = b := by omega
      clear e h2 h
      go_enter Tryz.func85, Tryz.ntmps85
      go_wp2
      go_ret
      exact ⟨rfl, rfl⟩

/-- How two rows stand. -/
def rowI (a0 a1 a2 b0 b1 b2 : Int) : Int := lexI (cmpZ a0 b0) (lexI (cmpZ a1 b1) (cmpZ a2 b2))

set_option maxHeartbeats 3200000 in
theorem cmpRow (a0 a1 a2 b0 b1 b2 : Int) (g g2 : Nat) (w : World) (h0 : w.cell? ⟨g, 0, none⟩ = some (.int .i64 a0)) (h1 : w.cell? ⟨g, 1, none⟩ = some (.int .i64 a1)) (h2 : w.cell? ⟨g, 2, none⟩ = some (.int .i64 a2))
    (k0 : w.cell? ⟨g2, 0, none⟩ = some (.int .i64 b0)) (k1 : w.cell? ⟨g2, 1, none⟩ = some (.int .i64 b1)) (k2 : w.cell? ⟨g2, 2, none⟩ = some (.int .i64 b2)) :
    Calls Tryz.prog 81 #[.slice (some ⟨g, 0, none⟩) 3 3, .slice (some ⟨g2, 0, none⟩) 3 3] w fun e w' => e = .returned (.int .i64 (rowI a0 a1 a2 b0 b1 b2)) ∧ w' = w := by
  unfold rowI
  have hc0 := fun W => cmpInt85 a0 b0 W
  have hc1 := fun W => cmpInt85 a1 b1 W
  have hc2 := fun W => cmpInt85 a2 b2 W
  generalize cmpZ a0 b0 = c0 at hc0 ⊢
  generalize cmpZ a1 b1 = c1 at hc1 ⊢
  generalize cmpZ a2 b2 = c2 at hc2 ⊢
  obtain ⟨r, hr⟩ : ∃ r, r = lexI c0 (lexI c1 c2) := ⟨_, rfl⟩
  rw [← hr]
  have HR := Lib.hid hr
  clear hr
  go_enter Tryz.func81, Tryz.ntmps81
  go_wp2_with fail
  go_loopw [11] (fun i wr => wr = w ∧ ∃ j : Nat, i = .int .i64 j ∧ (j = 0 ∨ (j = 1 ∧ c0 = 0) ∨ (j = 2 ∧ c0 = 0 ∧ c1 = 0) ∨ (j = 3 ∧ c0 = 0 ∧ c1 = 0 ∧ c2 = 0))) (fun i _ => 3 - (intOf i).toNat)
  case atStart => exact ⟨rfl, 0, rfl, .inl rfl⟩
  case round =>
    obtain ⟨rfl, j, rfl, rfl | ⟨rfl, z0⟩ | ⟨rfl, z0, z1⟩ | ⟨rfl, z0, z1, z2⟩⟩ := hrel
    · by_cases hz : c0 = 0
      · have e2 : (c0 != 0) = false := by simp [hz]
        go_wp2_with (go_at_call 85; (with_reducible refine (hc0 _).mono ?_); rintro e w3 ⟨rfl, rfl⟩)
        go_roundw
        case rel => exact ⟨trivial, 1, by go_num, .inr (.inl ⟨rfl, hz⟩)⟩
        case measure => simp [intOf]
      · have e2 : (c0 != 0) = true := by simpa using hz
        go_wp2_with (go_at_call 85; (with_reducible refine (hc0 _).mono ?_); rintro e w3 ⟨rfl, rfl⟩)
        go_ret
        exact ⟨by rw [HR.out, lexI, if_neg hz]; rfl, rfl⟩
    · by_cases hz : c1 = 0
      · have e2 : (c1 != 0) = false := by simp [hz]
        go_wp2_with (go_at_call 85; (with_reducible refine (hc1 _).mono ?_); rintro e w3 ⟨rfl, rfl⟩)
        go_roundw
        case rel => exact ⟨trivial, 2, by go_num, .inr (.inr (.inl ⟨rfl, z0, hz⟩))⟩
        case measure => simp [intOf]
      · have e2 : (c1 != 0) = true := by simpa using hz
        go_wp2_with (go_at_call 85; (with_reducible refine (hc1 _).mono ?_); rintro e w3 ⟨rfl, rfl⟩)
        go_ret
        exact ⟨by rw [HR.out, lexI, if_pos z0, lexI, if_neg hz]; rfl, rfl⟩
    · by_cases hz : c2 = 0
      · have e2 : (c2 != 0) = false := by simp [hz]
        go_wp2_with (go_at_call 85; (with_reducible refine (hc2 _).mono ?_); rintro e w3 ⟨rfl, rfl⟩)
        go_roundw
        case rel => exact ⟨trivial, 3, by go_num, .inr (.inr (.inr ⟨rfl, z0, z1, hz⟩))⟩
        case measure => simp [intOf]
      · have e2 : (c2 != 0) = true := by simpa using hz
        go_wp2_with (go_at_call 85; (with_reducible refine (hc2 _).mono ?_); rintro e w3 ⟨rfl, rfl⟩)
        go_ret
        exact ⟨by rw [HR.out, lexI, if_pos z0, lexI, if_pos z1]; rfl, rfl⟩
    · go_wp2_with fail
      go_ret
      exact ⟨by rw [HR.out, lexI, if_pos z0, lexI, if_pos z1, z2]; rfl, rfl⟩

/-- A row as the sort hands it on. -/
structure VR where
  a : Int
  b : Int
  c : Int
deriving Inhabited
def VR.enc (r : VR) : List Value := [.int .i64 r.a, .int .i64 r.b, .int .i64 r.c]
def VR.cf (r s : VR) : Int := rowI r.a r.b r.c s.a s.b s.c
theorem VR.one (r : VR) : ∀ v ∈ r.enc, v.oneCell' = true := by
  intro v hv
  simp only [VR.enc, List.mem_cons, List.mem_nil_iff, or_false] at hv
  rcases hv with rfl | rfl | rfl <;> rfl

set_option maxHeartbeats 1600000 in
/-- The comparison that sortedRows hands to the sort. -/
theorem cmpRowAt (r s : VR) (w : World) : Calls Tryz.prog 80 #[.agg #[.int .i64 r.a, .int .i64 r.b, .int .i64 r.c], .agg #[.int .i64 s.a, .int .i64 s.b, .int .i64 s.c]] w fun e w' => e = .returned (.int .i64 (VR.cf r s)) ∧ Low w.heap.size w w' := by
  obtain ⟨w1, hw1⟩ : ∃ w1, w1 = (w.alloc (.cells #[.int .i64 r.a, .int .i64 r.b, .int .i64 r.c] 81)).alloc (.cells #[.int .i64 s.a, .int .i64 s.b, .int .i64 s.c] 81) := ⟨_, rfl⟩
  have A : w1.heap[w.heap.size]? = some (.cells #[.int .i64 r.a, .int .i64 r.b, .int .i64 r.c] 81) := by rw [hw1]; exact heap_old _ (heap_new _ _ rfl)
  have B : w1.heap[w.heap.size + 1]? = some (.cells #[.int .i64 s.a, .int .i64 s.b, .int .i64 s.c] 81) := by rw [hw1]; exact heap_new _ _ (by simp)
  have b0 : Low w.heap.size w w1 := by rw [hw1]; exact low2 _ _ _
  have hc := fun n => cmpRow r.a r.b r.c s.a s.b s.c w.heap.size (w.heap.size + 1) (w1.drewN n) (cell_of (w := w1.drewN n) A 0 rfl) (cell_of (w := w1.drewN n) A 1 rfl) (cell_of (w := w1.drewN n) A 2 rfl) (cell_of (w := w1.drewN n) B 0 rfl) (cell_of (w := w1.drewN n) B 1 rfl) (cell_of (w := w1.drewN n) B 2 rfl)
  unfold VR.cf
  generalize rowI r.a r.b r.c s.a s.b s.c = z at hc ⊢
  have HW := Lib.hid hw1
  clear hw1
  go_enter Tryz.func80, Tryz.ntmps80
  go_upto_region 1 with fail
  rw [← HW.out]
  refine wp_region_held_drew (S := fun W => W = w1.drewN 1) (by kernel_rfl) rfl (fun hHeld => ?_)
  refine wpAnyH_take (i := 0) (v := .slice (some ⟨w.heap.size, 0, none⟩) 3 3) rfl (by kernel_rfl) (by kernel_rfl) (by kernel_rfl) (fun _ _ _ h => h) (Or.inl ⟨by rfl, fun W _ => by go_simp⟩) hHeld ?_
  try simp only [Act.put, List.getElem_toArray, List.getElem_cons_zero, List.setIfInBounds_toArray, List.set_cons_zero, List.set_cons_succ]
  refine wpAnyH_take (i := 1) (v := .slice (some ⟨w.heap.size + 1, 0, none⟩) 3 3) rfl (by kernel_rfl) (by kernel_rfl) (by kernel_rfl) (fun _ _ _ h => h) (Or.inl ⟨by rfl, fun W _ => by go_simp⟩) hHeld ?_
  try simp only [Act.put, List.getElem_toArray, List.getElem_cons_succ, List.getElem_cons_zero, List.setIfInBounds_toArray, List.set_cons_zero, List.set_cons_succ]
  refine wpAnyH_ready (rs := [2]) (by kernel_rfl) (by simp) ?_
  refine AllReadyH.cons rfl (fun K hK => ?_) AllReadyH.nil
  rw [if_pos (by rfl)]
  go_simp
  clear hHeld
  refine (hc 1).mono ?_
  rintro e w3 ⟨rfl, rfl⟩
  refine hK.out _ _ rfl (fun hHeld => ?_)
  clear hK K
  try simp only [Act.put, List.getElem_toArray, List.getElem_cons_succ, List.getElem_cons_zero, List.setIfInBounds_toArray, List.set_cons_zero, List.set_cons_succ]
  refine wpAnyH_take (i := 3) (v := .int .i64 z) rfl (by kernel_rfl) (by kernel_rfl) (by kernel_rfl) (fun _ _ _ h => h) (Or.inl ⟨by rfl, fun W _ => by go_simp⟩) hHeld ?_
  try simp only [Act.put, List.getElem_toArray, List.getElem_cons_succ, List.getElem_cons_zero, List.setIfInBounds_toArray, List.set_cons_zero, List.set_cons_succ]
  refine wpAnyH_done (by kernel_rfl) ?_ _
  go_wp2_with fail
  go_ret
  exact ⟨rfl, low_drewN b0 1⟩
theorem rowI_neg (a b c a' b' c' : Int) : rowI a' b' c' a b c = -rowI a b c a' b' c' := by
  unfold rowI
  rw [cmpZ_swap a a', cmpZ_swap b b', cmpZ_swap c c', lexI_neg, lexI_neg]
theorem rowI_tri (r s t : VR) : Tri (VR.cf r s) (VR.cf s t) (VR.cf r t) := (tri_cmpZ _ _ _).lex ((tri_cmpZ _ _ _).lex (tri_cmpZ _ _ _))
theorem swoR : Go.Sort.SWO (ltOf VR.cf) where
  irrefl x := decide_eq_false (by
    have h := rowI_neg x.a x.b x.c x.a x.b x.c
    show ¬ rowI x.a x.b x.c x.a x.b x.c < 0
    omega)
  trans x y z h1 h2 := decide_eq_true ((rowI_tri x y z).lt (of_decide_eq_true h1) (Int.le_of_lt (of_decide_eq_true h2)))
  ntrans x y z h1 h2 := decide_eq_false (by
    have g1 : ¬ VR.cf x y < 0 := of_decide_eq_false h1
    have g2 : ¬ VR.cf y z < 0 := of_decide_eq_false h2
    have h := (rowI_tri z y x).le
    have e1 : VR.cf y x = -VR.cf x y := rowI_neg _ _ _ _ _ _
    have e2 : VR.cf z y = -VR.cf y z := rowI_neg _ _ _ _ _ _
    have e3 : VR.cf z x = -VR.cf x z := rowI_neg _ _ _ _ _ _
    omega)
/-- Rows are sorted. -/
theorem sortRows (w : World) (blk off cap : Nat) (d : Array VR) (hblk : blk < w.heap.size) (hH : Go.Sort.HoldsK VR.enc 3 w blk off d) (hsz : d.size < 4611686018427387904) :
    Calls Tryz.prog 79 #[.slice (some ⟨blk, off, none⟩) d.size cap, .func (.func 80) #[] #[]] w fun e w' =>
      e = .returned (.tuple #[]) ∧ ∃ d' n os, Go.Sort.PermIn 0 d.size d d' ∧ Go.Sort.SortedIn (ltOf VR.cf) 0 d.size d' ∧ w' = sortWorldK VR.enc 3 w blk off n d' os := by
  have eg : ∀ args w, (callFunc 80 args).run Tryz.prog w = .ok (.enter 80 args) w := enters_of Tryz.func80 (by kernel_rfl) rfl
  have hl : CmpLays Tryz.prog 80 #[] VR.enc 3 VR.cf blk off d.size w := fun m os dk hs x y => (cmpRowAt x y _).mono fun e w' ⟨he, hb⟩ => ⟨he, hb.grows⟩
  exact AnyQ.slices_SortFunc Tryz.sortR 3 Tryz.isAgg81 Tryz.sizeOf81 VR.enc (fun _ => rfl) VR.one VR.cf swoR 80 #[] blk off cap d w eg hl hH hblk hsz
end Go.Proofs.YtanbgdhmfjgihaaGreatDoor

/- Elements of several cells each, in a block that may be written. -/
namespace Go.Proofs.YtanbgdhmfjgihaaGreatDoor
open Go.RowKit

/-- Elements of k cells each, one behind the other, which may be written. -/
def Elems {α : Type} [Inhabited α] (enc : α → List Value) (k : Nat) (w : World) (blk off : Nat) (d : Array α) : Prop :=
  ∀ j, j < d.size → w.rangeAt blk (off + j * k) (enc d[j]!) ∧ w.there blk (off + j * k) k
section
variable {α : Type} [Inhabited α] {enc : α → List Value} {k blk off : Nat} {d : Array α} {w w' : World}
theorem Elems.of_holds (h : Go.Sort.HoldsK enc k w blk off d) (hk : ∀ x, (enc x).length = k) : Elems enc k w blk off d := fun j hj => by
  refine ⟨fun i v hv => ?_, fun i hi => ?_⟩
  · have hi : i < k := by rw [← hk d[j]!]; exact (List.getElem?_eq_some_iff.1 hv).1
    rw [(h.cell hj hi).1]
    obtain ⟨h1, h2⟩ := List.getElem?_eq_some_iff.1 hv
    rw [getElem!_pos _ i h1, h2]
  · have := h.cell hj hi
    exact ⟨by rw [this.1]; rfl, this.2⟩
theorem Elems.keep (h : Elems enc k w blk off d) (hc : ∀ o, w'.cell? ⟨blk, o, none⟩ = w.cell? ⟨blk, o, none⟩) (hf : ∀ o, w'.frozen? ⟨blk, o, none⟩ = w.frozen? ⟨blk, o, none⟩) : Elems enc k w' blk off d := fun j hj =>
  ⟨fun i v hv => (hc _).trans ((h j hj).1 i v hv), fun i hi => ⟨by rw [hc]; exact ((h j hj).2 i hi).1, by rw [hf]; exact ((h j hj).2 i hi).2⟩⟩
theorem Elems.low (h : Elems enc k w blk off d) (hb : blk < w.heap.size) (b : Low w.heap.size w w') : Elems enc k w' blk off d :=
  h.keep (fun o => b.cell (p := ⟨blk, o, none⟩) hb) (fun o => b.frozen (p := ⟨blk, o, none⟩) hb)
theorem Elems.below (h : Elems enc k w blk off d) (hb : blk < w.heap.size) (b : Below w.heap.size w w') : Elems enc k w' blk off d :=
  h.keep (fun o => b.cell (p := ⟨blk, o, none⟩) hb) (fun o => b.frozen (p := ⟨blk, o, none⟩) hb)
theorem Elems.set (h : Elems enc k w blk off d) (hk : ∀ x, (enc x).length = k) (j : Nat) (hj : j < d.size) (u : α) : Elems enc k (w.setCells blk (off + j * k) (enc u)) blk off (d.setIfInBounds j u) := fun i hi => by
  have hi' : i < d.size := by simpa using hi
  have hth : (w.setCells blk (off + j * k) (enc u)).there blk (off + i * k) k := World.there_setCells (h i hi').2 _ _ _
  refine ⟨?_, hth⟩
  by_cases e : i = j
  · subst e
    rw [getElem!_pos _ i hi, Array.getElem_setIfInBounds_self]
    exact World.rangeAt_setCells_same w blk (off + i * k) (enc u) (by rw [hk]; exact (h i hi').2)
  · rw [getElem!_pos _ i hi, Array.getElem_setIfInBounds_ne (by simpa using hi) (by omega), ← getElem!_pos d i hi']
    refine World.rangeAt_setCells_apart (h i hi').1 blk (off + j * k) (enc u) (.inr ?_)
    rw [hk, hk]
    rcases Nat.lt_or_ge i j with q | q
    · left
      have := Nat.mul_le_mul_right k (show i + 1 ≤ j by omega)
      rw [Nat.add_mul] at this
      omega
    · right
      have := Nat.mul_le_mul_right k (show j + 1 ≤ i by omega)
      rw [Nat.add_mul] at this
      omega
/-- Cells that are laid behind the first n elements. -/
theorem Elems.tail (h : Elems enc k w blk off d) (hk : ∀ x, (enc x).length = k) (n : Nat) (hn : n ≤ d.size) (vs : List Value) : Elems enc k (w.setCells blk (off + n * k) vs) blk off (d.take n) := fun i hi => by
  have hi' : i < n := by simp at hi; omega
  have e : (d.take n)[i]! = d[i]! := by
    rw [getElem!_pos _ i hi, getElem!_pos d i (by omega)]
    simp
  rw [e]
  have hh := h i (by omega)
  refine ⟨World.rangeAt_setCells_apart hh.1 blk (off + n * k) vs (.inr (.inl ?_)), World.there_setCells hh.2 _ _ _⟩
  rw [hk]
  have := Nat.mul_le_mul_right k (show i + 1 ≤ n by omega)
  rw [Nat.add_mul] at this
  omega
theorem only_setCells (b : Nat) : (vs : List Value) → (o : Nat) → (x : World) → Only b x (x.setCells b o vs)
  | [], _, x => Only.refl b x
  | v :: r, o, x => ((Only.refl b x).setCell o none v).trans (only_setCells b r (o + 1) _)
/-- clear, at elements of several cells. -/
theorem run_clear_row {n : Nat} (P : Program) (w : World) (t e ty : TypeId) (z : Value) (ht : P.underlying t = some (.slice e)) (hv : ∀ w, (zeroValue e).run P w = .ok z w) (h1 : ∀ v ∈ (Builtin.zeroCells z.cells n).toList, v.oneCell' = true) (b o c : Nat) (hn : 0 < n)
    (hc : w.there b o (n * z.cells.size)) :
    (Builtin.clear_ #[t] ty #[.slice (some ⟨b, o, none⟩) n c]).run P w = .ok (.tuple #[]) (w.setCells b o (Builtin.zeroCells z.cells n).toList) := by
  have hlen : (Builtin.zeroCells z.cells n).toList.length = n * z.cells.size := by simp [Builtin.zeroCells]
  have hst := run_storeCells_cells (P := P) b o (Builtin.zeroCells z.cells n).toList 0 w (fun j hj => by have := (hc j (by omega)).1; simpa using this) (fun j hj => by have := (hc j (by omega)).2; simpa using this) h1
  simp only [Nat.add_zero] at hst
  obtain ⟨m, rfl⟩ : ∃ m, n = m + 1 := ⟨n - 1, by omega⟩
  simp [Builtin.clear_, run_underlying ht, hv, hst]
theorem Elems.there (h : Elems enc k w blk off d) (hk : 0 < k) (n : Nat) (hn : n ≤ d.size) : w.there blk (off + n * k) ((d.size - n) * k) := fun i hi => by
  have q : i / k < d.size - n := Nat.div_lt_of_lt_mul (by rw [Nat.mul_comm]; exact hi)
  have := (h (n + i / k) (by omega)).2 (i % k) (Nat.mod_lt _ hk)
  rwa [show off + (n + i / k) * k + i % k = off + n * k + i by
    have := Nat.div_add_mod i k
    rw [Nat.add_mul, Nat.mul_comm (i / k) k]
    omega] at this
end
end Go.Proofs.YtanbgdhmfjgihaaGreatDoor
