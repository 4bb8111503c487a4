/- Texts of one kind, one behind the other: each says ahead of itself what it shows. -/
import Derived.Test.YtcfmenkigolnoaaGreatDoorTas
import Derived.Test.YtcfmenkigolnoaaGreatDoorTaq
/- wakes: the example of the law; two values compared. -/
namespace Go.Proofs.YtcfmenkigolnoaaGreatDoor
open Go.RowKit

mutual
theorem sameP_self : (v : Val) → sameP v v = true
  | .mk k b n t x l => by
    unfold sameP
    rw [eachSame_self l]
    simp
theorem eachSame_self : (l : List Val) → eachSame l l = true
  | [] => by unfold eachSame; rfl
  | v :: r => by
    unfold eachSame
    rw [sameP_self v, eachSame_self r]
    rfl
end
theorem sameValAt (v u : Val) (c c2 : List Value) (W : World) (P P2 : Nat → Prop) (h : valE.rel W P c v) (h2 : valE.rel W P2 c2 u) :
    Calls Tryz.prog 28 #[.agg c.toArray, .agg c2.toArray] W fun e w' => e = .returned (.bool (sameP v u)) ∧ Below W.heap.size W w' := by
  obtain ⟨k, b, n, t, x, q⟩ := v
  obtain ⟨k2, b2, n2, t2, x2, q2⟩ := u
  obtain ⟨L, rfl, hf, hq⟩ := h
  obtain ⟨L2, rfl, hf2, hq2⟩ := h2
  obtain ⟨p, cap, rfl⟩ := held_slice (HeldF.held q hq)
  obtain ⟨p2, cap2, rfl⟩ := held_slice (HeldF.held q2 hq2)
  exact sameZAll _ W k b n t x q p cap _ k2 b2 n2 t2 x2 q2 p2 cap2 rfl rfl hf.hn (HeldF.held q hq) (HeldF.held q2 hq2)
theorem field25_1 (p q : Option Addr) (n m c d : Nat) (w : World) : (Instr.field 25 (.agg #[.slice p n c, .slice q m d]) 1).run Tryz.prog w = .ok (.slice q m d) w := by kernel_rfl
def gW : GraphL := ⟨[⟨1, [⟨#[65]⟩], []⟩], [⟨7, 1, 1, ⟨#[116]⟩, []⟩]⟩
theorem gW_may : graphP gW = true := by decide
theorem gW_good : GoodG gW := goodG gW_may
def wW : Way := ⟨(1, 0), by decide⟩
theorem numsE_gW : numsE gW = [7] := by simp [numsE, gW]
theorem numsN_gW : numsN gW = [1] := by simp [numsN, gW]
theorem gW_hops : hopsL gW wW [] = [7] := by
  unfold hopsL
  rw [numsE_gW]
  decide
theorem gW_lab : labeledL gW [⟨#[65]⟩] = [1] := by
  unfold labeledL
  rw [numsN_gW]
  simp [hasLbl, labelsOf, gW, sortS, bl_ofL]
set_option maxHeartbeats 3200000 in
set_option maxRecDepth 20000 in
theorem wakesAt (w : World) (hG : Gd w) : Calls Tryz.prog 9 #[] w fun e w' => e = .returned (.bool true) ∧ Below w.heap.size w w' := by
  obtain ⟨w1, hw1⟩ : ∃ w1, w1 = ((w.alloc (.cells #[.string ⟨#[65]⟩] 9)).alloc (.cells #[.int .i64 1, .slice (some ⟨w.heap.size, 0, none⟩) 1 1, .slice none 0 0] 38)).alloc (.cells #[.int .i64 7, .int .i64 1, .int .i64 1, .string ⟨#[116]⟩, .slice none 0 0] 41) := ⟨_, rfl⟩
  have bw : Below w.heap.size w w1 := by rw [hw1]; exact (below2 _ _ _).alloc (by simp; omega) _
  have u0 : w1.heap[w.heap.size]? = some (.cells #[.string ⟨#[65]⟩] 9 (0, 0)) := by rw [hw1]; exact heap_old _ (heap_old _ (heap_new _ _ rfl))
  have u1 : w1.heap[w.heap.size + 1]? = some (.cells #[.int .i64 1, .slice (some ⟨w.heap.size, 0, none⟩) 1 1, .slice none 0 0] 38 (0, 0)) := by rw [hw1]; exact heap_old _ (heap_new _ _ (by simp))
  have u2 : w1.heap[w.heap.size + 1 + 1]? = some (.cells #[.int .i64 7, .int .i64 1, .int .i64 1, .string ⟨#[116]⟩, .slice none 0 0] 41 (0, 0)) := by rw [hw1]; exact heap_new _ _ (by simp)
  have hsz : w1.heap.size = w.heap.size + 3 := by rw [hw1]; simp
  have sl : SliceE textE w1 (Old w1) (.slice (some ⟨w.heap.size, 0, none⟩) 1 1) [⟨#[65]⟩] := ⟨_, 1, rfl, fun _ => ⟨w.heap.size, 0, _, rfl, by show w.heap.size < w1.heap.size; omega, range_of_heap u0 0 [.string ⟨#[65]⟩] rfl, RowE.single ⟨rfl, by decide⟩⟩⟩
  have sn : SliceE nodeE w1 (Old w1) (.slice (some ⟨w.heap.size + 1, 0, none⟩) 1 1) gW.nodes := ⟨_, 1, rfl, fun _ => ⟨w.heap.size + 1, 0, _, rfl, by show w.heap.size + 1 < w1.heap.size; omega, range_of_heap u1 0 [.int .i64 1, .slice (some ⟨w.heap.size, 0, none⟩) 1 1, .slice none 0 0] rfl, RowE.single ⟨_, _, rfl, by decide, by decide, by decide, sl, SliceE.nil _ _⟩⟩⟩
  have se : SliceE edgeE w1 (Old w1) (.slice (some ⟨w.heap.size + 1 + 1, 0, none⟩) 1 1) gW.edges := ⟨_, 1, rfl, fun _ => ⟨w.heap.size + 1 + 1, 0, _, rfl, by show w.heap.size + 1 + 1 < w1.heap.size; omega, range_of_heap u2 0 [.int .i64 7, .int .i64 1, .int .i64 1, .string ⟨#[116]⟩, .slice none 0 0] rfl, RowE.single ⟨_, rfl, by decide, by decide, by decide, SliceE.nil _ _⟩⟩⟩
  have hl := loadAt gW _ _ w1 (hG.below bw) sn se (by decide) (by decide)
  have HL := Lib.hid hl
  have HBW := Lib.hid bw
  have HW := Lib.hid hw1
  clear hl sn se sl u0 u1 u2 hsz bw hG hw1
  have hf25 := field25_1
  go_enter Tryz.func9, Tryz.ntmps9
  go_upto_region 2 with (first
    | (rw [← HW.out]; go_at_call 11; go_loud (refine HL.out.mono ?_); rintro e w2 ⟨hb2, hs⟩; rw [if_pos gW_may] at hs; obtain ⟨s, rfl, hst⟩ := hs))
  have b2 := below_any HBW.out hb2 HBW.out.size
  have HHP : Hid (Calls Tryz.prog 23 #[.pointer (some ⟨s, 0, none⟩), .int .i64 1, .int .i64 0, .slice none 0 0] w2 (fun e w' => ∃ p cap, e = .returned (.slice p 1 cap) ∧ IntsAt w' (.slice p 1 cap) [7] ∧ Below w2.heap.size w2 w')) := Lib.hid (by
    refine (hopsAt w2 s gW hst gW_good.de gW_good.ne wW (.slice none 0 0) [] ⟨none, 0, rfl, fun h => absurd rfl h⟩ (by decide)).mono ?_
    rintro e w' ⟨R, rfl, hR, hb⟩
    rw [gW_hops] at hR
    obtain ⟨p, cap, rfl⟩ := own_slice hR
    exact ⟨p, cap, rfl, ints_of_own hR, hb⟩)
  have HLB : Hid (∀ W', StoreE W' s gW → Calls Tryz.prog 31 #[.pointer (some ⟨s, 0, none⟩), .slice (some ⟨W'.heap.size, 0, none⟩) 1 1] (W'.alloc (.cells #[.string ⟨#[65]⟩] 9)) (fun e w' => ∃ p cap, e = .returned (.slice p 1 cap) ∧ IntsAt w' (.slice p 1 cap) [1] ∧ Below W'.heap.size W' w')) := Lib.hid fun W' h => by
    refine (askLab W' s gW h gW_good [⟨#[65]⟩] (fun t ht => by
      obtain rfl : t = ⟨#[65]⟩ := by simpa using ht
      decide) (by decide)).mono ?_
    rintro e w' ⟨p, cap, rfl, hi, hb⟩
    rw [gW_lab] at hi ⊢
    exact ⟨p, cap, rfl, hi, hb⟩
  have HPL : Hid (∀ W', StoreE W' s gW → Calls Tryz.prog 16 #[.pointer (some ⟨s, 0, none⟩)] W' (fun e w' => ∃ pn nn kn pe ke, e = .returned (.agg #[.slice pn nn kn, .slice pe 1 ke]) ∧ Below W'.heap.size W' w')) := Lib.hid fun W' h => by
    refine (plainAt W' s gW h gW_good).mono ?_
    intro e w' hp
    obtain ⟨vn, ve, rfl, hn, he, hb⟩ := hp.slices
    obtain ⟨p1, c1, rfl⟩ := hn.slice
    obtain ⟨p2, c2, rfl⟩ := he.slice
    rw [show (plainG gW).edges.length = 1 from plainG_edges gW]
    exact ⟨p1, _, c1, p2, c2, rfl, hb⟩
  have HEQ := Lib.hid (fun W' z p cap h => eqOne W' z p cap h)
  have HST := Lib.hid hst
  have HB2 := Lib.hid b2
  clear hst hb2 b2 HL HBW HW
  go_wp2_with (first
    | (go_at_call 23; (with_reducible refine HHP.out.mono ?_); rintro e w3 ⟨p3, k3, rfl, hi3, hb3⟩; have B3 := hb3)
    | (go_at_call 24; (with_reducible refine (HEQ.out _ 7 p3 k3 hi3).mono ?_); rintro e w4 ⟨rfl, hb4⟩; have B4 := below_any B3 hb4 B3.size; have st4 := HST.out.below B4)
    | (go_at_call 31; (with_reducible refine (HLB.out _ st4).mono ?_); rintro e w5 ⟨p5, k5, rfl, hi5, hb5⟩; have B5 := below_any B4 hb5 B4.size)
    | (go_at_call 24; (with_reducible refine (HEQ.out _ 1 p5 k5 hi5).mono ?_); rintro e w6 ⟨rfl, hb6⟩; have B6 := below_any B5 hb6 B5.size; have st6 := HST.out.below B6)
    | (go_at_call 16; (with_reducible refine (HPL.out _ st6).mono ?_); rintro e w7 ⟨pn, nn, kn, pe, ke, rfl, hb7⟩; have B7 := below_any B6 hb7 B6.size))
  go_ret
  exact ⟨rfl, below_any HB2.out B7 HB2.out.size⟩
end Go.Proofs.YtcfmenkigolnoaaGreatDoor

/- What Prop tells of a graph that may be (pure). -/
namespace Go.Proofs.YtcfmenkigolnoaaGreatDoor
open Go.RowKit

end Go.Proofs.YtcfmenkigolnoaaGreatDoor

/- The law GraphProps: each property is told as it was handed in, by its key. -/
namespace Go.Proofs.YtcfmenkigolnoaaGreatDoor
open Go.RowKit

/-- What stands while the law runs: the store, the graph's box, the graph. -/
structure Run (s gb : Nat) (vn ve : Value) (g : GraphL) (W : World) : Prop where
  st : StoreE W s g
  box : W.heap[gb]? = some (.cells #[vn, ve] 25 (0, 0))
  ns : SliceE nodeE W (Old W) vn g.nodes
  es : SliceE edgeE W (Old W) ve g.edges
theorem Run.below {W W' : World} {s gb : Nat} {vn ve : Value} {g : GraphL} (h : Run s gb vn ve g W) (b : Below W.heap.size W W') : Run s gb vn ve g W' :=
  ⟨h.st.below b, (b.block _ (lt_of_heap h.box)).trans h.box, h.ns.stays (old_below b), h.es.stays (old_below b)⟩
theorem cell_below {W W' : World} {p : Addr} {v : Value} (h : W.cell? p = some v) (b : Below W.heap.size W W') : W'.cell? p = some v := (b.cell (p := p) (World.block_lt_of_cell? W _ h)).trans h
theorem range_keep {W W' : World} {g o : Nat} {c : List Value} (h : W.rangeAt g o c) (b : Below W.heap.size W W') : W'.rangeAt g o c := fun j u hj => cell_below (h j u hj) b
end Go.Proofs.YtcfmenkigolnoaaGreatDoor
