/- Two lists, one behind the other: joinLists. -/
import Derived.Test.YtoifjjgakblhhaaGreatDoorLCm
import Derived.Laws.AppendOwnNone
namespace Go.Proofs.YtoifjjgakblhhaaGreatDoor
open Go.RowKit

theorem results_six_tmp {fn : Func} {p q : Tmp} (h : fn.results = #[.cell p 28, .tmp q]) (tmps : Array Value) {w : World} {g : Nat} {k : Int} {b : Bool} {n : Int} {t x : ByteArray} {pp : Option Addr} {len cap : Nat} (v : Value)
    (hp : tmps.getD p undef = .pointer (some ⟨g, 0, none⟩)) (hq : tmps.getD q undef = v) (hg : Six w g k b n t x pp len cap) : (results fn tmps).run Tryz.prog w = .ok (.tuple #[.agg #[.int .i64 k, .bool b, .int .i64 n, .string t, .string x, .slice pp len cap], v]) w := by
  have hp' : tmps[p]?.getD undef = .pointer (some ⟨g, 0, none⟩) := by simpa using hp
  have hq' : tmps[q]?.getD undef = v := by simpa using hq
  have hl := run_loadVar_row (P := Tryz.prog) w g 28 28 _ (0, 0) _ hg Tryz.underlying28 rfl info28
  simp [results, h, hp', hq', asAddr, hl]
/-- What joinLists tells. -/
def JoinPost (w : World) (la lb : List Val) (e : Ending) (w' : World) : Prop := ∃ p c, e = .returned (.tuple #[.agg #[.int .i64 5, .bool false, .int .i64 0, .string ⟨#[]⟩, .string ⟨#[]⟩, .slice p (la.length + lb.length) c], .int .i64 0]) ∧
  HeldF w' (fun g => w.heap.size ≤ g ∧ g < w'.heap.size) (.slice p (la.length + lb.length) c) (la ++ lb) ∧ Below w.heap.size w w'
theorem joinHeld {w W0 w1 w2 w3 : World} {la lb : List Val} {V1 V2 V3 : Value} {xs1 xs2 : List Value} (z0 : W0.heap.size = w.heap.size + 1) (hb1 : Below W0.heap.size W0 w1) (hb2 : Below w1.heap.size w1 w2)
    (hv1 : w1.ownsRow W0.heap.size 28 6 V1 la.length xs1) (hc1 : CellsF w1 (fun g => W0.heap.size ≤ g ∧ g < w1.heap.size ∧ V1.ownBlock ≠ some g) xs1 la)
    (hc2 : CellsF w2 (fun g => w1.heap.size ≤ g ∧ g < w2.heap.size ∧ V2.ownBlock ≠ some g) xs2 lb)
    (hown : w3.ownsRow W0.heap.size 28 6 V3 (la.length + lb.length) (xs1 ++ xs2)) (hgrow : w2.grownBy w3 V1.ownBlock) :
    HeldF w3 (fun g => w.heap.size < g ∧ g < w3.heap.size) V3 (la ++ lb) := by
  have s1 := hb1.size
  have s2 := hb2.size
  have s3 : w2.heap.size ≤ w3.heap.size := hgrow.size
  refine heldF_of_own (P := fun g => w.heap.size < g ∧ g < w3.heap.size) (by rw [List.length_append]; exact hown) (CellsF.append la lb (hc1.stays (fun g hg => ⟨⟨by omega, by omega⟩, ?_⟩) la) (hc2.stays (fun g hg => ⟨⟨by omega, by omega⟩, ?_⟩) lb)) (fun _ h => h) (fun g hg => ⟨by have := (hown.lt g hg).1; omega, (hown.lt g hg).2⟩)
  · exact (hgrow.block g (by omega) (fun h => hg.2.2 h.symm)).trans (hb2.block g hg.2.1)
  · exact hgrow.block g hg.2.1 (fun h => by have := (hv1.lt g h.symm).2; omega)

set_option maxRecDepth 20000 in
set_option maxHeartbeats 6400000 in
theorem joinAt (la lb : List Val) (p : Option Addr) (cap : Nat) (p2 : Option Addr) (cap2 : Nat) (w : World) (hl : Held w (.slice p la.length cap) la) (hl2 : Held w (.slice p2 lb.length cap2) lb) (hs : la.length + lb.length ≤ 4096) :
    Calls Tryz.prog 100 #[.slice p la.length cap, .slice p2 lb.length cap2] w (JoinPost w la lb) := by
  obtain ⟨W0, hW0⟩ : ∃ W0, W0 = w.alloc (.cells #[.int .i64 0, .bool false, .int .i64 0, .string ⟨#[]⟩, .string ⟨#[]⟩, .slice none 0 0] 28) := ⟨_, rfl⟩
  obtain ⟨i0, hi, hz0, hz1, hz2⟩ := info_parts info28b
  have S8 : Six W0 w.heap.size 0 false 0 ⟨#[]⟩ ⟨#[]⟩ none 0 0 := by rw [hW0]; exact six_new _ rfl
  have b0 : Below w.heap.size w W0 := by rw [hW0]; exact below1 _ _
  have z0 : W0.heap.size = w.heap.size + 1 := by rw [hW0]; simp
  have hca := copyAt la p cap W0 (Held.below la hl b0) (by omega)
  have hcb := fun W (h : Below w.heap.size w W) => copyAt lb p2 cap2 W (Held.below lb hl2 h) (by omega)
  have H0 := Lib.hid hW0
  have HB := Lib.hid hcb
  have HZ := Lib.hid z0
  clear hl hl2 hW0 hcb z0
  go_enter Tryz.func100, Tryz.ntmps100
  go_wp2_with (first
    | (go_at_call 133; rw [← H0.out]; (with_reducible refine hca.mono ?_); rintro e w1 ⟨V1, xs1, rfl, hv1, hc1, hb1⟩; have b1 := below_any b0 hb1 b0.size; have s1 := hb1.size; have S81 := S8.below hb1))
  go_at_call 133
  with_reducible refine (HB.out _ b1).mono ?_
  rintro e w2 ⟨V2, xs2, rfl, hv2, hc2, hb2⟩
  have b2 := below_any b1 hb2 b1.size
  have s2 := hb2.size
  have S82 := S81.below hb2
  have hv12 := own_below hv1 hb2
  have HV2 := Lib.hid hv2
  have HX := Lib.hid (And.intro hb1 (And.intro hb2 (And.intro hv1 (And.intro hc1 (And.intro hc2 b2)))))
  rcases hv2.2 with ⟨rfl, hn0⟩ | ⟨g2, cp2, cur, rfl, hr2⟩
  · obtain rfl := List.length_eq_zero_iff.1 hn0
    have hcells : xs2 = [] := by have := hv2.1; rw [hn0] at this; simpa using this
    subst hcells
    have hh0 := joinHeld (V3 := V1) (w3 := w2) HZ.out HX.out.1 HX.out.2.1 HX.out.2.2.1 HX.out.2.2.2.1 HX.out.2.2.2.2.1 (by simpa using hv12) ⟨rfl, rfl, rfl, Nat.le_refl _, fun _ _ _ => rfl⟩
    have hh : HeldF w2 (fun g => w.heap.size < g ∧ g < w2.heap.size) V1 la := by simpa using hh0
    clear hh0
    obtain ⟨p3, c3, rfl⟩ := held_slice hh.held
    have HH := Lib.hid hh
    have HV := Lib.hid hv12
    clear hh hv2 hv1 hc1 hc2 hb1 hb2 b2 S81
    have hv12 := HV.out
    go_wp2_with (first
      | (at_builtin; refine wpList_append_own_none rfl _ _ 22 rfl W0.heap.size 28 i0 6 Tryz.underlying22 hi _ _ _ rfl hv12 rfl ?_)
      | ((with_reducible refine wpList_store6 (k' := 5) (b' := false) (n' := 0) (t' := ⟨#[]⟩) (x' := ⟨#[]⟩) (p' := p3) (len' := la.length) (cap' := c3) (.tmp 4) (.tmp 18) w.heap.size S82 ?_ ?_ ?_ ?_ ?_); rfl; rfl; rfl; rfl; intro w9 on9 S9))
    have s9 := on9.size
    refine bodyPost_ret (results_six_tmp (p := 4) (q := 5) Tryz.results100 _ (.int .i64 0) rfl rfl S9) rfl ⟨p3, c3, ?_, ?_, below_only HX.out.2.2.2.2.2 on9 (Nat.le_refl _) HX.out.2.2.2.2.2.size⟩
    · rfl
    · have hq := HH.out.stays (P' := fun g => w.heap.size ≤ g ∧ g < w9.heap.size) (fun g hg => ⟨⟨by omega, by omega⟩, on9.block g hg.2 (by omega)⟩) la
      simpa using hq
  · have hnews := HV2.out.cells (g := g2) rfl
    have hl2 := hv2.1
    have h1c := CellsF.cells1 lb hc2
    clear hv2 hv1 hc1 hc2 hb1 hb2 S81 hr2
    go_wp2_with (first
      | (at_builtin; refine wpList_append_own_at _ rfl _ _ 22 rfl W0.heap.size 28 i0 (.agg #[.int .i64 0, .bool false, .int .i64 0, .string ⟨#[]⟩, .string ⟨#[]⟩, .slice none 0 0]) 6 80 Tryz.underlying22 hi hz0 hz1 hz2 rfl (by decide) _ _ _ rfl hv12 ⟨g2, 0, none⟩ lb.length cp2 xs2 rfl hl2 hnews h1c ?_ ?_ ?_ ?_))
    all_goals (try (first | (unfold maxLen; omega) | omega))
    intro V3 w3 hown3 hgrow _ _
    have hh := joinHeld HZ.out HX.out.1 HX.out.2.1 HX.out.2.2.1 HX.out.2.2.2.1 HX.out.2.2.2.2.1 hown3 hgrow
    obtain ⟨p3, c3, e3⟩ := held_slice hh.held
    rw [List.length_append] at e3
    subst e3
    have S83 : Six w3 w.heap.size 0 false 0 ⟨#[]⟩ ⟨#[]⟩ none 0 0 := (hgrow.block _ S82.lt (fun h => by have := (HX.out.2.2.1.lt _ h.symm).1; have := HZ.out; omega)).trans S82
    have b3 := b2.grown hgrow b2.size (fun k hk => by have := (HX.out.2.2.1.lt k hk).1; have := HZ.out; omega)
    have HH := Lib.hid hh
    have B3 := Lib.hid b3
    clear hh hown3 hgrow hnews hl2 h1c hv12 b2 b3
    go_wp2_with (first
      | ((with_reducible refine wpList_store6 (k' := 5) (b' := false) (n' := 0) (t' := ⟨#[]⟩) (x' := ⟨#[]⟩) (p' := p3) (len' := la.length + lb.length) (cap' := c3) (.tmp 4) (.tmp 18) w.heap.size S83 ?_ ?_ ?_ ?_ ?_); rfl; rfl; rfl; rfl; intro w9 on9 S9))
    have s9 := on9.size
    refine bodyPost_ret (results_six_tmp (p := 4) (q := 5) Tryz.results100 _ (.int .i64 0) rfl rfl S9) rfl ⟨p3, c3, ?_, ?_, below_only B3.out on9 (Nat.le_refl _) B3.out.size⟩
    · rfl
    · have hq := HH.out.stays (P' := fun g => w.heap.size ≤ g ∧ g < w9.heap.size) (fun g hg => ⟨⟨by omega, by omega⟩, on9.block g hg.2 (by omega)⟩) (la ++ lb)
      exact hq
end Go.Proofs.YtoifjjgakblhhaaGreatDoor
