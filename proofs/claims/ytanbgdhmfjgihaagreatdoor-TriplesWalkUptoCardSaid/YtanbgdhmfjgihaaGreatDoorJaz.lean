/- Texts of one kind, one behind the other: each says ahead of itself what it shows. -/
import Derived.Deep.AppendLies
import Derived.Test.YtanbgdhmfjgihaaGreatDoorJax
import Derived.Test.YtanbgdhmfjgihaaGreatDoorJay
import Derived.Test.YtanbgdhmfjgihaaGreatDoorJav
import Derived.Shelf.SlSortCmp.Whole1
import Derived.Test.YtanbgdhmfjgihaaGreatDoorProg
/- sortedRows: the triples as rows of numbers, each once, in their order. -/
namespace Go.Proofs.YtanbgdhmfjgihaaGreatDoor
open Go.RowKit

set_option maxHeartbeats 1600000 in
set_option maxRecDepth 20000 in
theorem numberAt (bx : Nat) (l : List Val) (g o cap m : Nat) (u : V6) (q : List Val) (w : World) (hG : Gd w) (hT : Tab w) (kb : w.cell? ⟨bx, 0, none⟩ = some (.slice (some ⟨g, o, none⟩) l.length cap)) (hl : Holds w g o l) (hr : Rise l) (hm : m < l.length) (hn : l.length < 1073741824) (hu : Is w u l[m] q) :
    Calls Tryz.prog 77 #[.agg #[.int .i64 u.k, .bool u.b, .int .i64 u.n, .string u.t, .string u.x, .slice u.p u.len u.cap], .pointer (some ⟨bx, 0, none⟩)] w fun e w' => e = .returned (.int .i64 m) ∧ Low w.heap.size w w' := by
  obtain ⟨W1, hW1⟩ : ∃ W1, W1 = w.alloc (.cells #[.int .i64 u.k, .bool u.b, .int .i64 u.n, .string u.t, .string u.x, .slice u.p u.len u.cap] 39) := ⟨_, rfl⟩
  have S1 : Six W1 w.heap.size u.k u.b u.n u.t u.x u.p u.len u.cap := by rw [hW1]; exact six_new _ rfl
  have b0 : Low w.heap.size w W1 := by rw [hW1]; exact low1 _ _
  have kb1 : W1.cell? ⟨bx, 0, none⟩ = some (.slice (some ⟨g, o, none⟩) l.length cap) := (b0.cell (p := ⟨bx, 0, none⟩) (World.block_lt_of_cell? w _ kb)).trans kb
  have hc := searchAt l g o cap m u q W1 (hG.below b0.is) (hT.below b0.is) (Holds.below l hl b0.is) hr hm hn (hu.below b0.is)
  have HW := Lib.hid hW1
  have HC := Lib.hid hc
  clear hW1 hc kb hl hr hu hG hT
  go_enter Tryz.func77, Tryz.ntmps77
  go_upto_region 1 with fail
  rw [← HW.out]
  go_wp2_with (first
    | ((with_reducible refine wpList_load6 (.tmp 2) w.heap.size S1 ?_ ?_ ?_ ?_); rfl; rfl; rfl)
    | (go_at_call 78; (with_reducible refine HC.out.mono ?_); rintro e w3 ⟨rfl, hb3⟩))
  go_ret
  exact ⟨rfl, low_any b0 hb3 b0.size⟩
open Classical in
/-- The place of a value. -/
noncomputable def vidx (vs : List Val) (u : Val) : Nat := if h : ∃ m, vs[m]? = some u then h.choose else 0
theorem vidx_at {vs : List Val} {u : Val} (h : u ∈ vs) : vs[vidx vs u]? = some u := by
  have h2 : ∃ m, vs[m]? = some u := List.mem_iff_getElem?.1 h
  unfold vidx
  rw [dif_pos h2]
  exact h2.choose_spec
theorem vidx_lt {vs : List Val} {u : Val} (h : u ∈ vs) : vidx vs u < vs.length := (List.getElem?_eq_some_iff.1 (vidx_at h)).1
theorem vidx_get {vs : List Val} {u : Val} (h : u ∈ vs) : vs[vidx vs u]'(vidx_lt h) = u := (List.getElem?_eq_some_iff.1 (vidx_at h)).2
/-- A triple's row. -/
noncomputable def rowOf (vs : List Val) (t : Tri3) : VR := ⟨vidx vs t.s, vidx vs t.p, vidx vs t.o⟩
theorem info81b : (Tryz.prog.info? 81).map (fun i => (i.zero, i.size, i.bytes)) = some (some (.agg #[.int .i64 0, .int .i64 0, .int .i64 0]), 3, 24) := by kernel_rfl
theorem lexI_zz {a b : Int} (h : lexI a b = 0) : a = 0 ∧ b = 0 := by
  unfold lexI at h
  by_cases e : a = 0
  · rw [if_pos e] at h
    exact ⟨e, h⟩
  · rw [if_neg e] at h
    exact absurd h e
theorem cmpZ_zz {a b : Int} (h : cmpZ a b = 0) : a = b := by
  unfold cmpZ at h
  by_cases e : a < b
  · rw [if_pos e] at h
    omega
  · rw [if_neg e] at h
    by_cases e2 : b < a
    · rw [if_pos e2] at h
      omega
    · omega
theorem VR.zero {r s : VR} (h : VR.cf r s = 0) : r = s := by
  unfold VR.cf rowI at h
  obtain ⟨h1, h2⟩ := lexI_zz h
  obtain ⟨h2, h3⟩ := lexI_zz h2
  obtain ⟨a, b, c⟩ := r
  obtain ⟨x, y, z⟩ := s
  rw [show a = x from cmpZ_zz h1, show b = y from cmpZ_zz h2, show c = z from cmpZ_zz h3]
/-- What Compact leaves of sorted rows. -/
theorem compact_riseR {d d' : Array VR} (hp : Go.Sort.PermIn 0 d.size d d') (hs : Go.Sort.SortedIn (Go.Proofs.ltOf VR.cf) 0 d.size d') :
    (Go.Lib.compactUpTo d' d'.size).Pairwise (fun a b => VR.cf a b < 0) ∧ ∀ u, u ∈ Go.Lib.compactUpTo d' d'.size ↔ u ∈ d.toList := by
  obtain ⟨hz, hq⟩ := perm_whole hp
  have hle : ∀ i j, i < j → j < d'.size → VR.cf d'[i]! d'[j]! ≤ 0 := fun i j hij hj => by
    have q : ¬ VR.cf d'[j]! d'[i]! < 0 := of_decide_eq_false (hs i j (Nat.zero_le _) hij (by omega))
    have e : VR.cf d'[j]! d'[i]! = -VR.cf d'[i]! d'[j]! := rowI_neg _ _ _ _ _ _
    omega
  constructor
  · refine compact_pair _ _ _ fun i j hij hj hne => ?_
    have hstep : VR.cf d'[j - 1]! d'[j]! < 0 := by
      have q := hle (j - 1) j (by omega) hj
      by_cases z : VR.cf d'[j - 1]! d'[j]! = 0
      · exact absurd (VR.zero z).symm hne
      · omega
    by_cases e : i = j - 1
    · subst e; exact hstep
    · exact (rowI_tri _ _ _).tl (hle i (j - 1) (by omega) (by omega)) hstep
  · intro u
    constructor
    · intro hu
      obtain ⟨j, hj, rfl⟩ := compact_of _ _ _ hu
      rw [← hq.mem_iff, getElem!_pos d' j hj]
      exact Array.getElem_mem_toList hj
    · intro hu
      have he2 : u ∈ d'.toList := hq.mem_iff.2 hu
      obtain ⟨j, hj, rfl⟩ := List.getElem_of_mem he2
      have hj' : j < d'.size := by simpa using hj
      have := compact_has d' d'.size j hj'
      rwa [getElem!_pos d' j hj', ← Array.getElem_toList] at this
/-- What the loop keeps. -/
def GR (W0 : World) (vs : List Val) (l : List Tri3) (j : Nat) (V : Value) (wr : World) : Prop := wr.ownsRow W0.heap.size 81 3 V ((l.take j).map (rowOf vs)).length (((l.take j).map (rowOf vs)).flatMap VR.enc) ∧ Below W0.heap.size W0 wr
/-- The rows, told. -/
def SRPost (w : World) (vs : List Val) (l : List Tri3) (e : Ending) (w' : World) : Prop := ∃ (rs : List VR) (g cap : Nat), e = .returned (.slice (some ⟨g, 0, none⟩) rs.length cap) ∧ rs.Pairwise (fun a b => VR.cf a b < 0) ∧ (∀ r, r ∈ rs ↔ ∃ t ∈ l, rowOf vs t = r) ∧ (∀ (j : Nat) (h : j < rs.length), w'.rangeAt g (j * 3) rs[j].enc) ∧ w.heap.size ≤ g ∧ rs.length ≤ cap ∧ rs.length ≤ l.length ∧ Below w.heap.size w w'
set_option maxHeartbeats 6400000 in
set_option maxRecDepth 20000 in
theorem sortedRowsSome (l : List Tri3) (vs : List Val) (g off cap gv cv : Nat) (w : World) (hG : Gd w) (hT : Tab w) (hl : Holds w g off (flat l)) (hn : l.length ≤ 100000) (h0 : 0 < l.length) (hvs : Holds w gv 0 vs) (hr : Rise vs) (hv : ∀ u ∈ flat l, u ∈ vs) (hvn : vs.length < 1073741824) :
    Calls Tryz.prog 41 #[.slice (some ⟨gv, 0, none⟩) vs.length cv, .slice (some ⟨g, off, none⟩) l.length cap] w (SRPost w vs l) := by
  obtain ⟨W0, hW0⟩ : ∃ W0, W0 = w.alloc (.cells #[.slice (some ⟨gv, 0, none⟩) vs.length cv] 37) := ⟨_, rfl⟩
  have b0 : Below w.heap.size w W0 := by rw [hW0]; exact below1 _ _
  have kb : W0.cell? ⟨w.heap.size, 0, none⟩ = some (.slice (some ⟨gv, 0, none⟩) vs.length cv) := by rw [hW0]; exact cell_of (heap_new _ _ rfl) 0 rfl
  have s0 : w.heap.size ≤ W0.heap.size := b0.size
  obtain ⟨n, hln⟩ : ∃ n, n = l.length := ⟨_, rfl⟩
  rw [← hln] at hn h0 ⊢
  obtain ⟨i0, hi, hz0, hz1, hz2⟩ := info_parts info81b
  have HL := Lib.hid hln
  have HH := Lib.hid (Holds.below _ hl b0)
  have HVS := Lib.hid (Holds.below _ hvs b0)
  have HR := Lib.hid hr
  have HV := Lib.hid hv
  have HG := Lib.hid (hG.below b0)
  have HT := Lib.hid (hT.below b0)
  have HKB := Lib.hid kb
  have HW := Lib.hid hW0
  have HB0 := Lib.hid b0
  clear hl hln hvs hr hv hG hT kb hW0 b0
  go_enter Tryz.func41, Tryz.ntmps41
  go_wp2_with fail
  rw [← HW.out]
  go_loopg [6, 12] n (fun gg s6 s12 wr => ∃ (j : Nat) (V : Value), V = s6 ∧ j + gg = n ∧ s12 = .int .i64 j ∧ Hid (GR W0 vs l j V wr))
  case atStart => exact ⟨0, _, rfl, by omega, rfl, Lib.hid ⟨World.ownsRow_nil _ _ _ _, Below.refl _ _⟩⟩
  case round =>
    obtain ⟨j, V, rfl, hjg, rfl, HA⟩ := hrel
    by_cases hlt : (j : Int) < n
    · have hj1 : j < l.length := by have := HL.out; omega
      obtain ⟨hown, hbel⟩ := HA.out
      obtain ⟨s, p, o, ls, lp, lo, is, ip, io, ra⟩ := trisAt (Holds.below _ HH.out hbel) j hj1
      obtain ⟨f0, f1, f2⟩ := flat_at l j hj1
      obtain ⟨d, hd⟩ : ∃ d, d = (l.take j).map (rowOf vs) := ⟨_, rfl⟩
      rw [← hd] at hown
      have hdl : d.length = j := by rw [hd, List.length_map, List.length_take]; omega
      have hbs := hbel.size
      have num : ∀ (u : Val) (v : V6) (q : List Val), Is wr v u q → u ∈ flat l → ∀ W, Below wr.heap.size wr W → Calls Tryz.prog 77 #[.agg #[.int .i64 v.k, .bool v.b, .int .i64 v.n, .string v.t, .string v.x, .slice v.p v.len v.cap], .pointer (some ⟨w.heap.size, 0, none⟩)] W fun e w' => e = .returned (.int .i64 (vidx vs u : Nat)) ∧ Low W.heap.size W w' := fun u v q hi hu W hb => by
        have hw := hbel.trans (hb.mono hbs)
        refine numberAt w.heap.size vs gv 0 cv (vidx vs u) v q W (HG.out.below hw) (HT.out.below hw) ((hw.cell (p := ⟨w.heap.size, 0, none⟩) (World.block_lt_of_cell? W0 _ HKB.out)).trans HKB.out) (Holds.below _ HVS.out hw) HR.out (vidx_lt (HV.out u hu)) hvn ?_
        rw [vidx_get (HV.out u hu)]
        exact hi.below hb
      have n0 := num _ s ls is (List.mem_of_getElem? f0)
      have n1 := num _ p lp ip (List.mem_of_getElem? f1)
      have n2 := num _ o lo io (List.mem_of_getElem? f2)
      have hrow : rowOf vs l[j] = ⟨(vidx vs l[j].s : Nat), (vidx vs l[j].p : Nat), (vidx vs l[j].o : Nat)⟩ := rfl
      generalize ((vidx vs l[j].s : Nat) : Int) = x at n0 hrow
      generalize ((vidx vs l[j].p : Nat) : Int) = y at n1 hrow
      generalize ((vidx vs l[j].o : Nat) : Int) = z at n2 hrow
      have HX := Lib.hid (And.intro hown hbel)
      have HN0 := Lib.hid n0
      have HN1 := Lib.hid n1
      have HN2 := Lib.hid n2
      have HD := Lib.hid hd
      have HROW := Lib.hid hrow
      clear num n0 n1 n2 hown hbel is ip io f0 f1 f2 HA hd hrow
      go_upto_region 6 with (first
        | ((with_reducible refine wpList_load18 (.tmp 14) g (off + j * 18) s p o ra ?_ ?_ ?_ ?_); rfl; rfl; rfl)
        | ((with_reducible refine wpList_store18 (.tmp 8) (.tmp 15) wr.heap.size s p o (heap_new _ _ rfl) rfl ?_ ?_ ?_ ?_ ?_); rfl; rfl; rfl; rfl; intro wX hoX B))
      have bX : Below wr.heap.size wr wX := below_only (below1 wr _) hoX (Nat.le_refl _) (by simp)
      have hfs := bX.size
      have HBX := Lib.hid bX
      have HC0 : Hid (∀ W, Low wX.heap.size wX W → _) := Lib.hid fun W (h : Low wX.heap.size wX W) => HN0.out W (HBX.out.trans (h.is.mono hfs))
      have HC1 : Hid (∀ W, Low wX.heap.size wX W → _) := Lib.hid fun W (h : Low wX.heap.size wX W) => HN1.out W (HBX.out.trans (h.is.mono hfs))
      have HC2 : Hid (∀ W, Low wX.heap.size wX W → _) := Lib.hid fun W (h : Low wX.heap.size wX W) => HN2.out W (HBX.out.trans (h.is.mono hfs))
      clear hoX ra bX HN0 HN1 HN2
      refine wp_region_held_drew (S := fun W => Box18 W wr.heap.size s p o) (by kernel_rfl) B (fun hHeld => ?_)
      have L0 : Low wX.heap.size wX wX.drew := (Low.refl _ _).drew
      refine wpAnyH_take (i := 0) (v := V) rfl (by kernel_rfl) (by kernel_rfl) (by kernel_rfl) (fun _ _ _ h => h) (Or.inl ⟨by rfl, fun W _ => by go_simp⟩) hHeld ?_
      try simp only [Act.put, List.getElem_toArray, List.getElem_cons_zero, List.setIfInBounds_toArray, List.set_cons_zero, List.set_cons_succ]
      refine wpAnyH_take (i := 1) (v := .func (.func 77) #[] #[.pointer (some ⟨w.heap.size, 0, none⟩)]) rfl (by kernel_rfl) (by kernel_rfl) (by kernel_rfl) (fun _ _ _ h => h) (Or.inl ⟨by rfl, fun W _ => by go_simp⟩) hHeld ?_
      try simp only [Act.put, List.getElem_toArray, List.getElem_cons_succ, List.getElem_cons_zero, List.setIfInBounds_toArray, List.set_cons_zero, List.set_cons_succ]
      refine wpAnyH_take (i := 2) (v := .pointer (some ⟨wr.heap.size, 0, none⟩)) rfl (by kernel_rfl) (by kernel_rfl) (by kernel_rfl) (fun _ _ _ h => h) (Or.inl ⟨by rfl, fun W _ => by go_simp⟩) hHeld ?_
      try simp only [Act.put, List.getElem_toArray, List.getElem_cons_succ, List.getElem_cons_zero, List.setIfInBounds_toArray, List.set_cons_zero, List.set_cons_succ]
      refine wpAnyH_take (i := 3) rfl (by kernel_rfl) (by kernel_rfl) (by kernel_rfl) (fun _ _ _ h => h) (yieldsIf_load_mid (by rfl) 39 (.tmp 18) rfl wr.heap.size 0 rfl [.int .i64 s.k, .bool s.b, .int .i64 s.n, .string s.t, .string s.x, .slice s.p s.len s.cap] _ (fun w h => (h : Box18 w wr.heap.size s p o).r0) Tryz.underlying39 rfl info28) hHeld ?_
      try simp only [Act.put, List.getElem_toArray, List.getElem_cons_succ, List.getElem_cons_zero, List.setIfInBounds_toArray, List.set_cons_zero, List.set_cons_succ]
      refine wpAnyH_take (i := 5) (v := .func (.func 77) #[] #[.pointer (some ⟨w.heap.size, 0, none⟩)]) rfl (by kernel_rfl) (by kernel_rfl) (by kernel_rfl) (fun _ _ _ h => h) (Or.inl ⟨by rfl, fun W _ => by go_simp⟩) hHeld ?_
      try simp only [Act.put, List.getElem_toArray, List.getElem_cons_succ, List.getElem_cons_zero, List.setIfInBounds_toArray, List.set_cons_zero, List.set_cons_succ]
      refine wpAnyH_take (i := 6) (v := .pointer (some ⟨wr.heap.size, 6, none⟩)) rfl (by kernel_rfl) (by kernel_rfl) (by kernel_rfl) (fun _ _ _ h => h) (Or.inl ⟨by rfl, fun W _ => by go_simp⟩) hHeld ?_
      try simp only [Act.put, List.getElem_toArray, List.getElem_cons_succ, List.getElem_cons_zero, List.setIfInBounds_toArray, List.set_cons_zero, List.set_cons_succ]
      refine wpAnyH_take (i := 7) rfl (by kernel_rfl) (by kernel_rfl) (by kernel_rfl) (fun _ _ _ h => h) (yieldsIf_load_mid (by rfl) 39 (.tmp 22) rfl wr.heap.size 6 rfl [.int .i64 p.k, .bool p.b, .int .i64 p.n, .string p.t, .string p.x, .slice p.p p.len p.cap] _ (fun w h => (h : Box18 w wr.heap.size s p o).r1) Tryz.underlying39 rfl info28) hHeld ?_
      try simp only [Act.put, List.getElem_toArray, List.getElem_cons_succ, List.getElem_cons_zero, List.setIfInBounds_toArray, List.set_cons_zero, List.set_cons_succ]
      refine wpAnyH_take (i := 9) (v := .func (.func 77) #[] #[.pointer (some ⟨w.heap.size, 0, none⟩)]) rfl (by kernel_rfl) (by kernel_rfl) (by kernel_rfl) (fun _ _ _ h => h) (Or.inl ⟨by rfl, fun W _ => by go_simp⟩) hHeld ?_
      try simp only [Act.put, List.getElem_toArray, List.getElem_cons_succ, List.getElem_cons_zero, List.setIfInBounds_toArray, List.set_cons_zero, List.set_cons_succ]
      refine wpAnyH_take (i := 10) (v := .pointer (some ⟨wr.heap.size, 12, none⟩)) rfl (by kernel_rfl) (by kernel_rfl) (by kernel_rfl) (fun _ _ _ h => h) (Or.inl ⟨by rfl, fun W _ => by go_simp⟩) hHeld ?_
      try simp only [Act.put, List.getElem_toArray, List.getElem_cons_succ, List.getElem_cons_zero, List.setIfInBounds_toArray, List.set_cons_zero, List.set_cons_succ]
      refine wpAnyH_take (i := 11) rfl (by kernel_rfl) (by kernel_rfl) (by kernel_rfl) (fun _ _ _ h => h) (yieldsIf_load_mid (by rfl) 39 (.tmp 26) rfl wr.heap.size 12 rfl [.int .i64 o.k, .bool o.b, .int .i64 o.n, .string o.t, .string o.x, .slice o.p o.len o.cap] _ (fun w h => (h : Box18 w wr.heap.size s p o).r2) Tryz.underlying39 rfl info28) hHeld ?_
      try simp only [Act.put, List.getElem_toArray, List.getElem_cons_succ, List.getElem_cons_zero, List.setIfInBounds_toArray, List.set_cons_zero, List.set_cons_succ]
      refine wpAnyH_ready (rs := [4]) (by kernel_rfl) (by simp) ?_
      refine AllReadyH.cons rfl (fun K hK => ?_) AllReadyH.nil
      rw [if_pos (by rfl)]
      go_simp
      refine (HC0.out _ L0).mono ?_
      rintro e0 w3 ⟨rfl, hb3⟩
      have L1 := low_any L0 hb3 L0.size
      have hHeld1 := Box18.below hHeld hb3.is
      clear hb3 hHeld
      refine hK.out _ _ hHeld1 (fun hHeld1 => ?_)
      clear hK K
      try simp only [Act.put, List.getElem_toArray, List.getElem_cons_succ, List.getElem_cons_zero, List.setIfInBounds_toArray, List.set_cons_zero, List.set_cons_succ]
      refine wpAnyH_ready (rs := [8]) (by kernel_rfl) (by simp) ?_
      refine AllReadyH.cons rfl (fun K hK => ?_) AllReadyH.nil
      rw [if_pos (by rfl)]
      go_simp
      refine (HC1.out _ L1).mono ?_
      rintro e0 w3 ⟨rfl, hb3⟩
      have L2 := low_any L1 hb3 L1.size
      have hHeld2 := Box18.below hHeld1 hb3.is
      clear hb3 hHeld1
      refine hK.out _ _ hHeld2 (fun hHeld2 => ?_)
      clear hK K
      try simp only [Act.put, List.getElem_toArray, List.getElem_cons_succ, List.getElem_cons_zero, List.setIfInBounds_toArray, List.set_cons_zero, List.set_cons_succ]
      refine wpAnyH_ready (rs := [12]) (by kernel_rfl) (by simp) ?_
      refine AllReadyH.cons rfl (fun K hK => ?_) AllReadyH.nil
      rw [if_pos (by rfl)]
      go_simp
      refine (HC2.out _ L2).mono ?_
      rintro e0 w3 ⟨rfl, hb3⟩
      have L3 := low_any L2 hb3 L2.size
      have hHeld3 := Box18.below hHeld2 hb3.is
      clear hb3 hHeld2
      refine hK.out _ _ hHeld3 (fun hHeld3 => ?_)
      clear hK K
      try simp only [Act.put, List.getElem_toArray, List.getElem_cons_succ, List.getElem_cons_zero, List.setIfInBounds_toArray, List.set_cons_zero, List.set_cons_succ]
      refine wpAnyH_take (i := 13) (v := .agg #[.int .i64 x, .int .i64 y, .int .i64 z]) rfl (by kernel_rfl) (by kernel_rfl) (by kernel_rfl) (fun _ _ _ h => h) (Or.inl ⟨by rfl, fun W _ => by go_simp⟩) hHeld3 ?_
      try simp only [Act.put, List.getElem_toArray, List.getElem_cons_succ, List.getElem_cons_zero, List.setIfInBounds_toArray, List.set_cons_zero, List.set_cons_succ]
      refine wpAnyH_ready (rs := [14]) (by kernel_rfl) (by simp) ?_
      refine AllReadyH.cons rfl (fun K hK => ?_) AllReadyH.nil
      (try rw [if_pos (by rfl)])
      go_simp
      have hownX := (own_below (own_below HX.out.1 HBX.out) (L3.is.mono (Nat.le_refl _))).alloc (.cells #[.int .i64 x, .int .i64 y, .int .i64 z] 81)
      have hge := L3.size
      refine hK.out _ _ (hHeld3.alloc _) (fun _ => ?_)
      clear hK K
      try simp only [Act.put, List.getElem_toArray, List.getElem_cons_succ, List.getElem_cons_zero, List.setIfInBounds_toArray, List.set_cons_zero, List.set_cons_succ]
      refine wpAnyH_ready (rs := [15]) (by kernel_rfl) (by simp) ?_
      refine AllReadyH.cons rfl (fun K hK => ?_) AllReadyH.nil
      refine step_append_lies _ (by rfl) _ _ _ (by rfl) W0.heap.size 81 i0 _ 3 24 Tryz.underlying71 hi hz0 hz1 hz2 rfl (by omega) V d.length (d.flatMap VR.enc) (by rfl) hownX ⟨w3.heap.size, 0, none⟩ 1 1 [.int .i64 x, .int .i64 y, .int .i64 z] (by rfl) (by rfl) (World.news_of_block (cs := #[.int .i64 x, .int .i64 y, .int .i64 z]) (t := 81) (fr := (0, 0)) (by exact heap_new w3 _ rfl)) (by simp [Value.oneCell']) (by omega) (by rw [hdl]; unfold maxLen; omega) (by rw [hdl]; omega) (by simp; omega) (w3.heap.size + 1) (by simp) ?_
      intro gg cap' w5 hr hg3 hat hlt5
      have hB5 : Box18 w5 wr.heap.size s p o := (hg3.block wr.heap.size (by simp; have := hHeld3.lt; omega) (fun q => by have := (HX.out.1.lt _ q.symm).2; omega)).trans (hHeld3.alloc _)
      refine hK.out _ _ hB5 (fun _ => ?_)
      clear hK K
      try simp only [Act.put, List.getElem_toArray, List.getElem_cons_succ, List.getElem_cons_zero, List.setIfInBounds_toArray, List.set_cons_zero, List.set_cons_succ]
      refine wpAnyH_take (i := 16) (v := .slice (some ⟨gg, 0, none⟩) (d.length + 1) cap') rfl (by kernel_rfl) (by kernel_rfl) (by kernel_rfl) (fun _ _ _ h => h) (Or.inl ⟨by rfl, fun W _ => by go_simp⟩) hB5 ?_
      try simp only [Act.put, List.getElem_toArray, List.getElem_cons_succ, List.getElem_cons_zero, List.setIfInBounds_toArray, List.set_cons_zero, List.set_cons_succ]
      refine wpAnyH_done (by kernel_rfl) ?_ _
      have acc : GR W0 vs l (j + 1) (.slice (some ⟨gg, 0, none⟩) (d.length + 1) cap') w5 := by
        obtain ⟨hown, hbel⟩ := HX.out
        refine ⟨?_, ?_⟩
        · rw [List.take_succ_eq_append_getElem hj1, List.map_append, List.length_append, List.flatMap_append, ← HD.out]
          have e : [l[j]].map (rowOf vs) = [⟨x, y, z⟩] := by rw [List.map_singleton, HROW.out]
          rw [e]
          exact hr
        · exact (((hbel.trans (HBX.out.mono hbs)).trans (L3.is.mono (Nat.le_trans hbs hfs))).alloc (by omega) _).grown hg3 (by simp; omega) (fun g hg => (hown.lt g hg).1)
      have ACC := Lib.hid acc
      clear acc hr hg3 hat hownX HX HBX HC0 HC1 HC2 hB5 L0 L1 L2 L3 hHeld3 B HD HROW
      go_wp2_with fail
      go_roundg (gk - 1)
      case measure => omega
      case rel => exact ⟨j + 1, _, rfl, by omega, by go_num, ACC⟩
    · obtain ⟨hown, hbel⟩ := HA.out
      have hjn : j = l.length := by have := HL.out; omega
      rw [hjn, List.take_length] at hown
      obtain ⟨d, hd⟩ : ∃ d, d = l.map (rowOf vs) := ⟨_, rfl⟩
      rw [← hd] at hown
      have hdl : d.length = l.length := by rw [hd, List.length_map]
      obtain ⟨gr, cr, rfl, hgr, hgr2, hcap⟩ := own_form hown (by have := HL.out; omega)
      have hH := holdsK_of_own VR.len3 d hown
      have hs1 : d.toArray.size = d.length := List.size_toArray ..
      have hsort := sortRows wr gr 0 cr d.toArray hgr2 hH (by rw [hs1]; omega)
      rw [hs1] at hsort
      have HS := Lib.hid hsort
      have HX := Lib.hid (And.intro hd (And.intro hH hbel))
      have hdb : d.length ≤ 100000 := by omega
      have HDL : Hid (d.length = l.length) := Lib.hid (by omega)
      have hs1 := Lib.hid hs1
      clear hsort hH hd hown hbel HA hdl
      go_upto_region 9 with (first
        | (go_at_call 79; (with_reducible refine HS.out.mono ?_); rintro e2 w2 ⟨rfl, d', nn, os, hperm, hsorted, hw2⟩; have HW2 := Lib.hid hw2; clear hw2))
      have hsz : d'.size = d.length := (perm_whole hperm).1.trans hs1.out
      have hE : Elems VR.enc 3 w2 gr 0 d' := by rw [HW2.out]; exact Elems.of_holds (holdsK_sortWorldK VR.enc 3 wr gr 0 nn d.toArray d' os hgr2 HX.out.2.1 (perm_whole hperm).1) VR.len3
      have hlt2 : gr < w2.heap.size := by rw [HW2.out]; exact lt_sortWorldK VR.enc 3 wr gr 0 nn d' os hgr2
      have hon2 : Only gr wr w2 := by rw [HW2.out]; exact only_sort VR.enc 3 wr gr 0 nn d' os
      have hcomp := compactR gr 0 cr d' w2 hE hlt2 (by omega) (by omega)
      rw [hsz] at hcomp
      have HC := Lib.hid hcomp
      have HY := Lib.hid (And.intro hperm (And.intro hsorted (And.intro hsz hon2)))
      clear hcomp hperm hsorted hsz hon2 hE
      go_wp2_with (go_at_call 82; (with_reducible refine HC.out.mono ?_); rintro e3 w3 ⟨dk, rfl, hdk, hEk, hon3⟩)
      have hfin : SRPost w vs l (.returned (.slice (some ⟨gr, 0, none⟩) dk.size cr)) w3 := by
        obtain ⟨hd, hH, hbel⟩ := HX.out
        obtain ⟨hperm, hsorted, hsz, hon2⟩ := HY.out
        have q := compact_riseR hperm hsorted
        rw [hsz, ← hdk, List.toList_toArray] at q
        have hlen := compact_len (dv := inferInstance) d' d.length
        rw [← hdk] at hlen
        have hb3 : Below W0.heap.size W0 w3 := below_only hbel (hon2.trans hon3) hgr hbel.size
        refine ⟨dk.toList, gr, cr, by simp, q.1, fun r => ?_, fun j h => ?_, Nat.le_trans s0 hgr, by omega, by have := HDL.out; omega, HB0.out.trans (hb3.mono s0)⟩
        · rw [q.2, hd, List.mem_map]
        · have := (hEk j (by simpa using h)).1
          rw [Nat.zero_add, getElem!_pos dk j (by simpa using h), ← Array.getElem_toList] at this
          exact this
      have HF := Lib.hid hfin
      clear hfin hdk hEk hon3 HY HC HX HS
      go_wp2_with fail
      go_ret
      exact HF.out
end Go.Proofs.YtanbgdhmfjgihaaGreatDoor

/- A store's cursors. -/
namespace Go.Proofs.YtanbgdhmfjgihaaGreatDoor
open Go.RowKit

theorem wpList_lev {ops : Array Oper} {rest : List Oper} {o : Oper} {a : Act} {w : World} {Q : Exit → Act → World → Prop} (x : Operand) (g off : Nat) (u v z : Int) (h6 : w.rangeAt g off [.int .i64 u, .int .i64 v, .int .i64 z])
    (hgd : o.guard = none) (ho : o.op = .load 78 x) (hx : a.eval x = .pointer (some ⟨g, off, none⟩))
    (h : wpList Tryz.prog ops Q rest (a.put o.dst (.agg #[.int .i64 u, .int .i64 v, .int .i64 z])) w) : wpList Tryz.prog ops Q (o :: rest) a w :=
  wpList_load_mid hgd 78 x ho g off hx [.int .i64 u, .int .i64 v, .int .i64 z] _ h6 Tryz.underlying78 rfl info78 h
theorem wpList_storeLev {ops : Array Oper} {rest : List Oper} {o : Oper} {a : Act} {w : World} {Q : Exit → Act → World → Prop} {p q r : Value} (u v k : Int) (y z : Operand) (g : Nat) (hg : w.heap[g]? = some (.cells #[p, q, r] 78))
    (hgd : o.guard = none) (ho : o.op = .store 78 y z) (hx : a.eval y = .pointer (some ⟨g, 0, none⟩)) (hy : a.eval z = .agg #[.int .i64 u, .int .i64 v, .int .i64 k])
    (h : wpList Tryz.prog ops Q rest (a.put o.dst undef) (w.setRow g #[.int .i64 u, .int .i64 v, .int .i64 k])) : wpList Tryz.prog ops Q (o :: rest) a w :=
  wpList_store_row hgd 78 y z ho g #[.int .i64 u, .int .i64 v, .int .i64 k] hx hy 78 _ hg info78 rfl (by simp [Value.oneCell']) h
theorem range3 {w : World} {g o : Nat} {u v z : Value} (h0 : w.cell? ⟨g, o, none⟩ = some u) (h1 : w.cell? ⟨g, o + 1, none⟩ = some v) (h2 : w.cell? ⟨g, o + 2, none⟩ = some z) : w.rangeAt g o [u, v, z] := by
  intro i x hx
  match i, hx with
  | 0, e => obtain rfl := Option.some.inj e; exact h0
  | 1, e => obtain rfl := Option.some.inj e; exact h1
  | 2, e => obtain rfl := Option.some.inj e; exact h2
  | i + 3, e => simp at e

set_option maxHeartbeats 3200000 in
set_option maxRecDepth 20000 in
theorem levelsRaw (k : Nat) (u v z : Int) (w : World) (hk : k < 6) (hu : (#[.int .i64 0, .int .i64 1, .int .i64 2, .int .i64 0, .int .i64 2, .int .i64 1, .int .i64 1, .int .i64 0, .int .i64 2, .int .i64 1, .int .i64 2, .int .i64 0, .int .i64 2, .int .i64 0, .int .i64 1, .int .i64 2, .int .i64 1, .int .i64 0] : Array Value)[k * 3]? = some (.int .i64 u)) (hv : (#[.int .i64 0, .int .i64 1, .int .i64 2, .int .i64 0, .int .i64 2, .int .i64 1, .int .i64 1, .int .i64 0, .int .i64 2, .int .i64 1, .int .i64 2, .int .i64 0, .int .i64 2, .int .i64 0, .int .i64 1, .int .i64 2, .int .i64 1, .int .i64 0] : Array Value)[k * 3 + 1]? = some (.int .i64 v)) (hz : (#[.int .i64 0, .int .i64 1, .int .i64 2, .int .i64 0, .int .i64 2, .int .i64 1, .int .i64 1, .int .i64 0, .int .i64 2, .int .i64 1, .int .i64 2, .int .i64 0, .int .i64 2, .int .i64 0, .int .i64 1, .int .i64 2, .int .i64 1, .int .i64 0] : Array Value)[k * 3 + 2]? = some (.int .i64 z)) :
    Calls Tryz.prog 43 #[.int .i64 k] w fun e w' => e = .returned (.agg #[.int .i64 u, .int .i64 v, .int .i64 z]) ∧ Low w.heap.size w w' := by
  obtain ⟨W1, hW1⟩ : ∃ W1, W1 = (w.alloc (.cells #[.int .i64 0, .int .i64 0, .int .i64 0] 78)).alloc (.cells #[.int .i64 0, .int .i64 1, .int .i64 2, .int .i64 0, .int .i64 2, .int .i64 1, .int .i64 1, .int .i64 0, .int .i64 2, .int .i64 1, .int .i64 2, .int .i64 0, .int .i64 2, .int .i64 0, .int .i64 1, .int .i64 2, .int .i64 1, .int .i64 0] 121) := ⟨_, rfl⟩
  have B : W1.heap[w.heap.size]? = some (.cells #[.int .i64 0, .int .i64 0, .int .i64 0] 78) := by rw [hW1]; exact heap_old _ (heap_new _ _ rfl)
  have B2 : W1.heap[w.heap.size + 1]? = some (.cells #[.int .i64 0, .int .i64 1, .int .i64 2, .int .i64 0, .int .i64 2, .int .i64 1, .int .i64 1, .int .i64 0, .int .i64 2, .int .i64 1, .int .i64 2, .int .i64 0, .int .i64 2, .int .i64 0, .int .i64 1, .int .i64 2, .int .i64 1, .int .i64 0] 121) := by rw [hW1]; exact heap_new _ _ (by simp)
  have b0 : Low w.heap.size w W1 := by rw [hW1]; exact low2 _ _ _
  have R : W1.rangeAt (w.heap.size + 1) (k * 3) [.int .i64 u, .int .i64 v, .int .i64 z] := range3 (cell_of B2 (k * 3) hu) (cell_of B2 (k * 3 + 1) hv) (cell_of B2 (k * 3 + 2) hz)
  have hki : (k : Int) < 6 := by omega
  have HW := Lib.hid hW1
  clear hW1 hu hv hz B2
  go_enter Tryz.func43, Tryz.ntmps43
  go_upto_region 2 with fail
  rw [← HW.out]
  generalize Value.agg #[.int .i64 0, .int .i64 1, .int .i64 2, .int .i64 0, .int .i64 2, .int .i64 1, .int .i64 1, .int .i64 0, .int .i64 2, .int .i64 1, .int .i64 2, .int .i64 0, .int .i64 2, .int .i64 0, .int .i64 1, .int .i64 2, .int .i64 1, .int .i64 0] = z10
  generalize Value.agg #[.int .i64 0, .int .i64 1, .int .i64 2] = z4
  generalize Value.agg #[.int .i64 0, .int .i64 2, .int .i64 1] = z5
  generalize Value.agg #[.int .i64 1, .int .i64 0, .int .i64 2] = z6
  generalize Value.agg #[.int .i64 1, .int .i64 2, .int .i64 0] = z7
  go_wp2_with (first
    | ((with_reducible refine wpList_lev (.tmp 12) (w.heap.size + 1) (k * 3) u v z R ?_ ?_ ?_ ?_); rfl; rfl; rfl)
    | ((with_reducible refine wpList_storeLev u v z (.tmp 2) (.tmp 13) w.heap.size B ?_ ?_ ?_ ?_ ?_); rfl; rfl; rfl; rfl))
  have b2 := low_only b0 (Only.setRow (b := w.heap.size) W1 #[.int .i64 u, .int .i64 v, .int .i64 z]) (Nat.le_refl _) b0.size
  have u5 := heap_setRow (w := W1) (g := w.heap.size) (c' := #[.int .i64 u, .int .i64 v, .int .i64 z]) B
  exact bodyPost_ret (v := .agg #[.int .i64 u, .int .i64 v, .int .i64 z]) (results_cell_row (p := 2) (ty := 78) Tryz.results43 _ _ w.heap.size 78 _ (0, 0) _ rfl u5 Tryz.underlying78 rfl (by exact info78)) rfl ⟨rfl, b2⟩

theorem named0 (w : World) : Calls Tryz.prog 53 #[.string ⟨#[115, 112, 111]⟩] w fun e w' => e = .returned (.tuple #[.int .i64 0, .bool true]) ∧ Low w.heap.size w w' := by
  go_enter Tryz.func53, Tryz.ntmps53
  go_wp2_with fail
  exact bodyPost_ret (results_tmp2 Tryz.results53 _ _ _) rfl ⟨rfl, Low.refl _ _⟩

theorem named1 (w : World) : Calls Tryz.prog 53 #[.string ⟨#[115, 111, 112]⟩] w fun e w' => e = .returned (.tuple #[.int .i64 1, .bool true]) ∧ Low w.heap.size w w' := by
  go_enter Tryz.func53, Tryz.ntmps53
  go_wp2_with fail
  exact bodyPost_ret (results_tmp2 Tryz.results53 _ _ _) rfl ⟨rfl, Low.refl _ _⟩

theorem named2 (w : World) : Calls Tryz.prog 53 #[.string ⟨#[112, 115, 111]⟩] w fun e w' => e = .returned (.tuple #[.int .i64 2, .bool true]) ∧ Low w.heap.size w w' := by
  go_enter Tryz.func53, Tryz.ntmps53
  go_wp2_with fail
  exact bodyPost_ret (results_tmp2 Tryz.results53 _ _ _) rfl ⟨rfl, Low.refl _ _⟩

theorem named3 (w : World) : Calls Tryz.prog 53 #[.string ⟨#[112, 111, 115]⟩] w fun e w' => e = .returned (.tuple #[.int .i64 3, .bool true]) ∧ Low w.heap.size w w' := by
  go_enter Tryz.func53, Tryz.ntmps53
  go_wp2_with fail
  exact bodyPost_ret (results_tmp2 Tryz.results53 _ _ _) rfl ⟨rfl, Low.refl _ _⟩

theorem named4 (w : World) : Calls Tryz.prog 53 #[.string ⟨#[111, 115, 112]⟩] w fun e w' => e = .returned (.tuple #[.int .i64 4, .bool true]) ∧ Low w.heap.size w w' := by
  go_enter Tryz.func53, Tryz.ntmps53
  go_wp2_with fail
  exact bodyPost_ret (results_tmp2 Tryz.results53 _ _ _) rfl ⟨rfl, Low.refl _ _⟩

theorem named5 (w : World) : Calls Tryz.prog 53 #[.string ⟨#[111, 112, 115]⟩] w fun e w' => e = .returned (.tuple #[.int .i64 5, .bool true]) ∧ Low w.heap.size w w' := by
  go_enter Tryz.func53, Tryz.ntmps53
  go_wp2_with fail
  exact bodyPost_ret (results_tmp2 Tryz.results53 _ _ _) rfl ⟨rfl, Low.refl _ _⟩

/-- The orders' names. -/
def onm : Nat → ByteArray
  | 0 => ⟨#[115, 112, 111]⟩
  | 1 => ⟨#[115, 111, 112]⟩
  | 2 => ⟨#[112, 115, 111]⟩
  | 3 => ⟨#[112, 111, 115]⟩
  | 4 => ⟨#[111, 115, 112]⟩
  | _ => ⟨#[111, 112, 115]⟩
theorem levelsAt (k : Nat) (hk : k < 6) (w : World) : Calls Tryz.prog 43 #[.int .i64 k] w fun e w' => e = .returned (.agg #[.int .i64 ((lev k).1 : Nat), .int .i64 ((lev k).2.1 : Nat), .int .i64 ((lev k).2.2 : Nat)]) ∧ Low w.heap.size w w' := by
  match k, hk with
  | 0, _ => exact levelsRaw 0 _ _ _ w (by decide) rfl rfl rfl
  | 1, _ => exact levelsRaw 1 _ _ _ w (by decide) rfl rfl rfl
  | 2, _ => exact levelsRaw 2 _ _ _ w (by decide) rfl rfl rfl
  | 3, _ => exact levelsRaw 3 _ _ _ w (by decide) rfl rfl rfl
  | 4, _ => exact levelsRaw 4 _ _ _ w (by decide) rfl rfl rfl
  | 5, _ => exact levelsRaw 5 _ _ _ w (by decide) rfl rfl rfl
theorem namedAt (k : Nat) (hk : k < 6) (w : World) : Calls Tryz.prog 53 #[.string (onm k)] w fun e w' => e = .returned (.tuple #[.int .i64 k, .bool true]) ∧ Low w.heap.size w w' := by
  match k, hk with
  | 0, _ => exact named0 w
  | 1, _ => exact named1 w
  | 2, _ => exact named2 w
  | 3, _ => exact named3 w
  | 4, _ => exact named4 w
  | 5, _ => exact named5 w
end Go.Proofs.YtanbgdhmfjgihaaGreatDoor

/- Whole numbers sorted by the library's slices.SortFunc: its contract laid at this seat. -/
namespace Go.Proofs
open Go.Shelf
def Tryz.sortN_ren : Go.Shelf.Ren := ⟨fun | 6 => 83 | 15 => 101 | 14 => 105 | 28 => 134 | 29 => 135 | 20 => 146 | 21 => 147 | 22 => 148 | 23 => 149 | 24 => 150 | 25 => 151 | 26 => 152 | 27 => 153 | 46 => 175 | 47 => 161 | 48 => 162 | 49 => 176 | 50 => 177 | 57 => 186 | n => n, fun | 22 => 73 | 24 => 3 | 25 => 104 | 3 => 3 | 39 => 139 | 0 => 0 | 53 => 174 | 55 => 176 | 4 => 4 | 46 => 168 | 45 => 167 | 50 => 87 | 5 => 5 | 9 => 9 | 66 => 193 | 70 => 197 | 76 => 209 | 77 => 210 | n => n, fun | n => n⟩
theorem Tryz.sortN : Go.Proofs.SlLaysF.n6 Tryz.prog Tryz.sortN_ren := {
  mixed := by kernel_rfl
  f6 := ⟨Tryz.f83.name, by decide, Tryz.func83.trans (congrArg some (by kernel_rfl))⟩
  f14 := ⟨Tryz.f105.name, by decide, Tryz.func105.trans (congrArg some (by kernel_rfl))⟩
  f15 := Tryz.func101.trans (congrArg some (by kernel_rfl))
  f20 := ⟨Tryz.f146.name, by decide, Tryz.func146.trans (congrArg some (by kernel_rfl))⟩
  f21 := ⟨Tryz.f147.name, by decide, Tryz.func147.trans (congrArg some (by kernel_rfl))⟩
  f22 := ⟨Tryz.f148.name, by decide, Tryz.func148.trans (congrArg some (by kernel_rfl))⟩
  f23 := ⟨Tryz.f149.name, by decide, Tryz.func149.trans (congrArg some (by kernel_rfl))⟩
  f24 := ⟨Tryz.f150.name, by decide, Tryz.func150.trans (congrArg some (by kernel_rfl))⟩
  f25 := ⟨Tryz.f151.name, by decide, Tryz.func151.trans (congrArg some (by kernel_rfl))⟩
  f26 := ⟨Tryz.f152.name, by decide, Tryz.func152.trans (congrArg some (by kernel_rfl))⟩
  f27 := ⟨Tryz.f153.name, by decide, Tryz.func153.trans (congrArg some (by kernel_rfl))⟩
  f28 := Tryz.func134.trans (congrArg some (by kernel_rfl))
  f29 := Tryz.func135.trans (congrArg some (by kernel_rfl))
  f46 := ⟨Tryz.f175.name, by decide, Tryz.func175.trans (congrArg some (by kernel_rfl))⟩
  f47 := Tryz.func161.trans (congrArg some (by kernel_rfl))
  f48 := Tryz.func162.trans (congrArg some (by kernel_rfl))
  f49 := ⟨Tryz.f176.name, by decide, Tryz.func176.trans (congrArg some (by kernel_rfl))⟩
  f50 := ⟨Tryz.f177.name, by decide, Tryz.func177.trans (congrArg some (by kernel_rfl))⟩
  f57 := ⟨Tryz.f186.name, by decide, Tryz.func186.trans (congrArg some (by kernel_rfl))⟩
  t0 := Tryz.underlying0
  a0 := Tryz.isAgg0
  z0 := Tryz.sizeOf0
  v0 := Tryz.zeroValue0
  t3 := Tryz.underlying3
  a3 := Tryz.isAgg3
  z3 := Tryz.sizeOf3
  v3 := Tryz.zeroValue3
  t4 := Tryz.underlying4
  a4 := Tryz.isAgg4
  z4 := Tryz.sizeOf4
  v4 := Tryz.zeroValue4
  t5 := Tryz.underlying5
  a5 := Tryz.isAgg5
  z5 := Tryz.sizeOf5
  v5 := Tryz.zeroValue5
  t9 := Tryz.underlying9
  a9 := Tryz.isAgg9
  z9 := Tryz.sizeOf9
  v9 := Tryz.zeroValue9
  t22 := Tryz.underlying73
  a22 := Tryz.isAgg73
  z22 := Tryz.sizeOf73
  v22 := Tryz.zeroValue73
  a24 := Tryz.isAgg3
  z24 := Tryz.sizeOf3
  t25 := Tryz.underlying104
  a25 := Tryz.isAgg104
  z25 := Tryz.sizeOf104
  v25 := Tryz.zeroValue104
  t39 := Tryz.underlying139
  a39 := Tryz.isAgg139
  z39 := Tryz.sizeOf139
  v39 := Tryz.zeroValue139
  t45 := Tryz.underlying167
  a45 := Tryz.isAgg167
  z45 := Tryz.sizeOf167
  v45 := Tryz.zeroValue167
  t46 := Tryz.underlying168
  a46 := Tryz.isAgg168
  z46 := Tryz.sizeOf168
  v46 := Tryz.zeroValue168
  t50 := Tryz.underlying87
  a50 := Tryz.isAgg87
  z50 := Tryz.sizeOf87
  v50 := Tryz.zeroValue87
  t53 := Tryz.underlying174
  a53 := Tryz.isAgg174
  z53 := Tryz.sizeOf174
  v53 := Tryz.zeroValue174
  t55 := Tryz.underlying176
  a55 := Tryz.isAgg176
  z55 := Tryz.sizeOf176
  v55 := Tryz.zeroValue176
  t66 := Tryz.underlying193
  a66 := Tryz.isAgg193
  z66 := Tryz.sizeOf193
  v66 := Tryz.zeroValue193
  t70 := Tryz.underlying197
  a70 := Tryz.isAgg197
  z70 := Tryz.sizeOf197
  v70 := Tryz.zeroValue197
  t76 := Tryz.underlying209
  a76 := Tryz.isAgg209
  z76 := Tryz.sizeOf209
  v76 := Tryz.zeroValue209
  t77 := Tryz.underlying210
  a77 := Tryz.isAgg210
  z77 := Tryz.sizeOf210
  v77 := Tryz.zeroValue210 }
end Go.Proofs
