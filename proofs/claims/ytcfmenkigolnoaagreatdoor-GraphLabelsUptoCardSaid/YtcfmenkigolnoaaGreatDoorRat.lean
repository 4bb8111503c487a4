/- Texts of one kind, one behind the other: each says ahead of itself what it shows. -/
import Derived.Test.YtcfmenkigolnoaaGreatDoorRas
/- The law GraphLabels: those that have several labels are those that have each of them; an edge's types likewise. -/
namespace Go.Proofs.YtcfmenkigolnoaaGreatDoor
open Go.RowKit

theorem ints_of_slice {W : World} {P : Nat → Prop} {v : Value} {l : List Int} (h : SliceE intE W P v l) : IntsAt W v l ∧ ∀ x ∈ l, (Lit.int .i64 x).wf = true := by
  obtain ⟨p, cap, rfl, hc⟩ := id h
  refine ⟨⟨p, cap, rfl, fun hne => ?_⟩, fun x hx => ?_⟩
  · obtain ⟨g, off, xs, rfl, _, hr, hrow⟩ := hc hne
    refine ⟨g, off, rfl, fun j hj => ?_⟩
    obtain ⟨c, hrl, hcx⟩ := RowE.at_ l hrow j hj
    have := hr j _ (by simpa [intE, hrl.1] using hcx 0 (.int .i64 l[j]) (by rw [hrl.1]; rfl))
    rw [this]
    simp [hj]
  · obtain ⟨i, hi, rfl⟩ := List.getElem_of_mem hx
    obtain ⟨_, _, _, c, _, _, hrl, _⟩ := h.at_ i hi
    exact hrl.2
set_option maxHeartbeats 12800000 in
set_option maxRecDepth 100000 in
theorem labelsLaw (g : GraphL) (zs : List Int) (ls : List ByteArray) (vn ve NV V0 K0 LV D0 : Value) (W : World) (hG : Gd W) (hn : SliceE nodeE W (Old W) vn g.nodes) (he : SliceE edgeE W (Old W) ve g.edges) (hN : SliceE intE W (Old W) NV zs) (hL : SliceE textE W (Old W) LV ls)
    (hn1 : g.nodes.length ≤ 2097152) (hn2 : g.edges.length ≤ 2097152) (hn3 : zs.length ≤ 2097152) (hn4 : ls.length ≤ 2097152) :
    Calls Tryz.prog 5 #[.agg #[vn, ve, NV, V0, K0, LV, D0]] W fun e w' => e = .returned (.bool true) ∧ Below W.heap.size W w' := by
  have hn0 := hn
  have he0 := he
  have hN0 := ints_of_slice hN
  have hL0 := strs_of_slice hL
  obtain ⟨p1, cap1, rfl⟩ := hn0.slice
  obtain ⟨p2, cap2, rfl⟩ := he0.slice
  obtain ⟨pz, cz, rfl⟩ := hN.slice
  obtain ⟨pl, cl, rfl⟩ := hL.slice
  have hts : ∀ t ∈ ls, t.size ≤ 2097152 := fun t ht => by
    obtain ⟨i, hi, rfl⟩ := List.getElem_of_mem ht
    obtain ⟨_, _, _, c, _, _, hrl, _⟩ := hL.at_ i hi
    exact hrl.2
  obtain ⟨n1, hl1⟩ : ∃ n, n = g.nodes.length := ⟨_, rfl⟩
  obtain ⟨n2, hl2⟩ : ∃ n, n = g.edges.length := ⟨_, rfl⟩
  obtain ⟨nz, hlz⟩ : ∃ n, n = zs.length := ⟨_, rfl⟩
  obtain ⟨nl, hll⟩ : ∃ n, n = ls.length := ⟨_, rfl⟩
  have HLT := Lib.hid (fun W' (b : Below W.heap.size W W') => lightAt g _ _ W' (hn.stays (old_below b)) (he.stays (old_below b)) hn1 hn2)
  have HLD := Lib.hid (fun W' (b : Below W.heap.size W W') => loadAt g _ _ W' (hG.below b) (hn.stays (old_below b)) (he.stays (old_below b)) hn1 hn2)
  have HWK := Lib.hid (fun W' (b : Below W.heap.size W W') => wakesAt W' (hG.below b))
  rw [← hl1, ← hl2] at HLT HLD
  rw [← hl1] at hn1
  rw [← hl2] at hn2
  rw [← hlz] at hN0 hn3
  rw [← hll] at hL0 hn4
  rw [← hl1, ← hl2, ← hlz, ← hll]
  have u1 : (W.alloc (.cells #[.slice p1 n1 cap1, .slice p2 n2 cap2, .slice pz nz cz, V0, K0, .slice pl nl cl, D0] 46)).heap[W.heap.size]? = some (.cells #[.slice p1 n1 cap1, .slice p2 n2 cap2, .slice pz nz cz, V0, K0, .slice pl nl cl, D0] 46 (0, 0)) := heap_new _ _ rfl
  have b0 := below1 W (.cells #[.slice p1 n1 cap1, .slice p2 n2 cap2, .slice pz nz cz, V0, K0, .slice pl nl cl, D0] 46)
  obtain ⟨W0, hW0⟩ : ∃ W0, W0 = W.alloc (.cells #[.slice p1 n1 cap1, .slice p2 n2 cap2, .slice pz nz cz, V0, K0, .slice pl nl cl, D0] 46) := ⟨_, rfl⟩
  rw [← hW0] at u1 b0
  have H0 := Lib.hid hW0
  have HN := Lib.hid hN0
  have HS := Lib.hid hL0
  have HTS := Lib.hid hts
  have HL := Lib.hid (And.intro hl1 (And.intro hl2 (And.intro hlz hll)))
  clear hn he hn0 he0 hN hL hN0 hL0 hG hW0 hl1 hl2 hlz hll hts
  go_enter Tryz.func5, Tryz.ntmps5
  go_upto_region 1 with fail
  rw [← H0.out]
  go_upto_if 20 with (first
    | ((with_reducible refine wpList_loadE (.tmp 17) W.heap.size 0 25 [.slice p1 n1 cap1, .slice p2 n2 cap2] 2 _ (range_of_heap u1 0 _ rfl) rfl Tryz.underlying25 rfl size25 ?_ ?_ ?_ ?_); rfl; rfl; rfl)
    | (go_at_call 8; (with_reducible refine (HLT.out _ b0).mono ?_); rintro e w1 ⟨b, rfl, hb1⟩; have b1 := below_any b0 hb1 b0.size; replace u1 := (hb1.block _ (lt_of_heap u1)).trans u1))
  cases b with
  | false =>
    clear u1
    go_wp2_with (first
      | (go_at_call 9; (with_reducible refine (HWK.out _ b1).mono ?_); rintro e w2 ⟨rfl, hb2⟩))
    go_ret
    exact ⟨rfl, below_any b1 hb2 b1.size⟩
  | true =>
    have HLD1 := Lib.hid (HLD.out w1 b1)
    by_cases hgp : graphP g = true
    · have hld : Calls Tryz.prog 11 #[.agg #[.slice p1 n1 cap1, .slice p2 n2 cap2]] w1 fun e w' => ∃ s, e = .returned (.tuple #[.pointer (some ⟨s, 0, none⟩), .int .i64 0]) ∧ StoreE w' s g ∧ Below w1.heap.size w1 w' := by
        refine HLD1.out.mono ?_
        rintro e w' ⟨hb, h⟩
        rw [if_pos hgp] at h
        obtain ⟨s, rfl, hs⟩ := h
        exact ⟨s, rfl, hs, hb⟩
      have HLD2 := Lib.hid hld
      have HGG := Lib.hid (goodG hgp)
      clear hld hgp hb1
      by_cases hlt2 : (nl : Int) < 2
      · go_wp2_with (first
          | ((with_reducible refine wpList_loadE (.tmp 23) W.heap.size 0 25 [.slice p1 n1 cap1, .slice p2 n2 cap2] 2 _ (range_of_heap u1 0 _ rfl) rfl Tryz.underlying25 rfl size25 ?_ ?_ ?_ ?_); rfl; rfl; rfl)
          | (go_at_call 11; (with_reducible refine HLD2.out.mono ?_); rintro e w2 ⟨s, rfl, hst, hb2⟩; have b2 := below_any b1 hb2 b1.size; replace u1 := (hb2.block _ (lt_of_heap u1)).trans u1; have c5 := cell_of u1 5 rfl; clear hst)
          | (go_at_call 9; (with_reducible refine (HWK.out _ b2).mono ?_); rintro e w3 ⟨rfl, hb3⟩))
        go_ret
        exact ⟨rfl, below_any b2 hb3 b2.size⟩
      · go_upto_region 6 with (first
          | ((with_reducible refine wpList_loadE (.tmp 23) W.heap.size 0 25 [.slice p1 n1 cap1, .slice p2 n2 cap2] 2 _ (range_of_heap u1 0 _ rfl) rfl Tryz.underlying25 rfl size25 ?_ ?_ ?_ ?_); rfl; rfl; rfl)
          | (go_at_call 11; (with_reducible refine HLD2.out.mono ?_); rintro e w2 ⟨s, rfl, hst, hb2⟩; have b2 := below_any b1 hb2 b1.size; replace u1 := (hb2.block _ (lt_of_heap u1)).trans u1; have c5 := cell_of u1 5 rfl; have HST := Lib.hid hst; clear hst))
        have hln : 2 ≤ ls.length := by have := HL.out.2.2.2; omega
        obtain ⟨pp, cc, e0, hcv⟩ := HS.out.below b2
        injection e0 with e1 e2 e3
        subst e1
        obtain ⟨gl, ol, rfl, hcj⟩ := hcv (by intro q; rw [q] at hln; simp at hln)
        obtain ⟨a, ha⟩ : ∃ a, a = ls[0] := ⟨_, rfl⟩
        obtain ⟨b, hb⟩ : ∃ b, b = ls[1] := ⟨_, rfl⟩
        have ca : w2.cell? ⟨gl, ol, none⟩ = some (.string a) := by
          have q := hcj 0 (by omega)
          rw [List.getD_eq_getElem?_getD, List.getElem?_eq_getElem (by omega)] at q
          rw [ha]
          exact q
        have cb : w2.cell? ⟨gl, ol + 1, none⟩ = some (.string b) := by
          have q := hcj 1 (by omega)
          rw [List.getD_eq_getElem?_getD, List.getElem?_eq_getElem (by omega)] at q
          rw [hb]
          exact q
        have hsa : ∀ t ∈ [a, b], t.size ≤ 2097152 := fun t ht => HTS.out t (by
          simp only [List.mem_cons, List.mem_nil_iff, or_false] at ht
          rcases ht with rfl | rfl
          · rw [ha]; exact List.getElem_mem _
          · rw [hb]; exact List.getElem_mem _)
        have hlt3 : (0 : Int) < nl := by omega
        have hlt4 : (1 : Int) < nl := by omega
        have HU := Lib.hid u1
        have HSA := Lib.hid hsa
        have HB2 := Lib.hid b2
        clear hcv hcj e2 e3 ha hb hsa u1 hb2 b1 b2 hln
        go_quiet (fail)
        have bq : Below w2.heap.size w2 (w2.drewN nq) := below_drewN (Below.refl _ _) nq
        have HST3 := Lib.hid (HST.out.below bq)
        have HB3 := Lib.hid (below_any HB2.out bq HB2.out.size)
        have HU3 := Lib.hid ((bq.block _ (lt_of_heap HU.out)).trans HU.out)
        clear bq c5 ca cb HU HST HB2
        generalize w2.drewN nq = w3 at *
        obtain ⟨both, hboth⟩ : ∃ l, l = labeledL g [a, b] := ⟨_, rfl⟩
        obtain ⟨one, hone⟩ : ∃ l, l = labeledL g [a] := ⟨_, rfl⟩
        obtain ⟨two, htwo⟩ : ∃ l, l = labeledL g [b] := ⟨_, rfl⟩
        have HC2 : Hid (∀ W', StoreE W' s g → Calls Tryz.prog 31 #[.pointer (some ⟨s, 0, none⟩), .slice (some ⟨W'.heap.size, 0, none⟩) 2 2] (W'.alloc (.cells #[.string a, .string b] 9)) (LabPost W' both)) := Lib.hid fun W' h => by rw [hboth]; exact askLab W' s g h HGG.out [a, b] HSA.out (by simp)
        have HCa : Hid (∀ W', StoreE W' s g → Calls Tryz.prog 31 #[.pointer (some ⟨s, 0, none⟩), .slice (some ⟨W'.heap.size, 0, none⟩) 1 1] (W'.alloc (.cells #[.string a] 9)) (LabPost W' one)) := Lib.hid fun W' h => by rw [hone]; exact askLab W' s g h HGG.out [a] (fun t ht => HSA.out t (by simp only [List.mem_cons, List.mem_nil_iff, or_false] at *; exact .inl ht)) (by simp)
        have HCb : Hid (∀ W', StoreE W' s g → Calls Tryz.prog 31 #[.pointer (some ⟨s, 0, none⟩), .slice (some ⟨W'.heap.size, 0, none⟩) 1 1] (W'.alloc (.cells #[.string b] 9)) (LabPost W' two)) := Lib.hid fun W' h => by rw [htwo]; exact askLab W' s g h HGG.out [b] (fun t ht => HSA.out t (by simp only [List.mem_cons, List.mem_nil_iff, or_false] at *; exact .inr ht)) (by simp)
        have HCaa : Hid (∀ W', StoreE W' s g → Calls Tryz.prog 31 #[.pointer (some ⟨s, 0, none⟩), .slice (some ⟨W'.heap.size, 0, none⟩) 2 2] (W'.alloc (.cells #[.string a, .string a] 9)) (LabPost W' one)) := Lib.hid fun W' h => by rw [hone, ← labeledL_twice]; exact askLab W' s g h HGG.out [a, a] (fun t ht => HSA.out t (by simp only [List.mem_cons, List.mem_nil_iff, or_false, or_self] at *; exact .inl ht)) (by simp)
        have hbo : both = one.filter fun x => two.contains x := by rw [hboth, hone, htwo]; exact labeledL_two g a b
        have lb1 : both.length ≤ 131072 := by rw [hboth]; exact Nat.le_trans (labeledL_len g _) HGG.out.nn
        have lb2 : one.length ≤ 131072 := by rw [hone]; exact Nat.le_trans (labeledL_len g _) HGG.out.nn
        have lb3 : two.length ≤ 131072 := by rw [htwo]; exact Nat.le_trans (labeledL_len g _) HGG.out.nn
        have HBO := Lib.hid hbo
        have HLB := Lib.hid (And.intro lb1 (And.intro lb2 lb3))
        clear hboth hone htwo hbo lb1 lb2 lb3 HSA
        go_upto_region 8 with (first
          | (go_at_call 31; (with_reducible refine (HC2.out _ HST3.out).mono ?_); rintro e w4 ⟨pb, kb, rfl, hib, hb4⟩; have st4 := HST3.out.below hb4; have B4 := hb4))
        have HIB := Lib.hid hib
        clear hib
        go_upto_region 9 with (first
          | (go_at_call 31; (with_reducible refine (HCa.out _ st4).mono ?_); rintro e w5 ⟨po, ko, rfl, hio, hb5⟩; have st5 := st4.below hb5; have B5 := below_any B4 hb5 B4.size))
        have HIO := Lib.hid hio
        have HB5 := Lib.hid hb5
        clear hio st4 B4 hb5 hb4
        go_upto_region 10 with (first
          | (go_at_call 31; (with_reducible refine (HCb.out _ st5).mono ?_); rintro e w6 ⟨pt, kt, rfl, hit, hb6⟩; have st6 := st5.below hb6; have B6 := below_any B5 hb6 B5.size))
        have HI1 := Lib.hid ((HIB.out.below HB5.out).below hb6)
        have HI2 := Lib.hid (HIO.out.below hb6)
        have HI3 := Lib.hid hit
        have HST6 := Lib.hid st6
        have HU6 := Lib.hid ((B6.block _ (lt_of_heap HU3.out)).trans HU3.out)
        have HB6 := Lib.hid (below_any HB3.out B6 HB3.out.size)
        obtain ⟨mb, hmb⟩ : ∃ m, m = both.length := ⟨_, rfl⟩
        obtain ⟨mo, hmo⟩ : ∃ m, m = one.length := ⟨_, rfl⟩
        obtain ⟨mt, hmt⟩ : ∃ m, m = two.length := ⟨_, rfl⟩
        have hlb := HLB.out
        rw [← hmb, ← hmo, ← hmt] at hlb
        rw [← hmb] at HI1
        rw [← hmo] at HI2
        rw [← hmt] at HI3
        rw [← hmb, ← hmo, ← hmt]
        have HLM := Lib.hid (And.intro hmb (And.intro hmo hmt))
        obtain ⟨hlb1, hlb2, hlb3⟩ := hlb
        clear hit hb6 st5 st6 B5 B6 HIB HIO HB5 hmb hmo hmt HLB HST3 HU3 HB3 HC2 HCa HCb
        go_upto_block 0 with fail
        go_cut [10, 11] (fun s10 _ wx => s10 = .int .i64 mb ∧ Hid (Below w6.heap.size w6 wx))
        case first =>
          go_wp2_with fail
          go_loopg [10, 11] mo (fun gg s10 s11 wr => ∃ i c : Nat, i + gg = mo ∧ s11 = .int .i64 i ∧ s10 = .int .i64 c ∧ c ≤ i ∧ Hid (c = ((one.take i).filter fun x => two.contains x).length) ∧ Hid (Below w6.heap.size w6 wr))
          case atStart => exact ⟨0, 0, by omega, rfl, rfl, Nat.le_refl _, Lib.hid rfl, Lib.hid (Below.refl _ _)⟩
          case round =>
            obtain ⟨i, c, hig, rfl, rfl, hci, HC, HB⟩ := hrel
            by_cases hi : (i : Int) < mo
            · have hi1 : i < one.length := by have := HLM.out.2.1; omega
              obtain ⟨pp, cc, e0, hcv⟩ := HI2.out.below HB.out
              injection e0 with e1 e2 e3
              subst e1
              obtain ⟨g1, o1, rfl, hcj⟩ := hcv (by intro q; rw [q] at hi1; simp at hi1)
              obtain ⟨x, hx⟩ : ∃ x, x = one[i] := ⟨_, rfl⟩
              have cx : wr.cell? ⟨g1, o1 + i, none⟩ = some (.int .i64 x) := by
                rw [hcj i hi1, hx]
                simp [hi1]
              obtain ⟨r, hr⟩ : ∃ r, r = two.contains x := ⟨_, rfl⟩
              have HH : Hid (Calls Tryz.prog 33 #[.slice pt mt kt, .int .i64 x] wr fun e w' => e = .returned (.bool r) ∧ wr = w') := Lib.hid (by rw [hr]; exact lawHasAt _ two x wr (HI3.out.below HB.out) (by have := HLM.out.2.2; omega))
              have hstep := filter_step (fun x => two.contains x) one i hi1
              rw [← hx, ← hr] at hstep
              cases r with
              | true =>
                have q : both[c]? = some x := by
                  rw [HBO.out, HC.out, hx]
                  exact filter_nth' (fun x => two.contains x) one i hi1 (by rw [← hx]; exact hr.symm)
                obtain ⟨hcb, hbx⟩ := List.getElem?_eq_some_iff.1 q
                obtain ⟨pp2, cc2, e02, hcv2⟩ := HI1.out.below HB.out
                injection e02 with e12 e22 e32
                subst e12
                obtain ⟨g3, o3, rfl, hcj2⟩ := hcv2 (by intro q; rw [q] at hcb; simp at hcb)
                have cy : wr.cell? ⟨g3, o3 + c, none⟩ = some (.int .i64 x) := by
                  rw [hcj2 c hcb, ← hbx]
                  simp [hcb]
                have hcm : (c : Int) < mb := by have := HLM.out.1; omega
                have hcm2 : decide ((mb : Int) ≤ c) = false := decide_eq_false (by omega)
                have hcm3 : decide (mb ≤ c) = false := decide_eq_false (by omega)
                have HST2 : Hid (c + 1 = ((one.take (i + 1)).filter fun x => two.contains x).length) := Lib.hid (by rw [hstep, List.length_append, ← HC.out]; rfl)
                clear hcj hcv e2 e3 hx hr hstep q hcb hbx hcv2 hcj2 e22 e32 HC
                go_upto_region 15 with (first
                  | (go_at_call 33; (with_reducible refine HH.out.mono ?_); rintro e w7 ⟨rfl, rfl⟩))
                go_quiet (fail)
                have HB9 := Lib.hid (HB.out.trans (below_drewN (Below.refl _ wr) nq |>.mono HB.out.size))
                clear cx cy HB HH
                generalize wr.drewN nq = w9 at *
                go_wp2_with fail
                go_roundg (gk - 1)
                case measure => omega
                case rel => exact ⟨i + 1, c + 1, by omega, by go_num, by go_num, by omega, HST2, HB9⟩
              | false =>
                have HST2 : Hid (c = ((one.take (i + 1)).filter fun x => two.contains x).length) := Lib.hid (by rw [hstep, List.length_append, ← HC.out]; rfl)
                clear hcj hcv e2 e3 hx hr hstep HC
                go_wp2_with (first
                  | (go_at_call 33; (with_reducible refine HH.out.mono ?_); rintro e w7 ⟨rfl, rfl⟩))
                go_roundg (gk - 1)
                case measure => omega
                case rel => exact ⟨i + 1, c, by omega, by go_num, rfl, by omega, HST2, HB⟩
            · have hcb : c = mb := by
                have e : one.take i = one := by rw [List.take_of_length_le]; have := HLM.out.2.1; omega
                have h1 := HC.out
                rw [e, ← HBO.out] at h1
                rw [h1, HLM.out.1]
              obtain rfl : c = mb := hcb
              go_wp2_with fail
              go_meet
              case rel => exact ⟨rfl, HB⟩
        case rest =>
          obtain ⟨rfl, HBX⟩ := hcut
          have HEQ : Hid (∀ W', Below w6.heap.size w6 W' → ∀ pa ka, IntsAt W' (.slice pa one.length ka) one → Calls Tryz.prog 24 #[.slice pa one.length ka, .slice po mo ko] W' fun e w' => e = .returned (.bool true) ∧ Below W'.heap.size W' w') := Lib.hid fun W' b pa ka h => by
            have q := eqNumsAt _ _ one one W' h (HI2.out.below b) (by have := HLM.out.2.1; omega)
            rw [show decide (one = one) = true from decide_eq_true rfl] at q
            exact q
          have stx := HST6.out.below HBX.out
          have hbx := HBX.out
          clear HBX
          go_upto_block 2 with (first
            | (go_at_call 31; (with_reducible refine (HCaa.out _ stx).mono ?_); rintro e w7 ⟨pa, ka, rfl, hia, hb7⟩; have b7 := below_any hbx hb7 hbx.size)
            | (go_at_call 24; (with_reducible refine (HEQ.out _ b7 pa ka hia).mono ?_); rintro e w8 ⟨rfl, hb8⟩; have b8 := below_any b7 hb8 b7.size))
          have HST8 := Lib.hid (HST6.out.below b8)
          have HU8 := Lib.hid ((b8.block _ (lt_of_heap HU6.out)).trans HU6.out)
          have HB8 := Lib.hid (below_any HB6.out b8 HB6.out.size)
          clear hia hb7 hb8 b7 hbx stx b8 HCaa HEQ HI1 HI2 HI3 HBO
          go_wp2_with fail
          go_loopg [12] nz (fun gg s12 wr => ∃ i : Nat, i + gg = nz ∧ s12 = .int .i64 i ∧ Hid (Below w8.heap.size w8 wr))
          case atStart => exact ⟨0, by omega, rfl, Lib.hid (Below.refl _ _)⟩
          case round =>
            obtain ⟨i, hig, rfl, HB⟩ := hrel
            have u1 := (HB.out.block _ (lt_of_heap HU8.out)).trans HU8.out
            have c2 := cell_of u1 2 rfl
            have leave : ∀ W', Below w8.heap.size w8 W' → Calls Tryz.prog 9 #[] W' fun e w' => e = .returned (.bool true) ∧ Below W.heap.size W w' := fun W' b => by
              refine (HWK.out W' (below_any HB8.out b HB8.out.size)).mono ?_
              rintro e w' ⟨rfl, hb⟩
              exact ⟨rfl, below_any (below_any HB8.out b HB8.out.size) hb (below_any HB8.out b HB8.out.size).size⟩
            have HLV := Lib.hid leave
            clear leave
            by_cases hi : (i : Int) < nz
            · by_cases hi10 : (i : Int) < 10
              · have hi1 : i < zs.length := by have := HL.out.2.2.1; omega
                obtain ⟨pp, cc, e0, hcv⟩ := HN.out.1.below (below_any HB8.out HB.out HB8.out.size)
                injection e0 with e1 e2 e3
                subst e1
                obtain ⟨gz, oz, rfl, hcj⟩ := hcv (by intro q; rw [q] at hi1; simp at hi1)
                obtain ⟨z, hz⟩ : ∃ z, z = zs[i] := ⟨_, rfl⟩
                have cz0 : wr.cell? ⟨gz, oz + i, none⟩ = some (.int .i64 z) := by
                  rw [hcj i hi1, hz]
                  simp [hi1]
                have hwf : (Lit.int .i64 z).wf = true ∧ (Lit.int .i64 0).wf = true := ⟨HN.out.2 z (by rw [hz]; exact List.getElem_mem hi1), by decide⟩
                obtain ⟨xs, hxs⟩ : ∃ l, l = hopsL g ⟨(z, 0), hwf⟩ [a, b] := ⟨_, rfl⟩
                obtain ⟨ys, hys⟩ : ∃ l, l = hopsL g ⟨(z, 0), hwf⟩ [a] := ⟨_, rfl⟩
                obtain ⟨ws, hws⟩ : ∃ l, l = hopsL g ⟨(z, 0), hwf⟩ [b] := ⟨_, rfl⟩
                have HC2 : Hid (∀ W', StoreE W' s g → Calls Tryz.prog 23 #[.pointer (some ⟨s, 0, none⟩), .int .i64 z, .int .i64 0, .slice (some ⟨W'.heap.size, 0, none⟩) 2 2] (W'.alloc (.cells #[.string a, .string b] 9)) (LabPost W' xs)) := Lib.hid fun W' h => by rw [hxs]; exact askHop W' s g h HGG.out z 0 hwf [a, b] (by simp)
                have HCa : Hid (∀ W', StoreE W' s g → Calls Tryz.prog 23 #[.pointer (some ⟨s, 0, none⟩), .int .i64 z, .int .i64 0, .slice (some ⟨W'.heap.size, 0, none⟩) 1 1] (W'.alloc (.cells #[.string a] 9)) (LabPost W' ys)) := Lib.hid fun W' h => by rw [hys]; exact askHop W' s g h HGG.out z 0 hwf [a] (by simp)
                have HCb : Hid (∀ W', StoreE W' s g → Calls Tryz.prog 23 #[.pointer (some ⟨s, 0, none⟩), .int .i64 z, .int .i64 0, .slice (some ⟨W'.heap.size, 0, none⟩) 1 1] (W'.alloc (.cells #[.string b] 9)) (LabPost W' ws)) := Lib.hid fun W' h => by rw [hws]; exact askHop W' s g h HGG.out z 0 hwf [b] (by simp)
                have hxo : ∀ x ∈ xs, x ∈ ys ∨ x ∈ ws := fun x hx => by
                  rw [hxs] at hx
                  rw [hys, hws]
                  exact hopsL_or g _ a b x hx
                have hxn : a ≠ b → xs.length = ys.length + ws.length := fun h => by rw [hxs, hys, hws]; exact hopsL_split g _ a b h
                have lx : xs.length ≤ 65536 := by rw [hxs]; exact Nat.le_trans (hopsL_len g _ _) HGG.out.ne
                have ly : ys.length ≤ 65536 := by rw [hys]; exact Nat.le_trans (hopsL_len g _ _) HGG.out.ne
                have lw : ws.length ≤ 65536 := by rw [hws]; exact Nat.le_trans (hopsL_len g _ _) HGG.out.ne
                have HXO := Lib.hid hxo
                have HXN := Lib.hid hxn
                have st8 := HST8.out.below HB.out
                have HU := Lib.hid u1
                have HCZ := Lib.hid cz0
                clear hcj hcv e2 e3 hz hwf hxs hys hws hxo hxn
                go_upto_region 24 with (first
                  | (go_at_call 23; (with_reducible refine (HC2.out _ st8).mono ?_); rintro e wA ⟨px, kx, rfl, hix, hbA⟩; have stA := st8.below hbA))
                replace u1 := (hbA.block _ (lt_of_heap u1)).trans u1
                replace c2 := cell_of u1 2 rfl
                replace cz0 := cell_below cz0 hbA
                have HIX := Lib.hid hix
                have HBA := Lib.hid hbA
                clear hix st8 hbA
                go_upto_region 25 with (first
                  | (go_at_call 23; (with_reducible refine (HCa.out _ stA).mono ?_); rintro e wB ⟨py, ky, rfl, hiy, hbB⟩; have stB := stA.below hbB))
                replace u1 := (hbB.block _ (lt_of_heap u1)).trans u1
                replace c2 := cell_of u1 2 rfl
                replace cz0 := cell_below cz0 hbB
                have HIY := Lib.hid hiy
                have HBB := Lib.hid hbB
                clear hiy stA hbB
                go_upto_region 26 with (first
                  | (go_at_call 23; (with_reducible refine (HCb.out _ stB).mono ?_); rintro e wC ⟨pw, kw, rfl, hiw, hbC⟩))
                have HX := Lib.hid ((HIX.out.below HBB.out).below hbC)
                have HY := Lib.hid (HIY.out.below hbC)
                have HW2 := Lib.hid hiw
                have HBC := Lib.hid (below_any HB.out (below_any HBA.out (below_any HBB.out hbC HBB.out.size) HBA.out.size) HB.out.size)
                obtain ⟨mx, hmx⟩ : ∃ m, m = xs.length := ⟨_, rfl⟩
                obtain ⟨my, hmy⟩ : ∃ m, m = ys.length := ⟨_, rfl⟩
                obtain ⟨mw, hmw⟩ : ∃ m, m = ws.length := ⟨_, rfl⟩
                rw [← hmx] at HX lx
                rw [← hmy] at HY ly
                rw [← hmw] at HW2 lw
                rw [← hmx, ← hmy] at HXN
                rw [← hmw] at HXN
                rw [← hmx, ← hmy, ← hmw]
                have HLX := Lib.hid (And.intro hmx (And.intro hmy hmw))
                clear hiw hbC stB c2 cz0 u1 HIX HIY HBA HBB HC2 HCa HCb HU HCZ HB hmx hmy hmw
                go_upto_block 4 with fail
                go_cut [16] (fun _ wx => wC = wx)
                case first =>
                  go_wp2_with fail
                  go_loopg [16] mx (fun gg s16 wr => ∃ k : Nat, k + gg = mx ∧ s16 = .int .i64 k ∧ wC = wr)
                  case atStart => exact ⟨0, by omega, rfl, rfl⟩
                  case round =>
                    obtain ⟨k, hkg, rfl, rfl⟩ := hrel
                    by_cases hk : (k : Int) < mx
                    · have hk1 : k < xs.length := by have := HLX.out.1; omega
                      obtain ⟨pp, cc, e0, hcv⟩ := HX.out
                      injection e0 with e1 e2 e3
                      subst e1
                      obtain ⟨g1, o1, rfl, hcj⟩ := hcv (by intro q; rw [q] at hk1; simp at hk1)
                      obtain ⟨x, hx⟩ : ∃ x, x = xs[k] := ⟨_, rfl⟩
                      have cx : wC.cell? ⟨g1, o1 + k, none⟩ = some (.int .i64 x) := by
                        rw [hcj k hk1, hx]
                        simp [hk1]
                      obtain ⟨r, hr⟩ : ∃ r, r = ys.contains x := ⟨_, rfl⟩
                      have HH : Hid (Calls Tryz.prog 33 #[.slice py my ky, .int .i64 x] wC fun e w' => e = .returned (.bool r) ∧ wC = w') := Lib.hid (by rw [hr]; exact lawHasAt _ ys x wC HY.out (by have := HLX.out.2.1; omega))
                      have horr := HXO.out x (by rw [hx]; exact List.getElem_mem hk1)
                      cases r with
                      | true =>
                        clear hcj hcv e2 e3 hx hr horr
                        go_wp2_with (first
                          | (go_at_call 33; (with_reducible refine HH.out.mono ?_); rintro e w7 ⟨rfl, rfl⟩))
                        go_roundg (gk - 1)
                        case measure => omega
                        case rel => exact ⟨k + 1, by omega, by go_num, rfl⟩
                      | false =>
                        have hw1 : ws.contains x = true := by
                          rw [List.contains_iff_mem]
                          rcases horr with h | h
                          · rw [← List.contains_iff_mem, ← hr] at h
                            simp at h
                          · exact h
                        have HH2 : Hid (Calls Tryz.prog 33 #[.slice pw mw kw, .int .i64 x] wC fun e w' => e = .returned (.bool true) ∧ wC = w') := Lib.hid (by rw [← hw1]; exact lawHasAt _ ws x wC HW2.out (by have := HLX.out.2.2; omega))
                        clear hcj hcv e2 e3 hx hr horr hw1
                        go_wp2_with (first
                          | (go_at_call 33; (with_reducible refine HH.out.mono ?_); rintro e w7 ⟨rfl, rfl⟩)
                          | (go_at_call 33; (with_reducible refine HH2.out.mono ?_); rintro e w7 ⟨rfl, rfl⟩))
                        go_roundg (gk - 1)
                        case measure => omega
                        case rel => exact ⟨k + 1, by omega, by go_num, rfl⟩
                    · go_wp2_with fail
                      go_meet
                      case rel => rfl
                case rest =>
                  obtain rfl := hcut
                  by_cases hab : a = b
                  · subst hab
                    go_wp2_with fail
                    go_roundg (nz - (i + 1))
                    case measure => omega
                    case rel => exact ⟨i + 1, by omega, by go_num, HBC⟩
                  · have hn9 : (mx : Int) = (my : Int) + mw := by have := HXN.out hab; omega
                    have hab2 : (a.toList == b.toList) = false := beqS_no hab
                    have hsm : (my : Int) + mw < 9223372036854775808 := by omega
                    have hmx0 : mx = my + mw := HXN.out hab
                    subst hmx0
                    clear hn9
                    go_wp2_with fail
                    go_roundg (nz - (i + 1))
                    case measure => omega
                    case rel => exact ⟨i + 1, by omega, by go_num, HBC⟩
              · clear u1
                go_wp2_with (first
                  | (go_at_call 9; (with_reducible refine (HLV.out _ HB.out).mono ?_); rintro e w9 ⟨rfl, hb9⟩))
                go_ret
                exact ⟨rfl, hb9⟩
            · clear u1
              go_wp2_with (first
                | (go_at_call 9; (with_reducible refine (HLV.out _ HB.out).mono ?_); rintro e w9 ⟨rfl, hb9⟩))
              go_ret
              exact ⟨rfl, hb9⟩
    · have hld : Calls Tryz.prog 11 #[.agg #[.slice p1 n1 cap1, .slice p2 n2 cap2]] w1 fun e w' => e = .returned (.tuple #[.pointer none, .int .i64 21]) ∧ Below w1.heap.size w1 w' := by
        refine HLD1.out.mono ?_
        rintro e w' ⟨hb, h⟩
        rw [if_neg hgp] at h
        exact ⟨h, hb⟩
      have HLD2 := Lib.hid hld
      clear hld hgp hb1
      go_wp2_with (first
        | ((with_reducible refine wpList_loadE (.tmp 23) W.heap.size 0 25 [.slice p1 n1 cap1, .slice p2 n2 cap2] 2 _ (range_of_heap u1 0 _ rfl) rfl Tryz.underlying25 rfl size25 ?_ ?_ ?_ ?_); rfl; rfl; rfl)
        | (go_at_call 11; (with_reducible refine HLD2.out.mono ?_); rintro e w2 ⟨rfl, hb2⟩; have b2 := below_any b1 hb2 b1.size)
        | (go_at_call 9; (with_reducible refine (HWK.out _ b2).mono ?_); rintro e w3 ⟨rfl, hb3⟩))
      go_ret
      exact ⟨rfl, below_any b2 hb3 b2.size⟩
end Go.Proofs.YtcfmenkigolnoaaGreatDoor
