/- Texts of one kind, one behind the other: each says ahead of itself what it shows. -/
import Derived.Test.YtanbgdhmfjgihaaGreatDoorHbe
/- What the law TriplesSeeks does where the triples may be. -/
namespace Go.Proofs.YtanbgdhmfjgihaaGreatDoor
open Go.RowKit

theorem StoreIs.below {W W' : World} {sp : Nat} {s : SM} {pv pr : Option Addr} {cv cr : Nat} {pp : Nat → Option Addr} {cc : Nat → Nat} (k : StoreIs W sp s pv pr cv cr pp cc) (b : Below W.heap.size W W') : StoreIs W' sp s pv pr cv cr pp cc :=
  ⟨(b.block _ (lt_of_heap k.h)).trans k.h, k.v.below b, k.r.below b, fun i hi => (k.l i hi).below b⟩
set_option maxHeartbeats 12800000 in
set_option maxRecDepth 20000 in
theorem seeksGood (l : List Tri3) (p0 : Option Addr) (cap : Nat) (P0 O0 : Value) (dl : List (Int × Val)) (pd : Option Addr) (dcap : Nat) (w : World) (hG : Gd w) (hT : Tab w) (hl : Tris w (.slice p0 l.length cap) l) (hd : OpsAt w (.slice pd dl.length dcap) dl) (hn : l.length ≤ 60) (hdn : dl.length ≤ 2097152) (hgood : ∀ t ∈ l, t3Chk t = true) :
    Calls Tryz.prog 6 #[.agg #[.slice p0 l.length cap, P0, O0, .slice pd dl.length dcap]] w fun e w' => e = .returned (.bool true) ∧ Below w.heap.size w w' := by
  obtain ⟨W1, hW1⟩ : ∃ W1, W1 = w.alloc (.cells #[.slice p0 l.length cap, P0, O0, .slice pd dl.length dcap] 26) := ⟨_, rfl⟩
  have b1 : Below w.heap.size w W1 := by rw [hW1]; exact below1 _ _
  have hS : W1.heap[w.heap.size]? = some (.cells #[.slice p0 l.length cap, P0, O0, .slice pd dl.length dcap] 26) := by rw [hW1]; exact heap_new _ _ rfl
  have c0 : W1.cell? ⟨w.heap.size, 0, none⟩ = some (.slice p0 l.length cap) := cell_of hS 0 rfl
  have hld := (loadAt _ l W1 (hG.below b1) (hT.below b1) (hl.below b1) (by omega)).mono fun e w' h => h.1 hgood
  have hni : ¬ (60 : Int) < l.length := by omega
  have HLD := Lib.hid hld
  have HG := Lib.hid (hG.below b1)
  have HT := Lib.hid (hT.below b1)
  have HD := Lib.hid (hd.below b1)
  have HS := Lib.hid hS
  have HB1 := Lib.hid b1
  have HW := Lib.hid hW1
  have hs1 := b1.size
  clear hW1 hS hld hG hT hl hd b1
  go_enter Tryz.func6, Tryz.ntmps6
  go_upto_region 1 with fail
  rw [← HW.out]
  go_upto_region 4 with (go_at_call 10; (with_reducible refine HLD.out.mono ?_); rintro e w2 ⟨sp, s, rfl, hin, hlo, hb2⟩)
  obtain ⟨pv, pr, cv, cr, pp, cc, hsi, _⟩ := hin
  have hs2 := hb2.size
  have hstr := heap_new w2 (.cells #[.string ⟨#[115, 112, 111]⟩, .string ⟨#[115, 111, 112]⟩, .string ⟨#[112, 115, 111]⟩, .string ⟨#[112, 111, 115]⟩, .string ⟨#[111, 115, 112]⟩, .string ⟨#[111, 112, 115]⟩] 9) rfl
  have x3 : Below w2.heap.size w2 (w2.alloc (.cells #[.string ⟨#[115, 112, 111]⟩, .string ⟨#[115, 111, 112]⟩, .string ⟨#[112, 115, 111]⟩, .string ⟨#[112, 111, 115]⟩, .string ⟨#[111, 115, 112]⟩, .string ⟨#[111, 112, 115]⟩] 9)) := below1 _ _
  have hok := hlo.ok (by omega)
  have hso := hlo.so
  have hpl : ∀ u ∈ s.vs, Plain u := fun u hu => (hlo.plain hgood u hu).1
  have y3 : Below W1.heap.size W1 (w2.alloc (.cells #[.string ⟨#[115, 112, 111]⟩, .string ⟨#[115, 111, 112]⟩, .string ⟨#[112, 115, 111]⟩, .string ⟨#[112, 111, 115]⟩, .string ⟨#[111, 115, 112]⟩, .string ⟨#[111, 112, 115]⟩] 9)) := hb2.trans (x3.mono hs2)
  have HSI := Lib.hid (hsi.below x3)
  have HD3 := Lib.hid (HD.out.below y3)
  have HG3 := Lib.hid (HG.out.below y3)
  have HT3 := Lib.hid (HT.out.below y3)
  have HC3 : Hid ((w2.alloc (.cells #[.string ⟨#[115, 112, 111]⟩, .string ⟨#[115, 111, 112]⟩, .string ⟨#[112, 115, 111]⟩, .string ⟨#[112, 111, 115]⟩, .string ⟨#[111, 115, 112]⟩, .string ⟨#[111, 112, 115]⟩] 9)).cell? ⟨w.heap.size, 3, none⟩ = some (.slice pd dl.length dcap)) := Lib.hid (cell_of ((y3.block _ (lt_of_heap HS.out)).trans HS.out) 3 rfl)
  have HSTR : Hid (∀ k, k < 6 → (w2.alloc (.cells #[.string ⟨#[115, 112, 111]⟩, .string ⟨#[115, 111, 112]⟩, .string ⟨#[112, 115, 111]⟩, .string ⟨#[112, 111, 115]⟩, .string ⟨#[111, 115, 112]⟩, .string ⟨#[111, 112, 115]⟩] 9)).cell? ⟨w2.heap.size, k, none⟩ = some (.string (onm k))) := Lib.hid fun k hk => by
    match k, hk with
    | 0, _ => exact cell_of hstr 0 rfl
    | 1, _ => exact cell_of hstr 1 rfl
    | 2, _ => exact cell_of hstr 2 rfl
    | 3, _ => exact cell_of hstr 3 rfl
    | 4, _ => exact cell_of hstr 4 rfl
    | 5, _ => exact cell_of hstr 5 rfl
  have HB3 : Hid (Below w.heap.size w (w2.alloc (.cells #[.string ⟨#[115, 112, 111]⟩, .string ⟨#[115, 111, 112]⟩, .string ⟨#[112, 115, 111]⟩, .string ⟨#[112, 111, 115]⟩, .string ⟨#[111, 115, 112]⟩, .string ⟨#[111, 112, 115]⟩] 9))) := Lib.hid (HB1.out.trans (y3.mono hs1))
  have HOK := Lib.hid hok
  have HSO := Lib.hid hso
  have HPL := Lib.hid hpl
  clear hstr x3 y3 hsi hlo hb2 hok hso hpl HD HG HT HLD HS HB1 c0
  go_wp2_with fail
  generalize w2.alloc (.cells #[.string ⟨#[115, 112, 111]⟩, .string ⟨#[115, 111, 112]⟩, .string ⟨#[112, 115, 111]⟩, .string ⟨#[112, 111, 115]⟩, .string ⟨#[111, 115, 112]⟩, .string ⟨#[111, 112, 115]⟩] 9) = w3 at *
  generalize w2.heap.size = bs6 at *
  go_loopg [6] dl.length (fun gg s6 wr => ∃ i : Nat, s6 = .int .i64 i ∧ i ≤ dl.length ∧ dl.length - i ≤ gg ∧ Hid (Below w3.heap.size w3 wr))
  case atStart => exact ⟨0, rfl, Nat.zero_le _, by omega, Lib.hid (Below.refl _ _)⟩
  case round =>
    obtain ⟨i, rfl, hi, hgg, HB⟩ := hrel
    have c3r : wr.cell? ⟨w.heap.size, 3, none⟩ = some (.slice pd dl.length dcap) := (HB.out.cell (p := ⟨w.heap.size, 3, none⟩) (World.block_lt_of_cell? _ _ HC3.out)).trans HC3.out
    have hwk := wakesC wr (HG3.out.below HB.out) (HT3.out.below HB.out)
    have HWK := Lib.hid hwk
    clear hwk
    by_cases hlt : i < dl.length
    · by_cases h12 : i < 12
      · clear HWK
        have hlti : (i : Int) < dl.length := by omega
        have h12i : (i : Int) < 12 := by omega
        obtain ⟨gd, od, rfl, hops⟩ : ∃ gd od, pd = some ⟨gd, od, none⟩ ∧ ∀ (j : Nat) (h : j < dl.length), w3.cell? ⟨gd, od + j * 7, none⟩ = some (.int .i64 dl[j].1) ∧ HoldsOne w3 gd (od + j * 7 + 1) dl[j].2 := by
          obtain ⟨p1, cap1, e, h1⟩ := HD3.out
          obtain ⟨g, off, e2, h2⟩ := h1 (by intro e; rw [e] at hlt; exact absurd hlt (by simp))
          injection e with e3 _ _
          exact ⟨g, off, by rw [e3]; exact e2, h2⟩
        obtain ⟨v, q, hv, rv⟩ := isOf (hops i hlt).2
        obtain ⟨u, hu⟩ : ∃ u, u = dl[i].2 := ⟨_, rfl⟩
        rw [← hu] at hv
        have HV := Lib.hid hv
        have HRV := Lib.hid rv
        obtain ⟨k, hk⟩ : ∃ k, k = i % 6 := ⟨_, rfl⟩
        have hk6 : k < 6 := by omega
        have hk6i : (k : Int) < 6 := by omega
        have hrem : Int.tmod (i : Int) 6 = (k : Int) := by rw [hk]; exact (Int.ofNat_tmod i 6).symm
        have cs3 : wr.cell? ⟨bs6, k, none⟩ = some (.string (onm k)) := (HB.out.cell (p := ⟨bs6, k, none⟩) (World.block_lt_of_cell? _ _ (HSTR.out k hk6))).trans (HSTR.out k hk6)
        have HCUR := Lib.hid (fun W (b : Below w3.heap.size w3 W) => cursorD HSI.out b HOK.out HSO.out hk6)
        have HCURr := Lib.hid (HCUR.out wr HB.out)
        clear hops hv rv hu hk
        go_upto_region 11 with (go_at_call 20; (with_reducible refine HCURr.out.mono ?_); rintro e w4 ⟨g1, rfl, hb4, hg1, STa4⟩)
        have y4 : Below w3.heap.size w3 w4 := HB.out.trans (hb4.is.mono HB.out.size)
        have cs4 : w4.cell? ⟨bs6, k, none⟩ = some (.string (onm k)) := (y4.cell (p := ⟨bs6, k, none⟩) (World.block_lt_of_cell? _ _ (HSTR.out k hk6))).trans (HSTR.out k hk6)
        have HCUR4 := Lib.hid (HCUR.out w4 y4)
        have hg1lt := STa4.at_.B.lt
        have hg1w : w3.heap.size ≤ g1 := Nat.le_trans HB.out.size hg1
        have HY4 := Lib.hid y4
        clear HCURr y4 hb4 cs3 c3r
        go_upto_region 12 with (go_at_call 20; (with_reducible refine HCUR4.out.mono ?_); rintro e w5 ⟨g2, rfl, hb5, hg2, STb5⟩)
        have y5 : Below w3.heap.size w3 w5 := HY4.out.trans (hb5.is.mono HY4.out.size)
        have STa5 := STa4.low hb5
        have hg12 : g1 ≠ g2 := by omega
        have hg2w : w3.heap.size ≤ g2 := Nat.le_trans HY4.out.size hg2
        have HY5 := Lib.hid y5
        have HA5 := Lib.hid STa5
        have HB5 := Lib.hid STb5
        obtain ⟨q3, hq3⟩ : ∃ q3, q3 = i % 3 := ⟨_, rfl⟩
        have hrem3 : Int.tmod (i : Int) 3 = (q3 : Int) := by rw [hq3]; exact (Int.ofNat_tmod i 3).symm
        have hq33 : q3 < 3 := by omega
        clear HCUR4 HCUR y5 hb5 cs4 STa4 STa5 STb5 hg1 hg2 hg1lt HY4 hq3
        go_wp2_with fail
        go_loopg [11] (1 + q3) (fun gg s11 wq => ∃ (m : Nat) (cm : CS), s11 = .int .i64 m ∧ m + gg = 1 + q3 ∧ Hid (Stand w3 s wq g1 cm k) ∧ Hid (Stand w3 s wq g2 cm k) ∧ Hid (Below w3.heap.size w3 wq))
        case atStart => exact ⟨0, _, rfl, by omega, HA5, HB5, HY5⟩
        case round =>
          clear HA5 HB5 HY5
          obtain ⟨m, cm, rfl, hmg, HA, HBs, HY⟩ := hrel
          by_cases hm : (m : Int) < 1 + q3
          · obtain ⟨r, hr⟩ : ∃ r, r = cm.opens s k := ⟨_, rfl⟩
            have hrr : (r != r) = false := by cases r <;> rfl
            have HOA : Hid (Calls Tryz.prog 22 #[.pointer (some ⟨g1, 0, none⟩)] wr fun e w' => e = .returned (.bool r) ∧ Only g1 wr w' ∧ Cur w' g1 (cm.opn s k)) := Lib.hid (by rw [hr]; exact openC HA.out)
            have HR := Lib.hid hr
            clear hr
            go_wp2_with (first
              | (go_at_call 22; (with_reducible refine HOA.out.mono ?_); rintro e w6 ⟨rfl, o6, B6⟩
                 have STa6 := HA.out.opn o6 B6
                 have STb6 := HBs.out.other o6 hg1w hg12.symm
                 have HOB : Hid (Calls Tryz.prog 22 #[.pointer (some ⟨g2, 0, none⟩)] w6 fun e w' => e = .returned (.bool r) ∧ Only g2 w6 w' ∧ Cur w' g2 (cm.opn s k)) := Lib.hid (by rw [HR.out]; exact openC STb6)
                 have HY6 := Lib.hid (below_only HY.out o6 hg1w HY.out.size)
                 have HA6 := Lib.hid STa6
                 have HB6 := Lib.hid STb6
                 clear HOA o6 B6 STa6 STb6)
              | (go_at_call 22; (with_reducible refine HOB.out.mono ?_); rintro e w7 ⟨rfl, o7, B7⟩
                 have HB7 := Lib.hid (HB6.out.opn o7 B7)
                 have HA7 := Lib.hid (HA6.out.other o7 hg2w hg12)
                 have HY7 := Lib.hid (below_only HY6.out o7 hg2w HY6.out.size)
                 clear HOB o7 B7))
            go_roundg (gk - 1)
            case measure => omega
            case rel => exact ⟨m + 1, _, by go_num, by omega, HA7, HB7, HY7⟩
          · clear hmg
            obtain ⟨ka', ba', na', ta', xa', ka⟩ := kvOf HA.out HPL.out
            have HKA := Lib.hid (keyAny HA.out ka)
            have c3q : wr.cell? ⟨w.heap.size, 3, none⟩ = some (.slice (some ⟨gd, od, none⟩) dl.length dcap) := (HY.out.cell (p := ⟨w.heap.size, 3, none⟩) (World.block_lt_of_cell? _ _ HC3.out)).trans HC3.out
            have HCQ := Lib.hid c3q
            clear c3q
            go_upto_region 20 with (first
              | (go_at_call 30; (with_reducible refine HKA.out.mono ?_); rintro e w7 ⟨rfl, hb7⟩)
              | ((with_reducible refine wpList_store6 (k' := ka') (b' := ba') (n' := na') (t' := ta') (x' := xa') (p' := none) (len' := 0) (cap' := 0) (.tmp 12) (.tmp 100) w7.heap.size (six_new _ rfl) ?_ ?_ ?_ ?_ ?_); rfl; rfl; rfl; rfl; intro w8 hvw8 uw8))
            have z8 : Below wr.heap.size wr w8 := hb7.trans ((below_only (below1 w7 _) hvw8 (Nat.le_refl _) (by simp) : Below w7.heap.size w7 w8).mono hb7.size)
            have y8 : Below w3.heap.size w3 w8 := HY.out.trans (z8.mono HY.out.size)
            have STa8 := HA.out.bel z8
            have STb8 := HBs.out.bel z8
            have c3q : w8.cell? ⟨w.heap.size, 3, none⟩ = some (.slice (some ⟨gd, od, none⟩) dl.length dcap) := (y8.cell (p := ⟨w.heap.size, 3, none⟩) (World.block_lt_of_cell? _ _ HC3.out)).trans HC3.out
            have rv8 := range_below HRV.out y8
            have HSK := Lib.hid (seekC STa8 (HG3.out.below y8) (HT3.out.below y8) v u q (HV.out.below y8))
            have HY8 := Lib.hid y8
            have hw7g : w7.heap.size ≠ g1 := by have := HA.out.at_.B.lt; have := hb7.size; omega
            have HA8 := Lib.hid STa8
            have HB8 := Lib.hid STb8
            have us8 := uw8
            have hw7g2 : w7.heap.size ≠ g2 := by have := HBs.out.at_.B.lt; have := hb7.size; omega
            clear HKA hb7 hvw8 z8 y8 STa8 STb8 uw8 HCQ
            go_upto_region 21 with (first
              | ((with_reducible refine wpList_mid6 (.tmp 107) gd (od + i * 7 + 1) v rv8 ?_ ?_ ?_ ?_); rfl; rfl; rfl)
              | (go_at_call 28; (with_reducible refine HSK.out.mono ?_); rintro e w10 ⟨rfl, o10, B10⟩))
            obtain ⟨ca, hca⟩ : ∃ ca, ca = cm.seek s k u := ⟨_, rfl⟩
            have STa10 := HA8.out.seek u o10 B10
            rw [← hca] at STa10
            have STb10 := HB8.out.other o10 hg1w hg12.symm
            have y10 : Below w3.heap.size w3 w10 := below_only HY8.out o10 hg1w HY8.out.size
            have us10 := us8.only o10 hw7g
            obtain ⟨kc', bc', nc', tc', xc', kc⟩ := kvOf STa10 HPL.out
            have HKC := Lib.hid (keyAny STa10 kc)
            have HCA := Lib.hid hca
            have HA10 := Lib.hid STa10
            have HB10 := Lib.hid STb10
            have HY10 := Lib.hid y10
            rw [← hca]
            clear HSK o10 B10 us8 rv8 c3q STa10 STb10 y10 HA8 HB8 HY8 hca hw7g
            go_upto_region 22 with (first
              | (go_at_call 30; (with_reducible refine HKC.out.mono ?_); rintro e w9 ⟨rfl, hb9⟩)
              | ((with_reducible refine wpList_store6 (k' := kc') (b' := bc') (n' := nc') (t' := tc') (x' := xc') (p' := none) (len' := 0) (cap' := 0) (.tmp 15) (.tmp 113) w9.heap.size (six_new _ rfl) ?_ ?_ ?_ ?_ ?_); rfl; rfl; rfl; rfl; intro w11 hvw11 uw11))
            have z11 : Below w10.heap.size w10 w11 := hb9.trans ((below_only (below1 w9 _) hvw11 (Nat.le_refl _) (by simp) : Below w9.heap.size w9 w11).mono hb9.size)
            have HY11 : Hid (Below w3.heap.size w3 w11) := Lib.hid (HY10.out.trans (z11.mono HY10.out.size))
            have HB11 := Lib.hid (HB10.out.bel z11)
            have us11 := us10.below z11
            have ut11 := uw11
            have hw9g2 : w9.heap.size ≠ g2 := by have := HB10.out.at_.B.lt; have := hb9.size; omega
            clear HKC hb9 hvw11 z11 us10 uw11 HA10 HB10 HY10
            have hst := HB11.out
            cases hon : cm.on with
            | false =>
              have hcaon : ca.on = false := by rw [HCA.out]; unfold CS.seek; rw [if_neg (by rw [hon]; exact Bool.false_ne_true)]; exact hon
              have hcm : ca = cm := by rw [HCA.out]; unfold CS.seek; rw [if_neg (by rw [hon]; exact Bool.false_ne_true)]
              have HB12 : Hid (Stand w3 s w11 g2 ca k) := Lib.hid (by rw [hcm]; exact hst)
              have HUS := Lib.hid us11
              have HUT := Lib.hid ut11
              clear hst us11 ut11 HB11 hcm hon
              go_loopg [18] 0 (fun gg s18 wt => gg = 0 ∧ Hid (Stand w3 s wt g2 ca k) ∧ Hid (Below w3.heap.size w3 wt) ∧ Hid (Six wt w7.heap.size ka' ba' na' ta' xa' none 0 0) ∧ Hid (Six wt w9.heap.size kc' bc' nc' tc' xc' none 0 0))
              case atStart => exact ⟨rfl, HB12, HY11, HUS, HUT⟩
              case round =>
                clear HB12 HY11 HUS HUT
                obtain ⟨rfl, HBt', HBt, HUS, HUT⟩ := hrel
                have STbt := HBt'.out
                have us := HUS.out
                have ut := HUT.out
                generalize hwt : wr = wt at *
                clear hwt HBt' HUS HUT
                have HKB := Lib.hid (keyAny STbt kc)
                rw [hcaon] at HKB
                go_upto_region 27 with (first
                  | (go_at_call 30; (with_reducible refine HKB.out.mono ?_); rintro e w20 ⟨rfl, hb20⟩)
                  | ((with_reducible refine wpList_store6 (k' := kc') (b' := bc') (n' := nc') (t' := tc') (x' := xc') (p' := none) (len' := 0) (cap' := 0) (.tmp 19) (.tmp 139) w20.heap.size (six_new _ rfl) ?_ ?_ ?_ ?_ ?_); rfl; rfl; rfl; rfl; intro w21 hvw21 uw21))
                have z20 : Below wt.heap.size wt w21 := hb20.trans ((below_only (below1 w20 _) hvw21 (Nat.le_refl _) (by simp) : Below w20.heap.size w20 w21).mono hb20.size)
                have y20 : Below w3.heap.size w3 w21 := HBt.out.trans (z20.mono HBt.out.size)
                have U2 := ut.below z20
                have U1 := us.below z20
                have HSM : Hid (Calls Tryz.prog 32 #[.agg #[.int .i64 kc', .bool bc', .int .i64 nc', .string tc', .string xc', .slice none 0 0], .agg #[.int .i64 kc', .bool bc', .int .i64 nc', .string tc', .string xc', .slice none 0 0]] w21 fun e w' => e = .returned (.bool true) ∧ Below w21.heap.size w21 w') := Lib.hid (by
                  have := sameIs ⟨kc', bc', nc', tc', xc', none, 0, 0⟩ ⟨kc', bc', nc', tc', xc', none, 0, 0⟩ _ _ [] [] w21 (kvIs kc w21) (kvIs kc w21)
                  rwa [sameP_refl] at this)
                have HY := Lib.hid y20
                have hys := y20.size
                clear hb20 hvw21 z20 y20 us ut HKB STbt
                go_wp2_with (first
                  | ((with_reducible refine wpList_load6g (.tmp 15) w9.heap.size U2 ?_ ?_ ?_ ?_); rfl; rfl; rfl)
                  | ((with_reducible refine wpList_load6g (.tmp 19) w20.heap.size uw21 ?_ ?_ ?_ ?_); rfl; rfl; rfl)
                  | ((with_reducible refine wpList_load6g (.tmp 12) w7.heap.size U1 ?_ ?_ ?_ ?_); rfl; rfl; rfl)
                  | (go_at_call 32; (with_reducible refine HSM.out.mono ?_); rintro e w22 ⟨rfl, hb22⟩; replace U2 := U2.below hb22; replace U1 := U1.below hb22; replace uw21 := uw21.below hb22; have HB22 := Lib.hid hb22; clear hb22)
                  | fail)
                have HYF : Hid (Below w3.heap.size w3 w22) := Lib.hid (HY.out.trans (HB22.out.mono hys))
                go_roundg (dl.length - (i + 1))
                case measure => omega
                case rel => exact ⟨i + 1, by go_num, by omega, Nat.le_refl _, HYF⟩
            | true =>
              obtain ⟨h1, hpf⟩ := CS.on_is hon
              have h3 := hst.fit.d3
              have hin := hst.fit.in_ h1
              have hah := cm.ahead_in s k u hin.1
              obtain ⟨r0, hr0⟩ : ∃ r0, r0 = cm.ahead s k u := ⟨_, rfl⟩
              rw [← hr0] at hah
              have hcm : ca = cm.go r0 := by rw [HCA.out, hr0]; unfold CS.seek; rw [if_pos hon]
              have HB12 : Hid (Stand w3 s w11 g2 (cm.go cm.pos) k) := Lib.hid (by rw [CS.go_self]; exact hst)
              have HUS := Lib.hid us11
              have HUT := Lib.hid ut11
              have HCM := Lib.hid hcm
              have HR0 := Lib.hid hr0
              have HFIT := Lib.hid hst.fit
              have HKVM : Hid (cm.kval s k = cm.val s k) := Lib.hid (by unfold CS.kval; rw [if_pos hon])
              obtain ⟨cf, hcf⟩ : ∃ cf, cf = cm.fin := ⟨_, rfl⟩
              obtain ⟨cp, hcp⟩ : ∃ cp, cp = cm.pos := ⟨_, rfl⟩
              have HCF := Lib.hid hcf
              have HCP := Lib.hid hcp
              rw [← hcf, ← hcp] at hah
              rw [← hcf, ← hcp] at hpf
              rw [← hcp] at HB12
              have hgo : ∀ x, (cm.go x).on = decide (x < cf) := fun x => by rw [hcf]; exact CS.go_on cm h1 h3 x
              have HGO := Lib.hid hgo
              clear hst us11 ut11 HB11 hcm hon hr0 hcf hcp hgo hin
              go_loopg [18] cf (fun gg s18 wt => ∃ x, cp ≤ x ∧ x ≤ r0 ∧ cf - x ≤ gg ∧ Hid (Stand w3 s wt g2 (cm.go x) k) ∧ Hid (Below w3.heap.size w3 wt) ∧ Hid (Six wt w7.heap.size ka' ba' na' ta' xa' none 0 0) ∧ Hid (Six wt w9.heap.size kc' bc' nc' tc' xc' none 0 0))
              case atStart => exact ⟨cp, Nat.le_refl _, hah.1, by omega, HB12, HY11, HUS, HUT⟩
              case round =>
                clear HB12 HY11 HUS HUT
                obtain ⟨x, hx1, hx2, hxg, HBx, HBr, HUS, HUT⟩ := hrel
                obtain ⟨kd', bd', nd', td', xd', kd⟩ := kvOf HBx.out HPL.out
                have HKD := Lib.hid (keyAny HBx.out kd)
                rw [HGO.out x] at HKD
                by_cases hxf : x < cf
                · rw [decide_eq_true hxf] at HKD
                  go_upto_region 24 with (first
                    | (go_at_call 30; (with_reducible refine HKD.out.mono ?_); rintro e w12 ⟨rfl, hb12⟩)
                    | ((with_reducible refine wpList_store6 (k' := kd') (b' := bd') (n' := nd') (t' := td') (x' := xd') (p' := none) (len' := 0) (cap' := 0) (.tmp 17) (.tmp 119) w12.heap.size (six_new _ rfl) ?_ ?_ ?_ ?_ ?_); rfl; rfl; rfl; rfl; intro w13 hvw13 uw13))
                  have z13 : Below wr.heap.size wr w13 := hb12.trans ((below_only (below1 w12 _) hvw13 (Nat.le_refl _) (by simp) : Below w12.heap.size w12 w13).mono hb12.size)
                  have y13 : Below w3.heap.size w3 w13 := HBr.out.trans (z13.mono HBr.out.size)
                  have c313 : w13.cell? ⟨w.heap.size, 3, none⟩ = some (.slice (some ⟨gd, od, none⟩) dl.length dcap) := (y13.cell (p := ⟨w.heap.size, 3, none⟩) (World.block_lt_of_cell? _ _ HC3.out)).trans HC3.out
                  have rv13 := range_below HRV.out y13
                  obtain ⟨zz, hzz⟩ : ∃ zz, zz = orderI 1 ((cm.go x).kval s k) u := ⟨_, rfl⟩
                  have HO3 : Hid (∀ W, Below w13.heap.size w13 W → Calls Tryz.prog 34 #[.int .i64 1, .agg #[.int .i64 kd', .bool bd', .int .i64 nd', .string td', .string xd', .slice none 0 0], .agg #[.int .i64 v.k, .bool v.b, .int .i64 v.n, .string v.t, .string v.x, .slice v.p v.len v.cap]] W fun e w' => e = .returned (.int .i64 zz) ∧ Below W.heap.size W w') := Lib.hid fun W hb => by
                    rw [hzz]
                    exact ordRefIs ⟨kd', bd', nd', td', xd', none, 0, 0⟩ v _ _ [] q W (kvIs kd W) (HV.out.below (y13.trans (hb.mono y13.size)))
                  have hzv : zz = orderI 1 ((cm.go x).val s k) u := by
                    rw [hzz]
                    unfold CS.kval
                    rw [if_pos (by rw [HGO.out]; exact decide_eq_true hxf)]
                  have HZV := Lib.hid hzv
                  have HZ13 := Lib.hid z13
                  have HY13 := Lib.hid y13
                  have L0 : Below w13.heap.size w13 w13.drew := (Below.refl _ _).drew
                  clear hzz hzv hb12 hvw13 y13 z13
                  refine wp_region_held_drew (S := fun W => Six W w12.heap.size kd' bd' nd' td' xd' none 0 0 ∧ W.cell? ⟨w.heap.size, 3, none⟩ = some (.slice (some ⟨gd, od, none⟩) dl.length dcap) ∧ W.rangeAt gd (od + i * 7 + 1) [.int .i64 v.k, .bool v.b, .int .i64 v.n, .string v.t, .string v.x, .slice v.p v.len v.cap]) (by kernel_rfl) ⟨uw13, c313, rv13⟩ (fun hHeld => ?_)
                  refine wpAnyH_take (i := 0) (v := .bool true) rfl (by kernel_rfl) (by kernel_rfl) (by kernel_rfl) (fun _ _ _ h => h) (Or.inl ⟨by rfl, fun W _ => by go_simp⟩) hHeld ?_
                  try simp only [Act.put, List.getElem_toArray, List.getElem_cons_succ, List.getElem_cons_zero, List.setIfInBounds_toArray, List.set_cons_zero, List.set_cons_succ]
                  refine wpAnyH_take (i := 1) (v := .bool false) rfl (by kernel_rfl) (by kernel_rfl) (by kernel_rfl) (fun _ _ _ h => h) (Or.inl ⟨by rfl, fun W _ => by go_simp⟩) hHeld ?_
                  try simp only [Act.put, List.getElem_toArray, List.getElem_cons_succ, List.getElem_cons_zero, List.setIfInBounds_toArray, List.set_cons_zero, List.set_cons_succ]
                  refine wpAnyH_take (i := 2) (v := .bool false) rfl (by kernel_rfl) (by kernel_rfl) (by kernel_rfl) (fun _ _ _ h => h) (Or.inl ⟨by rfl, fun W _ => by go_simp⟩) hHeld ?_
                  try simp only [Act.put, List.getElem_toArray, List.getElem_cons_succ, List.getElem_cons_zero, List.setIfInBounds_toArray, List.set_cons_zero, List.set_cons_succ]
                  refine wpAnyH_take (i := 3) rfl (by kernel_rfl) (by kernel_rfl) (by kernel_rfl) (fun _ _ _ h => h) (yieldsIf_load_mid (by rfl) 39 (.tmp 17) rfl w12.heap.size 0 rfl [.int .i64 kd', .bool bd', .int .i64 nd', .string td', .string xd', .slice none 0 0] _ (fun W h => range6 h.1.c0 h.1.c1 h.1.c2 h.1.c3 h.1.c4 h.1.c5) Tryz.underlying39 rfl info28) hHeld ?_
                  try simp only [Act.put, List.getElem_toArray, List.getElem_cons_succ, List.getElem_cons_zero, List.setIfInBounds_toArray, List.set_cons_zero, List.set_cons_succ]
                  refine wpAnyH_take (i := 4) (v := .pointer (some ⟨w.heap.size, 3, none⟩)) rfl (by kernel_rfl) (by kernel_rfl) (by kernel_rfl) (fun _ _ _ h => h) (Or.inl ⟨by rfl, fun W _ => by go_simp⟩) hHeld ?_
                  try simp only [Act.put, List.getElem_toArray, List.getElem_cons_succ, List.getElem_cons_zero, List.setIfInBounds_toArray, List.set_cons_zero, List.set_cons_succ]
                  refine wpAnyH_take (i := 5) (v := .slice (some ⟨gd, od, none⟩) dl.length dcap) rfl (by kernel_rfl) (by kernel_rfl) (by kernel_rfl) (fun _ _ _ h => h) (Or.inl ⟨by rfl, fun W h => by have c0 := h.2.1; go_simp⟩) hHeld ?_
                  try simp only [Act.put, List.getElem_toArray, List.getElem_cons_succ, List.getElem_cons_zero, List.setIfInBounds_toArray, List.set_cons_zero, List.set_cons_succ]
                  refine wpAnyH_take (i := 6) (v := .int .i64 i) rfl (by kernel_rfl) (by kernel_rfl) (by kernel_rfl) (fun _ _ _ h => h) (Or.inl ⟨by rfl, fun W _ => by go_simp⟩) hHeld ?_
                  try simp only [Act.put, List.getElem_toArray, List.getElem_cons_succ, List.getElem_cons_zero, List.setIfInBounds_toArray, List.set_cons_zero, List.set_cons_succ]
                  refine wpAnyH_take (i := 7) (v := .pointer (some ⟨gd, od + i * 7, none⟩)) rfl (by kernel_rfl) (by kernel_rfl) (by kernel_rfl) (fun _ _ _ h => h) (Or.inl ⟨by rfl, fun W _ => by go_simp⟩) hHeld ?_
                  try simp only [Act.put, List.getElem_toArray, List.getElem_cons_succ, List.getElem_cons_zero, List.setIfInBounds_toArray, List.set_cons_zero, List.set_cons_succ]
                  refine wpAnyH_take (i := 8) (v := .pointer (some ⟨gd, od + i * 7 + 1, none⟩)) rfl (by kernel_rfl) (by kernel_rfl) (by kernel_rfl) (fun _ _ _ h => h) (Or.inl ⟨by rfl, fun W _ => by go_simp⟩) hHeld ?_
                  try simp only [Act.put, List.getElem_toArray, List.getElem_cons_succ, List.getElem_cons_zero, List.setIfInBounds_toArray, List.set_cons_zero, List.set_cons_succ]
                  refine wpAnyH_take (i := 9) rfl (by kernel_rfl) (by kernel_rfl) (by kernel_rfl) (fun _ _ _ h => h) (yieldsIf_load_mid (by rfl) 39 (.tmp 129) rfl gd (od + i * 7 + 1) rfl [.int .i64 v.k, .bool v.b, .int .i64 v.n, .string v.t, .string v.x, .slice v.p v.len v.cap] _ (fun W h => h.2.2) Tryz.underlying39 rfl info28) hHeld ?_
                  try simp only [Act.put, List.getElem_toArray, List.getElem_cons_succ, List.getElem_cons_zero, List.setIfInBounds_toArray, List.set_cons_zero, List.set_cons_succ]
                  refine wpAnyH_ready (rs := [10]) (by kernel_rfl) (by simp) ?_
                  refine AllReadyH.cons rfl (fun K hK => ?_) AllReadyH.nil
                  rw [if_pos (by rfl)]
                  go_simp
                  refine (HO3.out _ L0).mono ?_
                  rintro e0 w14 ⟨rfl, hb3⟩
                  have L1 := L0.trans (hb3.mono L0.size)
                  clear hb3 L0
                  refine hK.out _ _ ⟨uw13.below L1, (L1.cell (p := ⟨w.heap.size, 3, none⟩) (World.block_lt_of_cell? _ _ c313)).trans c313, range_below rv13 L1⟩ (fun hHeld2 => ?_)
                  clear hK K
                  try simp only [Act.put, List.getElem_toArray, List.getElem_cons_succ, List.getElem_cons_zero, List.setIfInBounds_toArray, List.set_cons_zero, List.set_cons_succ]
                  rename_i w24
                  refine wpAnyH_take (i := 11) (v := .bool (decide (0 ≤ zz))) rfl (by kernel_rfl) (by kernel_rfl) (by kernel_rfl) (fun _ _ _ h => h) (Or.inl ⟨by rfl, fun W _ => by go_simp⟩) hHeld2 ?_
                  try simp only [Act.put, List.getElem_toArray, List.getElem_cons_succ, List.getElem_cons_zero, List.setIfInBounds_toArray, List.set_cons_zero, List.set_cons_succ]
                  refine wpAnyH_take (i := 12) (v := .bool (decide (0 ≤ zz))) rfl (by kernel_rfl) (by kernel_rfl) (by kernel_rfl) (fun _ _ _ h => h) (Or.inl ⟨by rfl, fun W _ => by go_simp⟩) hHeld2 ?_
                  try simp only [Act.put, List.getElem_toArray, List.getElem_cons_succ, List.getElem_cons_zero, List.setIfInBounds_toArray, List.set_cons_zero, List.set_cons_succ]
                  refine wpAnyH_done (by kernel_rfl) ?_ _
                  have HBT : Hid (Below wr.heap.size wr w14) := Lib.hid (HZ13.out.trans (L1.mono HZ13.out.size))
                  by_cases hz : zz < 0
                  · have hz2 : ¬ 0 ≤ zz := by omega
                    have hxr : x < r0 := by
                      rcases Nat.lt_or_ge x r0 with e | e
                      · exact e
                      · obtain rfl : x = r0 := by omega
                        have := seek_not (u := u) HFIT.out h1 (by rw [← HR0.out, ← HCF.out]; exact hxf)
                        rw [← HR0.out, ← HZV.out] at this
                        exact absurd hz this
                    obtain ⟨y, hxy, hy, hnx⟩ := next_step (u := u) HFIT.out HOK.out h1 x (by rw [← HCP.out]; exact hx1) (by rw [← HR0.out]; exact hxr)
                    rw [← HR0.out] at hy
                    have STb14 := HBx.out.bel HBT.out
                    have HNX := Lib.hid (nextC STb14)
                    have HNY := Lib.hid hnx
                    have HB14 := Lib.hid STb14
                    have HY14 : Hid (Below w3.heap.size w3 w14) := Lib.hid (HBr.out.trans (HBT.out.mono HBr.out.size))
                    have us14 := HUS.out.below HBT.out
                    have ut14 := HUT.out.below HBT.out
                    clear STb14 hnx L1 hHeld2 uw13 c313 rv13
                    go_wp2_with (go_at_call 26; (with_reducible refine HNX.out.mono ?_); rintro e w15 ⟨rfl, o15, B15⟩)
                    have STb15 := HB14.out.next o15 B15
                    rw [HNY.out] at STb15
                    have HB15 := Lib.hid STb15
                    have HY15 := Lib.hid (below_only HY14.out o15 hg2w HY14.out.size)
                    have HU15 := Lib.hid (us14.only o15 hw7g2)
                    have HT15 := Lib.hid (ut14.only o15 hw9g2)
                    clear STb15 B15 o15 us14 ut14
                    go_wp2_with fail
                    go_roundg (cf - y)
                    case measure => omega
                    case rel => exact ⟨y, by omega, hy, Nat.le_refl _, HB15, HY15, HU15, HT15⟩
                  · have hz2 : 0 ≤ zz := by omega
                    have hxr : x = r0 := by
                      rcases Nat.lt_or_ge x r0 with e | e
                      · have := seek_less (u := u) HFIT.out h1 x (by rw [← HCP.out]; exact hx1) (by rw [← HR0.out]; exact e)
                        rw [← HZV.out] at this
                        exact absurd this hz
                      · omega
                    have hcaon : ca.on = true := by rw [HCM.out, HGO.out, ← hxr]; exact decide_eq_true hxf
                    have STbt : Stand w3 s w14 g2 ca k := by rw [HCM.out, ← hxr]; exact HBx.out.bel HBT.out
                    obtain ⟨zo, hzo⟩ : ∃ zo, zo = orderI 1 (ca.kval s k) (cm.kval s k) := ⟨_, rfl⟩
                    have hzn : ¬ zo < 0 := by
                      have hkc : ca.kval s k = (cm.go x).val s k := by
                        unfold CS.kval
                        rw [if_pos hcaon, HCM.out, hxr]
                      rw [hzo, hkc, HKVM.out]
                      exact later_not HFIT.out HOK.out HSO.out hk6 h1 x (by rw [← HCP.out]; exact hx1) (by rw [← HCF.out]; exact hxf)
                    have HZO := Lib.hid hzo
                    have HBt : Hid (Below w3.heap.size w3 w14) := Lib.hid (HBr.out.trans (HBT.out.mono HBr.out.size))
                    have us := HUS.out.below HBT.out
                    have ut := HUT.out.below HBT.out
                    clear L1 hHeld2 uw13 c313 rv13 hzo HBT
                    generalize w14 = wt at *
                    have HKB := Lib.hid (keyAny STbt kc)
                    rw [hcaon] at HKB
                    go_upto_region 27 with (first
                      | (go_at_call 30; (with_reducible refine HKB.out.mono ?_); rintro e w20 ⟨rfl, hb20⟩)
                      | ((with_reducible refine wpList_store6 (k' := kc') (b' := bc') (n' := nc') (t' := tc') (x' := xc') (p' := none) (len' := 0) (cap' := 0) (.tmp 19) (.tmp 139) w20.heap.size (six_new _ rfl) ?_ ?_ ?_ ?_ ?_); rfl; rfl; rfl; rfl; intro w21 hvw21 uw21))
                    have z20 : Below wt.heap.size wt w21 := hb20.trans ((below_only (below1 w20 _) hvw21 (Nat.le_refl _) (by simp) : Below w20.heap.size w20 w21).mono hb20.size)
                    have y20 : Below w3.heap.size w3 w21 := HBt.out.trans (z20.mono HBt.out.size)
                    have U2 := ut.below z20
                    have U1 := us.below z20
                    have HSM : Hid (Calls Tryz.prog 32 #[.agg #[.int .i64 kc', .bool bc', .int .i64 nc', .string tc', .string xc', .slice none 0 0], .agg #[.int .i64 kc', .bool bc', .int .i64 nc', .string tc', .string xc', .slice none 0 0]] w21 fun e w' => e = .returned (.bool true) ∧ Below w21.heap.size w21 w') := Lib.hid (by
                      have := sameIs ⟨kc', bc', nc', tc', xc', none, 0, 0⟩ ⟨kc', bc', nc', tc', xc', none, 0, 0⟩ _ _ [] [] w21 (kvIs kc w21) (kvIs kc w21)
                      rwa [sameP_refl] at this)
                    have HOR : Hid (∀ W, Below w21.heap.size w21 W → Calls Tryz.prog 34 #[.int .i64 1, .agg #[.int .i64 kc', .bool bc', .int .i64 nc', .string tc', .string xc', .slice none 0 0], .agg #[.int .i64 ka', .bool ba', .int .i64 na', .string ta', .string xa', .slice none 0 0]] W fun e w' => e = .returned (.int .i64 zo) ∧ Below W.heap.size W w') := Lib.hid fun W _ => by
                      have := ordRefIs ⟨kc', bc', nc', tc', xc', none, 0, 0⟩ ⟨ka', ba', na', ta', xa', none, 0, 0⟩ _ _ [] [] W (kvIs kc W) (kvIs ka W)
                      rw [HZO.out]
                      exact this
                    have HY := Lib.hid y20
                    have hys := y20.size
                    clear hb20 hvw21 z20 y20 us ut HKB STbt
                    go_wp2_with (first
                      | ((with_reducible refine wpList_load6g (.tmp 15) w9.heap.size U2 ?_ ?_ ?_ ?_); rfl; rfl; rfl)
                      | ((with_reducible refine wpList_load6g (.tmp 19) w20.heap.size uw21 ?_ ?_ ?_ ?_); rfl; rfl; rfl)
                      | ((with_reducible refine wpList_load6g (.tmp 12) w7.heap.size U1 ?_ ?_ ?_ ?_); rfl; rfl; rfl)
                      | (go_at_call 32; (with_reducible refine HSM.out.mono ?_); rintro e w22 ⟨rfl, hb22⟩; replace U2 := U2.below hb22; replace U1 := U1.below hb22; replace uw21 := uw21.below hb22; have HB22 := Lib.hid hb22; clear hb22)
                      | (go_at_call 34; (with_reducible refine (HOR.out _ HB22.out).mono ?_); rintro e w23 ⟨rfl, hb23⟩; have HB23 := Lib.hid hb23; clear hb23))
                    have HYF : Hid (Below w3.heap.size w3 w23) := Lib.hid (HY.out.trans ((HB22.out.trans (HB23.out.mono HB22.out.size)).mono hys))
                    go_roundg (dl.length - (i + 1))
                    case measure => omega
                    case rel => exact ⟨i + 1, by go_num, by omega, Nat.le_refl _, HYF⟩
                · have hxr : x = r0 := by omega
                  rw [decide_eq_false hxf] at HKD
                  go_upto_region 24 with (first
                    | (go_at_call 30; (with_reducible refine HKD.out.mono ?_); rintro e w12 ⟨rfl, hb12⟩)
                    | ((with_reducible refine wpList_store6 (k' := kd') (b' := bd') (n' := nd') (t' := td') (x' := xd') (p' := none) (len' := 0) (cap' := 0) (.tmp 17) (.tmp 119) w12.heap.size (six_new _ rfl) ?_ ?_ ?_ ?_ ?_); rfl; rfl; rfl; rfl; intro w13 hvw13 uw13))
                  have z13 : Below wr.heap.size wr w13 := hb12.trans ((below_only (below1 w12 _) hvw13 (Nat.le_refl _) (by simp) : Below w12.heap.size w12 w13).mono hb12.size)
                  have HBT : Hid (Below wr.heap.size wr w13.drew) := Lib.hid z13.drew
                  clear hb12 hvw13 z13 uw13
                  refine wp_region_held_drew (S := fun W => True) (by kernel_rfl) trivial (fun hHeld => ?_)
                  refine wpAnyH_take (i := 0) (v := .bool false) rfl (by kernel_rfl) (by kernel_rfl) (by kernel_rfl) (fun _ _ _ h => h) (Or.inl ⟨by rfl, fun W _ => by go_simp⟩) hHeld ?_
                  try simp only [Act.put, List.getElem_toArray, List.getElem_cons_succ, List.getElem_cons_zero, List.setIfInBounds_toArray, List.set_cons_zero, List.set_cons_succ]
                  refine wpAnyH_take (i := 1) (v := .bool true) rfl (by kernel_rfl) (by kernel_rfl) (by kernel_rfl) (fun _ _ _ h => h) (Or.inl ⟨by rfl, fun W _ => by go_simp⟩) hHeld ?_
                  try simp only [Act.put, List.getElem_toArray, List.getElem_cons_succ, List.getElem_cons_zero, List.setIfInBounds_toArray, List.set_cons_zero, List.set_cons_succ]
                  refine wpAnyH_take (i := 2) (v := .bool true) rfl (by kernel_rfl) (by kernel_rfl) (by kernel_rfl) (fun _ _ _ h => h) (Or.inl ⟨by rfl, fun W _ => by go_simp⟩) hHeld ?_
                  try simp only [Act.put, List.getElem_toArray, List.getElem_cons_succ, List.getElem_cons_zero, List.setIfInBounds_toArray, List.set_cons_zero, List.set_cons_succ]
                  refine wpAnyH_take (i := 3) (v := undef) rfl (by kernel_rfl) (by kernel_rfl) (by kernel_rfl) (fun _ _ _ h => h) (Or.inr ⟨by rfl, rfl⟩) hHeld ?_
                  try simp only [Act.put, List.getElem_toArray, List.getElem_cons_succ, List.getElem_cons_zero, List.setIfInBounds_toArray, List.set_cons_zero, List.set_cons_succ]
                  refine wpAnyH_take (i := 4) (v := undef) rfl (by kernel_rfl) (by kernel_rfl) (by kernel_rfl) (fun _ _ _ h => h) (Or.inr ⟨by rfl, rfl⟩) hHeld ?_
                  try simp only [Act.put, List.getElem_toArray, List.getElem_cons_succ, List.getElem_cons_zero, List.setIfInBounds_toArray, List.set_cons_zero, List.set_cons_succ]
                  refine wpAnyH_take (i := 5) (v := undef) rfl (by kernel_rfl) (by kernel_rfl) (by kernel_rfl) (fun _ _ _ h => h) (Or.inr ⟨by rfl, rfl⟩) hHeld ?_
                  try simp only [Act.put, List.getElem_toArray, List.getElem_cons_succ, List.getElem_cons_zero, List.setIfInBounds_toArray, List.set_cons_zero, List.set_cons_succ]
                  refine wpAnyH_take (i := 6) (v := undef) rfl (by kernel_rfl) (by kernel_rfl) (by kernel_rfl) (fun _ _ _ h => h) (Or.inr ⟨by rfl, rfl⟩) hHeld ?_
                  try simp only [Act.put, List.getElem_toArray, List.getElem_cons_succ, List.getElem_cons_zero, List.setIfInBounds_toArray, List.set_cons_zero, List.set_cons_succ]
                  refine wpAnyH_take (i := 7) (v := undef) rfl (by kernel_rfl) (by kernel_rfl) (by kernel_rfl) (fun _ _ _ h => h) (Or.inr ⟨by rfl, rfl⟩) hHeld ?_
                  try simp only [Act.put, List.getElem_toArray, List.getElem_cons_succ, List.getElem_cons_zero, List.setIfInBounds_toArray, List.set_cons_zero, List.set_cons_succ]
                  refine wpAnyH_take (i := 8) (v := undef) rfl (by kernel_rfl) (by kernel_rfl) (by kernel_rfl) (fun _ _ _ h => h) (Or.inr ⟨by rfl, rfl⟩) hHeld ?_
                  try simp only [Act.put, List.getElem_toArray, List.getElem_cons_succ, List.getElem_cons_zero, List.setIfInBounds_toArray, List.set_cons_zero, List.set_cons_succ]
                  refine wpAnyH_take (i := 9) (v := undef) rfl (by kernel_rfl) (by kernel_rfl) (by kernel_rfl) (fun _ _ _ h => h) (Or.inr ⟨by rfl, rfl⟩) hHeld ?_
                  try simp only [Act.put, List.getElem_toArray, List.getElem_cons_succ, List.getElem_cons_zero, List.setIfInBounds_toArray, List.set_cons_zero, List.set_cons_succ]
                  refine wpAnyH_ready (rs := [10]) (by kernel_rfl) (by simp) ?_
                  refine AllReadyH.cons rfl (fun K hK => ?_) AllReadyH.nil
                  rw [if_neg (by exact Bool.eq_false_iff.1 rfl)]
                  refine hK.out _ _ trivial (fun _ => ?_)
                  clear hK K
                  try simp only [Act.put, List.getElem_toArray, List.getElem_cons_succ, List.getElem_cons_zero, List.setIfInBounds_toArray, List.set_cons_zero, List.set_cons_succ]
                  refine wpAnyH_take (i := 11) (v := undef) rfl (by kernel_rfl) (by kernel_rfl) (by kernel_rfl) (fun _ _ _ h => h) (Or.inr ⟨by rfl, rfl⟩) hHeld ?_
                  try simp only [Act.put, List.getElem_toArray, List.getElem_cons_succ, List.getElem_cons_zero, List.setIfInBounds_toArray, List.set_cons_zero, List.set_cons_succ]
                  refine wpAnyH_take (i := 12) (v := .bool true) rfl (by kernel_rfl) (by kernel_rfl) (by kernel_rfl) (fun _ _ _ h => h) (Or.inl ⟨by rfl, fun W _ => by go_simp⟩) hHeld ?_
                  try simp only [Act.put, List.getElem_toArray, List.getElem_cons_succ, List.getElem_cons_zero, List.setIfInBounds_toArray, List.set_cons_zero, List.set_cons_succ]
                  refine wpAnyH_done (by kernel_rfl) ?_ _
                  have hcaon : ca.on = false := by rw [HCM.out, HGO.out, ← hxr]; exact decide_eq_false hxf
                  have STbt : Stand w3 s w13.drew g2 ca k := by rw [HCM.out, ← hxr]; exact HBx.out.bel HBT.out
                  have HBt : Hid (Below w3.heap.size w3 w13.drew) := Lib.hid (HBr.out.trans (HBT.out.mono HBr.out.size))
                  have us := HUS.out.below HBT.out
                  have ut := HUT.out.below HBT.out
                  clear HBT
                  generalize w13.drew = wt at *
                  have HKB := Lib.hid (keyAny STbt kc)
                  rw [hcaon] at HKB
                  go_upto_region 27 with (first
                    | (go_at_call 30; (with_reducible refine HKB.out.mono ?_); rintro e w20 ⟨rfl, hb20⟩)
                    | ((with_reducible refine wpList_store6 (k' := kc') (b' := bc') (n' := nc') (t' := tc') (x' := xc') (p' := none) (len' := 0) (cap' := 0) (.tmp 19) (.tmp 139) w20.heap.size (six_new _ rfl) ?_ ?_ ?_ ?_ ?_); rfl; rfl; rfl; rfl; intro w21 hvw21 uw21))
                  have z20 : Below wt.heap.size wt w21 := hb20.trans ((below_only (below1 w20 _) hvw21 (Nat.le_refl _) (by simp) : Below w20.heap.size w20 w21).mono hb20.size)
                  have y20 : Below w3.heap.size w3 w21 := HBt.out.trans (z20.mono HBt.out.size)
                  have U2 := ut.below z20
                  have U1 := us.below z20
                  have HSM : Hid (Calls Tryz.prog 32 #[.agg #[.int .i64 kc', .bool bc', .int .i64 nc', .string tc', .string xc', .slice none 0 0], .agg #[.int .i64 kc', .bool bc', .int .i64 nc', .string tc', .string xc', .slice none 0 0]] w21 fun e w' => e = .returned (.bool true) ∧ Below w21.heap.size w21 w') := Lib.hid (by
                    have := sameIs ⟨kc', bc', nc', tc', xc', none, 0, 0⟩ ⟨kc', bc', nc', tc', xc', none, 0, 0⟩ _ _ [] [] w21 (kvIs kc w21) (kvIs kc w21)
                    rwa [sameP_refl] at this)
                  have HY := Lib.hid y20
                  have hys := y20.size
                  clear hb20 hvw21 z20 y20 us ut HKB STbt
                  go_wp2_with (first
                    | ((with_reducible refine wpList_load6g (.tmp 15) w9.heap.size U2 ?_ ?_ ?_ ?_); rfl; rfl; rfl)
                    | ((with_reducible refine wpList_load6g (.tmp 19) w20.heap.size uw21 ?_ ?_ ?_ ?_); rfl; rfl; rfl)
                    | ((with_reducible refine wpList_load6g (.tmp 12) w7.heap.size U1 ?_ ?_ ?_ ?_); rfl; rfl; rfl)
                    | (go_at_call 32; (with_reducible refine HSM.out.mono ?_); rintro e w22 ⟨rfl, hb22⟩; replace U2 := U2.below hb22; replace U1 := U1.below hb22; replace uw21 := uw21.below hb22; have HB22 := Lib.hid hb22; clear hb22)
                    | fail)
                  have HYF : Hid (Below w3.heap.size w3 w22) := Lib.hid (HY.out.trans (HB22.out.mono hys))
                  go_roundg (dl.length - (i + 1))
                  case measure => omega
                  case rel => exact ⟨i + 1, by go_num, by omega, Nat.le_refl _, HYF⟩
      · have hlti : (i : Int) < dl.length := by omega
        have h12i : ¬ (i : Int) < 12 := by omega
        go_wp2_with (go_at_call 8; (with_reducible refine HWK.out.mono ?_); rintro e w9 ⟨rfl, hb9⟩)
        go_ret
        exact ⟨rfl, HB3.out.trans ((HB.out.trans (hb9.mono HB.out.size)).mono HB3.out.size)⟩
    · have hlti : ¬ (i : Int) < dl.length := by omega
      go_wp2_with (go_at_call 8; (with_reducible refine HWK.out.mono ?_); rintro e w9 ⟨rfl, hb9⟩)
      go_ret
      exact ⟨rfl, HB3.out.trans ((HB.out.trans (hb9.mono HB.out.size)).mono HB3.out.size)⟩
end Go.Proofs.YtanbgdhmfjgihaaGreatDoor
