/- Texts of one kind, one behind the other: each says ahead of itself what it shows. -/
import Derived.Test.YtanbgdhmfjgihaaGreatDoorJbg
/- What the law TriplesWalk does where the triples may be. -/
namespace Go.Proofs.YtanbgdhmfjgihaaGreatDoor
open Go.RowKit

theorem VY.ve {y : V6} {u : Val} (h : VY y u) : ∃ e : VE, e.val = u ∧ e.enc = [.int .i64 y.k, .bool y.b, .int .i64 y.n, .string y.t, .string y.x, .slice y.p y.len y.cap] := by
  obtain ⟨k, b, n, t, x, p, len, cap⟩ := y
  obtain ⟨hp, hl, hc, he, hf⟩ := h
  simp only at hp hl hc he hf
  subst hp hl hc
  exact ⟨⟨⟨k, b, n, t, x, none, 0, 0⟩, rfl, hf⟩, he.symm, rfl⟩
set_option maxHeartbeats 25600000 in
set_option maxRecDepth 20000 in
theorem walkGood (l : List Tri3) (p0 : Option Addr) (cap : Nat) (w : World) (hG : Gd w) (hT : Tab w) (hl : Tris w (.slice p0 l.length cap) l) (hn : l.length ≤ 60) (hgood : ∀ t ∈ l, t3Chk t = true) :
    Calls Tryz.prog 5 #[.slice p0 l.length cap] w fun e w' => e = .returned (.bool true) ∧ Below w.heap.size w w' := by
  obtain ⟨i0, hi41, hz0, hz1, hz2⟩ := info_parts info41b
  have hld := (loadAt _ l w hG hT hl (by omega)).mono fun e w' h => h.1 hgood
  have hni : ¬ (60 : Int) < l.length := by omega
  have HLD := Lib.hid hld
  have HG := Lib.hid hG
  have HT := Lib.hid hT
  have HN60 := Lib.hid hn
  clear hld hG hT hl
  go_enter Tryz.func5, Tryz.ntmps5
  go_upto_region 4 with (go_at_call 10; (with_reducible refine HLD.out.mono ?_); rintro e w2 ⟨sp, s, rfl, hin, hlo, hb2⟩)
  obtain ⟨pv, pr, cv, cr, pp, cc, hsi, _⟩ := hin
  have hs2 := hb2.size
  have hstr := heap_new w2 (.cells #[.string ⟨#[115, 112, 111]⟩, .string ⟨#[115, 111, 112]⟩, .string ⟨#[112, 115, 111]⟩, .string ⟨#[112, 111, 115]⟩, .string ⟨#[111, 115, 112]⟩, .string ⟨#[111, 112, 115]⟩] 9) rfl
  have x3 : Below w2.heap.size w2 (w2.alloc (.cells #[.string ⟨#[115, 112, 111]⟩, .string ⟨#[115, 111, 112]⟩, .string ⟨#[112, 115, 111]⟩, .string ⟨#[112, 111, 115]⟩, .string ⟨#[111, 115, 112]⟩, .string ⟨#[111, 112, 115]⟩] 9)) := below1 _ _
  have hok := hlo.ok (by omega)
  have hso := hlo.so
  have hpl : ∀ u ∈ s.vs, Plain u := fun u hu => (hlo.plain hgood u hu).1
  have HSI := Lib.hid (hsi.below x3)
  have y3 : Below w.heap.size w (w2.alloc (.cells #[.string ⟨#[115, 112, 111]⟩, .string ⟨#[115, 111, 112]⟩, .string ⟨#[112, 115, 111]⟩, .string ⟨#[112, 111, 115]⟩, .string ⟨#[111, 115, 112]⟩, .string ⟨#[111, 112, 115]⟩] 9)) := hb2.trans (x3.mono hs2)
  have HG3 := Lib.hid (HG.out.below y3)
  have HT3 := Lib.hid (HT.out.below y3)
  have HSTR : Hid (∀ k, k < 6 → (w2.alloc (.cells #[.string ⟨#[115, 112, 111]⟩, .string ⟨#[115, 111, 112]⟩, .string ⟨#[112, 115, 111]⟩, .string ⟨#[112, 111, 115]⟩, .string ⟨#[111, 115, 112]⟩, .string ⟨#[111, 112, 115]⟩] 9)).cell? ⟨w2.heap.size, k, none⟩ = some (.string (onm k))) := Lib.hid fun k hk => by
    match k, hk with
    | 0, _ => exact cell_of hstr 0 rfl
    | 1, _ => exact cell_of hstr 1 rfl
    | 2, _ => exact cell_of hstr 2 rfl
    | 3, _ => exact cell_of hstr 3 rfl
    | 4, _ => exact cell_of hstr 4 rfl
    | 5, _ => exact cell_of hstr 5 rfl
  have HB3 := Lib.hid y3
  have HOK := Lib.hid hok
  have HSO := Lib.hid hso
  have HPL := Lib.hid hpl
  have HLO := Lib.hid hlo
  have HNR := Lib.hid hlo.nr
  have hsw3 : w2.heap.size < (w2.alloc (.cells #[.string ⟨#[115, 112, 111]⟩, .string ⟨#[115, 111, 112]⟩, .string ⟨#[112, 115, 111]⟩, .string ⟨#[112, 111, 115]⟩, .string ⟨#[111, 115, 112]⟩, .string ⟨#[111, 112, 115]⟩] 9)).heap.size := by simp
  clear hstr x3 y3 hsi hlo hb2 hok hso hpl HG HT HLD
  go_wp2_with fail
  generalize w2.alloc (.cells #[.string ⟨#[115, 112, 111]⟩, .string ⟨#[115, 111, 112]⟩, .string ⟨#[112, 115, 111]⟩, .string ⟨#[112, 111, 115]⟩, .string ⟨#[111, 115, 112]⟩, .string ⟨#[111, 112, 115]⟩] 9) = w3 at *
  generalize w2.heap.size = bs6 at *
  go_loopg [6] 6 (fun gg s6 wr => ∃ k : Nat, s6 = .int .i64 k ∧ k ≤ 6 ∧ 6 - k ≤ gg ∧ Hid (Below w3.heap.size w3 wr))
  case atStart => exact ⟨0, rfl, Nat.zero_le _, by omega, Lib.hid (Below.refl _ _)⟩
  case round =>
    obtain ⟨k, rfl, hk, hgg, HB⟩ := hrel
    by_cases hk6 : k < 6
    · have hk6i : (k : Int) < 6 := by omega
      have cs3 : wr.cell? ⟨bs6, k, none⟩ = some (.string (onm k)) := (HB.out.cell (p := ⟨bs6, k, none⟩) (World.block_lt_of_cell? _ _ (HSTR.out k hk6))).trans (HSTR.out k hk6)
      have HCUR := Lib.hid (cursorD HSI.out HB.out HOK.out HSO.out hk6)
      go_upto_region 11 with (go_at_call 20; (with_reducible refine HCUR.out.mono ?_); rintro e w4 ⟨g, rfl, hb4, hg, ST4⟩)
      clear HCUR cs3
      obtain ⟨n, hnk⟩ : ∃ n, n = (s.ls k).length := ⟨_, rfl⟩
      have hn60 : n ≤ 60 := by rw [hnk, list_len HLO.out k hk6]; have := HNR.out; have := HN60.out; omega
      have HNK := Lib.hid hnk
      obtain ⟨c0, hc0⟩ : ∃ c0, c0 = newCur sp (pp k) (s.ls k).length (cc k) k := ⟨_, rfl⟩
      have hd0 : c0.d = 0 := by rw [hc0]; rfl
      have hn0 : c0.n = n := by rw [hc0, hnk]; rfl
      rw [← hc0] at ST4
      clear hc0 hnk
      obtain ⟨w5, hw5⟩ : ∃ w5, w5 = w4.alloc (.cells #[.int .i64 0, .bool false, .int .i64 0, .string ⟨#[]⟩, .string ⟨#[]⟩, .slice none 0 0, .int .i64 0, .bool false, .int .i64 0, .string ⟨#[]⟩, .string ⟨#[]⟩, .slice none 0 0, .int .i64 0, .bool false, .int .i64 0, .string ⟨#[]⟩, .string ⟨#[]⟩, .slice none 0 0] 63) := ⟨_, rfl⟩
      obtain ⟨b10, hb10e⟩ : ∃ b10, b10 = w4.heap.size := ⟨_, rfl⟩
      obtain ⟨base, hbase⟩ : ∃ base, base = w5.heap.size := ⟨_, rfl⟩
      have x5 : Below w4.heap.size w4 w5 := by rw [hw5]; exact below1 _ _
      have hglt := ST4.at_.B.lt
      have hgb : g < b10 := by omega
      have hgw : w3.heap.size ≤ g := Nat.le_trans HB.out.size hg
      have hb10 : w3.heap.size ≤ b10 := by omega
      have hbb : base = b10 + 1 := by rw [hbase, hw5, hb10e]; simp
      have hbs : bs6 < b10 := by omega
      have HWI0 : Hid (WI l s k n w3 g b10 base (.slice none 0 0) 0 0 true c0 w5) := Lib.hid ⟨Nat.zero_le _, by rw [hd0]; show 0 + 8 * (n - 0) + 3 ≤ _; omega, .d0 _ hd0, ST4.bel x5, HB.out.trans ((hb4.is.trans (x5.mono hb4.is.size)).mono HB.out.size), ⟨⟨0, false, 0, ⟨#[]⟩, ⟨#[]⟩, none, 0, 0⟩, ⟨0, false, 0, ⟨#[]⟩, ⟨#[]⟩, none, 0, 0⟩, ⟨0, false, 0, ⟨#[]⟩, ⟨#[]⟩, none, 0, 0⟩, by rw [hw5, hb10e]; exact heap_new _ _ rfl, fun q => absurd q (by omega), fun q => absurd q (by omega), fun q => absurd q (by omega)⟩, [], rfl, World.ownsRow_nil _ _ _ _⟩
      have HW5 := Lib.hid hw5
      have HB10E := Lib.hid hb10e
      clear hw5 x5 ST4 hb4 hd0 hn0 hg hb10e hbase
      go_wp2_with fail
      rw [← HW5.out, ← HB10E.out]
      go_loopg [9, 11, 12] (8 * n + 3) (fun gg s9 s11 s12 wq => ∃ (V : Value) (L st : Nat) (dn : Bool) (c : CS), V = s9 ∧ s11 = .int .i64 st ∧ s12 = .bool dn ∧ 8 * n + 3 - st ≤ gg ∧ Hid (WI l s k n w3 g b10 base V L st dn c wq))
      case atStart => exact ⟨_, 0, 0, true, c0, rfl, rfl, rfl, by omega, HWI0⟩
      case round =>
        clear HWI0
        obtain ⟨V, L, st, dn, c, rfl, rfl, rfl, hg8, HI⟩ := hrel
        obtain ⟨hln, hcost, hstep, hS, hB, ⟨y0, y1, y2, hway, hv0, hv1, hv2⟩, dd, hdd, hown⟩ := HI.out
        have hst : (st : Int) < 100000 := by omega
        have HDD := Lib.hid hdd
        have HV0 := Lib.hid hv0
        have HV1 := Lib.hid hv1
        have HV2 := Lib.hid hv2
        have HCF := Lib.hid hS.fit
        have hcn : c.n = n := by rw [hS.fit.n]; exact HNK.out.symm
        clear hv0 hv1 hv2 HI hdd
        cases dn with
        | true =>
          rcases open_go hS.fit hcn hstep with ⟨hop, hon, hgot, hrk⟩ | ⟨hop, hopn, hd, hL⟩
          · obtain ⟨c', hc'⟩ : ∃ c', c' = c.opn s k := ⟨_, rfl⟩
            rw [← hc'] at hon hgot hrk
            have HCOST : Hid (st + 1 + 8 * (n - L) + rk true c'.d ≤ 8 * n + 3) := Lib.hid (by omega)
            obtain ⟨d0, hd0⟩ : ∃ d0, d0 = c.d := ⟨_, rfl⟩
            have hd2 := step_d2 hstep
            have hd3 : (d0 : Int) < 3 := by omega
            have HDE : Hid (Calls Tryz.prog 33 #[.pointer (some ⟨g, 0, none⟩)] wr fun e w' => e = .returned (.int .i64 d0) ∧ w' = wr) := Lib.hid (by rw [hd0]; exact depthC hS.at_.B)
            have HOP : Hid (Calls Tryz.prog 22 #[.pointer (some ⟨g, 0, none⟩)] wr fun e w' => e = .returned (.bool true) ∧ Only g wr w' ∧ Cur w' g c') := Lib.hid (by rw [hc', ← hop]; exact openC hS)
            have HON := Lib.hid hon
            have HS := Lib.hid hS
            have HBr := Lib.hid hB
            have HWr := Lib.hid hway
            have HOr := Lib.hid hown
            have HC' := Lib.hid hc'
            have HGOT := Lib.hid hgot
            clear hop hon hgot hrk hcost hstep hS hB hway hown hc' hcn hd0 hd2
            go_upto_region 20 with (first
              | (go_at_call 33; (with_reducible refine HDE.out.mono ?_); rintro e wr ⟨rfl, rfl⟩)
              | (go_at_call 22; (with_reducible refine HOP.out.mono ?_); rintro e w6 ⟨rfl, o6, B6⟩))
            have HS6 : Hid (Stand w3 s w6 g c' k) := Lib.hid (by have := HS.out.opn o6 (by rw [← HC'.out]; exact B6); rw [← HC'.out] at this; exact this)
            have HB6 : Hid (Below w3.heap.size w3 w6) := Lib.hid (below_only HBr.out o6 hgw HBr.out.size)
            have HWY : Hid (Way w6 b10 y0 y1 y2) := Lib.hid (HWr.out.only o6 (by omega))
            have HOWN := Lib.hid (owns_only HOr.out o6 (by omega))
            have hgot := HGOT.out
            clear HDE HOP HS HBr HWr HOr o6 B6 HGOT hd3
            rcases hgot with ⟨hD, ga, gl⟩ | ⟨hD, gb, ga, gl, gk0⟩ | ⟨hD, gb, ga, gl, gk0, gk1⟩
            · have HGA := Lib.hid ga
              have HGL := Lib.hid gl
              clear ga gl
              obtain ⟨kk, kb, kn, kt, kx, kc⟩ := kvOf HS6.out HPL.out
              have HKA := Lib.hid (keyAny HS6.out kc)
              rw [HON.out] at HKA
              have hkv : VY ⟨kk, kb, kn, kt, kx, none, 0, 0⟩ (s.part k (lev k).1 c'.a0) := ⟨rfl, rfl, rfl, by rw [← val_d1 HS6.out.fit hD]; have := kc.e; unfold CS.kval at this; rw [if_pos HON.out] at this; exact this, kc.f⟩
              have HKV := Lib.hid hkv
              clear hkv
              go_upto_region 21 with (first
                | (go_at_call 30; (with_reducible refine HKA.out.mono ?_); rintro e w7 ⟨rfl, hb7⟩)
                | ((with_reducible refine wpList_store6 (k' := kk) (b' := kb) (n' := kn) (t' := kt) (x' := kx) (p' := none) (len' := 0) (cap' := 0) (.tmp 13) (.tmp 87) w7.heap.size (six_new _ rfl) ?_ ?_ ?_ ?_ ?_); rfl; rfl; rfl; rfl; intro w8 hvw8 uw8))
              have z8 : Below w6.heap.size w6 w8 := hb7.trans ((below_only (below1 w7 _) hvw8 (Nat.le_refl _) (by simp) : Below w7.heap.size w7 w8).mono hb7.size)
              have HS8 := Lib.hid (HS6.out.bel z8)
              have HB8 : Hid (Below w3.heap.size w3 w8) := Lib.hid (HB6.out.trans (z8.mono HB6.out.size))
              have way8 : Way w8 b10 y0 y1 y2 := HWY.out.below z8
              have own8 := own_below HOWN.out z8
              have u8 := uw8
              have HDP : Hid (Calls Tryz.prog 33 #[.pointer (some ⟨g, 0, none⟩)] w8 fun e w' => e = .returned (.int .i64 1) ∧ w' = w8) := Lib.hid (by
                have := depthC HS8.out.at_.B
                rw [hD] at this
                exact this)
              have hs8 := z8.size
              have hsz7 := lt_of_heap HWY.out
              clear HKA hb7 hvw8 z8 uw8 HOWN HWY HS6
              go_upto_region 24 with (go_at_call 33; (with_reducible refine HDP.out.mono ?_); rintro e w8 ⟨rfl, rfl⟩)
              clear HDP
              refine wp_region_held_drew (S := fun W => True) (by kernel_rfl) trivial (fun hHeld => ?_)
              refine wpAnyH_take (i := 0) (v := .bool true) rfl (by kernel_rfl) (by kernel_rfl) (by kernel_rfl) (fun _ _ _ h => h) (Or.inl ⟨by rfl, fun W _ => by go_simp⟩) hHeld ?_
              try simp only [Act.put, List.getElem_toArray, List.getElem_cons_zero, List.setIfInBounds_toArray, List.set_cons_zero, List.set_cons_succ]
              refine wpAnyH_take (i := 1) (v := .bool false) rfl (by kernel_rfl) (by kernel_rfl) (by kernel_rfl) (fun _ _ _ h => h) (Or.inl ⟨by rfl, fun W _ => by go_simp⟩) hHeld ?_
              try simp only [Act.put, List.getElem_toArray, List.getElem_cons_succ, List.getElem_cons_zero, List.setIfInBounds_toArray, List.set_cons_zero, List.set_cons_succ]
              refine wpAnyH_take (i := 2) (v := .bool false) rfl (by kernel_rfl) (by kernel_rfl) (by kernel_rfl) (fun _ _ _ h => h) (Or.inl ⟨by rfl, fun W _ => by go_simp⟩) hHeld ?_
              try simp only [Act.put, List.getElem_toArray, List.getElem_cons_succ, List.getElem_cons_zero, List.setIfInBounds_toArray, List.set_cons_zero, List.set_cons_succ]
              refine wpAnyH_take (i := 3) (v := undef) rfl (by kernel_rfl) (by kernel_rfl) (by kernel_rfl) (fun _ _ _ h => h) (Or.inr ⟨by rfl, rfl⟩) hHeld ?_
              try simp only [Act.put, List.getElem_toArray, List.getElem_cons_succ, List.getElem_cons_zero, List.setIfInBounds_toArray, List.set_cons_zero, List.set_cons_succ]
              refine wpAnyH_take (i := 4) (v := undef) rfl (by kernel_rfl) (by kernel_rfl) (by kernel_rfl) (fun _ _ _ h => h) (Or.inr ⟨by rfl, rfl⟩) hHeld ?_
              try simp only [Act.put, List.getElem_toArray, List.getElem_cons_succ, List.getElem_cons_zero, List.setIfInBounds_toArray, List.set_cons_zero, List.set_cons_succ]
              refine wpAnyH_take (i := 5) (v := undef) rfl (by kernel_rfl) (by kernel_rfl) (by kernel_rfl) (fun _ _ _ h => h) (Or.inr ⟨by rfl, rfl⟩) hHeld ?_
              try simp only [Act.put, List.getElem_toArray, List.getElem_cons_succ, List.getElem_cons_zero, List.setIfInBounds_toArray, List.set_cons_zero, List.set_cons_succ]
              refine wpAnyH_take (i := 6) (v := undef) rfl (by kernel_rfl) (by kernel_rfl) (by kernel_rfl) (fun _ _ _ h => h) (Or.inr ⟨by rfl, rfl⟩) hHeld ?_
              try simp only [Act.put, List.getElem_toArray, List.getElem_cons_succ, List.getElem_cons_zero, List.setIfInBounds_toArray, List.set_cons_zero, List.set_cons_succ]
              refine wpAnyH_take (i := 7) (v := undef) rfl (by kernel_rfl) (by kernel_rfl) (by kernel_rfl) (fun _ _ _ h => h) (Or.inr ⟨by rfl, rfl⟩) hHeld ?_
              try simp only [Act.put, List.getElem_toArray, List.getElem_cons_succ, List.getElem_cons_zero, List.setIfInBounds_toArray, List.set_cons_zero, List.set_cons_succ]
              refine wpAnyH_ready (rs := [8]) (by kernel_rfl) (by simp) ?_
              refine AllReadyH.cons rfl (fun K hK => ?_) AllReadyH.nil
              rw [if_neg (by exact Bool.eq_false_iff.1 rfl)]
              refine hK.out _ _ trivial (fun _ => ?_)
              clear hK K
              try simp only [Act.put, List.getElem_toArray, List.getElem_cons_succ, List.getElem_cons_zero, List.setIfInBounds_toArray, List.set_cons_zero, List.set_cons_succ]
              refine wpAnyH_take (i := 9) (v := undef) rfl (by kernel_rfl) (by kernel_rfl) (by kernel_rfl) (fun _ _ _ h => h) (Or.inr ⟨by rfl, rfl⟩) hHeld ?_
              try simp only [Act.put, List.getElem_toArray, List.getElem_cons_succ, List.getElem_cons_zero, List.setIfInBounds_toArray, List.set_cons_zero, List.set_cons_succ]
              refine wpAnyH_take (i := 10) (v := .bool false) rfl (by kernel_rfl) (by kernel_rfl) (by kernel_rfl) (fun _ _ _ h => h) (Or.inl ⟨by rfl, fun W _ => by go_simp⟩) hHeld ?_
              try simp only [Act.put, List.getElem_toArray, List.getElem_cons_succ, List.getElem_cons_zero, List.setIfInBounds_toArray, List.set_cons_zero, List.set_cons_succ]
              refine wpAnyH_done (by kernel_rfl) ?_ _
              have z10 : Below w8.heap.size w8 w8.drew := (Below.refl _ _).drew
              generalize w8.drew = w10 at *
              clear hHeld
              have way10 : Way w10 b10 y0 y1 y2 := way8.below z10
              have hway : w10.heap[b10]? = some (.cells #[.int .i64 y0.k, .bool y0.b, .int .i64 y0.n, .string y0.t, .string y0.x, .slice y0.p y0.len y0.cap, .int .i64 y1.k, .bool y1.b, .int .i64 y1.n, .string y1.t, .string y1.x, .slice y1.p y1.len y1.cap, .int .i64 y2.k, .bool y2.b, .int .i64 y2.n, .string y2.t, .string y2.x, .slice y2.p y2.len y2.cap] 63) := way10
              have own10 := own_below own8 z10
              have hs10 := z10.size
              have u10 := u8.below z10
              have HS10 := Lib.hid (HS8.out.bel z10)
              have HB10 : Hid (Below w3.heap.size w3 w10) := Lib.hid (HB8.out.trans (z10.mono HB8.out.size))
              clear way8 own8 u8 HS8 HB8 z10
              go_wp2_with (first
                | ((with_reducible refine wpList_load6g (.tmp 13) w7.heap.size u10 ?_ ?_ ?_ ?_); rfl; rfl; rfl)
                | ((with_reducible refine wpList_storePart (.tmp 115) (.tmp 114) b10 0 ⟨kk, kb, kn, kt, kx, none, 0, 0⟩ hway rfl (by decide) ?_ ?_ ?_ ?_ ?_); rfl; rfl; rfl; rfl; intro w11 o11 hw11))
              have way11 : Way w11 b10 (⟨kk, kb, kn, kt, kx, none, 0, 0⟩ : V6) y1 y2 := hw11
              have hs11 := o11.size
              have own11 := owns_only own10 o11 (by omega)
              have HS11 := Lib.hid (HS10.out.other o11 hb10 (by omega))
              have HB11 : Hid (Below w3.heap.size w3 w11) := Lib.hid (below_only HB10.out o11 hb10 HB10.out.size)
              clear hw11 own10 u10 HS10 HB10 o11 way10 hway
              have HWI : Hid (WI l s k n w3 g b10 base V L (st + 1) true c' w11) := Lib.hid ⟨hln, by have := HCOST.out; omega, .d1 _ _ hD HGA.out HGL.out, HS11.out, HB11.out, ⟨_, _, _, way11, fun _ => HKV.out, fun q => absurd q (by omega), fun q => absurd q (by omega)⟩, dd, HDD.out, own11⟩
              clear HS11 HB11 own11 way11 HKV
              go_roundg (8 * n + 3 - (st + 1))
              case measure => have := HCOST.out; omega
              case rel => exact ⟨V, L, st + 1, true, c', rfl, by go_num, by first | rfl | (simp; done) | (go_num; done), Nat.le_refl _, HWI⟩
            · have HGA := Lib.hid ga
              have HGL := Lib.hid gl
              have HGB := Lib.hid gb
              have HGK := Lib.hid gk0
              clear ga gl gb gk0
              obtain ⟨kk, kb, kn, kt, kx, kc⟩ := kvOf HS6.out HPL.out
              have HKA := Lib.hid (keyAny HS6.out kc)
              rw [HON.out] at HKA
              have hkv : VY ⟨kk, kb, kn, kt, kx, none, 0, 0⟩ (s.part k (lev k).2.1 c'.a1) := ⟨rfl, rfl, rfl, by rw [← val_d2 HS6.out.fit hD]; have := kc.e; unfold CS.kval at this; rw [if_pos HON.out] at this; exact this, kc.f⟩
              have HKV := Lib.hid hkv
              clear hkv
              go_upto_region 21 with (first
                | (go_at_call 30; (with_reducible refine HKA.out.mono ?_); rintro e w7 ⟨rfl, hb7⟩)
                | ((with_reducible refine wpList_store6 (k' := kk) (b' := kb) (n' := kn) (t' := kt) (x' := kx) (p' := none) (len' := 0) (cap' := 0) (.tmp 13) (.tmp 87) w7.heap.size (six_new _ rfl) ?_ ?_ ?_ ?_ ?_); rfl; rfl; rfl; rfl; intro w8 hvw8 uw8))
              have z8 : Below w6.heap.size w6 w8 := hb7.trans ((below_only (below1 w7 _) hvw8 (Nat.le_refl _) (by simp) : Below w7.heap.size w7 w8).mono hb7.size)
              have HS8 := Lib.hid (HS6.out.bel z8)
              have HB8 : Hid (Below w3.heap.size w3 w8) := Lib.hid (HB6.out.trans (z8.mono HB6.out.size))
              have way8 : Way w8 b10 y0 y1 y2 := HWY.out.below z8
              have own8 := own_below HOWN.out z8
              have u8 := uw8
              have HDP : Hid (Calls Tryz.prog 33 #[.pointer (some ⟨g, 0, none⟩)] w8 fun e w' => e = .returned (.int .i64 2) ∧ w' = w8) := Lib.hid (by
                have := depthC HS8.out.at_.B
                rw [hD] at this
                exact this)
              have hs8 := z8.size
              have hsz7 := lt_of_heap HWY.out
              clear HKA hb7 hvw8 z8 uw8 HOWN HWY HS6
              go_upto_region 24 with (go_at_call 33; (with_reducible refine HDP.out.mono ?_); rintro e w8 ⟨rfl, rfl⟩)
              clear HDP
              refine wp_region_held_drew (S := fun W => True) (by kernel_rfl) trivial (fun hHeld => ?_)
              refine wpAnyH_take (i := 0) (v := .bool true) rfl (by kernel_rfl) (by kernel_rfl) (by kernel_rfl) (fun _ _ _ h => h) (Or.inl ⟨by rfl, fun W _ => by go_simp⟩) hHeld ?_
              try simp only [Act.put, List.getElem_toArray, List.getElem_cons_zero, List.setIfInBounds_toArray, List.set_cons_zero, List.set_cons_succ]
              refine wpAnyH_take (i := 1) (v := .bool false) rfl (by kernel_rfl) (by kernel_rfl) (by kernel_rfl) (fun _ _ _ h => h) (Or.inl ⟨by rfl, fun W _ => by go_simp⟩) hHeld ?_
              try simp only [Act.put, List.getElem_toArray, List.getElem_cons_succ, List.getElem_cons_zero, List.setIfInBounds_toArray, List.set_cons_zero, List.set_cons_succ]
              refine wpAnyH_take (i := 2) (v := .bool false) rfl (by kernel_rfl) (by kernel_rfl) (by kernel_rfl) (fun _ _ _ h => h) (Or.inl ⟨by rfl, fun W _ => by go_simp⟩) hHeld ?_
              try simp only [Act.put, List.getElem_toArray, List.getElem_cons_succ, List.getElem_cons_zero, List.setIfInBounds_toArray, List.set_cons_zero, List.set_cons_succ]
              refine wpAnyH_take (i := 3) (v := undef) rfl (by kernel_rfl) (by kernel_rfl) (by kernel_rfl) (fun _ _ _ h => h) (Or.inr ⟨by rfl, rfl⟩) hHeld ?_
              try simp only [Act.put, List.getElem_toArray, List.getElem_cons_succ, List.getElem_cons_zero, List.setIfInBounds_toArray, List.set_cons_zero, List.set_cons_succ]
              refine wpAnyH_take (i := 4) (v := undef) rfl (by kernel_rfl) (by kernel_rfl) (by kernel_rfl) (fun _ _ _ h => h) (Or.inr ⟨by rfl, rfl⟩) hHeld ?_
              try simp only [Act.put, List.getElem_toArray, List.getElem_cons_succ, List.getElem_cons_zero, List.setIfInBounds_toArray, List.set_cons_zero, List.set_cons_succ]
              refine wpAnyH_take (i := 5) (v := undef) rfl (by kernel_rfl) (by kernel_rfl) (by kernel_rfl) (fun _ _ _ h => h) (Or.inr ⟨by rfl, rfl⟩) hHeld ?_
              try simp only [Act.put, List.getElem_toArray, List.getElem_cons_succ, List.getElem_cons_zero, List.setIfInBounds_toArray, List.set_cons_zero, List.set_cons_succ]
              refine wpAnyH_take (i := 6) (v := undef) rfl (by kernel_rfl) (by kernel_rfl) (by kernel_rfl) (fun _ _ _ h => h) (Or.inr ⟨by rfl, rfl⟩) hHeld ?_
              try simp only [Act.put, List.getElem_toArray, List.getElem_cons_succ, List.getElem_cons_zero, List.setIfInBounds_toArray, List.set_cons_zero, List.set_cons_succ]
              refine wpAnyH_take (i := 7) (v := undef) rfl (by kernel_rfl) (by kernel_rfl) (by kernel_rfl) (fun _ _ _ h => h) (Or.inr ⟨by rfl, rfl⟩) hHeld ?_
              try simp only [Act.put, List.getElem_toArray, List.getElem_cons_succ, List.getElem_cons_zero, List.setIfInBounds_toArray, List.set_cons_zero, List.set_cons_succ]
              refine wpAnyH_ready (rs := [8]) (by kernel_rfl) (by simp) ?_
              refine AllReadyH.cons rfl (fun K hK => ?_) AllReadyH.nil
              rw [if_neg (by exact Bool.eq_false_iff.1 rfl)]
              refine hK.out _ _ trivial (fun _ => ?_)
              clear hK K
              try simp only [Act.put, List.getElem_toArray, List.getElem_cons_succ, List.getElem_cons_zero, List.setIfInBounds_toArray, List.set_cons_zero, List.set_cons_succ]
              refine wpAnyH_take (i := 9) (v := undef) rfl (by kernel_rfl) (by kernel_rfl) (by kernel_rfl) (fun _ _ _ h => h) (Or.inr ⟨by rfl, rfl⟩) hHeld ?_
              try simp only [Act.put, List.getElem_toArray, List.getElem_cons_succ, List.getElem_cons_zero, List.setIfInBounds_toArray, List.set_cons_zero, List.set_cons_succ]
              refine wpAnyH_take (i := 10) (v := .bool false) rfl (by kernel_rfl) (by kernel_rfl) (by kernel_rfl) (fun _ _ _ h => h) (Or.inl ⟨by rfl, fun W _ => by go_simp⟩) hHeld ?_
              try simp only [Act.put, List.getElem_toArray, List.getElem_cons_succ, List.getElem_cons_zero, List.setIfInBounds_toArray, List.set_cons_zero, List.set_cons_succ]
              refine wpAnyH_done (by kernel_rfl) ?_ _
              have z10 : Below w8.heap.size w8 w8.drew := (Below.refl _ _).drew
              generalize w8.drew = w10 at *
              clear hHeld
              have way10 : Way w10 b10 y0 y1 y2 := way8.below z10
              have hway : w10.heap[b10]? = some (.cells #[.int .i64 y0.k, .bool y0.b, .int .i64 y0.n, .string y0.t, .string y0.x, .slice y0.p y0.len y0.cap, .int .i64 y1.k, .bool y1.b, .int .i64 y1.n, .string y1.t, .string y1.x, .slice y1.p y1.len y1.cap, .int .i64 y2.k, .bool y2.b, .int .i64 y2.n, .string y2.t, .string y2.x, .slice y2.p y2.len y2.cap] 63) := way10
              have own10 := own_below own8 z10
              have hs10 := z10.size
              have u10 := u8.below z10
              have HS10 := Lib.hid (HS8.out.bel z10)
              have HB10 : Hid (Below w3.heap.size w3 w10) := Lib.hid (HB8.out.trans (z10.mono HB8.out.size))
              clear way8 own8 u8 HS8 HB8 z10
              go_wp2_with (first
                | ((with_reducible refine wpList_load6g (.tmp 13) w7.heap.size u10 ?_ ?_ ?_ ?_); rfl; rfl; rfl)
                | ((with_reducible refine wpList_storePart (.tmp 115) (.tmp 114) b10 6 ⟨kk, kb, kn, kt, kx, none, 0, 0⟩ hway rfl (by decide) ?_ ?_ ?_ ?_ ?_); rfl; rfl; rfl; rfl; intro w11 o11 hw11))
              have way11 : Way w11 b10 y0 (⟨kk, kb, kn, kt, kx, none, 0, 0⟩ : V6) y2 := hw11
              have hs11 := o11.size
              have own11 := owns_only own10 o11 (by omega)
              have HS11 := Lib.hid (HS10.out.other o11 hb10 (by omega))
              have HB11 : Hid (Below w3.heap.size w3 w11) := Lib.hid (below_only HB10.out o11 hb10 HB10.out.size)
              clear hw11 own10 u10 HS10 HB10 o11 way10 hway
              have HWI : Hid (WI l s k n w3 g b10 base V L (st + 1) true c' w11) := Lib.hid ⟨hln, by have := HCOST.out; omega, .d2 _ _ hD HGA.out HGL.out, HS11.out, HB11.out, ⟨_, _, _, way11, fun _ => by rw [HGK.out]; exact HV0.out HGB.out, fun _ => HKV.out, fun q => absurd q (by omega)⟩, dd, HDD.out, own11⟩
              clear HS11 HB11 own11 way11 HKV
              go_roundg (8 * n + 3 - (st + 1))
              case measure => have := HCOST.out; omega
              case rel => exact ⟨V, L, st + 1, true, c', rfl, by go_num, by first | rfl | (simp; done) | (go_num; done), Nat.le_refl _, HWI⟩
            · have HGA := Lib.hid ga
              have HGL := Lib.hid gl
              have HGB := Lib.hid gb
              have HGK := Lib.hid gk0
              have HGK1 := Lib.hid gk1
              have HEN : Hid (c'.e2 ≤ n) := Lib.hid (by have q1 := HS6.out.fit.e2 (by omega); have q2 := HS6.out.fit.e1 (by omega); have q3 := HS6.out.fit.n; have := HNK.out; omega)
              clear ga gl gb gk0 gk1
              obtain ⟨kk, kb, kn, kt, kx, kc⟩ := kvOf HS6.out HPL.out
              have HKA := Lib.hid (keyAny HS6.out kc)
              rw [HON.out] at HKA
              have hkv : VY ⟨kk, kb, kn, kt, kx, none, 0, 0⟩ (s.part k (lev k).2.2 c'.a2) := ⟨rfl, rfl, rfl, by rw [← val_d3 HS6.out.fit hD]; have := kc.e; unfold CS.kval at this; rw [if_pos HON.out] at this; exact this, kc.f⟩
              have HKV := Lib.hid hkv
              clear hkv
              go_upto_region 21 with (first
                | (go_at_call 30; (with_reducible refine HKA.out.mono ?_); rintro e w7 ⟨rfl, hb7⟩)
                | ((with_reducible refine wpList_store6 (k' := kk) (b' := kb) (n' := kn) (t' := kt) (x' := kx) (p' := none) (len' := 0) (cap' := 0) (.tmp 13) (.tmp 87) w7.heap.size (six_new _ rfl) ?_ ?_ ?_ ?_ ?_); rfl; rfl; rfl; rfl; intro w8 hvw8 uw8))
              have z8 : Below w6.heap.size w6 w8 := hb7.trans ((below_only (below1 w7 _) hvw8 (Nat.le_refl _) (by simp) : Below w7.heap.size w7 w8).mono hb7.size)
              have HS8 := Lib.hid (HS6.out.bel z8)
              have HB8 : Hid (Below w3.heap.size w3 w8) := Lib.hid (HB6.out.trans (z8.mono HB6.out.size))
              have way8 : Way w8 b10 y0 y1 y2 := HWY.out.below z8
              have own8 := own_below HOWN.out z8
              have u8 := uw8
              have HDP : Hid (Calls Tryz.prog 33 #[.pointer (some ⟨g, 0, none⟩)] w8 fun e w' => e = .returned (.int .i64 3) ∧ w' = w8) := Lib.hid (by
                have := depthC HS8.out.at_.B
                rw [hD] at this
                exact this)
              have hs8 := z8.size
              have hsz7 := lt_of_heap HWY.out
              clear HKA hb7 hvw8 z8 uw8 HOWN HWY HS6
              go_upto_region 24 with (go_at_call 33; (with_reducible refine HDP.out.mono ?_); rintro e w8 ⟨rfl, rfl⟩)
              clear HDP
              refine wp_region_held_drew (S := fun W => True) (by kernel_rfl) trivial (fun hHeld => ?_)
              refine wpAnyH_take (i := 0) (v := .bool true) rfl (by kernel_rfl) (by kernel_rfl) (by kernel_rfl) (fun _ _ _ h => h) (Or.inl ⟨by rfl, fun W _ => by go_simp⟩) hHeld ?_
              try simp only [Act.put, List.getElem_toArray, List.getElem_cons_zero, List.setIfInBounds_toArray, List.set_cons_zero, List.set_cons_succ]
              refine wpAnyH_take (i := 1) (v := .bool false) rfl (by kernel_rfl) (by kernel_rfl) (by kernel_rfl) (fun _ _ _ h => h) (Or.inl ⟨by rfl, fun W _ => by go_simp⟩) hHeld ?_
              try simp only [Act.put, List.getElem_toArray, List.getElem_cons_succ, List.getElem_cons_zero, List.setIfInBounds_toArray, List.set_cons_zero, List.set_cons_succ]
              refine wpAnyH_take (i := 2) (v := .bool false) rfl (by kernel_rfl) (by kernel_rfl) (by kernel_rfl) (fun _ _ _ h => h) (Or.inl ⟨by rfl, fun W _ => by go_simp⟩) hHeld ?_
              try simp only [Act.put, List.getElem_toArray, List.getElem_cons_succ, List.getElem_cons_zero, List.setIfInBounds_toArray, List.set_cons_zero, List.set_cons_succ]
              refine wpAnyH_take (i := 3) (v := undef) rfl (by kernel_rfl) (by kernel_rfl) (by kernel_rfl) (fun _ _ _ h => h) (Or.inr ⟨by rfl, rfl⟩) hHeld ?_
              try simp only [Act.put, List.getElem_toArray, List.getElem_cons_succ, List.getElem_cons_zero, List.setIfInBounds_toArray, List.set_cons_zero, List.set_cons_succ]
              refine wpAnyH_take (i := 4) (v := undef) rfl (by kernel_rfl) (by kernel_rfl) (by kernel_rfl) (fun _ _ _ h => h) (Or.inr ⟨by rfl, rfl⟩) hHeld ?_
              try simp only [Act.put, List.getElem_toArray, List.getElem_cons_succ, List.getElem_cons_zero, List.setIfInBounds_toArray, List.set_cons_zero, List.set_cons_succ]
              refine wpAnyH_take (i := 5) (v := undef) rfl (by kernel_rfl) (by kernel_rfl) (by kernel_rfl) (fun _ _ _ h => h) (Or.inr ⟨by rfl, rfl⟩) hHeld ?_
              try simp only [Act.put, List.getElem_toArray, List.getElem_cons_succ, List.getElem_cons_zero, List.setIfInBounds_toArray, List.set_cons_zero, List.set_cons_succ]
              refine wpAnyH_take (i := 6) (v := undef) rfl (by kernel_rfl) (by kernel_rfl) (by kernel_rfl) (fun _ _ _ h => h) (Or.inr ⟨by rfl, rfl⟩) hHeld ?_
              try simp only [Act.put, List.getElem_toArray, List.getElem_cons_succ, List.getElem_cons_zero, List.setIfInBounds_toArray, List.set_cons_zero, List.set_cons_succ]
              refine wpAnyH_take (i := 7) (v := undef) rfl (by kernel_rfl) (by kernel_rfl) (by kernel_rfl) (fun _ _ _ h => h) (Or.inr ⟨by rfl, rfl⟩) hHeld ?_
              try simp only [Act.put, List.getElem_toArray, List.getElem_cons_succ, List.getElem_cons_zero, List.setIfInBounds_toArray, List.set_cons_zero, List.set_cons_succ]
              refine wpAnyH_ready (rs := [8]) (by kernel_rfl) (by simp) ?_
              refine AllReadyH.cons rfl (fun K hK => ?_) AllReadyH.nil
              rw [if_neg (by exact Bool.eq_false_iff.1 rfl)]
              refine hK.out _ _ trivial (fun _ => ?_)
              clear hK K
              try simp only [Act.put, List.getElem_toArray, List.getElem_cons_succ, List.getElem_cons_zero, List.setIfInBounds_toArray, List.set_cons_zero, List.set_cons_succ]
              refine wpAnyH_take (i := 9) (v := undef) rfl (by kernel_rfl) (by kernel_rfl) (by kernel_rfl) (fun _ _ _ h => h) (Or.inr ⟨by rfl, rfl⟩) hHeld ?_
              try simp only [Act.put, List.getElem_toArray, List.getElem_cons_succ, List.getElem_cons_zero, List.setIfInBounds_toArray, List.set_cons_zero, List.set_cons_succ]
              refine wpAnyH_take (i := 10) (v := .bool false) rfl (by kernel_rfl) (by kernel_rfl) (by kernel_rfl) (fun _ _ _ h => h) (Or.inl ⟨by rfl, fun W _ => by go_simp⟩) hHeld ?_
              try simp only [Act.put, List.getElem_toArray, List.getElem_cons_succ, List.getElem_cons_zero, List.setIfInBounds_toArray, List.set_cons_zero, List.set_cons_succ]
              refine wpAnyH_done (by kernel_rfl) ?_ _
              have z10 : Below w8.heap.size w8 w8.drew := (Below.refl _ _).drew
              generalize w8.drew = w10 at *
              clear hHeld
              have way10 : Way w10 b10 y0 y1 y2 := way8.below z10
              have hway : w10.heap[b10]? = some (.cells #[.int .i64 y0.k, .bool y0.b, .int .i64 y0.n, .string y0.t, .string y0.x, .slice y0.p y0.len y0.cap, .int .i64 y1.k, .bool y1.b, .int .i64 y1.n, .string y1.t, .string y1.x, .slice y1.p y1.len y1.cap, .int .i64 y2.k, .bool y2.b, .int .i64 y2.n, .string y2.t, .string y2.x, .slice y2.p y2.len y2.cap] 63) := way10
              have own10 := own_below own8 z10
              have hs10 := z10.size
              have u10 := u8.below z10
              have HS10 := Lib.hid (HS8.out.bel z10)
              have HB10 : Hid (Below w3.heap.size w3 w10) := Lib.hid (HB8.out.trans (z10.mono HB8.out.size))
              clear way8 own8 u8 HS8 HB8 z10
              go_upto_region 28 with (first
                | ((with_reducible refine wpList_load6g (.tmp 13) w7.heap.size u10 ?_ ?_ ?_ ?_); rfl; rfl; rfl)
                | ((with_reducible refine wpList_storePart (.tmp 115) (.tmp 114) b10 12 ⟨kk, kb, kn, kt, kx, none, 0, 0⟩ hway rfl (by decide) ?_ ?_ ?_ ?_ ?_); rfl; rfl; rfl; rfl; intro w11 o11 hw11))
              obtain ⟨yn, hyn⟩ : ∃ yn : V6, yn = ⟨kk, kb, kn, kt, kx, none, 0, 0⟩ := ⟨_, rfl⟩
              have way11 : Way w11 b10 y0 y1 yn := by rw [hyn]; exact hw11
              have hs11 := o11.size
              have own11 := owns_only own10 o11 (by omega)
              have HS11 := Lib.hid (HS10.out.other o11 hb10 (by omega))
              have HB11 : Hid (Below w3.heap.size w3 w11) := Lib.hid (below_only HB10.out o11 hb10 HB10.out.size)
              clear hw11 own10 u10 HS10 HB10 o11 way10 hway
              rw [← hyn] at HKV
              clear hyn
              obtain ⟨T, hT0, hT1, hT2, hT⟩ := triLawAny k hk6 y0 y1 yn
              have HTR := Lib.hid hT
              have HTT := Lib.hid (And.intro hT0 (And.intro hT1 hT2))
              have cs11 : w11.cell? ⟨bs6, k, none⟩ = some (.string (onm k)) := (HB11.out.cell (p := ⟨bs6, k, none⟩) (World.block_lt_of_cell? _ _ (HSTR.out k hk6))).trans (HSTR.out k hk6)
              have L0 : Below w11.heap.size w11 w11.drew := (Below.refl _ _).drew
              have hL60 : L < n := by have := HGL.out; have := HEN.out; omega
              clear hT hT0 hT1 hT2
              refine wp_region_held_drew (S := fun W => Way W b10 y0 y1 yn ∧ W.cell? ⟨bs6, k, none⟩ = some (.string (onm k))) (by kernel_rfl) ⟨way11, cs11⟩ (fun hHeld => ?_)
              refine wpAnyH_take (i := 0) (v := V) rfl (by kernel_rfl) (by kernel_rfl) (by kernel_rfl) (fun _ _ _ h => h) (Or.inl ⟨by rfl, fun W _ => by go_simp⟩) hHeld ?_
              try simp only [Act.put, List.getElem_toArray, List.getElem_cons_zero, List.setIfInBounds_toArray, List.set_cons_zero, List.set_cons_succ]
              refine wpAnyH_take (i := 1) (v := .slice (some ⟨bs6, 0, none⟩) 6 6) rfl (by kernel_rfl) (by kernel_rfl) (by kernel_rfl) (fun _ _ _ h => h) (Or.inl ⟨by rfl, fun W _ => by go_simp⟩) hHeld ?_
              try simp only [Act.put, List.getElem_toArray, List.getElem_cons_succ, List.getElem_cons_zero, List.setIfInBounds_toArray, List.set_cons_zero, List.set_cons_succ]
              refine wpAnyH_take (i := 2) (v := .int .i64 k) rfl (by kernel_rfl) (by kernel_rfl) (by kernel_rfl) (fun _ _ _ h => h) (Or.inl ⟨by rfl, fun W _ => by go_simp⟩) hHeld ?_
              try simp only [Act.put, List.getElem_toArray, List.getElem_cons_succ, List.getElem_cons_zero, List.setIfInBounds_toArray, List.set_cons_zero, List.set_cons_succ]
              refine wpAnyH_take (i := 3) (v := .pointer (some ⟨bs6, k, none⟩)) rfl (by kernel_rfl) (by kernel_rfl) (by kernel_rfl) (fun _ _ _ h => h) (Or.inl ⟨by rfl, fun W _ => by go_simp⟩) hHeld ?_
              try simp only [Act.put, List.getElem_toArray, List.getElem_cons_succ, List.getElem_cons_zero, List.setIfInBounds_toArray, List.set_cons_zero, List.set_cons_succ]
              refine wpAnyH_take (i := 4) (v := .string (onm k)) rfl (by kernel_rfl) (by kernel_rfl) (by kernel_rfl) (fun _ _ _ h => h) (Or.inl ⟨by rfl, fun W h => by have c0 := h.2; go_simp⟩) hHeld ?_
              try simp only [Act.put, List.getElem_toArray, List.getElem_cons_succ, List.getElem_cons_zero, List.setIfInBounds_toArray, List.set_cons_zero, List.set_cons_succ]
              refine wpAnyH_take (i := 5) rfl (by kernel_rfl) (by kernel_rfl) (by kernel_rfl) (fun _ _ _ h => h) (yieldsIf_load_mid (by rfl) 63 (.tmp 10) rfl b10 0 rfl [.int .i64 y0.k, .bool y0.b, .int .i64 y0.n, .string y0.t, .string y0.x, .slice y0.p y0.len y0.cap, .int .i64 y1.k, .bool y1.b, .int .i64 y1.n, .string y1.t, .string y1.x, .slice y1.p y1.len y1.cap, .int .i64 yn.k, .bool yn.b, .int .i64 yn.n, .string yn.t, .string yn.x, .slice yn.p yn.len yn.cap] _ (fun W h => h.1.r18) Tryz.underlying63 rfl info63) hHeld ?_
              try simp only [Act.put, List.getElem_toArray, List.getElem_cons_succ, List.getElem_cons_zero, List.setIfInBounds_toArray, List.set_cons_zero, List.set_cons_succ]
              refine wpAnyH_ready (rs := [6]) (by kernel_rfl) (by simp) ?_
              refine AllReadyH.cons rfl (fun K hK => ?_) AllReadyH.nil
              rw [if_pos (by rfl)]
              go_simp
              refine (HTR.out _).mono ?_
              rintro e0 w12 ⟨rfl, hb3⟩
              have z12 : Below w11.heap.size w11 w12 := L0.trans (hb3.mono L0.size)
              have hH2 : _ ∧ _ := ⟨Way.below hHeld.1 hb3, (hb3.cell (p := ⟨bs6, k, none⟩) (World.block_lt_of_cell? _ _ hHeld.2)).trans hHeld.2⟩
              clear hb3 L0 hHeld
              refine hK.out _ _ hH2 (fun hH2 => ?_)
              clear hK K
              try simp only [Act.put, List.getElem_toArray, List.getElem_cons_succ, List.getElem_cons_zero, List.setIfInBounds_toArray, List.set_cons_zero, List.set_cons_succ]
              refine wpAnyH_ready (rs := [7]) (by kernel_rfl) (by simp) ?_
              refine AllReadyH.cons rfl (fun K hK => ?_) AllReadyH.nil
              (try rw [if_pos (by rfl)])
              go_simp
              have own12 := (own_below own11 z12).alloc (.cells #[.int .i64 (T 0).k, .bool (T 0).b, .int .i64 (T 0).n, .string (T 0).t, .string (T 0).x, .slice (T 0).p (T 0).len (T 0).cap, .int .i64 (T 1).k, .bool (T 1).b, .int .i64 (T 1).n, .string (T 1).t, .string (T 1).x, .slice (T 1).p (T 1).len (T 1).cap, .int .i64 (T 2).k, .bool (T 2).b, .int .i64 (T 2).n, .string (T 2).t, .string (T 2).x, .slice (T 2).p (T 2).len (T 2).cap] 41)
              have hge := z12.size
              have hH3 : _ ∧ _ := ⟨Way.below hH2.1 (below1 w12 (.cells #[.int .i64 (T 0).k, .bool (T 0).b, .int .i64 (T 0).n, .string (T 0).t, .string (T 0).x, .slice (T 0).p (T 0).len (T 0).cap, .int .i64 (T 1).k, .bool (T 1).b, .int .i64 (T 1).n, .string (T 1).t, .string (T 1).x, .slice (T 1).p (T 1).len (T 1).cap, .int .i64 (T 2).k, .bool (T 2).b, .int .i64 (T 2).n, .string (T 2).t, .string (T 2).x, .slice (T 2).p (T 2).len (T 2).cap] 41)), ((below1 w12 (.cells #[.int .i64 (T 0).k, .bool (T 0).b, .int .i64 (T 0).n, .string (T 0).t, .string (T 0).x, .slice (T 0).p (T 0).len (T 0).cap, .int .i64 (T 1).k, .bool (T 1).b, .int .i64 (T 1).n, .string (T 1).t, .string (T 1).x, .slice (T 1).p (T 1).len (T 1).cap, .int .i64 (T 2).k, .bool (T 2).b, .int .i64 (T 2).n, .string (T 2).t, .string (T 2).x, .slice (T 2).p (T 2).len (T 2).cap] 41)).cell (p := ⟨bs6, k, none⟩) (World.block_lt_of_cell? _ _ hH2.2)).trans hH2.2⟩
              refine hK.out _ _ hH3 (fun _ => ?_)
              clear hK K
              try simp only [Act.put, List.getElem_toArray, List.getElem_cons_succ, List.getElem_cons_zero, List.setIfInBounds_toArray, List.set_cons_zero, List.set_cons_succ]
              refine wpAnyH_ready (rs := [8]) (by kernel_rfl) (by simp) ?_
              refine AllReadyH.cons rfl (fun K hK => ?_) AllReadyH.nil
              refine step_append_lies _ (by rfl) _ _ _ (by rfl) base 41 i0 _ 18 240 Tryz.underlying22 hi41 hz0 hz1 hz2 rfl (by omega) V L (dd.flatMap VE.enc) (by rfl) own12 ⟨w12.heap.size, 0, none⟩ 1 1 [.int .i64 (T 0).k, .bool (T 0).b, .int .i64 (T 0).n, .string (T 0).t, .string (T 0).x, .slice (T 0).p (T 0).len (T 0).cap, .int .i64 (T 1).k, .bool (T 1).b, .int .i64 (T 1).n, .string (T 1).t, .string (T 1).x, .slice (T 1).p (T 1).len (T 1).cap, .int .i64 (T 2).k, .bool (T 2).b, .int .i64 (T 2).n, .string (T 2).t, .string (T 2).x, .slice (T 2).p (T 2).len (T 2).cap] (by rfl) (by rfl) (World.news_of_block (cs := #[.int .i64 (T 0).k, .bool (T 0).b, .int .i64 (T 0).n, .string (T 0).t, .string (T 0).x, .slice (T 0).p (T 0).len (T 0).cap, .int .i64 (T 1).k, .bool (T 1).b, .int .i64 (T 1).n, .string (T 1).t, .string (T 1).x, .slice (T 1).p (T 1).len (T 1).cap, .int .i64 (T 2).k, .bool (T 2).b, .int .i64 (T 2).n, .string (T 2).t, .string (T 2).x, .slice (T 2).p (T 2).len (T 2).cap]) (t := 41) (fr := (0, 0)) (by exact heap_new w12 _ rfl)) (by simp [Value.oneCell']) (by omega) (by unfold maxLen; omega) (by omega) (by have := own12.lt; simp; omega) (w12.heap.size + 1) (by simp) ?_
              intro gg cap' w13 hr hg3 hat hlt5
              have hneb : ∀ q, V.ownBlock = some q → base ≤ q := fun q hq => (own12.lt q hq).1
              have hH4 : _ ∧ _ := ⟨(hg3.block b10 (lt_of_heap hH3.1) (fun q => by have := hneb _ q.symm; omega)).trans hH3.1, (World.cell?_of_block (a := ⟨bs6, k, none⟩) (hg3.block bs6 (World.block_lt_of_cell? _ _ hH3.2) (fun q => by have := hneb _ q.symm; omega))).trans hH3.2⟩
              refine hK.out _ _ hH4 (fun _ => ?_)
              clear hK K
              try simp only [Act.put, List.getElem_toArray, List.getElem_cons_succ, List.getElem_cons_zero, List.setIfInBounds_toArray, List.set_cons_zero, List.set_cons_succ]
              refine wpAnyH_take (i := 9) (v := .slice (some ⟨gg, 0, none⟩) (L + 1) cap') rfl (by kernel_rfl) (by kernel_rfl) (by kernel_rfl) (fun _ _ _ h => h) (Or.inl ⟨by rfl, fun W _ => by go_simp⟩) hH4 ?_
              try simp only [Act.put, List.getElem_toArray, List.getElem_cons_succ, List.getElem_cons_zero, List.setIfInBounds_toArray, List.set_cons_zero, List.set_cons_succ]
              refine wpAnyH_done (by kernel_rfl) ?_ _
              have HWI : Hid (WI l s k n w3 g b10 base (.slice (some ⟨gg, 0, none⟩) (L + 1) cap') (L + 1) (st + 1) false c' w13) := Lib.hid (by
                have z13 : Below w11.heap.size w11 (w12.alloc (.cells #[.int .i64 (T 0).k, .bool (T 0).b, .int .i64 (T 0).n, .string (T 0).t, .string (T 0).x, .slice (T 0).p (T 0).len (T 0).cap, .int .i64 (T 1).k, .bool (T 1).b, .int .i64 (T 1).n, .string (T 1).t, .string (T 1).x, .slice (T 1).p (T 1).len (T 1).cap, .int .i64 (T 2).k, .bool (T 2).b, .int .i64 (T 2).n, .string (T 2).t, .string (T 2).x, .slice (T 2).p (T 2).len (T 2).cap] 41)) := z12.trans ((below1 w12 _).mono hge)
                have hsz := z13.size
                obtain ⟨t0, t1, t2⟩ := HTT.out
                have hS := HS11.out
                have hlf := leaf3 hS.fit hD (by have := HGL.out; have := HGA.out; omega)
                have ha2 := HGA.out
                refine ⟨hL60, ?_, .f3 _ _ hD (by omega) (by have := HGL.out; omega), (hS.bel z13).grown hg3 ?_, (HB11.out.trans (z13.mono HB11.out.size)).grown hg3 (by have := HB11.out.size; omega) ?_, ⟨_, _, _, hH4.1, fun _ => by rw [HGK.out]; exact HV0.out (by have := HGB.out; omega), fun _ => by rw [HGK1.out]; exact HV1.out HGB.out, fun _ => HKV.out⟩, ?_⟩
                · have := HCOST.out
                  have e : rk false c'.d = 5 := by rw [hD]; rfl
                  rw [hD] at this
                  have e2 : rk true 3 = 0 := rfl
                  omega
                · intro q hq
                  have := hneb q hq
                  omega
                · intro q hq
                  have := hneb q hq
                  omega
                · have v0 : VY y0 (s.part k (lev k).1 L) := by
                    have := HV0.out (by have := HGB.out; omega)
                    rw [← HGK.out, ← hlf.1, ha2] at this
                    exact this
                  have v1 : VY y1 (s.part k (lev k).2.1 L) := by
                    have := HV1.out HGB.out
                    rw [← HGK1.out, ← hlf.2, ha2] at this
                    exact this
                  have v2 : VY yn (s.part k (lev k).2.2 L) := by
                    have := HKV.out
                    rw [ha2] at this
                    exact this
                  have hall : ∀ v, v < 3 → VY (T v) (s.part k v L) := fun v hv => by
                    rcases lev_all k v hv with e | e | e
                    · rw [e, t0]; exact v0
                    · rw [e, t1]; exact v1
                    · rw [e, t2]; exact v2
                  obtain ⟨e0, x0, q0⟩ := (hall 0 (by omega)).ve
                  obtain ⟨e1, x1, q1⟩ := (hall 1 (by omega)).ve
                  obtain ⟨e2, x2, q2⟩ := (hall 2 (by omega)).ve
                  refine ⟨dd ++ [e0, e1, e2], ?_, ?_⟩
                  · rw [List.map_append, HDD.out, List.range_succ, List.map_append]
                    unfold flat
                    rw [List.flatMap_append]
                    congr 1
                    simp [SM.leaf, x0, x1, x2]
                    rfl
                  · rw [List.flatMap_append]
                    have e : [e0, e1, e2].flatMap VE.enc = [.int .i64 (T 0).k, .bool (T 0).b, .int .i64 (T 0).n, .string (T 0).t, .string (T 0).x, .slice (T 0).p (T 0).len (T 0).cap, .int .i64 (T 1).k, .bool (T 1).b, .int .i64 (T 1).n, .string (T 1).t, .string (T 1).x, .slice (T 1).p (T 1).len (T 1).cap, .int .i64 (T 2).k, .bool (T 2).b, .int .i64 (T 2).n, .string (T 2).t, .string (T 2).x, .slice (T 2).p (T 2).len (T 2).cap] := by
                      simp [q0, q1, q2]
                    rw [e]
                    exact hr)
              clear HS11 HB11 own11 way11 HKV hr hg3 hat hlt5 hneb hH4 hH3 hH2 own12 z12 HTR HTT cs11
              go_wp2_with fail
              go_roundg (8 * n + 3 - (st + 1))
              case measure => have := HCOST.out; omega
              case rel => exact ⟨_, L + 1, st + 1, false, c', rfl, by go_num, by first | rfl | (simp; done) | (go_num; done), Nat.le_refl _, HWI⟩
          · have hd3 : (c.d : Int) = 0 := by omega
            have HDE : Hid (Calls Tryz.prog 33 #[.pointer (some ⟨g, 0, none⟩)] wr fun e w' => e = .returned (.int .i64 0) ∧ w' = wr) := Lib.hid (by
              have := depthC hS.at_.B
              rw [hd] at this
              exact this)
            have HOP : Hid (Calls Tryz.prog 22 #[.pointer (some ⟨g, 0, none⟩)] wr fun e w' => e = .returned (.bool false) ∧ Only g wr w' ∧ Cur w' g c) := Lib.hid (by
              have := openC hS
              rw [hop, hopn] at this
              exact this)
            have HCD0 : Hid (c.d = 0) := Lib.hid hd
            have HS := Lib.hid hS
            have HBr := Lib.hid hB
            have HOr := Lib.hid hown
            have HL := Lib.hid hL
            clear hop hopn hcost hstep hS hB hway hown hcn hd hd3 hL
            go_upto_region 32 with (first
              | (go_at_call 33; (with_reducible refine HDE.out.mono ?_); rintro e wr ⟨rfl, rfl⟩)
              | (go_at_call 22; (with_reducible refine HOP.out.mono ?_); rintro e w6 ⟨rfl, o6, B6⟩))
            have HBX : Hid (Below w3.heap.size w3 w6) := Lib.hid (below_only HBr.out o6 hgw HBr.out.size)
            have HSX := Lib.hid (HS.out.at_.only (SameList.refl c) o6 B6)
            have HDE2 : Hid (Calls Tryz.prog 33 #[.pointer (some ⟨g, 0, none⟩)] w6 fun e w' => e = .returned (.int .i64 0) ∧ w' = w6) := Lib.hid (by
              have h0 : c.d = 0 := HCD0.out
              have := depthC HSX.out.B
              rw [h0] at this
              exact this)
            have HTA : Hid (Tris w6 V ((List.range n).map (s.leaf k))) := Lib.hid (tris_of_own _ dd (by rw [List.length_map, List.length_range, ← HL.out]; exact owns_only HOr.out o6 (by omega)) (by rw [HDD.out, HL.out]))
            clear HDE HOP HS HBr HOr o6 B6
            go_upto_region 34 with (go_at_call 33; (with_reducible refine HDE2.out.mono ?_); rintro e w6 ⟨rfl, rfl⟩)
            have HALL := Lib.hid (allAt sp s pv pr cv cr pp cc w6 (HSI.out.below HBX.out) HOK.out HPL.out (by have := HNR.out; omega))
            clear HSX
            go_wp2_with (first
              | (go_at_call 15; (with_reducible refine HALL.out.mono ?_); rintro e w14 ⟨VB, rfl, hVB, hb14, _⟩
                 have HON14 := Lib.hid (onceWalk HLO.out HPL.out k n hk6 HNK.out (by have := HN60.out; omega) V VB w14 (HTA.out.below hb14) hVB)
                 have HB14 : Hid (Below w3.heap.size w3 w14) := Lib.hid (HBX.out.trans (hb14.mono HBX.out.size))
                 clear hVB hb14 HALL)
              | (go_at_call 36; (with_reducible refine HON14.out.mono ?_); rintro e w15 ⟨rfl, hb15⟩
                 have HB15 : Hid (Below w3.heap.size w3 w15) := Lib.hid (HB14.out.trans (hb15.mono HB14.out.size))
                 clear hb15 HON14))
            go_roundg (6 - (k + 1))
            case measure => omega
            case rel => exact ⟨k + 1, by go_num, by omega, Nat.le_refl _, HB15⟩
        | false =>
          obtain ⟨hcon, hdd2, hnx⟩ := next_go HLO.out hk6 hS.fit hcn hstep
          obtain ⟨c', hc'⟩ : ∃ c', c' = c.next s k := ⟨_, rfl⟩
          have hd1 := step_d1 hstep
          have hc3 := hS.fit.d3
          rcases hnx with ⟨hon, hgot⟩ | ⟨hoff, hrest⟩
          · obtain ⟨zz, hzz⟩ : ∃ zz, zz = orderI 1 (c.val s k) (c'.val s k) := ⟨_, rfl⟩
            have hzn : zz < 0 := by rw [hzz, hc']; exact next_above hS.fit hS.ok hS.so hk6 hcon hon
            rw [← hc'] at hon hgot hdd2
            have hzm : ¬ 0 ≤ zz := by omega
            have HCOST : Hid (st + 1 + 8 * (n - L) + rk true c'.d ≤ 8 * n + 3) := Lib.hid (by
              rw [hdd2]
              have e1 : rk true c.d = 3 - c.d := rfl
              have e2 : rk false c.d = 2 + c.d := rfl
              omega)
            have HNX : Hid (Calls Tryz.prog 26 #[.pointer (some ⟨g, 0, none⟩)] wr fun e w' => e = .returned (.bool true) ∧ Only g wr w' ∧ Cur w' g c') := Lib.hid (by
              have := nextC hS
              rw [← hc', hon] at this
              exact this)
            have HON := Lib.hid hon
            have HS := Lib.hid hS
            have HBr := Lib.hid hB
            have HWr := Lib.hid hway
            have HOr := Lib.hid hown
            have HC' := Lib.hid hc'
            have HGOT := Lib.hid hgot
            have HZZ := Lib.hid hzz
            have HDC : Hid (c'.d = c.d) := Lib.hid hdd2
            clear hcon hon hgot hcost hstep hS hB hway hown hc' hcn hzz hdd2 hd1 hc3
            go_upto_region 20 with (go_at_call 26; (with_reducible refine HNX.out.mono ?_); rintro e w6 ⟨rfl, o6, B6⟩)
            have HS6 : Hid (Stand w3 s w6 g c' k) := Lib.hid (by have := HS.out.next o6 (by rw [← HC'.out]; exact B6); rw [← HC'.out] at this; exact this)
            have HB6 : Hid (Below w3.heap.size w3 w6) := Lib.hid (below_only HBr.out o6 hgw HBr.out.size)
            have HWY : Hid (Way w6 b10 y0 y1 y2) := Lib.hid (HWr.out.only o6 (by omega))
            have HOWN := Lib.hid (owns_only HOr.out o6 (by omega))
            have hgot := HGOT.out
            clear HNX HS HBr HWr HOr o6 B6 HGOT
            rcases hgot with ⟨hD, ga, gl⟩ | ⟨hD, gb, ga, gl, gk0⟩ | ⟨hD, gb, ga, gl, gk0, gk1⟩
            · have HGA := Lib.hid ga
              have HGL := Lib.hid gl
              clear ga gl
              obtain ⟨kk, kb, kn, kt, kx, kc⟩ := kvOf HS6.out HPL.out
              have HKA := Lib.hid (keyAny HS6.out kc)
              rw [HON.out] at HKA
              have hkv : VY ⟨kk, kb, kn, kt, kx, none, 0, 0⟩ (s.part k (lev k).1 c'.a0) := ⟨rfl, rfl, rfl, by rw [← val_d1 HS6.out.fit hD]; have := kc.e; unfold CS.kval at this; rw [if_pos HON.out] at this; exact this, kc.f⟩
              have HKV := Lib.hid hkv
              clear hkv
              have HO : Hid (∀ W, Calls Tryz.prog 34 #[.int .i64 1, .agg #[.int .i64 y0.k, .bool y0.b, .int .i64 y0.n, .string y0.t, .string y0.x, .slice y0.p y0.len y0.cap], .agg #[.int .i64 kk, .bool kb, .int .i64 kn, .string kt, .string kx, .slice none 0 0]] W fun e w' => e = .returned (.int .i64 zz) ∧ Below W.heap.size W w') := Lib.hid fun W => by
                have hy : VY y0 (s.part k (lev k).1 c.a0) := HV0.out (by have := HDC.out; omega)
                have := ordRefIs y0 ⟨kk, kb, kn, kt, kx, none, 0, 0⟩ _ _ [] [] W (hy.is W) (kvIs kc W)
                rw [HZZ.out]
                unfold CS.kval at this
                rw [if_pos HON.out, ← val_d1 HCF.out (by have := HDC.out; omega)] at this
                exact this
              go_upto_region 21 with (first
                | (go_at_call 30; (with_reducible refine HKA.out.mono ?_); rintro e w7 ⟨rfl, hb7⟩)
                | ((with_reducible refine wpList_store6 (k' := kk) (b' := kb) (n' := kn) (t' := kt) (x' := kx) (p' := none) (len' := 0) (cap' := 0) (.tmp 13) (.tmp 87) w7.heap.size (six_new _ rfl) ?_ ?_ ?_ ?_ ?_); rfl; rfl; rfl; rfl; intro w8 hvw8 uw8))
              have z8 : Below w6.heap.size w6 w8 := hb7.trans ((below_only (below1 w7 _) hvw8 (Nat.le_refl _) (by simp) : Below w7.heap.size w7 w8).mono hb7.size)
              have HS8 := Lib.hid (HS6.out.bel z8)
              have HB8 : Hid (Below w3.heap.size w3 w8) := Lib.hid (HB6.out.trans (z8.mono HB6.out.size))
              have way8 : Way w8 b10 y0 y1 y2 := HWY.out.below z8
              have own8 := own_below HOWN.out z8
              have u8 := uw8
              have HDP : Hid (Calls Tryz.prog 33 #[.pointer (some ⟨g, 0, none⟩)] w8 fun e w' => e = .returned (.int .i64 1) ∧ w' = w8) := Lib.hid (by
                have := depthC HS8.out.at_.B
                rw [hD] at this
                exact this)
              have hs8 := z8.size
              have hsz7 := lt_of_heap HWY.out
              clear HKA hb7 hvw8 z8 uw8 HOWN HWY HS6
              go_upto_region 24 with (go_at_call 33; (with_reducible refine HDP.out.mono ?_); rintro e w8 ⟨rfl, rfl⟩)
              clear HDP
              have L0 : Below w8.heap.size w8 w8.drew := (Below.refl _ _).drew
              refine wp_region_held_drew (S := fun W => W.rangeAt b10 0 [.int .i64 y0.k, .bool y0.b, .int .i64 y0.n, .string y0.t, .string y0.x, .slice y0.p y0.len y0.cap] ∧ Six W w7.heap.size kk kb kn kt kx none 0 0) (by kernel_rfl) ⟨way8.r0, u8⟩ (fun hHeld => ?_)
              refine wpAnyH_take (i := 0) (v := .bool false) rfl (by kernel_rfl) (by kernel_rfl) (by kernel_rfl) (fun _ _ _ h => h) (Or.inl ⟨by rfl, fun W _ => by go_simp⟩) hHeld ?_
              try simp only [Act.put, List.getElem_toArray, List.getElem_cons_zero, List.setIfInBounds_toArray, List.set_cons_zero, List.set_cons_succ]
              refine wpAnyH_take (i := 1) (v := .bool true) rfl (by kernel_rfl) (by kernel_rfl) (by kernel_rfl) (fun _ _ _ h => h) (Or.inl ⟨by rfl, fun W _ => by go_simp⟩) hHeld ?_
              try simp only [Act.put, List.getElem_toArray, List.getElem_cons_succ, List.getElem_cons_zero, List.setIfInBounds_toArray, List.set_cons_zero, List.set_cons_succ]
              refine wpAnyH_take (i := 2) (v := .bool true) rfl (by kernel_rfl) (by kernel_rfl) (by kernel_rfl) (fun _ _ _ h => h) (Or.inl ⟨by rfl, fun W _ => by go_simp⟩) hHeld ?_
              try simp only [Act.put, List.getElem_toArray, List.getElem_cons_succ, List.getElem_cons_zero, List.setIfInBounds_toArray, List.set_cons_zero, List.set_cons_succ]
              refine wpAnyH_take (i := 3) (v := .int .i64 1) rfl (by kernel_rfl) (by kernel_rfl) (by kernel_rfl) (fun _ _ _ h => h) (Or.inl ⟨by rfl, fun W _ => by go_simp⟩) hHeld ?_
              try simp only [Act.put, List.getElem_toArray, List.getElem_cons_succ, List.getElem_cons_zero, List.setIfInBounds_toArray, List.set_cons_zero, List.set_cons_succ]
              refine wpAnyH_take (i := 4) (v := .int .i64 0) rfl (by kernel_rfl) (by kernel_rfl) (by kernel_rfl) (fun _ _ _ h => h) (Or.inl ⟨by rfl, fun W _ => by first | (go_simp; done) | (go_simp; rfl) | (go_simp; decide)⟩) hHeld ?_
              try simp only [Act.put, List.getElem_toArray, List.getElem_cons_succ, List.getElem_cons_zero, List.setIfInBounds_toArray, List.set_cons_zero, List.set_cons_succ]
              refine wpAnyH_take (i := 5) (v := .pointer (some ⟨b10, 0, none⟩)) rfl (by kernel_rfl) (by kernel_rfl) (by kernel_rfl) (fun _ _ _ h => h) (Or.inl ⟨by rfl, fun W _ => by go_simp⟩) hHeld ?_
              try simp only [Act.put, List.getElem_toArray, List.getElem_cons_succ, List.getElem_cons_zero, List.setIfInBounds_toArray, List.set_cons_zero, List.set_cons_succ]
              refine wpAnyH_take (i := 6) rfl (by kernel_rfl) (by kernel_rfl) (by kernel_rfl) (fun _ _ _ h => h) (yieldsIf_load_mid (by rfl) 39 (.tmp 106) rfl b10 0 rfl [.int .i64 y0.k, .bool y0.b, .int .i64 y0.n, .string y0.t, .string y0.x, .slice y0.p y0.len y0.cap] _ (fun W h => h.1) Tryz.underlying39 rfl info28) hHeld ?_
              try simp only [Act.put, List.getElem_toArray, List.getElem_cons_succ, List.getElem_cons_zero, List.setIfInBounds_toArray, List.set_cons_zero, List.set_cons_succ]
              refine wpAnyH_take (i := 7) rfl (by kernel_rfl) (by kernel_rfl) (by kernel_rfl) (fun _ _ _ h => h) (yieldsIf_load_mid (by rfl) 39 (.tmp 13) rfl w7.heap.size 0 rfl [.int .i64 kk, .bool kb, .int .i64 kn, .string kt, .string kx, .slice none 0 0] _ (fun W h => range6 h.2.c0 h.2.c1 h.2.c2 h.2.c3 h.2.c4 h.2.c5) Tryz.underlying39 rfl info28) hHeld ?_
              try simp only [Act.put, List.getElem_toArray, List.getElem_cons_succ, List.getElem_cons_zero, List.setIfInBounds_toArray, List.set_cons_zero, List.set_cons_succ]
              refine wpAnyH_ready (rs := [8]) (by kernel_rfl) (by simp) ?_
              refine AllReadyH.cons rfl (fun K hK => ?_) AllReadyH.nil
              rw [if_pos (by rfl)]
              go_simp
              refine (HO.out _).mono ?_
              rintro e0 w10 ⟨rfl, hb3⟩
              have z10 : Below w8.heap.size w8 w10 := L0.trans (hb3.mono L0.size)
              clear hb3 L0
              refine hK.out _ _ ⟨range_below way8.r0 z10, u8.below z10⟩ (fun hHeld2 => ?_)
              clear hK K hHeld
              try simp only [Act.put, List.getElem_toArray, List.getElem_cons_succ, List.getElem_cons_zero, List.setIfInBounds_toArray, List.set_cons_zero, List.set_cons_succ]
              refine wpAnyH_take (i := 9) (v := .bool false) rfl (by kernel_rfl) (by kernel_rfl) (by kernel_rfl) (fun _ _ _ h => h) (Or.inl ⟨by rfl, fun W _ => by go_simp⟩) hHeld2 ?_
              try simp only [Act.put, List.getElem_toArray, List.getElem_cons_succ, List.getElem_cons_zero, List.setIfInBounds_toArray, List.set_cons_zero, List.set_cons_succ]
              refine wpAnyH_take (i := 10) (v := .bool false) rfl (by kernel_rfl) (by kernel_rfl) (by kernel_rfl) (fun _ _ _ h => h) (Or.inl ⟨by rfl, fun W _ => by go_simp⟩) hHeld2 ?_
              try simp only [Act.put, List.getElem_toArray, List.getElem_cons_succ, List.getElem_cons_zero, List.setIfInBounds_toArray, List.set_cons_zero, List.set_cons_succ]
              refine wpAnyH_done (by kernel_rfl) ?_ _
              clear hHeld2
              have way10 : Way w10 b10 y0 y1 y2 := way8.below z10
              have hway : w10.heap[b10]? = some (.cells #[.int .i64 y0.k, .bool y0.b, .int .i64 y0.n, .string y0.t, .string y0.x, .slice y0.p y0.len y0.cap, .int .i64 y1.k, .bool y1.b, .int .i64 y1.n, .string y1.t, .string y1.x, .slice y1.p y1.len y1.cap, .int .i64 y2.k, .bool y2.b, .int .i64 y2.n, .string y2.t, .string y2.x, .slice y2.p y2.len y2.cap] 63) := way10
              have own10 := own_below own8 z10
              have hs10 := z10.size
              have u10 := u8.below z10
              have HS10 := Lib.hid (HS8.out.bel z10)
              have HB10 : Hid (Below w3.heap.size w3 w10) := Lib.hid (HB8.out.trans (z10.mono HB8.out.size))
              clear way8 own8 u8 HS8 HB8 z10 HO
              go_wp2_with (first
                | ((with_reducible refine wpList_load6g (.tmp 13) w7.heap.size u10 ?_ ?_ ?_ ?_); rfl; rfl; rfl)
                | ((with_reducible refine wpList_storePart (.tmp 115) (.tmp 114) b10 0 ⟨kk, kb, kn, kt, kx, none, 0, 0⟩ hway rfl (by decide) ?_ ?_ ?_ ?_ ?_); rfl; rfl; rfl; rfl; intro w11 o11 hw11))
              have way11 : Way w11 b10 (⟨kk, kb, kn, kt, kx, none, 0, 0⟩ : V6) y1 y2 := hw11
              have hs11 := o11.size
              have own11 := owns_only own10 o11 (by omega)
              have HS11 := Lib.hid (HS10.out.other o11 hb10 (by omega))
              have HB11 : Hid (Below w3.heap.size w3 w11) := Lib.hid (below_only HB10.out o11 hb10 HB10.out.size)
              clear hw11 own10 u10 HS10 HB10 o11 way10 hway
              have HWI : Hid (WI l s k n w3 g b10 base V L (st + 1) true c' w11) := Lib.hid ⟨hln, by have := HCOST.out; omega, .d1 _ _ hD HGA.out HGL.out, HS11.out, HB11.out, ⟨_, _, _, way11, fun _ => HKV.out, fun q => absurd q (by omega), fun q => absurd q (by omega)⟩, dd, HDD.out, own11⟩
              clear HS11 HB11 own11 way11 HKV
              go_roundg (8 * n + 3 - (st + 1))
              case measure => have := HCOST.out; omega
              case rel => exact ⟨V, L, st + 1, true, c', rfl, by go_num, by first | rfl | (simp; done) | (go_num; done), Nat.le_refl _, HWI⟩
            · have HGA := Lib.hid ga
              have HGL := Lib.hid gl
              have HGB := Lib.hid gb
              have HGK := Lib.hid gk0
              clear ga gl gb gk0
              obtain ⟨kk, kb, kn, kt, kx, kc⟩ := kvOf HS6.out HPL.out
              have HKA := Lib.hid (keyAny HS6.out kc)
              rw [HON.out] at HKA
              have hkv : VY ⟨kk, kb, kn, kt, kx, none, 0, 0⟩ (s.part k (lev k).2.1 c'.a1) := ⟨rfl, rfl, rfl, by rw [← val_d2 HS6.out.fit hD]; have := kc.e; unfold CS.kval at this; rw [if_pos HON.out] at this; exact this, kc.f⟩
              have HKV := Lib.hid hkv
              clear hkv
              have HO : Hid (∀ W, Calls Tryz.prog 34 #[.int .i64 1, .agg #[.int .i64 y1.k, .bool y1.b, .int .i64 y1.n, .string y1.t, .string y1.x, .slice y1.p y1.len y1.cap], .agg #[.int .i64 kk, .bool kb, .int .i64 kn, .string kt, .string kx, .slice none 0 0]] W fun e w' => e = .returned (.int .i64 zz) ∧ Below W.heap.size W w') := Lib.hid fun W => by
                have hy : VY y1 (s.part k (lev k).2.1 c.a1) := HV1.out (by have := HDC.out; omega)
                have := ordRefIs y1 ⟨kk, kb, kn, kt, kx, none, 0, 0⟩ _ _ [] [] W (hy.is W) (kvIs kc W)
                rw [HZZ.out]
                unfold CS.kval at this
                rw [if_pos HON.out, ← val_d2 HCF.out (by have := HDC.out; omega)] at this
                exact this
              go_upto_region 21 with (first
                | (go_at_call 30; (with_reducible refine HKA.out.mono ?_); rintro e w7 ⟨rfl, hb7⟩)
                | ((with_reducible refine wpList_store6 (k' := kk) (b' := kb) (n' := kn) (t' := kt) (x' := kx) (p' := none) (len' := 0) (cap' := 0) (.tmp 13) (.tmp 87) w7.heap.size (six_new _ rfl) ?_ ?_ ?_ ?_ ?_); rfl; rfl; rfl; rfl; intro w8 hvw8 uw8))
              have z8 : Below w6.heap.size w6 w8 := hb7.trans ((below_only (below1 w7 _) hvw8 (Nat.le_refl _) (by simp) : Below w7.heap.size w7 w8).mono hb7.size)
              have HS8 := Lib.hid (HS6.out.bel z8)
              have HB8 : Hid (Below w3.heap.size w3 w8) := Lib.hid (HB6.out.trans (z8.mono HB6.out.size))
              have way8 : Way w8 b10 y0 y1 y2 := HWY.out.below z8
              have own8 := own_below HOWN.out z8
              have u8 := uw8
              have HDP : Hid (Calls Tryz.prog 33 #[.pointer (some ⟨g, 0, none⟩)] w8 fun e w' => e = .returned (.int .i64 2) ∧ w' = w8) := Lib.hid (by
                have := depthC HS8.out.at_.B
                rw [hD] at this
                exact this)
              have hs8 := z8.size
              have hsz7 := lt_of_heap HWY.out
              clear HKA hb7 hvw8 z8 uw8 HOWN HWY HS6
              go_upto_region 24 with (go_at_call 33; (with_reducible refine HDP.out.mono ?_); rintro e w8 ⟨rfl, rfl⟩)
              clear HDP
              have L0 : Below w8.heap.size w8 w8.drew := (Below.refl _ _).drew
              refine wp_region_held_drew (S := fun W => W.rangeAt b10 6 [.int .i64 y1.k, .bool y1.b, .int .i64 y1.n, .string y1.t, .string y1.x, .slice y1.p y1.len y1.cap] ∧ Six W w7.heap.size kk kb kn kt kx none 0 0) (by kernel_rfl) ⟨way8.r1, u8⟩ (fun hHeld => ?_)
              refine wpAnyH_take (i := 0) (v := .bool false) rfl (by kernel_rfl) (by kernel_rfl) (by kernel_rfl) (fun _ _ _ h => h) (Or.inl ⟨by rfl, fun W _ => by go_simp⟩) hHeld ?_
              try simp only [Act.put, List.getElem_toArray, List.getElem_cons_zero, List.setIfInBounds_toArray, List.set_cons_zero, List.set_cons_succ]
              refine wpAnyH_take (i := 1) (v := .bool true) rfl (by kernel_rfl) (by kernel_rfl) (by kernel_rfl) (fun _ _ _ h => h) (Or.inl ⟨by rfl, fun W _ => by go_simp⟩) hHeld ?_
              try simp only [Act.put, List.getElem_toArray, List.getElem_cons_succ, List.getElem_cons_zero, List.setIfInBounds_toArray, List.set_cons_zero, List.set_cons_succ]
              refine wpAnyH_take (i := 2) (v := .bool true) rfl (by kernel_rfl) (by kernel_rfl) (by kernel_rfl) (fun _ _ _ h => h) (Or.inl ⟨by rfl, fun W _ => by go_simp⟩) hHeld ?_
              try simp only [Act.put, List.getElem_toArray, List.getElem_cons_succ, List.getElem_cons_zero, List.setIfInBounds_toArray, List.set_cons_zero, List.set_cons_succ]
              refine wpAnyH_take (i := 3) (v := .int .i64 2) rfl (by kernel_rfl) (by kernel_rfl) (by kernel_rfl) (fun _ _ _ h => h) (Or.inl ⟨by rfl, fun W _ => by go_simp⟩) hHeld ?_
              try simp only [Act.put, List.getElem_toArray, List.getElem_cons_succ, List.getElem_cons_zero, List.setIfInBounds_toArray, List.set_cons_zero, List.set_cons_succ]
              refine wpAnyH_take (i := 4) (v := .int .i64 1) rfl (by kernel_rfl) (by kernel_rfl) (by kernel_rfl) (fun _ _ _ h => h) (Or.inl ⟨by rfl, fun W _ => by first | (go_simp; done) | (go_simp; rfl) | (go_simp; decide)⟩) hHeld ?_
              try simp only [Act.put, List.getElem_toArray, List.getElem_cons_succ, List.getElem_cons_zero, List.setIfInBounds_toArray, List.set_cons_zero, List.set_cons_succ]
              refine wpAnyH_take (i := 5) (v := .pointer (some ⟨b10, 6, none⟩)) rfl (by kernel_rfl) (by kernel_rfl) (by kernel_rfl) (fun _ _ _ h => h) (Or.inl ⟨by rfl, fun W _ => by go_simp⟩) hHeld ?_
              try simp only [Act.put, List.getElem_toArray, List.getElem_cons_succ, List.getElem_cons_zero, List.setIfInBounds_toArray, List.set_cons_zero, List.set_cons_succ]
              refine wpAnyH_take (i := 6) rfl (by kernel_rfl) (by kernel_rfl) (by kernel_rfl) (fun _ _ _ h => h) (yieldsIf_load_mid (by rfl) 39 (.tmp 106) rfl b10 6 rfl [.int .i64 y1.k, .bool y1.b, .int .i64 y1.n, .string y1.t, .string y1.x, .slice y1.p y1.len y1.cap] _ (fun W h => h.1) Tryz.underlying39 rfl info28) hHeld ?_
              try simp only [Act.put, List.getElem_toArray, List.getElem_cons_succ, List.getElem_cons_zero, List.setIfInBounds_toArray, List.set_cons_zero, List.set_cons_succ]
              refine wpAnyH_take (i := 7) rfl (by kernel_rfl) (by kernel_rfl) (by kernel_rfl) (fun _ _ _ h => h) (yieldsIf_load_mid (by rfl) 39 (.tmp 13) rfl w7.heap.size 0 rfl [.int .i64 kk, .bool kb, .int .i64 kn, .string kt, .string kx, .slice none 0 0] _ (fun W h => range6 h.2.c0 h.2.c1 h.2.c2 h.2.c3 h.2.c4 h.2.c5) Tryz.underlying39 rfl info28) hHeld ?_
              try simp only [Act.put, List.getElem_toArray, List.getElem_cons_succ, List.getElem_cons_zero, List.setIfInBounds_toArray, List.set_cons_zero, List.set_cons_succ]
              refine wpAnyH_ready (rs := [8]) (by kernel_rfl) (by simp) ?_
              refine AllReadyH.cons rfl (fun K hK => ?_) AllReadyH.nil
              rw [if_pos (by rfl)]
              go_simp
              refine (HO.out _).mono ?_
              rintro e0 w10 ⟨rfl, hb3⟩
              have z10 : Below w8.heap.size w8 w10 := L0.trans (hb3.mono L0.size)
              clear hb3 L0
              refine hK.out _ _ ⟨range_below way8.r1 z10, u8.below z10⟩ (fun hHeld2 => ?_)
              clear hK K hHeld
              try simp only [Act.put, List.getElem_toArray, List.getElem_cons_succ, List.getElem_cons_zero, List.setIfInBounds_toArray, List.set_cons_zero, List.set_cons_succ]
              refine wpAnyH_take (i := 9) (v := .bool false) rfl (by kernel_rfl) (by kernel_rfl) (by kernel_rfl) (fun _ _ _ h => h) (Or.inl ⟨by rfl, fun W _ => by go_simp⟩) hHeld2 ?_
              try simp only [Act.put, List.getElem_toArray, List.getElem_cons_succ, List.getElem_cons_zero, List.setIfInBounds_toArray, List.set_cons_zero, List.set_cons_succ]
              refine wpAnyH_take (i := 10) (v := .bool false) rfl (by kernel_rfl) (by kernel_rfl) (by kernel_rfl) (fun _ _ _ h => h) (Or.inl ⟨by rfl, fun W _ => by go_simp⟩) hHeld2 ?_
              try simp only [Act.put, List.getElem_toArray, List.getElem_cons_succ, List.getElem_cons_zero, List.setIfInBounds_toArray, List.set_cons_zero, List.set_cons_succ]
              refine wpAnyH_done (by kernel_rfl) ?_ _
              clear hHeld2
              have way10 : Way w10 b10 y0 y1 y2 := way8.below z10
              have hway : w10.heap[b10]? = some (.cells #[.int .i64 y0.k, .bool y0.b, .int .i64 y0.n, .string y0.t, .string y0.x, .slice y0.p y0.len y0.cap, .int .i64 y1.k, .bool y1.b, .int .i64 y1.n, .string y1.t, .string y1.x, .slice y1.p y1.len y1.cap, .int .i64 y2.k, .bool y2.b, .int .i64 y2.n, .string y2.t, .string y2.x, .slice y2.p y2.len y2.cap] 63) := way10
              have own10 := own_below own8 z10
              have hs10 := z10.size
              have u10 := u8.below z10
              have HS10 := Lib.hid (HS8.out.bel z10)
              have HB10 : Hid (Below w3.heap.size w3 w10) := Lib.hid (HB8.out.trans (z10.mono HB8.out.size))
              clear way8 own8 u8 HS8 HB8 z10 HO
              go_wp2_with (first
                | ((with_reducible refine wpList_load6g (.tmp 13) w7.heap.size u10 ?_ ?_ ?_ ?_); rfl; rfl; rfl)
                | ((with_reducible refine wpList_storePart (.tmp 115) (.tmp 114) b10 6 ⟨kk, kb, kn, kt, kx, none, 0, 0⟩ hway rfl (by decide) ?_ ?_ ?_ ?_ ?_); rfl; rfl; rfl; rfl; intro w11 o11 hw11))
              have way11 : Way w11 b10 y0 (⟨kk, kb, kn, kt, kx, none, 0, 0⟩ : V6) y2 := hw11
              have hs11 := o11.size
              have own11 := owns_only own10 o11 (by omega)
              have HS11 := Lib.hid (HS10.out.other o11 hb10 (by omega))
              have HB11 : Hid (Below w3.heap.size w3 w11) := Lib.hid (below_only HB10.out o11 hb10 HB10.out.size)
              clear hw11 own10 u10 HS10 HB10 o11 way10 hway
              have HWI : Hid (WI l s k n w3 g b10 base V L (st + 1) true c' w11) := Lib.hid ⟨hln, by have := HCOST.out; omega, .d2 _ _ hD HGA.out HGL.out, HS11.out, HB11.out, ⟨_, _, _, way11, fun _ => by rw [HGK.out]; exact HV0.out HGB.out, fun _ => HKV.out, fun q => absurd q (by omega)⟩, dd, HDD.out, own11⟩
              clear HS11 HB11 own11 way11 HKV
              go_roundg (8 * n + 3 - (st + 1))
              case measure => have := HCOST.out; omega
              case rel => exact ⟨V, L, st + 1, true, c', rfl, by go_num, by first | rfl | (simp; done) | (go_num; done), Nat.le_refl _, HWI⟩
            · have HGA := Lib.hid ga
              have HGL := Lib.hid gl
              have HGB := Lib.hid gb
              have HGK := Lib.hid gk0
              have HGK1 := Lib.hid gk1
              have HEN : Hid (c'.e2 ≤ n) := Lib.hid (by have q1 := HS6.out.fit.e2 (by omega); have q2 := HS6.out.fit.e1 (by omega); have q3 := HS6.out.fit.n; have := HNK.out; omega)
              clear ga gl gb gk0 gk1
              obtain ⟨kk, kb, kn, kt, kx, kc⟩ := kvOf HS6.out HPL.out
              have HKA := Lib.hid (keyAny HS6.out kc)
              rw [HON.out] at HKA
              have hkv : VY ⟨kk, kb, kn, kt, kx, none, 0, 0⟩ (s.part k (lev k).2.2 c'.a2) := ⟨rfl, rfl, rfl, by rw [← val_d3 HS6.out.fit hD]; have := kc.e; unfold CS.kval at this; rw [if_pos HON.out] at this; exact this, kc.f⟩
              have HKV := Lib.hid hkv
              clear hkv
              have HO : Hid (∀ W, Calls Tryz.prog 34 #[.int .i64 1, .agg #[.int .i64 y2.k, .bool y2.b, .int .i64 y2.n, .string y2.t, .string y2.x, .slice y2.p y2.len y2.cap], .agg #[.int .i64 kk, .bool kb, .int .i64 kn, .string kt, .string kx, .slice none 0 0]] W fun e w' => e = .returned (.int .i64 zz) ∧ Below W.heap.size W w') := Lib.hid fun W => by
                have hy : VY y2 (s.part k (lev k).2.2 c.a2) := HV2.out (by have := HDC.out; omega)
                have := ordRefIs y2 ⟨kk, kb, kn, kt, kx, none, 0, 0⟩ _ _ [] [] W (hy.is W) (kvIs kc W)
                rw [HZZ.out]
                unfold CS.kval at this
                rw [if_pos HON.out, ← val_d3 HCF.out (by have := HDC.out; omega)] at this
                exact this
              go_upto_region 21 with (first
                | (go_at_call 30; (with_reducible refine HKA.out.mono ?_); rintro e w7 ⟨rfl, hb7⟩)
                | ((with_reducible refine wpList_store6 (k' := kk) (b' := kb) (n' := kn) (t' := kt) (x' := kx) (p' := none) (len' := 0) (cap' := 0) (.tmp 13) (.tmp 87) w7.heap.size (six_new _ rfl) ?_ ?_ ?_ ?_ ?_); rfl; rfl; rfl; rfl; intro w8 hvw8 uw8))
              have z8 : Below w6.heap.size w6 w8 := hb7.trans ((below_only (below1 w7 _) hvw8 (Nat.le_refl _) (by simp) : Below w7.heap.size w7 w8).mono hb7.size)
              have HS8 := Lib.hid (HS6.out.bel z8)
              have HB8 : Hid (Below w3.heap.size w3 w8) := Lib.hid (HB6.out.trans (z8.mono HB6.out.size))
              have way8 : Way w8 b10 y0 y1 y2 := HWY.out.below z8
              have own8 := own_below HOWN.out z8
              have u8 := uw8
              have HDP : Hid (Calls Tryz.prog 33 #[.pointer (some ⟨g, 0, none⟩)] w8 fun e w' => e = .returned (.int .i64 3) ∧ w' = w8) := Lib.hid (by
                have := depthC HS8.out.at_.B
                rw [hD] at this
                exact this)
              have hs8 := z8.size
              have hsz7 := lt_of_heap HWY.out
              clear HKA hb7 hvw8 z8 uw8 HOWN HWY HS6
              go_upto_region 24 with (go_at_call 33; (with_reducible refine HDP.out.mono ?_); rintro e w8 ⟨rfl, rfl⟩)
              clear HDP
              have L0 : Below w8.heap.size w8 w8.drew := (Below.refl _ _).drew
              refine wp_region_held_drew (S := fun W => W.rangeAt b10 12 [.int .i64 y2.k, .bool y2.b, .int .i64 y2.n, .string y2.t, .string y2.x, .slice y2.p y2.len y2.cap] ∧ Six W w7.heap.size kk kb kn kt kx none 0 0) (by kernel_rfl) ⟨way8.r2, u8⟩ (fun hHeld => ?_)
              refine wpAnyH_take (i := 0) (v := .bool false) rfl (by kernel_rfl) (by kernel_rfl) (by kernel_rfl) (fun _ _ _ h => h) (Or.inl ⟨by rfl, fun W _ => by go_simp⟩) hHeld ?_
              try simp only [Act.put, List.getElem_toArray, List.getElem_cons_zero, List.setIfInBounds_toArray, List.set_cons_zero, List.set_cons_succ]
              refine wpAnyH_take (i := 1) (v := .bool true) rfl (by kernel_rfl) (by kernel_rfl) (by kernel_rfl) (fun _ _ _ h => h) (Or.inl ⟨by rfl, fun W _ => by go_simp⟩) hHeld ?_
              try simp only [Act.put, List.getElem_toArray, List.getElem_cons_succ, List.getElem_cons_zero, List.setIfInBounds_toArray, List.set_cons_zero, List.set_cons_succ]
              refine wpAnyH_take (i := 2) (v := .bool true) rfl (by kernel_rfl) (by kernel_rfl) (by kernel_rfl) (fun _ _ _ h => h) (Or.inl ⟨by rfl, fun W _ => by go_simp⟩) hHeld ?_
              try simp only [Act.put, List.getElem_toArray, List.getElem_cons_succ, List.getElem_cons_zero, List.setIfInBounds_toArray, List.set_cons_zero, List.set_cons_succ]
              refine wpAnyH_take (i := 3) (v := .int .i64 3) rfl (by kernel_rfl) (by kernel_rfl) (by kernel_rfl) (fun _ _ _ h => h) (Or.inl ⟨by rfl, fun W _ => by go_simp⟩) hHeld ?_
              try simp only [Act.put, List.getElem_toArray, List.getElem_cons_succ, List.getElem_cons_zero, List.setIfInBounds_toArray, List.set_cons_zero, List.set_cons_succ]
              refine wpAnyH_take (i := 4) (v := .int .i64 2) rfl (by kernel_rfl) (by kernel_rfl) (by kernel_rfl) (fun _ _ _ h => h) (Or.inl ⟨by rfl, fun W _ => by first | (go_simp; done) | (go_simp; rfl) | (go_simp; decide)⟩) hHeld ?_
              try simp only [Act.put, List.getElem_toArray, List.getElem_cons_succ, List.getElem_cons_zero, List.setIfInBounds_toArray, List.set_cons_zero, List.set_cons_succ]
              refine wpAnyH_take (i := 5) (v := .pointer (some ⟨b10, 12, none⟩)) rfl (by kernel_rfl) (by kernel_rfl) (by kernel_rfl) (fun _ _ _ h => h) (Or.inl ⟨by rfl, fun W _ => by go_simp⟩) hHeld ?_
              try simp only [Act.put, List.getElem_toArray, List.getElem_cons_succ, List.getElem_cons_zero, List.setIfInBounds_toArray, List.set_cons_zero, List.set_cons_succ]
              refine wpAnyH_take (i := 6) rfl (by kernel_rfl) (by kernel_rfl) (by kernel_rfl) (fun _ _ _ h => h) (yieldsIf_load_mid (by rfl) 39 (.tmp 106) rfl b10 12 rfl [.int .i64 y2.k, .bool y2.b, .int .i64 y2.n, .string y2.t, .string y2.x, .slice y2.p y2.len y2.cap] _ (fun W h => h.1) Tryz.underlying39 rfl info28) hHeld ?_
              try simp only [Act.put, List.getElem_toArray, List.getElem_cons_succ, List.getElem_cons_zero, List.setIfInBounds_toArray, List.set_cons_zero, List.set_cons_succ]
              refine wpAnyH_take (i := 7) rfl (by kernel_rfl) (by kernel_rfl) (by kernel_rfl) (fun _ _ _ h => h) (yieldsIf_load_mid (by rfl) 39 (.tmp 13) rfl w7.heap.size 0 rfl [.int .i64 kk, .bool kb, .int .i64 kn, .string kt, .string kx, .slice none 0 0] _ (fun W h => range6 h.2.c0 h.2.c1 h.2.c2 h.2.c3 h.2.c4 h.2.c5) Tryz.underlying39 rfl info28) hHeld ?_
              try simp only [Act.put, List.getElem_toArray, List.getElem_cons_succ, List.getElem_cons_zero, List.setIfInBounds_toArray, List.set_cons_zero, List.set_cons_succ]
              refine wpAnyH_ready (rs := [8]) (by kernel_rfl) (by simp) ?_
              refine AllReadyH.cons rfl (fun K hK => ?_) AllReadyH.nil
              rw [if_pos (by rfl)]
              go_simp
              refine (HO.out _).mono ?_
              rintro e0 w10 ⟨rfl, hb3⟩
              have z10 : Below w8.heap.size w8 w10 := L0.trans (hb3.mono L0.size)
              clear hb3 L0
              refine hK.out _ _ ⟨range_below way8.r2 z10, u8.below z10⟩ (fun hHeld2 => ?_)
              clear hK K hHeld
              try simp only [Act.put, List.getElem_toArray, List.getElem_cons_succ, List.getElem_cons_zero, List.setIfInBounds_toArray, List.set_cons_zero, List.set_cons_succ]
              refine wpAnyH_take (i := 9) (v := .bool false) rfl (by kernel_rfl) (by kernel_rfl) (by kernel_rfl) (fun _ _ _ h => h) (Or.inl ⟨by rfl, fun W _ => by go_simp⟩) hHeld2 ?_
              try simp only [Act.put, List.getElem_toArray, List.getElem_cons_succ, List.getElem_cons_zero, List.setIfInBounds_toArray, List.set_cons_zero, List.set_cons_succ]
              refine wpAnyH_take (i := 10) (v := .bool false) rfl (by kernel_rfl) (by kernel_rfl) (by kernel_rfl) (fun _ _ _ h => h) (Or.inl ⟨by rfl, fun W _ => by go_simp⟩) hHeld2 ?_
              try simp only [Act.put, List.getElem_toArray, List.getElem_cons_succ, List.getElem_cons_zero, List.setIfInBounds_toArray, List.set_cons_zero, List.set_cons_succ]
              refine wpAnyH_done (by kernel_rfl) ?_ _
              clear hHeld2
              have way10 : Way w10 b10 y0 y1 y2 := way8.below z10
              have hway : w10.heap[b10]? = some (.cells #[.int .i64 y0.k, .bool y0.b, .int .i64 y0.n, .string y0.t, .string y0.x, .slice y0.p y0.len y0.cap, .int .i64 y1.k, .bool y1.b, .int .i64 y1.n, .string y1.t, .string y1.x, .slice y1.p y1.len y1.cap, .int .i64 y2.k, .bool y2.b, .int .i64 y2.n, .string y2.t, .string y2.x, .slice y2.p y2.len y2.cap] 63) := way10
              have own10 := own_below own8 z10
              have hs10 := z10.size
              have u10 := u8.below z10
              have HS10 := Lib.hid (HS8.out.bel z10)
              have HB10 : Hid (Below w3.heap.size w3 w10) := Lib.hid (HB8.out.trans (z10.mono HB8.out.size))
              clear way8 own8 u8 HS8 HB8 z10 HO
              go_upto_region 28 with (first
                | ((with_reducible refine wpList_load6g (.tmp 13) w7.heap.size u10 ?_ ?_ ?_ ?_); rfl; rfl; rfl)
                | ((with_reducible refine wpList_storePart (.tmp 115) (.tmp 114) b10 12 ⟨kk, kb, kn, kt, kx, none, 0, 0⟩ hway rfl (by decide) ?_ ?_ ?_ ?_ ?_); rfl; rfl; rfl; rfl; intro w11 o11 hw11))
              obtain ⟨yn, hyn⟩ : ∃ yn : V6, yn = ⟨kk, kb, kn, kt, kx, none, 0, 0⟩ := ⟨_, rfl⟩
              have way11 : Way w11 b10 y0 y1 yn := by rw [hyn]; exact hw11
              have hs11 := o11.size
              have own11 := owns_only own10 o11 (by omega)
              have HS11 := Lib.hid (HS10.out.other o11 hb10 (by omega))
              have HB11 : Hid (Below w3.heap.size w3 w11) := Lib.hid (below_only HB10.out o11 hb10 HB10.out.size)
              clear hw11 own10 u10 HS10 HB10 o11 way10 hway
              rw [← hyn] at HKV
              clear hyn
              obtain ⟨T, hT0, hT1, hT2, hT⟩ := triLawAny k hk6 y0 y1 yn
              have HTR := Lib.hid hT
              have HTT := Lib.hid (And.intro hT0 (And.intro hT1 hT2))
              have cs11 : w11.cell? ⟨bs6, k, none⟩ = some (.string (onm k)) := (HB11.out.cell (p := ⟨bs6, k, none⟩) (World.block_lt_of_cell? _ _ (HSTR.out k hk6))).trans (HSTR.out k hk6)
              have L0 : Below w11.heap.size w11 w11.drew := (Below.refl _ _).drew
              have hL60 : L < n := by have := HGL.out; have := HEN.out; omega
              clear hT hT0 hT1 hT2
              refine wp_region_held_drew (S := fun W => Way W b10 y0 y1 yn ∧ W.cell? ⟨bs6, k, none⟩ = some (.string (onm k))) (by kernel_rfl) ⟨way11, cs11⟩ (fun hHeld => ?_)
              refine wpAnyH_take (i := 0) (v := V) rfl (by kernel_rfl) (by kernel_rfl) (by kernel_rfl) (fun _ _ _ h => h) (Or.inl ⟨by rfl, fun W _ => by go_simp⟩) hHeld ?_
              try simp only [Act.put, List.getElem_toArray, List.getElem_cons_zero, List.setIfInBounds_toArray, List.set_cons_zero, List.set_cons_succ]
              refine wpAnyH_take (i := 1) (v := .slice (some ⟨bs6, 0, none⟩) 6 6) rfl (by kernel_rfl) (by kernel_rfl) (by kernel_rfl) (fun _ _ _ h => h) (Or.inl ⟨by rfl, fun W _ => by go_simp⟩) hHeld ?_
              try simp only [Act.put, List.getElem_toArray, List.getElem_cons_succ, List.getElem_cons_zero, List.setIfInBounds_toArray, List.set_cons_zero, List.set_cons_succ]
              refine wpAnyH_take (i := 2) (v := .int .i64 k) rfl (by kernel_rfl) (by kernel_rfl) (by kernel_rfl) (fun _ _ _ h => h) (Or.inl ⟨by rfl, fun W _ => by go_simp⟩) hHeld ?_
              try simp only [Act.put, List.getElem_toArray, List.getElem_cons_succ, List.getElem_cons_zero, List.setIfInBounds_toArray, List.set_cons_zero, List.set_cons_succ]
              refine wpAnyH_take (i := 3) (v := .pointer (some ⟨bs6, k, none⟩)) rfl (by kernel_rfl) (by kernel_rfl) (by kernel_rfl) (fun _ _ _ h => h) (Or.inl ⟨by rfl, fun W _ => by go_simp⟩) hHeld ?_
              try simp only [Act.put, List.getElem_toArray, List.getElem_cons_succ, List.getElem_cons_zero, List.setIfInBounds_toArray, List.set_cons_zero, List.set_cons_succ]
              refine wpAnyH_take (i := 4) (v := .string (onm k)) rfl (by kernel_rfl) (by kernel_rfl) (by kernel_rfl) (fun _ _ _ h => h) (Or.inl ⟨by rfl, fun W h => by have c0 := h.2; go_simp⟩) hHeld ?_
              try simp only [Act.put, List.getElem_toArray, List.getElem_cons_succ, List.getElem_cons_zero, List.setIfInBounds_toArray, List.set_cons_zero, List.set_cons_succ]
              refine wpAnyH_take (i := 5) rfl (by kernel_rfl) (by kernel_rfl) (by kernel_rfl) (fun _ _ _ h => h) (yieldsIf_load_mid (by rfl) 63 (.tmp 10) rfl b10 0 rfl [.int .i64 y0.k, .bool y0.b, .int .i64 y0.n, .string y0.t, .string y0.x, .slice y0.p y0.len y0.cap, .int .i64 y1.k, .bool y1.b, .int .i64 y1.n, .string y1.t, .string y1.x, .slice y1.p y1.len y1.cap, .int .i64 yn.k, .bool yn.b, .int .i64 yn.n, .string yn.t, .string yn.x, .slice yn.p yn.len yn.cap] _ (fun W h => h.1.r18) Tryz.underlying63 rfl info63) hHeld ?_
              try simp only [Act.put, List.getElem_toArray, List.getElem_cons_succ, List.getElem_cons_zero, List.setIfInBounds_toArray, List.set_cons_zero, List.set_cons_succ]
              refine wpAnyH_ready (rs := [6]) (by kernel_rfl) (by simp) ?_
              refine AllReadyH.cons rfl (fun K hK => ?_) AllReadyH.nil
              rw [if_pos (by rfl)]
              go_simp
              refine (HTR.out _).mono ?_
              rintro e0 w12 ⟨rfl, hb3⟩
              have z12 : Below w11.heap.size w11 w12 := L0.trans (hb3.mono L0.size)
              have hH2 : _ ∧ _ := ⟨Way.below hHeld.1 hb3, (hb3.cell (p := ⟨bs6, k, none⟩) (World.block_lt_of_cell? _ _ hHeld.2)).trans hHeld.2⟩
              clear hb3 L0 hHeld
              refine hK.out _ _ hH2 (fun hH2 => ?_)
              clear hK K
              try simp only [Act.put, List.getElem_toArray, List.getElem_cons_succ, List.getElem_cons_zero, List.setIfInBounds_toArray, List.set_cons_zero, List.set_cons_succ]
              refine wpAnyH_ready (rs := [7]) (by kernel_rfl) (by simp) ?_
              refine AllReadyH.cons rfl (fun K hK => ?_) AllReadyH.nil
              (try rw [if_pos (by rfl)])
              go_simp
              have own12 := (own_below own11 z12).alloc (.cells #[.int .i64 (T 0).k, .bool (T 0).b, .int .i64 (T 0).n, .string (T 0).t, .string (T 0).x, .slice (T 0).p (T 0).len (T 0).cap, .int .i64 (T 1).k, .bool (T 1).b, .int .i64 (T 1).n, .string (T 1).t, .string (T 1).x, .slice (T 1).p (T 1).len (T 1).cap, .int .i64 (T 2).k, .bool (T 2).b, .int .i64 (T 2).n, .string (T 2).t, .string (T 2).x, .slice (T 2).p (T 2).len (T 2).cap] 41)
              have hge := z12.size
              have hH3 : _ ∧ _ := ⟨Way.below hH2.1 (below1 w12 (.cells #[.int .i64 (T 0).k, .bool (T 0).b, .int .i64 (T 0).n, .string (T 0).t, .string (T 0).x, .slice (T 0).p (T 0).len (T 0).cap, .int .i64 (T 1).k, .bool (T 1).b, .int .i64 (T 1).n, .string (T 1).t, .string (T 1).x, .slice (T 1).p (T 1).len (T 1).cap, .int .i64 (T 2).k, .bool (T 2).b, .int .i64 (T 2).n, .string (T 2).t, .string (T 2).x, .slice (T 2).p (T 2).len (T 2).cap] 41)), ((below1 w12 (.cells #[.int .i64 (T 0).k, .bool (T 0).b, .int .i64 (T 0).n, .string (T 0).t, .string (T 0).x, .slice (T 0).p (T 0).len (T 0).cap, .int .i64 (T 1).k, .bool (T 1).b, .int .i64 (T 1).n, .string (T 1).t, .string (T 1).x, .slice (T 1).p (T 1).len (T 1).cap, .int .i64 (T 2).k, .bool (T 2).b, .int .i64 (T 2).n, .string (T 2).t, .string (T 2).x, .slice (T 2).p (T 2).len (T 2).cap] 41)).cell (p := ⟨bs6, k, none⟩) (World.block_lt_of_cell? _ _ hH2.2)).trans hH2.2⟩
              refine hK.out _ _ hH3 (fun _ => ?_)
              clear hK K
              try simp only [Act.put, List.getElem_toArray, List.getElem_cons_succ, List.getElem_cons_zero, List.setIfInBounds_toArray, List.set_cons_zero, List.set_cons_succ]
              refine wpAnyH_ready (rs := [8]) (by kernel_rfl) (by simp) ?_
              refine AllReadyH.cons rfl (fun K hK => ?_) AllReadyH.nil
              refine step_append_lies _ (by rfl) _ _ _ (by rfl) base 41 i0 _ 18 240 Tryz.underlying22 hi41 hz0 hz1 hz2 rfl (by omega) V L (dd.flatMap VE.enc) (by rfl) own12 ⟨w12.heap.size, 0, none⟩ 1 1 [.int .i64 (T 0).k, .bool (T 0).b, .int .i64 (T 0).n, .string (T 0).t, .string (T 0).x, .slice (T 0).p (T 0).len (T 0).cap, .int .i64 (T 1).k, .bool (T 1).b, .int .i64 (T 1).n, .string (T 1).t, .string (T 1).x, .slice (T 1).p (T 1).len (T 1).cap, .int .i64 (T 2).k, .bool (T 2).b, .int .i64 (T 2).n, .string (T 2).t, .string (T 2).x, .slice (T 2).p (T 2).len (T 2).cap] (by rfl) (by rfl) (World.news_of_block (cs := #[.int .i64 (T 0).k, .bool (T 0).b, .int .i64 (T 0).n, .string (T 0).t, .string (T 0).x, .slice (T 0).p (T 0).len (T 0).cap, .int .i64 (T 1).k, .bool (T 1).b, .int .i64 (T 1).n, .string (T 1).t, .string (T 1).x, .slice (T 1).p (T 1).len (T 1).cap, .int .i64 (T 2).k, .bool (T 2).b, .int .i64 (T 2).n, .string (T 2).t, .string (T 2).x, .slice (T 2).p (T 2).len (T 2).cap]) (t := 41) (fr := (0, 0)) (by exact heap_new w12 _ rfl)) (by simp [Value.oneCell']) (by omega) (by unfold maxLen; omega) (by omega) (by have := own12.lt; simp; omega) (w12.heap.size + 1) (by simp) ?_
              intro gg cap' w13 hr hg3 hat hlt5
              have hneb : ∀ q, V.ownBlock = some q → base ≤ q := fun q hq => (own12.lt q hq).1
              have hH4 : _ ∧ _ := ⟨(hg3.block b10 (lt_of_heap hH3.1) (fun q => by have := hneb _ q.symm; omega)).trans hH3.1, (World.cell?_of_block (a := ⟨bs6, k, none⟩) (hg3.block bs6 (World.block_lt_of_cell? _ _ hH3.2) (fun q => by have := hneb _ q.symm; omega))).trans hH3.2⟩
              refine hK.out _ _ hH4 (fun _ => ?_)
              clear hK K
              try simp only [Act.put, List.getElem_toArray, List.getElem_cons_succ, List.getElem_cons_zero, List.setIfInBounds_toArray, List.set_cons_zero, List.set_cons_succ]
              refine wpAnyH_take (i := 9) (v := .slice (some ⟨gg, 0, none⟩) (L + 1) cap') rfl (by kernel_rfl) (by kernel_rfl) (by kernel_rfl) (fun _ _ _ h => h) (Or.inl ⟨by rfl, fun W _ => by go_simp⟩) hH4 ?_
              try simp only [Act.put, List.getElem_toArray, List.getElem_cons_succ, List.getElem_cons_zero, List.setIfInBounds_toArray, List.set_cons_zero, List.set_cons_succ]
              refine wpAnyH_done (by kernel_rfl) ?_ _
              have HWI : Hid (WI l s k n w3 g b10 base (.slice (some ⟨gg, 0, none⟩) (L + 1) cap') (L + 1) (st + 1) false c' w13) := Lib.hid (by
                have z13 : Below w11.heap.size w11 (w12.alloc (.cells #[.int .i64 (T 0).k, .bool (T 0).b, .int .i64 (T 0).n, .string (T 0).t, .string (T 0).x, .slice (T 0).p (T 0).len (T 0).cap, .int .i64 (T 1).k, .bool (T 1).b, .int .i64 (T 1).n, .string (T 1).t, .string (T 1).x, .slice (T 1).p (T 1).len (T 1).cap, .int .i64 (T 2).k, .bool (T 2).b, .int .i64 (T 2).n, .string (T 2).t, .string (T 2).x, .slice (T 2).p (T 2).len (T 2).cap] 41)) := z12.trans ((below1 w12 _).mono hge)
                have hsz := z13.size
                obtain ⟨t0, t1, t2⟩ := HTT.out
                have hS := HS11.out
                have hlf := leaf3 hS.fit hD (by have := HGL.out; have := HGA.out; omega)
                have ha2 := HGA.out
                refine ⟨hL60, ?_, .f3 _ _ hD (by omega) (by have := HGL.out; omega), (hS.bel z13).grown hg3 ?_, (HB11.out.trans (z13.mono HB11.out.size)).grown hg3 (by have := HB11.out.size; omega) ?_, ⟨_, _, _, hH4.1, fun _ => by rw [HGK.out]; exact HV0.out (by have := HGB.out; omega), fun _ => by rw [HGK1.out]; exact HV1.out HGB.out, fun _ => HKV.out⟩, ?_⟩
                · have := HCOST.out
                  have e : rk false c'.d = 5 := by rw [hD]; rfl
                  rw [hD] at this
                  have e2 : rk true 3 = 0 := rfl
                  omega
                · intro q hq
                  have := hneb q hq
                  omega
                · intro q hq
                  have := hneb q hq
                  omega
                · have v0 : VY y0 (s.part k (lev k).1 L) := by
                    have := HV0.out (by have := HGB.out; omega)
                    rw [← HGK.out, ← hlf.1, ha2] at this
                    exact this
                  have v1 : VY y1 (s.part k (lev k).2.1 L) := by
                    have := HV1.out HGB.out
                    rw [← HGK1.out, ← hlf.2, ha2] at this
                    exact this
                  have v2 : VY yn (s.part k (lev k).2.2 L) := by
                    have := HKV.out
                    rw [ha2] at this
                    exact this
                  have hall : ∀ v, v < 3 → VY (T v) (s.part k v L) := fun v hv => by
                    rcases lev_all k v hv with e | e | e
                    · rw [e, t0]; exact v0
                    · rw [e, t1]; exact v1
                    · rw [e, t2]; exact v2
                  obtain ⟨e0, x0, q0⟩ := (hall 0 (by omega)).ve
                  obtain ⟨e1, x1, q1⟩ := (hall 1 (by omega)).ve
                  obtain ⟨e2, x2, q2⟩ := (hall 2 (by omega)).ve
                  refine ⟨dd ++ [e0, e1, e2], ?_, ?_⟩
                  · rw [List.map_append, HDD.out, List.range_succ, List.map_append]
                    unfold flat
                    rw [List.flatMap_append]
                    congr 1
                    simp [SM.leaf, x0, x1, x2]
                    rfl
                  · rw [List.flatMap_append]
                    have e : [e0, e1, e2].flatMap VE.enc = [.int .i64 (T 0).k, .bool (T 0).b, .int .i64 (T 0).n, .string (T 0).t, .string (T 0).x, .slice (T 0).p (T 0).len (T 0).cap, .int .i64 (T 1).k, .bool (T 1).b, .int .i64 (T 1).n, .string (T 1).t, .string (T 1).x, .slice (T 1).p (T 1).len (T 1).cap, .int .i64 (T 2).k, .bool (T 2).b, .int .i64 (T 2).n, .string (T 2).t, .string (T 2).x, .slice (T 2).p (T 2).len (T 2).cap] := by
                      simp [q0, q1, q2]
                    rw [e]
                    exact hr)
              clear HS11 HB11 own11 way11 HKV hr hg3 hat hlt5 hneb hH4 hH3 hH2 own12 z12 HTR HTT cs11
              go_wp2_with fail
              go_roundg (8 * n + 3 - (st + 1))
              case measure => have := HCOST.out; omega
              case rel => exact ⟨_, L + 1, st + 1, false, c', rfl, by go_num, by first | rfl | (simp; done) | (go_num; done), Nat.le_refl _, HWI⟩
          · rw [← hc'] at hoff hrest hdd2
            have HNX : Hid (Calls Tryz.prog 26 #[.pointer (some ⟨g, 0, none⟩)] wr fun e w' => e = .returned (.bool false) ∧ Only g wr w' ∧ Cur w' g c') := Lib.hid (by
              have := nextC hS
              rw [← hc', hoff] at this
              exact this)
            have HS := Lib.hid hS
            have HBr := Lib.hid hB
            have HWr := Lib.hid hway
            have HOr := Lib.hid hown
            have HC' := Lib.hid hc'
            have HCO := Lib.hid hcost
            have HR := Lib.hid hrest
            have HDC : Hid (c'.d = c.d) := Lib.hid hdd2
            have HD1 := Lib.hid hd1
            clear hcon hoff hcost hstep hS hB hway hown hc' hcn hdd2 hd1 hc3 hrest
            go_upto_region 33 with (go_at_call 26; (with_reducible refine HNX.out.mono ?_); rintro e w6 ⟨rfl, o6, B6⟩)
            have HS6 : Hid (Stand w3 s w6 g c' k) := Lib.hid (by have := HS.out.next o6 (by rw [← HC'.out]; exact B6); rw [← HC'.out] at this; exact this)
            have HB6 : Hid (Below w3.heap.size w3 w6) := Lib.hid (below_only HBr.out o6 hgw HBr.out.size)
            have HWY : Hid (Way w6 b10 y0 y1 y2) := Lib.hid (HWr.out.only o6 (by omega))
            have HOWN := Lib.hid (owns_only HOr.out o6 (by omega))
            have HUP : Hid (Calls Tryz.prog 24 #[.pointer (some ⟨g, 0, none⟩)] w6 fun e w' => e = .returned (.bool true) ∧ Only g w6 w' ∧ Cur w' g c'.up) := Lib.hid (by
              have := upC HS6.out.at_.B HS6.out.fit.d3
              rw [decide_eq_true (by have := HDC.out; have := HD1.out; omega)] at this
              exact this)
            clear HNX HS HBr HWr HOr o6 B6
            rcases HR.out with ⟨h1, hL⟩ | ⟨h2, hud, hstp, hk0, hk1⟩
            · have HL := Lib.hid hL
              have H1 := Lib.hid h1
              clear hL h1 HR
              go_upto_region 34 with (first
                | (go_at_call 24; (with_reducible refine HUP.out.mono ?_); rintro e w10 ⟨rfl, o10, B10⟩
                   have HBX : Hid (Below w3.heap.size w3 w10) := Lib.hid (below_only HB6.out o10 hgw HB6.out.size)
                   have HSX := Lib.hid (HS6.out.upp o10 B10)
                   have HDE2 : Hid (Calls Tryz.prog 33 #[.pointer (some ⟨g, 0, none⟩)] w10 fun e w' => e = .returned (.int .i64 0) ∧ w' = w10) := Lib.hid (by
                     have h0 : c'.up.d = 0 := by rw [(up_is c').1, HDC.out, H1.out]
                     have := depthC B10
                     rw [h0] at this
                     exact this)
                   have HTA : Hid (Tris w10 V ((List.range n).map (s.leaf k))) := Lib.hid (tris_of_own _ dd (by rw [List.length_map, List.length_range, ← HL.out]; exact owns_only HOWN.out o10 (by omega)) (by rw [HDD.out, HL.out]))
                   clear HUP o10 B10)
                | (go_at_call 33; (with_reducible refine HDE2.out.mono ?_); rintro e w10 ⟨rfl, rfl⟩))
              have HALL := Lib.hid (allAt sp s pv pr cv cr pp cc w10 (HSI.out.below HBX.out) HOK.out HPL.out (by have := HNR.out; omega))
              clear HSX
              go_wp2_with (first
                | (go_at_call 15; (with_reducible refine HALL.out.mono ?_); rintro e w14 ⟨VB, rfl, hVB, hb14, _⟩
                   have HON14 := Lib.hid (onceWalk HLO.out HPL.out k n hk6 HNK.out (by have := HN60.out; omega) V VB w14 (HTA.out.below hb14) hVB)
                   have HB14 : Hid (Below w3.heap.size w3 w14) := Lib.hid (HBX.out.trans (hb14.mono HBX.out.size))
                   clear hVB hb14 HALL)
                | (go_at_call 36; (with_reducible refine HON14.out.mono ?_); rintro e w15 ⟨rfl, hb15⟩
                   have HB15 : Hid (Below w3.heap.size w3 w15) := Lib.hid (HB14.out.trans (hb15.mono HB14.out.size))
                   clear hb15 HON14))
              go_roundg (6 - (k + 1))
              case measure => omega
              case rel => exact ⟨k + 1, by go_num, by omega, Nat.le_refl _, HB15⟩
            · have hc23 : c'.up.d = 1 ∨ c'.up.d = 2 := by have := HCF.out.d3; omega
              have HUD := Lib.hid (And.intro hud (And.intro hstp (And.intro hk0 (And.intro hk1 h2))))
              clear hud hstp hk0 hk1 HR h2
              rcases hc23 with hc2 | hc2
              · have HC2 := Lib.hid hc2
                clear hc2
                go_wp2_with (first
                  | (go_at_call 24; (with_reducible refine HUP.out.mono ?_); rintro e w10 ⟨rfl, o10, B10⟩
                     have HDE2 : Hid (Calls Tryz.prog 33 #[.pointer (some ⟨g, 0, none⟩)] w10 fun e w' => e = .returned (.int .i64 1) ∧ w' = w10) := Lib.hid (by
                       have := depthC B10
                       rw [HC2.out] at this
                       exact this)
                     have HWI : Hid (WI l s k n w3 g b10 base V L (st + 1) false c'.up w10) := Lib.hid (by
                       obtain ⟨hud, hstp, hk0, hk1, h2⟩ := HUD.out
                       refine ⟨hln, ?_, hstp, HS6.out.upp o10 B10, below_only HB6.out o10 hgw HB6.out.size, ⟨y0, y1, y2, HWY.out.only o10 (by omega), fun q => by rw [hk0 q]; exact HV0.out (by omega), fun q => by rw [hk1 q]; exact HV1.out (by omega), fun q => absurd q (by have := HCF.out.d3; omega)⟩, dd, HDD.out, owns_only HOWN.out o10 (by omega)⟩
                       have e1 : rk false c'.up.d = 2 + c'.up.d := rfl
                       have e2 : rk false c.d = 2 + c.d := rfl
                       have := HCO.out
                       omega)
                     clear HUP o10 B10)
                  | (go_at_call 33; (with_reducible refine HDE2.out.mono ?_); rintro e w10 ⟨rfl, rfl⟩))
                go_roundg (8 * n + 3 - (st + 1))
                case measure => (have := HCO.out; have e2 : rk false c.d = 2 + c.d := rfl; omega)
                case rel => exact ⟨V, L, st + 1, false, c'.up, rfl, by go_num, rfl, Nat.le_refl _, HWI⟩
              · have HC2 := Lib.hid hc2
                clear hc2
                go_wp2_with (first
                  | (go_at_call 24; (with_reducible refine HUP.out.mono ?_); rintro e w10 ⟨rfl, o10, B10⟩
                     have HDE2 : Hid (Calls Tryz.prog 33 #[.pointer (some ⟨g, 0, none⟩)] w10 fun e w' => e = .returned (.int .i64 2) ∧ w' = w10) := Lib.hid (by
                       have := depthC B10
                       rw [HC2.out] at this
                       exact this)
                     have HWI : Hid (WI l s k n w3 g b10 base V L (st + 1) false c'.up w10) := Lib.hid (by
                       obtain ⟨hud, hstp, hk0, hk1, h2⟩ := HUD.out
                       refine ⟨hln, ?_, hstp, HS6.out.upp o10 B10, below_only HB6.out o10 hgw HB6.out.size, ⟨y0, y1, y2, HWY.out.only o10 (by omega), fun q => by rw [hk0 q]; exact HV0.out (by omega), fun q => by rw [hk1 q]; exact HV1.out (by omega), fun q => absurd q (by have := HCF.out.d3; omega)⟩, dd, HDD.out, owns_only HOWN.out o10 (by omega)⟩
                       have e1 : rk false c'.up.d = 2 + c'.up.d := rfl
                       have e2 : rk false c.d = 2 + c.d := rfl
                       have := HCO.out
                       omega)
                     clear HUP o10 B10)
                  | (go_at_call 33; (with_reducible refine HDE2.out.mono ?_); rintro e w10 ⟨rfl, rfl⟩))
                go_roundg (8 * n + 3 - (st + 1))
                case measure => (have := HCO.out; have e2 : rk false c.d = 2 + c.d := rfl; omega)
                case rel => exact ⟨V, L, st + 1, false, c'.up, rfl, by go_num, rfl, Nat.le_refl _, HWI⟩
    · have hk6i : ¬ (k : Int) < 6 := by omega
      have hwk := wakesC wr (HG3.out.below HB.out) (HT3.out.below HB.out)
      have HWK := Lib.hid hwk
      clear hwk
      go_wp2_with (go_at_call 8; (with_reducible refine HWK.out.mono ?_); rintro e w9 ⟨rfl, hb9⟩)
      go_ret
      exact ⟨rfl, HB3.out.trans ((HB.out.trans (hb9.mono HB.out.size)).mono HB3.out.size)⟩
end Go.Proofs.YtanbgdhmfjgihaaGreatDoor
