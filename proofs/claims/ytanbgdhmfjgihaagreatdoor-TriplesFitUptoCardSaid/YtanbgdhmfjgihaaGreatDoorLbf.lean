/- Texts of one kind, one behind the other: each says ahead of itself what it shows. -/
import Derived.Test.YtanbgdhmfjgihaaGreatDoorLbe
import Derived.Test.YtanbgdhmfjgihaaGreatDoorLax
/- What the law TriplesFit does where the triples may be. -/
namespace Go.Proofs.YtanbgdhmfjgihaaGreatDoor
open Go.RowKit

theorem varIs (t : ByteArray) (ht : t.size ≤ 2097152) (W : World) : Is W ⟨0, false, 0, t, ⟨#[]⟩, none, 0, 0⟩ (.mk 0 false 0 t ⟨#[]⟩ []) [] := ⟨rfl, rfl, ⟨ht, (by decide : (⟨#[]⟩ : ByteArray).size ≤ 2097152), Nat.zero_le _, (by decide : (-9223372036854775808 : Int) ≤ 0), (by decide : (0 : Int) ≤ 9223372036854775807)⟩, ⟨none, 0, rfl⟩⟩
theorem range_a {W : World} {g o : Nat} {a b c : V6} (h : W.rangeAt g o [.int .i64 a.k, .bool a.b, .int .i64 a.n, .string a.t, .string a.x, .slice a.p a.len a.cap, .int .i64 b.k, .bool b.b, .int .i64 b.n, .string b.t, .string b.x, .slice b.p b.len b.cap, .int .i64 c.k, .bool c.b, .int .i64 c.n, .string c.t, .string c.x, .slice c.p c.len c.cap]) : W.rangeAt g o [.int .i64 a.k, .bool a.b, .int .i64 a.n, .string a.t, .string a.x, .slice a.p a.len a.cap] := fun i v hv => by
  match i, hv with
  | 0, e => exact h 0 v e
  | 1, e => exact h 1 v e
  | 2, e => exact h 2 v e
  | 3, e => exact h 3 v e
  | 4, e => exact h 4 v e
  | 5, e => exact h 5 v e
  | i + 6, e => simp at e
theorem range_c {W : World} {g o : Nat} {a b c : V6} (h : W.rangeAt g o [.int .i64 a.k, .bool a.b, .int .i64 a.n, .string a.t, .string a.x, .slice a.p a.len a.cap, .int .i64 b.k, .bool b.b, .int .i64 b.n, .string b.t, .string b.x, .slice b.p b.len b.cap, .int .i64 c.k, .bool c.b, .int .i64 c.n, .string c.t, .string c.x, .slice c.p c.len c.cap]) : W.rangeAt g (o + 12) [.int .i64 c.k, .bool c.b, .int .i64 c.n, .string c.t, .string c.x, .slice c.p c.len c.cap] := fun i v hv => by
  match i, hv with
  | 0, e => exact h 12 v e
  | 1, e => have := h 13 v e; rwa [Nat.add_assoc]
  | 2, e => have := h 14 v e; rwa [Nat.add_assoc]
  | 3, e => have := h 15 v e; rwa [Nat.add_assoc]
  | 4, e => have := h 16 v e; rwa [Nat.add_assoc]
  | 5, e => have := h 17 v e; rwa [Nat.add_assoc]
  | i + 6, e => simp at e
theorem bne_cast (a b : Nat) : ((a : Int) != (b : Int)) = !decide (a = b) := by
  by_cases h : a = b
  · subst h
    simp
  · have h2 : ¬ (a : Int) = b := by omega
    simp [h, h2]
theorem kd_ne {W : World} {v : V6} {u : Val} {q : List Val} (h : Is W v u q) (hp : objP (kd u) = true) : v.k ≠ 0 := fun e => by
  rw [h.e] at hp
  unfold kd at hp
  simp only at hp
  rw [e] at hp
  revert hp
  decide
theorem all_chk {l : List Tri3} {s : SM} (hl : Loaded l s) (hok : ∀ t ∈ l, t3Chk t = true) {t : Tri3} (ht : t ∈ s.all) : t3Chk t = true := by
  obtain ⟨r, hr, rfl⟩ := List.mem_map.1 ht
  obtain ⟨t, h1, a1, a2, a3⟩ := hl.row r hr
  unfold SM.tri
  rw [a1, a2, a3]
  exact hok t h1
theorem chk_s {t : Tri3} (h : t3Chk t = true) : objP (kd t.s) = true := by
  unfold t3Chk at h
  simp only [Bool.and_eq_true] at h
  obtain ⟨⟨⟨⟨⟨h1, _⟩, _⟩, _⟩, _⟩, _⟩ := h
  unfold subjP at h1
  unfold objP
  simp only [Bool.or_eq_true] at h1 ⊢
  rcases h1 with h | h <;> simp [h]
theorem chk_p {t : Tri3} (h : t3Chk t = true) : objP (kd t.p) = true := by
  unfold t3Chk at h
  simp only [Bool.and_eq_true] at h
  obtain ⟨⟨⟨⟨⟨_, h2⟩, _⟩, _⟩, _⟩, _⟩ := h
  unfold predP at h2
  unfold objP
  simp [h2]
theorem chk_o {t : Tri3} (h : t3Chk t = true) : objP (kd t.o) = true := by
  unfold t3Chk at h
  simp only [Bool.and_eq_true] at h
  exact h.1.1.1.2
set_option maxHeartbeats 12800000 in
set_option maxRecDepth 20000 in
theorem fitGood (l : List Tri3) (p0 : Option Addr) (cap : Nat) (P0 O0 D0 : Value) (w : World) (hG : Gd w) (hT : Tab w) (hl : Tris w (.slice p0 l.length cap) l) (hn : l.length ≤ 60) (hgood : ∀ t ∈ l, t3Chk t = true) :
    Calls Tryz.prog 7 #[.agg #[.slice p0 l.length cap, P0, O0, D0]] w fun e w' => e = .returned (.bool true) ∧ Below w.heap.size w w' := by
  obtain ⟨W1, hW1⟩ : ∃ W1, W1 = w.alloc (.cells #[.slice p0 l.length cap, P0, O0, D0] 26) := ⟨_, rfl⟩
  have b1 : Below w.heap.size w W1 := by rw [hW1]; exact below1 _ _
  have c0 : W1.cell? ⟨w.heap.size, 0, none⟩ = some (.slice p0 l.length cap) := by rw [hW1]; exact cell_of (heap_new _ _ rfl) 0 rfl
  have hld := (loadAt _ l W1 (hG.below b1) (hT.below b1) (hl.below b1) (by omega)).mono fun e w' h => h.1 hgood
  have hni : ¬ (60 : Int) < l.length := by omega
  have HLD := Lib.hid hld
  have HG := Lib.hid (hG.below b1)
  have HT := Lib.hid (hT.below b1)
  have HB1 := Lib.hid b1
  have HGOOD := Lib.hid hgood
  have HW := Lib.hid hW1
  have HNL := Lib.hid hn
  have hs1 := b1.size
  clear hW1 hld hG hT hl b1 hgood hn
  go_enter Tryz.func7, Tryz.ntmps7
  go_upto_region 1 with fail
  rw [← HW.out]
  go_upto_region 4 with (go_at_call 10; (with_reducible refine HLD.out.mono ?_); rintro e w2 ⟨sp, s, rfl, hin, hlo, hb2⟩)
  obtain ⟨pv, pr, cv, cr, pp, cc, hsi, _, _, _, _, hcc⟩ := hin
  have hs2 := hb2.size
  have sto : Sto w2 sp l s := ⟨HG.out.below hb2, HT.out.below hb2, by have := HNL.out; omega, hlo, HGOOD.out, pv, pr, cv, cr, pp, cc, hsi, hcc⟩
  have STO := Lib.hid sto
  have HB2 : Hid (Below w.heap.size w w2) := Lib.hid (HB1.out.trans (hb2.mono hs1))
  have HWK := Lib.hid (fun W (hb : Below w2.heap.size w2 W) => wakesC W (sto.g.below hb) (sto.t.below hb))
  have HALL := Lib.hid (allS sto)
  have hnn60 : s.all.length ≤ 60 := by
    have := hlo.nr
    have := HNL.out
    unfold SM.all
    rw [List.length_map]
    omega
  have HF1 : Hid (∀ W, Below w2.heap.size w2 W → Calls Tryz.prog 17 #[.pointer (some ⟨sp, 0, none⟩), .agg #[.int .i64 0, .bool false, .int .i64 0, .string ⟨#[115]⟩, .string ⟨#[]⟩, .slice none 0 0, .int .i64 0, .bool false, .int .i64 0, .string ⟨#[112]⟩, .string ⟨#[]⟩, .slice none 0 0, .int .i64 0, .bool false, .int .i64 0, .string ⟨#[111]⟩, .string ⟨#[]⟩, .slice none 0 0]] W (MatchPost W s.all)) := Lib.hid fun W hb => by
    have := matchS (sto.below hb) ⟨0, false, 0, ⟨#[115]⟩, ⟨#[]⟩, none, 0, 0⟩ ⟨0, false, 0, ⟨#[112]⟩, ⟨#[]⟩, none, 0, 0⟩ ⟨0, false, 0, ⟨#[111]⟩, ⟨#[]⟩, none, 0, 0⟩ (.mk 0 false 0 ⟨#[115]⟩ ⟨#[]⟩ []) (.mk 0 false 0 ⟨#[112]⟩ ⟨#[]⟩ []) (.mk 0 false 0 ⟨#[111]⟩ ⟨#[]⟩ []) [] [] [] (varIs ⟨#[115]⟩ (by decide) W) (varIs ⟨#[112]⟩ (by decide) W) (varIs ⟨#[111]⟩ (by decide) W)
    rwa [fit_free s _ _ _ _ _ _ rfl rfl rfl (fun r => by unfold jnB joinP pairOk twice; simp [toList_eq])] at this
  have HF2 : Hid (∀ W, Below w2.heap.size w2 W → Calls Tryz.prog 17 #[.pointer (some ⟨sp, 0, none⟩), .agg #[.int .i64 0, .bool false, .int .i64 0, .string ⟨#[]⟩, .string ⟨#[]⟩, .slice none 0 0, .int .i64 0, .bool false, .int .i64 0, .string ⟨#[]⟩, .string ⟨#[]⟩, .slice none 0 0, .int .i64 0, .bool false, .int .i64 0, .string ⟨#[]⟩, .string ⟨#[]⟩, .slice none 0 0]] W (MatchPost W s.all)) := Lib.hid fun W hb => by
    have := matchS (sto.below hb) ⟨0, false, 0, ⟨#[]⟩, ⟨#[]⟩, none, 0, 0⟩ ⟨0, false, 0, ⟨#[]⟩, ⟨#[]⟩, none, 0, 0⟩ ⟨0, false, 0, ⟨#[]⟩, ⟨#[]⟩, none, 0, 0⟩ (.mk 0 false 0 ⟨#[]⟩ ⟨#[]⟩ []) (.mk 0 false 0 ⟨#[]⟩ ⟨#[]⟩ []) (.mk 0 false 0 ⟨#[]⟩ ⟨#[]⟩ []) [] [] [] (varIs ⟨#[]⟩ (by decide) W) (varIs ⟨#[]⟩ (by decide) W) (varIs ⟨#[]⟩ (by decide) W)
    rwa [fit_free s _ _ _ _ _ _ rfl rfl rfl (fun r => by unfold jnB joinP pairOk twice; simp [toList_eq])] at this
  have HF4 : Hid (∀ W, Below w2.heap.size w2 W → Calls Tryz.prog 17 #[.pointer (some ⟨sp, 0, none⟩), .agg #[.int .i64 0, .bool false, .int .i64 0, .string ⟨#[120]⟩, .string ⟨#[]⟩, .slice none 0 0, .int .i64 0, .bool false, .int .i64 0, .string ⟨#[112]⟩, .string ⟨#[]⟩, .slice none 0 0, .int .i64 0, .bool false, .int .i64 0, .string ⟨#[120]⟩, .string ⟨#[]⟩, .slice none 0 0]] W fun e w' => ∃ L T, e = .returned L ∧ Tris w' L T ∧ T.length = (s.all.filter fun t => sameP t.s t.o).length ∧ Below W.heap.size W w') := Lib.hid fun W hb => by
    have h := matchS (sto.below hb) ⟨0, false, 0, ⟨#[120]⟩, ⟨#[]⟩, none, 0, 0⟩ ⟨0, false, 0, ⟨#[112]⟩, ⟨#[]⟩, none, 0, 0⟩ ⟨0, false, 0, ⟨#[120]⟩, ⟨#[]⟩, none, 0, 0⟩ (.mk 0 false 0 ⟨#[120]⟩ ⟨#[]⟩ []) (.mk 0 false 0 ⟨#[112]⟩ ⟨#[]⟩ []) (.mk 0 false 0 ⟨#[120]⟩ ⟨#[]⟩ []) [] [] [] (varIs ⟨#[120]⟩ (by decide) W) (varIs ⟨#[112]⟩ (by decide) W) (varIs ⟨#[120]⟩ (by decide) W)
    have e := fit_x hlo HGOOD.out (by have := HNL.out; omega) ⟨0, false, 0, ⟨#[120]⟩, ⟨#[]⟩, none, 0, 0⟩ ⟨0, false, 0, ⟨#[112]⟩, ⟨#[]⟩, none, 0, 0⟩ ⟨0, false, 0, ⟨#[120]⟩, ⟨#[]⟩, none, 0, 0⟩ (.mk 0 false 0 ⟨#[120]⟩ ⟨#[]⟩ []) (.mk 0 false 0 ⟨#[112]⟩ ⟨#[]⟩ []) (.mk 0 false 0 ⟨#[120]⟩ ⟨#[]⟩ []) rfl rfl rfl (fun r => by unfold jnB joinP pairOk twice; simp [toList_eq]; exact bne_cast _ _)
    refine h.mono fun e9 w9 ⟨L, h1, h2, h3, _⟩ => ⟨L, _, h1, h2, e, h3⟩
  clear hsi hlo hcc sto hb2 c0
  go_upto_region 7 with (go_at_call 15; (with_reducible refine HALL.out.mono ?_); rintro e w3 ⟨VA, rfl, hta, hb3, _⟩)
  have HTA := Lib.hid hta
  have HB3 := Lib.hid hb3
  have EQ := Lib.hid (fun W (L : Value) (hL : Tris W L s.all) (hb : Below w3.heap.size w3 W) => eqTrisAt s.all s.all L VA W hL (hta.below hb) (by omega))
  have hs3 := hb3.size
  clear hta hb3
  go_upto_region 8 with (go_at_call 17; (with_reducible refine (HF1.out _ HB3.out).mono ?_); rintro e w4 ⟨VF, rfl, htf, hb4, _⟩)
  have HTF := Lib.hid htf
  have HB4 := Lib.hid hb4
  have HE1 := Lib.hid (EQ.out w4 VF htf hb4)
  rw [beq_self_eq_true, Bool.true_and, triEach_refl] at HE1
  have hs4 := hb4.size
  clear htf hb4
  go_upto_region 10 with (first
    | (go_at_call 12; (with_reducible refine HE1.out.mono ?_); rintro e w5 ⟨rfl, hb5⟩; have HB5 := Lib.hid (HB4.out.trans (hb5.mono hs4)); clear hb5)
    | (go_at_call 17; (with_reducible refine (HF2.out _ (HB3.out.trans (HB5.out.mono hs3))).mono ?_); rintro e w6 ⟨VG, rfl, htg, hb6, _⟩; have HB6 := Lib.hid (HB5.out.trans (hb6.mono HB5.out.size)); have HE2 := Lib.hid (EQ.out w6 VG htg HB6.out); rw [beq_self_eq_true, Bool.true_and, triEach_refl] at HE2; clear hb6 htg)
    | (go_at_call 12; (with_reducible refine HE2.out.mono ?_); rintro e w7 ⟨rfl, hb7⟩; have HB7 := Lib.hid (HB6.out.trans (hb7.mono HB6.out.size)); clear hb7))
  have HB7' : Hid (Below w3.heap.size w3 w7) := HB7
  obtain ⟨pA, cA, rfl⟩ := tris_len HTA.out
  obtain ⟨nn, hnn⟩ : ∃ nn, nn = s.all.length := ⟨_, rfl⟩
  rw [← hnn] at hnn60 HTA ⊢
  have HNN := Lib.hid hnn
  clear hnn HF1 HF2 HTF HE1 HE2 EQ hs4 HB4 HB5 HB6
  go_wp2_with fail
  go_loopg [7] nn (fun gg s7 wr => ∃ i : Nat, i + gg = nn ∧ s7 = .int .i64 i ∧ Hid (Below w3.heap.size w3 wr))
  case atStart => exact ⟨0, by omega, rfl, HB7⟩
  case round =>
    clear HB7 HB7'
    obtain ⟨i, hig, rfl, HBr⟩ := hrel
    by_cases hlt : (i : Int) < nn
    · by_cases h6 : (i : Int) < 6
      · have hi1 : i < s.all.length := by have := HNN.out; omega
        obtain ⟨gA, oA, rfl, hh⟩ : ∃ g off, pA = some ⟨g, off, none⟩ ∧ Holds w3 g off (flat s.all) := by
          obtain ⟨p1, c1, e, h1⟩ := HTA.out
          obtain ⟨g, off, e2, h2⟩ := h1 (by intro e; rw [e] at hi1; exact absurd hi1 (by simp))
          injection e with e3 _ _
          exact ⟨g, off, by rw [e3]; exact e2, h2⟩
        have HH := Lib.hid hh
        obtain ⟨vs, vp, vo, q0, q1, q2, is, ip, io, ra3⟩ := trisAt hh i hi1
        have ra := range_below ra3 HBr.out
        clear ra3
        have hmem : s.all[i] ∈ s.all := List.getElem_mem hi1
        obtain ⟨t, ht⟩ : ∃ t, t = s.all[i] := ⟨_, rfl⟩
        rw [← ht] at is ip io hmem
        have hst := STO.out
        have hchk : t3Chk t = true := all_chk hst.ld hst.ok hmem
        have k0 := kd_ne is (chk_s hchk)
        have k1 := kd_ne ip (chk_p hchk)
        have k2 := kd_ne io (chk_o hchk)
        have HCT : Hid (∀ W, Below w3.heap.size w3 W → Calls Tryz.prog 19 #[.pointer (some ⟨sp, 0, none⟩), .agg #[.int .i64 vs.k, .bool vs.b, .int .i64 vs.n, .string vs.t, .string vs.x, .slice vs.p vs.len vs.cap, .int .i64 vp.k, .bool vp.b, .int .i64 vp.n, .string vp.t, .string vp.x, .slice vp.p vp.len vp.cap, .int .i64 vo.k, .bool vo.b, .int .i64 vo.n, .string vo.t, .string vo.x, .slice vo.p vo.len vo.cap]] W fun e w' => e = .returned (.int .i64 1) ∧ Below W.heap.size W w') := Lib.hid fun W hb => by
          have := countS (hst.below (HB3.out.trans (hb.mono hs3))) vs vp vo t.s t.p t.o q0 q1 q2 (is.below hb) (ip.below hb) (io.below hb)
          rwa [fit_one hst.ld hst.ok hst.n vs vp vo k0 k1 k2 hmem] at this
        have HF3 : Hid (∀ W, Below w3.heap.size w3 W → Calls Tryz.prog 17 #[.pointer (some ⟨sp, 0, none⟩), .agg #[.int .i64 vs.k, .bool vs.b, .int .i64 vs.n, .string vs.t, .string vs.x, .slice vs.p vs.len vs.cap, .int .i64 0, .bool false, .int .i64 0, .string ⟨#[]⟩, .string ⟨#[]⟩, .slice none 0 0, .int .i64 0, .bool false, .int .i64 0, .string ⟨#[120]⟩, .string ⟨#[]⟩, .slice none 0 0]] W (MatchPost W (s.all.filter fun t' => sameP t'.s t.s))) := Lib.hid fun W hb => by
          have := matchS (hst.below (HB3.out.trans (hb.mono hs3))) vs ⟨0, false, 0, ⟨#[]⟩, ⟨#[]⟩, none, 0, 0⟩ ⟨0, false, 0, ⟨#[120]⟩, ⟨#[]⟩, none, 0, 0⟩ t.s (.mk 0 false 0 ⟨#[]⟩ ⟨#[]⟩ []) (.mk 0 false 0 ⟨#[120]⟩ ⟨#[]⟩ []) q0 [] [] (is.below hb) (varIs ⟨#[]⟩ (by decide) W) (varIs ⟨#[120]⟩ (by decide) W)
          rwa [fit_s s _ _ _ _ _ _ k0 rfl rfl (fun r => by unfold jnB joinP pairOk twice; simp [toList_eq, k0])] at this
        have HIS := Lib.hid is
        clear is ip io hh hst hmem hchk k0 k1 k2 ht
        go_upto_region 14 with (first
          | ((with_reducible refine wpList_load18 (.tmp 65) gA (oA + i * 18) vs vp vo ra ?_ ?_ ?_ ?_); rfl; rfl; rfl)
          | ((with_reducible refine wpList_store18 (.tmp 8) (.tmp 66) wr.heap.size vs vp vo (heap_new _ _ rfl) rfl ?_ ?_ ?_ ?_ ?_); rfl; rfl; rfl; rfl; intro w5 ho5 B5))
        have z5 : Below wr.heap.size wr w5 := below_only (below1 wr _) ho5 (Nat.le_refl _) (by simp)
        have X5 : Below w3.heap.size w3 w5 := HBr.out.trans (z5.mono HBr.out.size)
        have HX5 := Lib.hid X5
        clear ho5 ra z5 X5
        generalize wr.heap.size = b5 at *
        have r0 := B5.r0
        have r1 := B5.r1
        have r2 := B5.r2
        go_upto_region 16 with (first
          | ((with_reducible refine wpList_mid6 (.tmp 68) b5 0 vs r0 ?_ ?_ ?_ ?_); rfl; rfl; rfl)
          | ((with_reducible refine wpList_mid6 (.tmp 70) b5 6 vp r1 ?_ ?_ ?_ ?_); rfl; rfl; rfl)
          | ((with_reducible refine wpList_mid6 (.tmp 72) b5 12 vo r2 ?_ ?_ ?_ ?_); rfl; rfl; rfl)
          | (go_at_call 19; (with_reducible refine (HCT.out _ HX5.out).mono ?_); rintro e w6 ⟨rfl, hb6⟩))
        have HX6 := Lib.hid (HX5.out.trans (hb6.mono HX5.out.size))
        have B6 := B5.below hb6
        have HB6 := Lib.hid B6
        have r0' := B6.r0
        clear hb6 r0 r1 r2 B5
        go_upto_region 17 with (first
          | ((with_reducible refine wpList_mid6 (.tmp 78) b5 0 vs r0' ?_ ?_ ?_ ?_); rfl; rfl; rfl)
          | (go_at_call 17; (with_reducible refine (HF3.out _ HX6.out).mono ?_); rintro e w7 ⟨VM, rfl, htm, hb7, _⟩))
        obtain ⟨pM, cM, rfl⟩ := tris_len htm
        obtain ⟨mm, hmm⟩ : ∃ mm, mm = (s.all.filter fun t' => sameP t'.s t.s).length := ⟨_, rfl⟩
        rw [← hmm] at htm ⊢
        have HX7 := Lib.hid (HX6.out.trans (hb7.mono HX6.out.size))
        have HB7 := Lib.hid (HB6.out.below hb7)
        have HTM := Lib.hid htm
        have HMM := Lib.hid hmm
        have hmn : mm ≤ 60 := by rw [hmm]; have := List.length_filter_le (fun t' : Tri3 => sameP t'.s t.s) s.all; have := HNN.out; omega
        clear hb7 htm hmm B6 r0' HCT HF3
        go_wp2_with fail
        go_loopg [10, 11] nn (fun gg s10 s11 wq => ∃ k n : Nat, k + gg = nn ∧ s11 = .int .i64 k ∧ s10 = .int .i64 n ∧ Hid (n = ((s.all.take k).filter fun t' => sameP t'.s t.s).length) ∧ Hid (Below w7.heap.size w7 wq))
        case atStart => exact ⟨0, 0, by omega, rfl, rfl, Lib.hid rfl, Lib.hid (Below.refl _ _)⟩
        case round =>
          obtain ⟨k, n, hkg, rfl, rfl, HNK, HBq⟩ := hrel
          have hn60 : n ≤ 60 := by
            rw [HNK.out]
            refine Nat.le_trans (List.length_filter_le _ _) ?_
            rw [List.length_take]
            have := HNN.out
            omega
          by_cases hlk : (k : Int) < nn
          · have hk1 : k < s.all.length := by have := HNN.out; omega
            have hk2 : k < nn := by omega
            have L7 : Below w3.heap.size w3 wr := HX7.out.trans (HBq.out.mono HX7.out.size)
            obtain ⟨a, a1, a2, p0, p1, p2, ia, ia1, ia2, rb⟩ := trisAt (Holds.below _ HH.out L7) k hk1
            have BX := HB7.out.below HBq.out
            have HIq := HIS.out.below L7
            obtain ⟨r, hr⟩ : ∃ r, r = sameP s.all[k].s t.s := ⟨_, rfl⟩
            have HC : Hid (∀ W, Below wr.heap.size wr W → Calls Tryz.prog 32 #[.agg #[.int .i64 a.k, .bool a.b, .int .i64 a.n, .string a.t, .string a.x, .slice a.p a.len a.cap], .agg #[.int .i64 vs.k, .bool vs.b, .int .i64 vs.n, .string vs.t, .string vs.x, .slice vs.p vs.len vs.cap]] W fun e w' => e = .returned (.bool r) ∧ Below W.heap.size W w') := Lib.hid fun W hb => by
              rw [hr]
              exact sameIs a vs _ _ _ _ W (ia.below hb) (HIq.below hb)
            have L0 : Below wr.heap.size wr wr.drew := (Below.refl _ _).drew
            have HR := Lib.hid hr
            have HIA := Lib.hid (And.intro ia (And.intro ia1 ia2))
            have RB := Lib.hid rb
            clear hr ia ia1 ia2 HIq
            cases r with
            | false =>
              go_upto_region 21 with fail
              refine wp_region_held_drew (S := fun W => W.rangeAt gA (oA + k * 18) [.int .i64 a.k, .bool a.b, .int .i64 a.n, .string a.t, .string a.x, .slice a.p a.len a.cap, .int .i64 a1.k, .bool a1.b, .int .i64 a1.n, .string a1.t, .string a1.x, .slice a1.p a1.len a1.cap, .int .i64 a2.k, .bool a2.b, .int .i64 a2.n, .string a2.t, .string a2.x, .slice a2.p a2.len a2.cap] ∧ Box18 W b5 vs vp vo) (by kernel_rfl) ⟨rb, BX⟩ (fun hHeld => ?_)
              refine wpAnyH_take (i := 0) (v := .slice (some ⟨gA, oA, none⟩) nn cA) rfl (by kernel_rfl) (by kernel_rfl) (by kernel_rfl) (fun _ _ _ h => h) (Or.inl ⟨by rfl, fun W _ => by go_simp⟩) hHeld ?_
              try simp only [putS]
              refine wpAnyH_take (i := 1) (v := .int .i64 k) rfl (by kernel_rfl) (by kernel_rfl) (by kernel_rfl) (fun _ _ _ h => h) (Or.inl ⟨by rfl, fun W _ => by go_simp⟩) hHeld ?_
              try simp only [putS]
              refine wpAnyH_take (i := 2) (v := .pointer (some ⟨gA, oA + k * 18, none⟩)) rfl (by kernel_rfl) (by kernel_rfl) (by kernel_rfl) (fun _ _ _ h => h) (Or.inl ⟨by rfl, fun W _ => by go_simp⟩) hHeld ?_
              try simp only [putS]
              refine wpAnyH_take (i := 3) (v := .pointer (some ⟨gA, oA + k * 18, none⟩)) rfl (by kernel_rfl) (by kernel_rfl) (by kernel_rfl) (fun _ _ _ h => h) (Or.inl ⟨by rfl, fun W _ => by go_simp⟩) hHeld ?_
              try simp only [putS]
              refine wpAnyH_take (i := 4) rfl (by kernel_rfl) (by kernel_rfl) (by kernel_rfl) (fun _ _ _ h => h) (yieldsIf_load_mid (by rfl) 39 (.tmp 92) rfl (gA) (oA + k * 18) rfl [.int .i64 a.k, .bool a.b, .int .i64 a.n, .string a.t, .string a.x, .slice a.p a.len a.cap] _ (fun W h => range_a h.1) Tryz.underlying39 rfl info28) hHeld ?_
              try simp only [putS]
              refine wpAnyH_take (i := 5) (v := .pointer (some ⟨b5, 0, none⟩)) rfl (by kernel_rfl) (by kernel_rfl) (by kernel_rfl) (fun _ _ _ h => h) (Or.inl ⟨by rfl, fun W _ => by go_simp⟩) hHeld ?_
              try simp only [putS]
              refine wpAnyH_take (i := 6) rfl (by kernel_rfl) (by kernel_rfl) (by kernel_rfl) (fun _ _ _ h => h) (yieldsIf_load_mid (by rfl) 39 (.tmp 94) rfl (b5) (0) rfl [.int .i64 vs.k, .bool vs.b, .int .i64 vs.n, .string vs.t, .string vs.x, .slice vs.p vs.len vs.cap] _ (fun W h => h.2.r0) Tryz.underlying39 rfl info28) hHeld ?_
              try simp only [putS]
              refine wpAnyH_ready (rs := [7]) (by kernel_rfl) (by simp) ?_
              refine AllReadyH.cons rfl (fun K hK => ?_) AllReadyH.nil
              rw [if_pos (by rfl)]
              go_simp
              refine (HC.out _ L0).mono ?_
              rintro e9 w9 ⟨rfl, hb9⟩
              have hHeld9 : _ ∧ _ := ⟨range_below hHeld.1 hb9, hHeld.2.below hb9⟩
              have L9 := L0.trans (hb9.mono L0.size)
              clear hb9
              refine hK.out _ _ hHeld9 (fun _ => ?_)
              clear hK K
              try simp only [putS]
              refine wpAnyH_done (by kernel_rfl) ?_ _
              have HQ : Hid (Below w7.heap.size w7 w9) := Lib.hid (HBq.out.trans (L9.mono HBq.out.size))
              have HNK2 : Hid (n = ((s.all.take (k + 1)).filter fun t' => sameP t'.s t.s).length) := Lib.hid (by rw [filt_no _ _ _ hk1 HR.out.symm]; exact HNK.out)
              clear hHeld hHeld9 L9 L0 rb BX L7
              go_wp2_with fail
              go_roundg (nn - (k + 1))
              case measure => omega
              case rel => exact ⟨k + 1, n, by omega, by go_num, rfl, HNK2, HQ⟩
            | true =>
              obtain ⟨hf1, hf2⟩ := filt_at (fun t' : Tri3 => sameP t'.s t.s) s.all k hk1 HR.out.symm
              have hnm : n < mm := by rw [HMM.out, HNK.out]; exact hf1
              have hnmi : ¬ ((mm : Int) ≤ n) := by omega
              obtain ⟨gM, oM, rfl, hM⟩ : ∃ g off, pM = some ⟨g, off, none⟩ ∧ Holds w7 g off (flat (s.all.filter fun t' => sameP t'.s t.s)) := by
                obtain ⟨p1, c1, e, h1⟩ := HTM.out
                obtain ⟨g, off, e2, h2⟩ := h1 (by intro e; rw [e] at hf1; exact absurd hf1 (by simp))
                injection e with e3 _ _
                exact ⟨g, off, by rw [e3]; exact e2, h2⟩
              have hn1 : n < (s.all.filter fun t' => sameP t'.s t.s).length := by rw [← HMM.out]; exact hnm
              have hel : (s.all.filter fun t' => sameP t'.s t.s)[n] = s.all[k] := by
                rw [← hf2]
                congr 1
                try exact HNK.out
              go_upto_region 21 with fail
              refine wp_region_held_drew (S := fun W => W.rangeAt gA (oA + k * 18) [.int .i64 a.k, .bool a.b, .int .i64 a.n, .string a.t, .string a.x, .slice a.p a.len a.cap, .int .i64 a1.k, .bool a1.b, .int .i64 a1.n, .string a1.t, .string a1.x, .slice a1.p a1.len a1.cap, .int .i64 a2.k, .bool a2.b, .int .i64 a2.n, .string a2.t, .string a2.x, .slice a2.p a2.len a2.cap] ∧ Box18 W b5 vs vp vo) (by kernel_rfl) ⟨rb, BX⟩ (fun hHeld => ?_)
              refine wpAnyH_take (i := 0) (v := .slice (some ⟨gA, oA, none⟩) nn cA) rfl (by kernel_rfl) (by kernel_rfl) (by kernel_rfl) (fun _ _ _ h => h) (Or.inl ⟨by rfl, fun W _ => by go_simp⟩) hHeld ?_
              try simp only [putS]
              refine wpAnyH_take (i := 1) (v := .int .i64 k) rfl (by kernel_rfl) (by kernel_rfl) (by kernel_rfl) (fun _ _ _ h => h) (Or.inl ⟨by rfl, fun W _ => by go_simp⟩) hHeld ?_
              try simp only [putS]
              refine wpAnyH_take (i := 2) (v := .pointer (some ⟨gA, oA + k * 18, none⟩)) rfl (by kernel_rfl) (by kernel_rfl) (by kernel_rfl) (fun _ _ _ h => h) (Or.inl ⟨by rfl, fun W _ => by go_simp⟩) hHeld ?_
              try simp only [putS]
              refine wpAnyH_take (i := 3) (v := .pointer (some ⟨gA, oA + k * 18, none⟩)) rfl (by kernel_rfl) (by kernel_rfl) (by kernel_rfl) (fun _ _ _ h => h) (Or.inl ⟨by rfl, fun W _ => by go_simp⟩) hHeld ?_
              try simp only [putS]
              refine wpAnyH_take (i := 4) rfl (by kernel_rfl) (by kernel_rfl) (by kernel_rfl) (fun _ _ _ h => h) (yieldsIf_load_mid (by rfl) 39 (.tmp 92) rfl (gA) (oA + k * 18) rfl [.int .i64 a.k, .bool a.b, .int .i64 a.n, .string a.t, .string a.x, .slice a.p a.len a.cap] _ (fun W h => range_a h.1) Tryz.underlying39 rfl info28) hHeld ?_
              try simp only [putS]
              refine wpAnyH_take (i := 5) (v := .pointer (some ⟨b5, 0, none⟩)) rfl (by kernel_rfl) (by kernel_rfl) (by kernel_rfl) (fun _ _ _ h => h) (Or.inl ⟨by rfl, fun W _ => by go_simp⟩) hHeld ?_
              try simp only [putS]
              refine wpAnyH_take (i := 6) rfl (by kernel_rfl) (by kernel_rfl) (by kernel_rfl) (fun _ _ _ h => h) (yieldsIf_load_mid (by rfl) 39 (.tmp 94) rfl (b5) (0) rfl [.int .i64 vs.k, .bool vs.b, .int .i64 vs.n, .string vs.t, .string vs.x, .slice vs.p vs.len vs.cap] _ (fun W h => h.2.r0) Tryz.underlying39 rfl info28) hHeld ?_
              try simp only [putS]
              refine wpAnyH_ready (rs := [7]) (by kernel_rfl) (by simp) ?_
              refine AllReadyH.cons rfl (fun K hK => ?_) AllReadyH.nil
              rw [if_pos (by rfl)]
              go_simp
              refine (HC.out _ L0).mono ?_
              rintro e9 w9 ⟨rfl, hb9⟩
              have hHeld9 : _ ∧ _ := ⟨range_below hHeld.1 hb9, hHeld.2.below hb9⟩
              have L9 := L0.trans (hb9.mono L0.size)
              clear hb9
              refine hK.out _ _ hHeld9 (fun _ => ?_)
              clear hK K
              try simp only [putS]
              refine wpAnyH_done (by kernel_rfl) ?_ _
              obtain ⟨m0, m1, m2, y0, y1, y2, im0, im1, im2, rm⟩ := trisAt (Holds.below _ hM (HBq.out.trans (L9.mono HBq.out.size))) n hn1
              rw [hel] at im0 im1 im2
              have HE : Hid (∀ W, Below w9.heap.size w9 W → Calls Tryz.prog 37 #[.agg #[.int .i64 m0.k, .bool m0.b, .int .i64 m0.n, .string m0.t, .string m0.x, .slice m0.p m0.len m0.cap, .int .i64 m1.k, .bool m1.b, .int .i64 m1.n, .string m1.t, .string m1.x, .slice m1.p m1.len m1.cap, .int .i64 m2.k, .bool m2.b, .int .i64 m2.n, .string m2.t, .string m2.x, .slice m2.p m2.len m2.cap], .agg #[.int .i64 a.k, .bool a.b, .int .i64 a.n, .string a.t, .string a.x, .slice a.p a.len a.cap, .int .i64 a1.k, .bool a1.b, .int .i64 a1.n, .string a1.t, .string a1.x, .slice a1.p a1.len a1.cap, .int .i64 a2.k, .bool a2.b, .int .i64 a2.n, .string a2.t, .string a2.x, .slice a2.p a2.len a2.cap]] W fun e w' => e = .returned (.bool true) ∧ Below W.heap.size W w') := Lib.hid fun W hb => by
                have := eqTri m0 m1 m2 a a1 a2 _ _ _ _ _ _ _ _ _ _ _ _ W (im0.below hb) (im1.below hb) (im2.below hb) (HIA.out.1.below (L9.trans (hb.mono L9.size))) (HIA.out.2.1.below (L9.trans (hb.mono L9.size))) (HIA.out.2.2.below (L9.trans (hb.mono L9.size)))
                rwa [show triSame s.all[k].s s.all[k].p s.all[k].o s.all[k].s s.all[k].p s.all[k].o = true from t3_refl s.all[k]] at this
              have HL9 := Lib.hid L9
              have rb9 := range_below RB.out L9
              clear hHeld hHeld9 L9 L0 rb BX L7 im0 im1 im2 hel hf1 hf2 hM
              have L0 : Below w9.heap.size w9 w9.drew := (Below.refl _ _).drew
              go_upto_region 22 with fail
              generalize hw0 : w9 = w8 at *
              clear hw0 w9
              refine wp_region_held_drew (S := fun W => W.rangeAt gM (oM + n * 18) [.int .i64 m0.k, .bool m0.b, .int .i64 m0.n, .string m0.t, .string m0.x, .slice m0.p m0.len m0.cap, .int .i64 m1.k, .bool m1.b, .int .i64 m1.n, .string m1.t, .string m1.x, .slice m1.p m1.len m1.cap, .int .i64 m2.k, .bool m2.b, .int .i64 m2.n, .string m2.t, .string m2.x, .slice m2.p m2.len m2.cap] ∧ W.rangeAt gA (oA + k * 18) [.int .i64 a.k, .bool a.b, .int .i64 a.n, .string a.t, .string a.x, .slice a.p a.len a.cap, .int .i64 a1.k, .bool a1.b, .int .i64 a1.n, .string a1.t, .string a1.x, .slice a1.p a1.len a1.cap, .int .i64 a2.k, .bool a2.b, .int .i64 a2.n, .string a2.t, .string a2.x, .slice a2.p a2.len a2.cap]) (by kernel_rfl) ⟨rm, rb9⟩ (fun hHeld => ?_)
              refine wpAnyH_take (i := 0) (v := .int .i64 n) rfl (by kernel_rfl) (by kernel_rfl) (by kernel_rfl) (fun _ _ _ h => h) (Or.inl ⟨by rfl, fun W _ => by go_simp⟩) hHeld ?_
              try simp only [putS]
              refine wpAnyH_take (i := 1) (v := .slice (some ⟨gM, oM, none⟩) mm cM) rfl (by kernel_rfl) (by kernel_rfl) (by kernel_rfl) (fun _ _ _ h => h) (Or.inl ⟨by rfl, fun W _ => by go_simp⟩) hHeld ?_
              try simp only [putS]
              refine wpAnyH_take (i := 2) (v := .int .i64 mm) rfl (by kernel_rfl) (by kernel_rfl) (by kernel_rfl) (fun _ _ _ h => h) (Or.inl ⟨by rfl, fun W _ => by go_simp⟩) hHeld ?_
              try simp only [putS]
              refine wpAnyH_take (i := 3) (v := .bool false) rfl (by kernel_rfl) (by kernel_rfl) (by kernel_rfl) (fun _ _ _ h => h) (Or.inl ⟨by rfl, fun W _ => by go_simp⟩) hHeld ?_
              try simp only [putS]
              refine wpAnyH_take (i := 4) (v := .bool false) rfl (by kernel_rfl) (by kernel_rfl) (by kernel_rfl) (fun _ _ _ h => h) (Or.inl ⟨by rfl, fun W _ => by go_simp⟩) hHeld ?_
              try simp only [putS]
              refine wpAnyH_take (i := 5) (v := .slice (some ⟨gM, oM, none⟩) mm cM) rfl (by kernel_rfl) (by kernel_rfl) (by kernel_rfl) (fun _ _ _ h => h) (Or.inl ⟨by rfl, fun W _ => by go_simp⟩) hHeld ?_
              try simp only [putS]
              refine wpAnyH_take (i := 6) (v := .int .i64 n) rfl (by kernel_rfl) (by kernel_rfl) (by kernel_rfl) (fun _ _ _ h => h) (Or.inl ⟨by rfl, fun W _ => by go_simp⟩) hHeld ?_
              try simp only [putS]
              refine wpAnyH_take (i := 7) (v := .pointer (some ⟨gM, oM + n * 18, none⟩)) rfl (by kernel_rfl) (by kernel_rfl) (by kernel_rfl) (fun _ _ _ h => h) (Or.inl ⟨by rfl, fun W _ => by go_simp⟩) hHeld ?_
              try simp only [putS]
              refine wpAnyH_take (i := 8) rfl (by kernel_rfl) (by kernel_rfl) (by kernel_rfl) (fun _ _ _ h => h) (yieldsIf_load_mid (by rfl) 41 (.tmp 104) rfl (gM) (oM + n * 18) rfl [.int .i64 m0.k, .bool m0.b, .int .i64 m0.n, .string m0.t, .string m0.x, .slice m0.p m0.len m0.cap, .int .i64 m1.k, .bool m1.b, .int .i64 m1.n, .string m1.t, .string m1.x, .slice m1.p m1.len m1.cap, .int .i64 m2.k, .bool m2.b, .int .i64 m2.n, .string m2.t, .string m2.x, .slice m2.p m2.len m2.cap] _ (fun W h => h.1) Tryz.underlying41 rfl info41) hHeld ?_
              try simp only [putS]
              refine wpAnyH_take (i := 9) (v := .slice (some ⟨gA, oA, none⟩) nn cA) rfl (by kernel_rfl) (by kernel_rfl) (by kernel_rfl) (fun _ _ _ h => h) (Or.inl ⟨by rfl, fun W _ => by go_simp⟩) hHeld ?_
              try simp only [putS]
              refine wpAnyH_take (i := 10) (v := .int .i64 k) rfl (by kernel_rfl) (by kernel_rfl) (by kernel_rfl) (fun _ _ _ h => h) (Or.inl ⟨by rfl, fun W _ => by go_simp⟩) hHeld ?_
              try simp only [putS]
              refine wpAnyH_take (i := 11) (v := .pointer (some ⟨gA, oA + k * 18, none⟩)) rfl (by kernel_rfl) (by kernel_rfl) (by kernel_rfl) (fun _ _ _ h => h) (Or.inl ⟨by rfl, fun W _ => by go_simp⟩) hHeld ?_
              try simp only [putS]
              refine wpAnyH_take (i := 12) rfl (by kernel_rfl) (by kernel_rfl) (by kernel_rfl) (fun _ _ _ h => h) (yieldsIf_load_mid (by rfl) 41 (.tmp 108) rfl (gA) (oA + k * 18) rfl [.int .i64 a.k, .bool a.b, .int .i64 a.n, .string a.t, .string a.x, .slice a.p a.len a.cap, .int .i64 a1.k, .bool a1.b, .int .i64 a1.n, .string a1.t, .string a1.x, .slice a1.p a1.len a1.cap, .int .i64 a2.k, .bool a2.b, .int .i64 a2.n, .string a2.t, .string a2.x, .slice a2.p a2.len a2.cap] _ (fun W h => h.2) Tryz.underlying41 rfl info41) hHeld ?_
              try simp only [putS]
              refine wpAnyH_ready (rs := [13]) (by kernel_rfl) (by simp) ?_
              refine AllReadyH.cons rfl (fun K hK => ?_) AllReadyH.nil
              rw [if_pos (by rfl)]
              go_simp
              refine (HE.out _ L0).mono ?_
              rintro e9 w9 ⟨rfl, hb9⟩
              have hHeld9 : _ ∧ _ := ⟨range_below hHeld.1 hb9, range_below hHeld.2 hb9⟩
              have L9 := L0.trans (hb9.mono L0.size)
              clear hb9
              refine hK.out _ _ hHeld9 (fun _ => ?_)
              clear hK K
              try simp only [putS]
              refine wpAnyH_take (i := 14) (v := .bool false) rfl (by kernel_rfl) (by kernel_rfl) (by kernel_rfl) (fun _ _ _ h => h) (Or.inl ⟨by rfl, fun W _ => by go_simp⟩) hHeld9 ?_
              try simp only [putS]
              refine wpAnyH_take (i := 15) (v := .bool false) rfl (by kernel_rfl) (by kernel_rfl) (by kernel_rfl) (fun _ _ _ h => h) (Or.inl ⟨by rfl, fun W _ => by go_simp⟩) hHeld9 ?_
              try simp only [putS]
              refine wpAnyH_done (by kernel_rfl) ?_ _
              have HQ : Hid (Below w7.heap.size w7 w9) := Lib.hid (HBq.out.trans ((HL9.out.trans (L9.mono HL9.out.size)).mono HBq.out.size))
              have HNK2 : Hid (n + 1 = ((s.all.take (k + 1)).filter fun t' => sameP t'.s t.s).length) := Lib.hid (by rw [filt_yes _ _ _ hk1 HR.out.symm, ← HNK.out])
              clear hHeld hHeld9 L9 L0 rm rb9
              go_wp2_with fail
              go_roundg (nn - (k + 1))
              case measure => omega
              case rel => exact ⟨k + 1, n + 1, by omega, by go_num, by go_num, HNK2, HQ⟩
          · have hnm : n = mm := by
              rw [HNK.out, HMM.out, List.take_of_length_le (by have := HNN.out; omega)]
            have hnmi : ((n : Int) != mm) = false := by simp [hnm]
            have HQ : Hid (Below w3.heap.size w3 wr) := Lib.hid (HX7.out.trans (HBq.out.mono HX7.out.size))
            clear hnm
            go_wp2_with fail
            go_roundg (nn - (i + 1))
            case measure => omega
            case rel => exact ⟨i + 1, by omega, by go_num, HQ⟩
      · go_upto_region 28 with (go_at_call 17; (with_reducible refine (HF4.out _ (HB3.out.trans (HBr.out.mono hs3))).mono ?_); rintro e w8 ⟨VX, T, rfl, htx, hlen, hb8⟩)
        obtain ⟨pX, cX, rfl⟩ := tris_len htx
        obtain ⟨xx, hxx⟩ : ∃ xx, xx = T.length := ⟨_, rfl⟩
        rw [← hxx] at hlen ⊢
        have HLX := Lib.hid hlen
        have HB8 := Lib.hid (HBr.out.trans (hb8.mono HBr.out.size))
        have hx60 : xx ≤ 60 := by rw [hlen]; have := List.length_filter_le (fun t' : Tri3 => sameP t'.s t'.o) s.all; have := HNN.out; omega
        clear htx hlen hb8 hxx
        go_wp2_with fail
        go_loopg [13, 14] nn (fun gg s13 s14 wq => ∃ k n : Nat, k + gg = nn ∧ s14 = .int .i64 k ∧ s13 = .int .i64 n ∧ Hid (n = ((s.all.take k).filter fun t' => sameP t'.s t'.o).length) ∧ Hid (Below w3.heap.size w3 wq))
        case atStart => exact ⟨0, 0, by omega, rfl, rfl, Lib.hid rfl, HB8⟩
        case round =>
          obtain ⟨k, n, hkg, rfl, rfl, HNK, HBq⟩ := hrel
          have hn60 : n ≤ 60 := by
            rw [HNK.out]
            refine Nat.le_trans (List.length_filter_le _ _) ?_
            rw [List.length_take]
            have := HNN.out
            omega
          by_cases hlk : (k : Int) < nn
          · have hk1 : k < s.all.length := by have := HNN.out; omega
            have hk2 : k < nn := by omega
            obtain ⟨gA, oA, rfl, hh⟩ : ∃ g off, pA = some ⟨g, off, none⟩ ∧ Holds w3 g off (flat s.all) := by
              obtain ⟨p1, c1, e, h1⟩ := HTA.out
              obtain ⟨g, off, e2, h2⟩ := h1 (by intro e; rw [e] at hk1; exact absurd hk1 (by simp))
              injection e with e3 _ _
              exact ⟨g, off, by rw [e3]; exact e2, h2⟩
            obtain ⟨a, a1, a2, p0, p1, p2, ia, ia1, ia2, rb⟩ := trisAt (Holds.below _ hh HBq.out) k hk1
            obtain ⟨r, hr⟩ : ∃ r, r = sameP s.all[k].s s.all[k].o := ⟨_, rfl⟩
            have HC : Hid (∀ W, Below wr.heap.size wr W → Calls Tryz.prog 32 #[.agg #[.int .i64 a.k, .bool a.b, .int .i64 a.n, .string a.t, .string a.x, .slice a.p a.len a.cap], .agg #[.int .i64 a2.k, .bool a2.b, .int .i64 a2.n, .string a2.t, .string a2.x, .slice a2.p a2.len a2.cap]] W fun e w' => e = .returned (.bool r) ∧ Below W.heap.size W w') := Lib.hid fun W hb => by
              rw [hr]
              exact sameIs a a2 _ _ _ _ W (ia.below hb) (ia2.below hb)
            have L0 : Below wr.heap.size wr wr.drew := (Below.refl _ _).drew
            have HR := Lib.hid hr
            clear hr ia ia1 ia2 hh
            cases r with
            | false =>
              go_upto_region 32 with fail
              refine wp_region_held_drew (S := fun W => W.rangeAt gA (oA + k * 18) [.int .i64 a.k, .bool a.b, .int .i64 a.n, .string a.t, .string a.x, .slice a.p a.len a.cap, .int .i64 a1.k, .bool a1.b, .int .i64 a1.n, .string a1.t, .string a1.x, .slice a1.p a1.len a1.cap, .int .i64 a2.k, .bool a2.b, .int .i64 a2.n, .string a2.t, .string a2.x, .slice a2.p a2.len a2.cap]) (by kernel_rfl) rb (fun hHeld => ?_)
              refine wpAnyH_take (i := 0) (v := .slice (some ⟨gA, oA, none⟩) nn cA) rfl (by kernel_rfl) (by kernel_rfl) (by kernel_rfl) (fun _ _ _ h => h) (Or.inl ⟨by rfl, fun W _ => by go_simp⟩) hHeld ?_
              try simp only [putS]
              refine wpAnyH_take (i := 1) (v := .int .i64 k) rfl (by kernel_rfl) (by kernel_rfl) (by kernel_rfl) (fun _ _ _ h => h) (Or.inl ⟨by rfl, fun W _ => by go_simp⟩) hHeld ?_
              try simp only [putS]
              refine wpAnyH_take (i := 2) (v := .pointer (some ⟨gA, oA + k * 18, none⟩)) rfl (by kernel_rfl) (by kernel_rfl) (by kernel_rfl) (fun _ _ _ h => h) (Or.inl ⟨by rfl, fun W _ => by go_simp⟩) hHeld ?_
              try simp only [putS]
              refine wpAnyH_take (i := 3) (v := .pointer (some ⟨gA, oA + k * 18, none⟩)) rfl (by kernel_rfl) (by kernel_rfl) (by kernel_rfl) (fun _ _ _ h => h) (Or.inl ⟨by rfl, fun W _ => by go_simp⟩) hHeld ?_
              try simp only [putS]
              refine wpAnyH_take (i := 4) rfl (by kernel_rfl) (by kernel_rfl) (by kernel_rfl) (fun _ _ _ h => h) (yieldsIf_load_mid (by rfl) 39 (.tmp 134) rfl (gA) (oA + k * 18) rfl [.int .i64 a.k, .bool a.b, .int .i64 a.n, .string a.t, .string a.x, .slice a.p a.len a.cap] _ (fun W h => range_a h) Tryz.underlying39 rfl info28) hHeld ?_
              try simp only [putS]
              refine wpAnyH_take (i := 5) (v := .slice (some ⟨gA, oA, none⟩) nn cA) rfl (by kernel_rfl) (by kernel_rfl) (by kernel_rfl) (fun _ _ _ h => h) (Or.inl ⟨by rfl, fun W _ => by go_simp⟩) hHeld ?_
              try simp only [putS]
              refine wpAnyH_take (i := 6) (v := .int .i64 k) rfl (by kernel_rfl) (by kernel_rfl) (by kernel_rfl) (fun _ _ _ h => h) (Or.inl ⟨by rfl, fun W _ => by go_simp⟩) hHeld ?_
              try simp only [putS]
              refine wpAnyH_take (i := 7) (v := .pointer (some ⟨gA, oA + k * 18, none⟩)) rfl (by kernel_rfl) (by kernel_rfl) (by kernel_rfl) (fun _ _ _ h => h) (Or.inl ⟨by rfl, fun W _ => by go_simp⟩) hHeld ?_
              try simp only [putS]
              refine wpAnyH_take (i := 8) (v := .pointer (some ⟨gA, oA + k * 18 + 12, none⟩)) rfl (by kernel_rfl) (by kernel_rfl) (by kernel_rfl) (fun _ _ _ h => h) (Or.inl ⟨by rfl, fun W _ => by go_simp⟩) hHeld ?_
              try simp only [putS]
              refine wpAnyH_take (i := 9) rfl (by kernel_rfl) (by kernel_rfl) (by kernel_rfl) (fun _ _ _ h => h) (yieldsIf_load_mid (by rfl) 39 (.tmp 139) rfl (gA) (oA + k * 18 + 12) rfl [.int .i64 a2.k, .bool a2.b, .int .i64 a2.n, .string a2.t, .string a2.x, .slice a2.p a2.len a2.cap] _ (fun W h => range_c h) Tryz.underlying39 rfl info28) hHeld ?_
              try simp only [putS]
              refine wpAnyH_ready (rs := [10]) (by kernel_rfl) (by simp) ?_
              refine AllReadyH.cons rfl (fun K hK => ?_) AllReadyH.nil
              rw [if_pos (by rfl)]
              go_simp
              refine (HC.out _ L0).mono ?_
              rintro e9 w9 ⟨rfl, hb9⟩
              have hHeld9 := range_below hHeld hb9
              have L9 := L0.trans (hb9.mono L0.size)
              clear hb9
              refine hK.out _ _ hHeld9 (fun _ => ?_)
              clear hK K
              try simp only [putS]
              refine wpAnyH_done (by kernel_rfl) ?_ _
              have HQ : Hid (Below w3.heap.size w3 w9) := Lib.hid (HBq.out.trans (L9.mono HBq.out.size))
              have HNK2 : Hid (n = ((s.all.take (k + 1)).filter fun t' => sameP t'.s t'.o).length) := Lib.hid (by rw [filt_no _ _ _ hk1 HR.out.symm]; exact HNK.out)
              clear hHeld hHeld9 L9 L0 rb
              go_wp2_with fail
              go_roundg (nn - (k + 1))
              case measure => omega
              case rel => exact ⟨k + 1, n, by omega, by go_num, rfl, HNK2, HQ⟩
            | true =>
              go_upto_region 32 with fail
              refine wp_region_held_drew (S := fun W => W.rangeAt gA (oA + k * 18) [.int .i64 a.k, .bool a.b, .int .i64 a.n, .string a.t, .string a.x, .slice a.p a.len a.cap, .int .i64 a1.k, .bool a1.b, .int .i64 a1.n, .string a1.t, .string a1.x, .slice a1.p a1.len a1.cap, .int .i64 a2.k, .bool a2.b, .int .i64 a2.n, .string a2.t, .string a2.x, .slice a2.p a2.len a2.cap]) (by kernel_rfl) rb (fun hHeld => ?_)
              refine wpAnyH_take (i := 0) (v := .slice (some ⟨gA, oA, none⟩) nn cA) rfl (by kernel_rfl) (by kernel_rfl) (by kernel_rfl) (fun _ _ _ h => h) (Or.inl ⟨by rfl, fun W _ => by go_simp⟩) hHeld ?_
              try simp only [putS]
              refine wpAnyH_take (i := 1) (v := .int .i64 k) rfl (by kernel_rfl) (by kernel_rfl) (by kernel_rfl) (fun _ _ _ h => h) (Or.inl ⟨by rfl, fun W _ => by go_simp⟩) hHeld ?_
              try simp only [putS]
              refine wpAnyH_take (i := 2) (v := .pointer (some ⟨gA, oA + k * 18, none⟩)) rfl (by kernel_rfl) (by kernel_rfl) (by kernel_rfl) (fun _ _ _ h => h) (Or.inl ⟨by rfl, fun W _ => by go_simp⟩) hHeld ?_
              try simp only [putS]
              refine wpAnyH_take (i := 3) (v := .pointer (some ⟨gA, oA + k * 18, none⟩)) rfl (by kernel_rfl) (by kernel_rfl) (by kernel_rfl) (fun _ _ _ h => h) (Or.inl ⟨by rfl, fun W _ => by go_simp⟩) hHeld ?_
              try simp only [putS]
              refine wpAnyH_take (i := 4) rfl (by kernel_rfl) (by kernel_rfl) (by kernel_rfl) (fun _ _ _ h => h) (yieldsIf_load_mid (by rfl) 39 (.tmp 134) rfl (gA) (oA + k * 18) rfl [.int .i64 a.k, .bool a.b, .int .i64 a.n, .string a.t, .string a.x, .slice a.p a.len a.cap] _ (fun W h => range_a h) Tryz.underlying39 rfl info28) hHeld ?_
              try simp only [putS]
              refine wpAnyH_take (i := 5) (v := .slice (some ⟨gA, oA, none⟩) nn cA) rfl (by kernel_rfl) (by kernel_rfl) (by kernel_rfl) (fun _ _ _ h => h) (Or.inl ⟨by rfl, fun W _ => by go_simp⟩) hHeld ?_
              try simp only [putS]
              refine wpAnyH_take (i := 6) (v := .int .i64 k) rfl (by kernel_rfl) (by kernel_rfl) (by kernel_rfl) (fun _ _ _ h => h) (Or.inl ⟨by rfl, fun W _ => by go_simp⟩) hHeld ?_
              try simp only [putS]
              refine wpAnyH_take (i := 7) (v := .pointer (some ⟨gA, oA + k * 18, none⟩)) rfl (by kernel_rfl) (by kernel_rfl) (by kernel_rfl) (fun _ _ _ h => h) (Or.inl ⟨by rfl, fun W _ => by go_simp⟩) hHeld ?_
              try simp only [putS]
              refine wpAnyH_take (i := 8) (v := .pointer (some ⟨gA, oA + k * 18 + 12, none⟩)) rfl (by kernel_rfl) (by kernel_rfl) (by kernel_rfl) (fun _ _ _ h => h) (Or.inl ⟨by rfl, fun W _ => by go_simp⟩) hHeld ?_
              try simp only [putS]
              refine wpAnyH_take (i := 9) rfl (by kernel_rfl) (by kernel_rfl) (by kernel_rfl) (fun _ _ _ h => h) (yieldsIf_load_mid (by rfl) 39 (.tmp 139) rfl (gA) (oA + k * 18 + 12) rfl [.int .i64 a2.k, .bool a2.b, .int .i64 a2.n, .string a2.t, .string a2.x, .slice a2.p a2.len a2.cap] _ (fun W h => range_c h) Tryz.underlying39 rfl info28) hHeld ?_
              try simp only [putS]
              refine wpAnyH_ready (rs := [10]) (by kernel_rfl) (by simp) ?_
              refine AllReadyH.cons rfl (fun K hK => ?_) AllReadyH.nil
              rw [if_pos (by rfl)]
              go_simp
              refine (HC.out _ L0).mono ?_
              rintro e9 w9 ⟨rfl, hb9⟩
              have hHeld9 := range_below hHeld hb9
              have L9 := L0.trans (hb9.mono L0.size)
              clear hb9
              refine hK.out _ _ hHeld9 (fun _ => ?_)
              clear hK K
              try simp only [putS]
              refine wpAnyH_done (by kernel_rfl) ?_ _
              have HQ : Hid (Below w3.heap.size w3 w9) := Lib.hid (HBq.out.trans (L9.mono HBq.out.size))
              have HNK2 : Hid (n + 1 = ((s.all.take (k + 1)).filter fun t' => sameP t'.s t'.o).length) := Lib.hid (by rw [filt_yes _ _ _ hk1 HR.out.symm, ← HNK.out])
              clear hHeld hHeld9 L9 L0 rb
              go_wp2_with fail
              go_roundg (nn - (k + 1))
              case measure => omega
              case rel => exact ⟨k + 1, n + 1, by omega, by go_num, by go_num, HNK2, HQ⟩
          · have hxn : xx = n := by
              rw [HNK.out, HLX.out, List.take_of_length_le (by have := HNN.out; omega)]
            have hxe : ((xx : Int) == n) = true := by simp [hxn]
            clear hxn
            go_wp2_with (go_at_call 8; (with_reducible refine (HWK.out _ (HB3.out.trans (HBq.out.mono hs3))).mono ?_); rintro e w9 ⟨rfl, hb9⟩)
            go_ret
            exact ⟨rfl, HB2.out.trans ((HB3.out.trans ((HBq.out.trans (hb9.mono HBq.out.size)).mono hs3)).mono HB2.out.size)⟩
    · go_upto_region 28 with (go_at_call 17; (with_reducible refine (HF4.out _ (HB3.out.trans (HBr.out.mono hs3))).mono ?_); rintro e w8 ⟨VX, T, rfl, htx, hlen, hb8⟩)
      obtain ⟨pX, cX, rfl⟩ := tris_len htx
      obtain ⟨xx, hxx⟩ : ∃ xx, xx = T.length := ⟨_, rfl⟩
      rw [← hxx] at hlen ⊢
      have HLX := Lib.hid hlen
      have HB8 := Lib.hid (HBr.out.trans (hb8.mono HBr.out.size))
      have hx60 : xx ≤ 60 := by rw [hlen]; have := List.length_filter_le (fun t' : Tri3 => sameP t'.s t'.o) s.all; have := HNN.out; omega
      clear htx hlen hb8 hxx
      go_wp2_with fail
      go_loopg [13, 14] nn (fun gg s13 s14 wq => ∃ k n : Nat, k + gg = nn ∧ s14 = .int .i64 k ∧ s13 = .int .i64 n ∧ Hid (n = ((s.all.take k).filter fun t' => sameP t'.s t'.o).length) ∧ Hid (Below w3.heap.size w3 wq))
      case atStart => exact ⟨0, 0, by omega, rfl, rfl, Lib.hid rfl, HB8⟩
      case round =>
        obtain ⟨k, n, hkg, rfl, rfl, HNK, HBq⟩ := hrel
        have hn60 : n ≤ 60 := by
          rw [HNK.out]
          refine Nat.le_trans (List.length_filter_le _ _) ?_
          rw [List.length_take]
          have := HNN.out
          omega
        by_cases hlk : (k : Int) < nn
        · have hk1 : k < s.all.length := by have := HNN.out; omega
          have hk2 : k < nn := by omega
          obtain ⟨gA, oA, rfl, hh⟩ : ∃ g off, pA = some ⟨g, off, none⟩ ∧ Holds w3 g off (flat s.all) := by
            obtain ⟨p1, c1, e, h1⟩ := HTA.out
            obtain ⟨g, off, e2, h2⟩ := h1 (by intro e; rw [e] at hk1; exact absurd hk1 (by simp))
            injection e with e3 _ _
            exact ⟨g, off, by rw [e3]; exact e2, h2⟩
          obtain ⟨a, a1, a2, p0, p1, p2, ia, ia1, ia2, rb⟩ := trisAt (Holds.below _ hh HBq.out) k hk1
          obtain ⟨r, hr⟩ : ∃ r, r = sameP s.all[k].s s.all[k].o := ⟨_, rfl⟩
          have HC : Hid (∀ W, Below wr.heap.size wr W → Calls Tryz.prog 32 #[.agg #[.int .i64 a.k, .bool a.b, .int .i64 a.n, .string a.t, .string a.x, .slice a.p a.len a.cap], .agg #[.int .i64 a2.k, .bool a2.b, .int .i64 a2.n, .string a2.t, .string a2.x, .slice a2.p a2.len a2.cap]] W fun e w' => e = .returned (.bool r) ∧ Below W.heap.size W w') := Lib.hid fun W hb => by
            rw [hr]
            exact sameIs a a2 _ _ _ _ W (ia.below hb) (ia2.below hb)
          have L0 : Below wr.heap.size wr wr.drew := (Below.refl _ _).drew
          have HR := Lib.hid hr
          clear hr ia ia1 ia2 hh
          cases r with
          | false =>
            go_upto_region 32 with fail
            refine wp_region_held_drew (S := fun W => W.rangeAt gA (oA + k * 18) [.int .i64 a.k, .bool a.b, .int .i64 a.n, .string a.t, .string a.x, .slice a.p a.len a.cap, .int .i64 a1.k, .bool a1.b, .int .i64 a1.n, .string a1.t, .string a1.x, .slice a1.p a1.len a1.cap, .int .i64 a2.k, .bool a2.b, .int .i64 a2.n, .string a2.t, .string a2.x, .slice a2.p a2.len a2.cap]) (by kernel_rfl) rb (fun hHeld => ?_)
            refine wpAnyH_take (i := 0) (v := .slice (some ⟨gA, oA, none⟩) nn cA) rfl (by kernel_rfl) (by kernel_rfl) (by kernel_rfl) (fun _ _ _ h => h) (Or.inl ⟨by rfl, fun W _ => by go_simp⟩) hHeld ?_
            try simp only [putS]
            refine wpAnyH_take (i := 1) (v := .int .i64 k) rfl (by kernel_rfl) (by kernel_rfl) (by kernel_rfl) (fun _ _ _ h => h) (Or.inl ⟨by rfl, fun W _ => by go_simp⟩) hHeld ?_
            try simp only [putS]
            refine wpAnyH_take (i := 2) (v := .pointer (some ⟨gA, oA + k * 18, none⟩)) rfl (by kernel_rfl) (by kernel_rfl) (by kernel_rfl) (fun _ _ _ h => h) (Or.inl ⟨by rfl, fun W _ => by go_simp⟩) hHeld ?_
            try simp only [putS]
            refine wpAnyH_take (i := 3) (v := .pointer (some ⟨gA, oA + k * 18, none⟩)) rfl (by kernel_rfl) (by kernel_rfl) (by kernel_rfl) (fun _ _ _ h => h) (Or.inl ⟨by rfl, fun W _ => by go_simp⟩) hHeld ?_
            try simp only [putS]
            refine wpAnyH_take (i := 4) rfl (by kernel_rfl) (by kernel_rfl) (by kernel_rfl) (fun _ _ _ h => h) (yieldsIf_load_mid (by rfl) 39 (.tmp 134) rfl (gA) (oA + k * 18) rfl [.int .i64 a.k, .bool a.b, .int .i64 a.n, .string a.t, .string a.x, .slice a.p a.len a.cap] _ (fun W h => range_a h) Tryz.underlying39 rfl info28) hHeld ?_
            try simp only [putS]
            refine wpAnyH_take (i := 5) (v := .slice (some ⟨gA, oA, none⟩) nn cA) rfl (by kernel_rfl) (by kernel_rfl) (by kernel_rfl) (fun _ _ _ h => h) (Or.inl ⟨by rfl, fun W _ => by go_simp⟩) hHeld ?_
            try simp only [putS]
            refine wpAnyH_take (i := 6) (v := .int .i64 k) rfl (by kernel_rfl) (by kernel_rfl) (by kernel_rfl) (fun _ _ _ h => h) (Or.inl ⟨by rfl, fun W _ => by go_simp⟩) hHeld ?_
            try simp only [putS]
            refine wpAnyH_take (i := 7) (v := .pointer (some ⟨gA, oA + k * 18, none⟩)) rfl (by kernel_rfl) (by kernel_rfl) (by kernel_rfl) (fun _ _ _ h => h) (Or.inl ⟨by rfl, fun W _ => by go_simp⟩) hHeld ?_
            try simp only [putS]
            refine wpAnyH_take (i := 8) (v := .pointer (some ⟨gA, oA + k * 18 + 12, none⟩)) rfl (by kernel_rfl) (by kernel_rfl) (by kernel_rfl) (fun _ _ _ h => h) (Or.inl ⟨by rfl, fun W _ => by go_simp⟩) hHeld ?_
            try simp only [putS]
            refine wpAnyH_take (i := 9) rfl (by kernel_rfl) (by kernel_rfl) (by kernel_rfl) (fun _ _ _ h => h) (yieldsIf_load_mid (by rfl) 39 (.tmp 139) rfl (gA) (oA + k * 18 + 12) rfl [.int .i64 a2.k, .bool a2.b, .int .i64 a2.n, .string a2.t, .string a2.x, .slice a2.p a2.len a2.cap] _ (fun W h => range_c h) Tryz.underlying39 rfl info28) hHeld ?_
            try simp only [putS]
            refine wpAnyH_ready (rs := [10]) (by kernel_rfl) (by simp) ?_
            refine AllReadyH.cons rfl (fun K hK => ?_) AllReadyH.nil
            rw [if_pos (by rfl)]
            go_simp
            refine (HC.out _ L0).mono ?_
            rintro e9 w9 ⟨rfl, hb9⟩
            have hHeld9 := range_below hHeld hb9
            have L9 := L0.trans (hb9.mono L0.size)
            clear hb9
            refine hK.out _ _ hHeld9 (fun _ => ?_)
            clear hK K
            try simp only [putS]
            refine wpAnyH_done (by kernel_rfl) ?_ _
            have HQ : Hid (Below w3.heap.size w3 w9) := Lib.hid (HBq.out.trans (L9.mono HBq.out.size))
            have HNK2 : Hid (n = ((s.all.take (k + 1)).filter fun t' => sameP t'.s t'.o).length) := Lib.hid (by rw [filt_no _ _ _ hk1 HR.out.symm]; exact HNK.out)
            clear hHeld hHeld9 L9 L0 rb
            go_wp2_with fail
            go_roundg (nn - (k + 1))
            case measure => omega
            case rel => exact ⟨k + 1, n, by omega, by go_num, rfl, HNK2, HQ⟩
          | true =>
            go_upto_region 32 with fail
            refine wp_region_held_drew (S := fun W => W.rangeAt gA (oA + k * 18) [.int .i64 a.k, .bool a.b, .int .i64 a.n, .string a.t, .string a.x, .slice a.p a.len a.cap, .int .i64 a1.k, .bool a1.b, .int .i64 a1.n, .string a1.t, .string a1.x, .slice a1.p a1.len a1.cap, .int .i64 a2.k, .bool a2.b, .int .i64 a2.n, .string a2.t, .string a2.x, .slice a2.p a2.len a2.cap]) (by kernel_rfl) rb (fun hHeld => ?_)
            refine wpAnyH_take (i := 0) (v := .slice (some ⟨gA, oA, none⟩) nn cA) rfl (by kernel_rfl) (by kernel_rfl) (by kernel_rfl) (fun _ _ _ h => h) (Or.inl ⟨by rfl, fun W _ => by go_simp⟩) hHeld ?_
            try simp only [putS]
            refine wpAnyH_take (i := 1) (v := .int .i64 k) rfl (by kernel_rfl) (by kernel_rfl) (by kernel_rfl) (fun _ _ _ h => h) (Or.inl ⟨by rfl, fun W _ => by go_simp⟩) hHeld ?_
            try simp only [putS]
            refine wpAnyH_take (i := 2) (v := .pointer (some ⟨gA, oA + k * 18, none⟩)) rfl (by kernel_rfl) (by kernel_rfl) (by kernel_rfl) (fun _ _ _ h => h) (Or.inl ⟨by rfl, fun W _ => by go_simp⟩) hHeld ?_
            try simp only [putS]
            refine wpAnyH_take (i := 3) (v := .pointer (some ⟨gA, oA + k * 18, none⟩)) rfl (by kernel_rfl) (by kernel_rfl) (by kernel_rfl) (fun _ _ _ h => h) (Or.inl ⟨by rfl, fun W _ => by go_simp⟩) hHeld ?_
            try simp only [putS]
            refine wpAnyH_take (i := 4) rfl (by kernel_rfl) (by kernel_rfl) (by kernel_rfl) (fun _ _ _ h => h) (yieldsIf_load_mid (by rfl) 39 (.tmp 134) rfl (gA) (oA + k * 18) rfl [.int .i64 a.k, .bool a.b, .int .i64 a.n, .string a.t, .string a.x, .slice a.p a.len a.cap] _ (fun W h => range_a h) Tryz.underlying39 rfl info28) hHeld ?_
            try simp only [putS]
            refine wpAnyH_take (i := 5) (v := .slice (some ⟨gA, oA, none⟩) nn cA) rfl (by kernel_rfl) (by kernel_rfl) (by kernel_rfl) (fun _ _ _ h => h) (Or.inl ⟨by rfl, fun W _ => by go_simp⟩) hHeld ?_
            try simp only [putS]
            refine wpAnyH_take (i := 6) (v := .int .i64 k) rfl (by kernel_rfl) (by kernel_rfl) (by kernel_rfl) (fun _ _ _ h => h) (Or.inl ⟨by rfl, fun W _ => by go_simp⟩) hHeld ?_
            try simp only [putS]
            refine wpAnyH_take (i := 7) (v := .pointer (some ⟨gA, oA + k * 18, none⟩)) rfl (by kernel_rfl) (by kernel_rfl) (by kernel_rfl) (fun _ _ _ h => h) (Or.inl ⟨by rfl, fun W _ => by go_simp⟩) hHeld ?_
            try simp only [putS]
            refine wpAnyH_take (i := 8) (v := .pointer (some ⟨gA, oA + k * 18 + 12, none⟩)) rfl (by kernel_rfl) (by kernel_rfl) (by kernel_rfl) (fun _ _ _ h => h) (Or.inl ⟨by rfl, fun W _ => by go_simp⟩) hHeld ?_
            try simp only [putS]
            refine wpAnyH_take (i := 9) rfl (by kernel_rfl) (by kernel_rfl) (by kernel_rfl) (fun _ _ _ h => h) (yieldsIf_load_mid (by rfl) 39 (.tmp 139) rfl (gA) (oA + k * 18 + 12) rfl [.int .i64 a2.k, .bool a2.b, .int .i64 a2.n, .string a2.t, .string a2.x, .slice a2.p a2.len a2.cap] _ (fun W h => range_c h) Tryz.underlying39 rfl info28) hHeld ?_
            try simp only [putS]
            refine wpAnyH_ready (rs := [10]) (by kernel_rfl) (by simp) ?_
            refine AllReadyH.cons rfl (fun K hK => ?_) AllReadyH.nil
            rw [if_pos (by rfl)]
            go_simp
            refine (HC.out _ L0).mono ?_
            rintro e9 w9 ⟨rfl, hb9⟩
            have hHeld9 := range_below hHeld hb9
            have L9 := L0.trans (hb9.mono L0.size)
            clear hb9
            refine hK.out _ _ hHeld9 (fun _ => ?_)
            clear hK K
            try simp only [putS]
            refine wpAnyH_done (by kernel_rfl) ?_ _
            have HQ : Hid (Below w3.heap.size w3 w9) := Lib.hid (HBq.out.trans (L9.mono HBq.out.size))
            have HNK2 : Hid (n + 1 = ((s.all.take (k + 1)).filter fun t' => sameP t'.s t'.o).length) := Lib.hid (by rw [filt_yes _ _ _ hk1 HR.out.symm, ← HNK.out])
            clear hHeld hHeld9 L9 L0 rb
            go_wp2_with fail
            go_roundg (nn - (k + 1))
            case measure => omega
            case rel => exact ⟨k + 1, n + 1, by omega, by go_num, by go_num, HNK2, HQ⟩
        · have hxn : xx = n := by
            rw [HNK.out, HLX.out, List.take_of_length_le (by have := HNN.out; omega)]
          have hxe : ((xx : Int) == n) = true := by simp [hxn]
          clear hxn
          go_wp2_with (go_at_call 8; (with_reducible refine (HWK.out _ (HB3.out.trans (HBq.out.mono hs3))).mono ?_); rintro e w9 ⟨rfl, hb9⟩)
          go_ret
          exact ⟨rfl, HB2.out.trans ((HB3.out.trans ((HBq.out.trans (hb9.mono HBq.out.size)).mono hs3)).mono HB2.out.size)⟩
end Go.Proofs.YtanbgdhmfjgihaaGreatDoor
