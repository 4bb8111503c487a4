/- Texts of one kind, one behind the other: each says ahead of itself what it shows. -/
import Derived.Test.YtanbgdhmfjgihaaGreatDoorLar
import Derived.Test.YtanbgdhmfjgihaaGreatDoorLan
/- slices.CompactFunc at values. -/
namespace Go.Proofs.YtanbgdhmfjgihaaGreatDoor
open Go.RowKit

noncomputable local instance : DecidableEq Val := fun _ _ => Classical.propDecidable _
theorem VE.same_eq (a b : VE) : sameP a.val b.val = true ↔ a.val = b.val := by
  unfold VE.val
  rw [sameP]
  constructor
  · intro h
    simp only [Bool.and_eq_true, beq_iff_eq] at h
    obtain ⟨h1, h2, h3, h4, h5, _⟩ := h
    have e4 : a.v.t = b.v.t := bytes_ext (by rw [← toList_eq, ← toList_eq]; exact h4)
    have e5 : a.v.x = b.v.x := bytes_ext (by rw [← toList_eq, ← toList_eq]; exact h5)
    rw [h1, h2, h3, e4, e5]
  · intro h
    injection h with h1 h2 h3 h4 h5 _
    rw [h1, h2, h3, h4, h5]
    simp [eachSame]
theorem VE.len6 (x : VE) : x.enc.length = 6 := rfl
/-- Same, of two of them. -/
theorem sameVE (a b : VE) (w : World) : Calls Tryz.prog 76 #[.agg #[.int .i64 a.v.k, .bool a.v.b, .int .i64 a.v.n, .string a.v.t, .string a.v.x, .slice a.v.p a.v.len a.v.cap], .agg #[.int .i64 b.v.k, .bool b.v.b, .int .i64 b.v.n, .string b.v.t, .string b.v.x, .slice b.v.p b.v.len b.v.cap]] w fun e w' => e = .returned (.bool (sameP a.val b.val)) ∧ Low w.heap.size w w' := by
  obtain ⟨⟨k, b', n, t, z, p, len, cap⟩, h0, hf⟩ := a
  obtain ⟨⟨k2, b2, n2, t2, z2, p2, len2, cap2⟩, h02, hf2⟩ := b
  simp only at h0 h02
  subst h0 h02
  exact sameAll _ w k b' n t z [] p cap _ k2 b2 n2 t2 z2 [] p2 cap2 rfl rfl (by simp) ⟨_, _, rfl⟩ ⟨_, _, rfl⟩
def valsA (d : Array VE) : Array Val := d.map VE.val
theorem valsA_size (d : Array VE) : (valsA d).size = d.size := by unfold valsA; simp
instance : Inhabited Val := ⟨.mk 0 false 0 ⟨#[]⟩ ⟨#[]⟩ []⟩
theorem valsA_get (d : Array VE) (i : Nat) (h : i < d.size) : (valsA d)[i]! = d[i]!.val := by
  rw [getElem!_pos _ i (by rw [valsA_size]; exact h), getElem!_pos d i h]
  unfold valsA
  simp
theorem valsA_set (d : Array VE) (i : Nat) (u : VE) : valsA (d.setIfInBounds i u) = (valsA d).setIfInBounds i u.val := by
  unfold valsA
  rw [Array.map_setIfInBounds]

theorem only_lowC {g : Nat} {x y z : World} (h : Only g x y) (k : Low y.heap.size y z) : Only g x z := h.trans (Only.of_low k)
theorem wpList_loadVE {ops : Array Oper} {rest : List Oper} {o : Oper} {a : Act} {w : World} {Q : Exit → Act → World → Prop} (x : Operand) (g off : Nat) (e : VE) (h6 : w.rangeAt g off e.enc)
    (hgd : o.guard = none) (ho : o.op = .load 39 x) (hx : a.eval x = .pointer (some ⟨g, off, none⟩))
    (h : wpList Tryz.prog ops Q rest (a.put o.dst (.agg e.enc.toArray)) w) : wpList Tryz.prog ops Q (o :: rest) a w :=
  wpList_load_mid hgd 39 x ho g off hx e.enc _ h6 Tryz.underlying39 rfl info28 h
theorem wpList_storeVE {ops : Array Oper} {rest : List Oper} {o : Oper} {a : Act} {w : World} {Q : Exit → Act → World → Prop} (x y : Operand) (g off : Nat) (e : VE) (hth : w.there g off 6)
    (hgd : o.guard = none) (ho : o.op = .store 39 x y) (hx : a.eval x = .pointer (some ⟨g, off, none⟩)) (hy : a.eval y = .agg e.enc.toArray)
    (h : wpList Tryz.prog ops Q rest (a.put o.dst undef) (w.setCells g off e.enc)) : wpList Tryz.prog ops Q (o :: rest) a w :=
  wpList_store_mid hgd 39 x y ho g off e.enc.toArray hx hy hth info28 (all_oneCell_toArray e.one) h
theorem zero39 (w : World) : (zeroValue 39).run Tryz.prog w = .ok (.agg #[.int .i64 0, .bool false, .int .i64 0, .string ⟨#[]⟩, .string ⟨#[]⟩, .slice none 0 0]) w := Tryz.zeroValue39 w
set_option maxHeartbeats 6400000 in
set_option maxRecDepth 20000 in
theorem compactV (blk off cap : Nat) (d : Array VE) (w : World) (hE : Elems VE.enc 6 w blk off d) (hblk : blk < w.heap.size) (hsz : d.size < 1099511627776) (hcap : d.size ≤ cap) :
    Calls Tryz.prog 75 #[.slice (some ⟨blk, off, none⟩) d.size cap, .func (.func 76) #[] #[]] w fun e w' => ∃ (dk : Array VE), e = .returned (.slice (some ⟨blk, off, none⟩) dk.size cap) ∧ dk.toList.map VE.val = Go.Lib.compactUpTo (valsA d) d.size ∧ Elems VE.enc 6 w' blk off dk ∧ Only blk w w' := by
  have all : (∀ j, j < d.size → Go.Lib.keeps (valsA d) j = true) → d.toList.map VE.val = Go.Lib.compactUpTo (valsA d) d.size := fun h => by
    have := Go.Lib.compactUpTo_all (valsA d) d.size h
    rw [this, ← valsA_size d, Go.Lib.range_map_get]
    unfold valsA
    simp
  have ALL := Lib.hid all
  have HE := Lib.hid hE
  clear all hE
  by_cases h2 : d.size < 2
  · go_enter Tryz.func75, Tryz.ntmps75
    go_wp2_with fail
    go_ret
    exact ⟨d, rfl, ALL.out fun j hj => Go.Lib.keeps_lt_one _ j (by omega), HE.out, Only.refl _ _⟩
  · go_enter Tryz.func75, Tryz.ntmps75
    go_wp2_with fail
    go_loopg [5] d.size (fun gg s5 wr => ∃ i : Nat, s5 = .int .i64 ((i : Int) + 1) ∧ i + 1 ≤ d.size ∧ d.size - (i + 1) ≤ gg ∧ Low w.heap.size w wr ∧ Hid (∀ j, j < i + 1 → Go.Lib.keeps (valsA d) j = true))
    case atStart => exact ⟨0, rfl, by omega, by omega, Low.refl _ _, Lib.hid (Go.Lib.keeps_lt_one _)⟩
    case round =>
      obtain ⟨i, rfl, hi, hgg, bw, hall⟩ := hrel
      by_cases hlt : i + 1 < d.size
      · have E := HE.out.low hblk bw
        obtain ⟨ea, hea⟩ : ∃ x, x = d[i + 1]! := ⟨_, rfl⟩
        obtain ⟨eb, heb⟩ : ∃ x, x = d[i]! := ⟨_, rfl⟩
        have ra := (E (i + 1) hlt).1
        have rb := (E i (by omega)).1
        rw [← hea] at ra
        rw [← heb] at rb
        have RA : Hid (∀ W, Low wr.heap.size wr W → W.rangeAt blk (off + (i + 1) * 6) ea.enc) := Lib.hid fun W h => range_below ra h.is
        have RB : Hid (∀ W, Low wr.heap.size wr W → W.rangeAt blk (off + i * 6) eb.enc) := Lib.hid fun W h => range_below rb h.is
        obtain ⟨r, hr⟩ : ∃ r, r = sameP ea.val eb.val := ⟨_, rfl⟩
        have HC : Hid (∀ W, Calls Tryz.prog 76 #[.agg ea.enc.toArray, .agg eb.enc.toArray] W fun e w' => e = .returned (.bool r) ∧ Low W.heap.size W w') := Lib.hid fun W => by rw [hr]; exact sameVE ea eb W
        have KR : Hid (r = true ↔ (valsA d)[i + 1]! = (valsA d)[i]!) := Lib.hid (by rw [valsA_get d _ hlt, valsA_get d _ (by omega), ← hea, ← heb, hr]; exact VE.same_eq ea eb)
        clear E ra rb hea heb hr
        have hlti : (i : Int) + 1 < d.size := by omega
        have t1 : ((i : Int) + 1).toNat = i + 1 := by omega
        have t2 : ¬ (i : Int) + 1 < 0 := by omega
        have t3 : IntKind.i64.wrap (i : Int) = i := IntWalk.i64_in _ (by omega)
        have t4 : (i : Int) < d.size := by omega
        go_upto_region 6 with fail
        refine wp_region_held_drew (S := fun W => Low wr.heap.size wr W) (by kernel_rfl) (Low.refl _ _).drew (fun hHeld => ?_)
        refine wpAnyH_take (i := 0) (v := .func (.func 76) #[] #[]) rfl (by kernel_rfl) (by kernel_rfl) (by kernel_rfl) (fun _ _ _ h => h) (Or.inl ⟨by rfl, fun W _ => by go_simp⟩) hHeld ?_
        try simp only [putS]
        refine wpAnyH_take (i := 1) (v := .slice (some ⟨blk, off, none⟩) d.size cap) rfl (by kernel_rfl) (by kernel_rfl) (by kernel_rfl) (fun _ _ _ h => h) (Or.inl ⟨by rfl, fun W _ => by go_simp⟩) hHeld ?_
        try simp only [putS]
        refine wpAnyH_take (i := 2) (v := .int .i64 ((i : Int) + 1)) rfl (by kernel_rfl) (by kernel_rfl) (by kernel_rfl) (fun _ _ _ h => h) (Or.inl ⟨by rfl, fun W _ => by go_simp⟩) hHeld ?_
        try simp only [putS]
        refine wpAnyH_take (i := 3) (v := .pointer (some ⟨blk, off + (i + 1) * 6, none⟩)) rfl (by kernel_rfl) (by kernel_rfl) (by kernel_rfl) (fun _ _ _ h => h) (Or.inl ⟨by rfl, fun W _ => by go_simp⟩) hHeld ?_
        try simp only [putS]
        refine wpAnyH_take (i := 4) rfl (by kernel_rfl) (by kernel_rfl) (by kernel_rfl) (fun _ _ _ h => h) (yieldsIf_load_mid (by rfl) 39 (.tmp 21) rfl blk (off + (i + 1) * 6) rfl ea.enc _ (fun w h => RA.out w h) Tryz.underlying39 rfl info28) hHeld ?_
        try simp only [putS]
        refine wpAnyH_take (i := 5) (v := .slice (some ⟨blk, off, none⟩) d.size cap) rfl (by kernel_rfl) (by kernel_rfl) (by kernel_rfl) (fun _ _ _ h => h) (Or.inl ⟨by rfl, fun W _ => by go_simp⟩) hHeld ?_
        try simp only [putS]
        refine wpAnyH_take (i := 6) (v := .int .i64 ((i : Int) + 1)) rfl (by kernel_rfl) (by kernel_rfl) (by kernel_rfl) (fun _ _ _ h => h) (Or.inl ⟨by rfl, fun W _ => by go_simp⟩) hHeld ?_
        try simp only [putS]
        refine wpAnyH_take (i := 7) (v := .int .i64 i) rfl (by kernel_rfl) (by kernel_rfl) (by kernel_rfl) (fun _ _ _ h => h) (Or.inl ⟨by rfl, fun W _ => by go_simp⟩) hHeld ?_
        try simp only [putS]
        refine wpAnyH_take (i := 8) (v := .pointer (some ⟨blk, off + i * 6, none⟩)) rfl (by kernel_rfl) (by kernel_rfl) (by kernel_rfl) (fun _ _ _ h => h) (Or.inl ⟨by rfl, fun W _ => by go_simp⟩) hHeld ?_
        try simp only [putS]
        refine wpAnyH_take (i := 9) rfl (by kernel_rfl) (by kernel_rfl) (by kernel_rfl) (fun _ _ _ h => h) (yieldsIf_load_mid (by rfl) 39 (.tmp 26) rfl blk (off + i * 6) rfl eb.enc _ (fun w h => RB.out w h) Tryz.underlying39 rfl info28) hHeld ?_
        try simp only [putS]
        refine wpAnyH_ready (rs := [10]) (by kernel_rfl) (by simp) ?_
        refine AllReadyH.cons rfl (fun K hK => ?_) AllReadyH.nil
        rw [if_pos (by rfl)]
        go_simp
        refine (HC.out _).mono ?_
        rintro e0 w3 ⟨rfl, hb3⟩
        have hH2 := low_any hHeld hb3 hHeld.size
        clear hb3 hHeld
        refine hK.out _ _ hH2 (fun hH2 => ?_)
        clear hK K
        try simp only [putS]
        refine wpAnyH_done (by kernel_rfl) ?_ _
        replace bw := bw.trans (hH2.mono bw.size)
        cases r with
        | false =>
            go_wp2_with fail
            go_roundg (d.size - (i + 1 + 1))
            case measure => omega
            case rel =>
              refine ⟨i + 1, by go_num, by omega, Nat.le_refl _, bw, Lib.hid fun j hj => ?_⟩
              by_cases e : j = i + 1
              · subst e
                exact Go.Lib.keeps_pos (fun h => absurd (KR.out.2 h) (by decide))
              · exact hall.out j (by omega)
        | true =>
            have hst := Go.Lib.CompInv.start (d := valsA d) (k0 := i + 1) hall.out (Go.Lib.keeps_neg (by omega) (KR.out.1 rfl))
            have HST := Lib.hid hst
            clear hst KR
            have hcap3 : (i : Int) + 1 ≤ cap := by omega
            have hle3 : (i : Int) + 1 ≤ d.size := by omega
            have E3 := HE.out.low hblk bw
            have bo : Only blk w w3 := Only.of_low bw
            go_wp2_with fail
            go_loopg [5, 7] d.size (fun gg s5 s7 wr => ∃ (kk c : Nat) (dk : Array VE), s5 = .int .i64 kk ∧ s7 = .int .i64 ((c : Int) + 1) ∧ i + 1 + (c + 1) ≤ d.size ∧ d.size - (i + 1 + (c + 1)) ≤ gg ∧ Only blk w wr ∧ dk.size = d.size ∧ Hid (Elems VE.enc 6 wr blk off dk) ∧ Hid (Go.Lib.CompInv (valsA d) (i + 1 + (c + 1)) kk (valsA dk)))
            case atStart => exact ⟨i + 1, 0, d, by go_num, rfl, by omega, by omega, bo, rfl, Lib.hid E3, HST⟩
            case round =>
              clear E3 bo bw hall
              obtain ⟨kk, c, dk, rfl, rfl, hle, hgg2, bo, hds, hE, hI⟩ := hrel
              have hkk := hI.out.lt
              by_cases hlt2 : i + 1 + (c + 1) < d.size
              · obtain ⟨ec, hec⟩ : ∃ x, x = dk[i + 1 + (c + 1)]! := ⟨_, rfl⟩
                obtain ⟨ed, hed⟩ : ∃ x, x = dk[i + 1 + c]! := ⟨_, rfl⟩
                have ra := (hE.out (i + 1 + (c + 1)) (by omega)).1
                have rb := (hE.out (i + 1 + c) (by omega)).1
                rw [← hec, show off + (i + 1 + (c + 1)) * 6 = off + (i + 1) * 6 + (c + 1) * 6 by omega] at ra
                rw [← hed, show off + (i + 1 + c) * 6 = off + (i + 1) * 6 + c * 6 by omega] at rb
                have RA : Hid (∀ W, Low wr.heap.size wr W → W.rangeAt blk (off + (i + 1) * 6 + (c + 1) * 6) ec.enc) := Lib.hid fun W h => range_below ra h.is
                have RB : Hid (∀ W, Low wr.heap.size wr W → W.rangeAt blk (off + (i + 1) * 6 + c * 6) ed.enc) := Lib.hid fun W h => range_below rb h.is
                obtain ⟨r, hr⟩ : ∃ r, r = sameP ec.val ed.val := ⟨_, rfl⟩
                have HC : Hid (∀ W, Calls Tryz.prog 76 #[.agg ec.enc.toArray, .agg ed.enc.toArray] W fun e w' => e = .returned (.bool r) ∧ Low W.heap.size W w') := Lib.hid fun W => by rw [hr]; exact sameVE ec ed W
                have hv1 := hI.out.high (i + 1 + (c + 1)) (by omega)
                have hv2 := hI.out.high (i + 1 + c) (by omega)
                rw [valsA_get dk _ (by omega), ← hec] at hv1
                rw [valsA_get dk _ (by omega), ← hed] at hv2
                have KR : Hid (r = true ↔ (valsA d)[i + 1 + (c + 1)]! = (valsA d)[i + 1 + c]!) := Lib.hid (by rw [← hv1, ← hv2, hr]; exact VE.same_eq ec ed)
                have HV1 := Lib.hid hv1
                have hblk2 : blk < wr.heap.size := Nat.lt_of_lt_of_le hblk bo.size
                clear ra rb hec hed hr hv1 hv2
                have hlti2 : (c : Int) + 1 < (d.size - (i + 1) : Nat) := by omega
                have t5 : ((c : Int) + 1).toNat = c + 1 := by omega
                have t6 : ¬ (c : Int) + 1 < 0 := by omega
                have t7 : IntKind.i64.wrap (c : Int) = c := IntWalk.i64_in _ (by omega)
                have t8 : (c : Int) < (d.size - (i + 1) : Nat) := by omega
                go_upto_region 11 with fail
                refine wp_region_held_drew (S := fun W => Low wr.heap.size wr W) (by kernel_rfl) (Low.refl _ _).drew (fun hHeld => ?_)
                refine wpAnyH_take (i := 0) (v := .func (.func 76) #[] #[]) rfl (by kernel_rfl) (by kernel_rfl) (by kernel_rfl) (fun _ _ _ h => h) (Or.inl ⟨by rfl, fun W _ => by go_simp⟩) hHeld ?_
                try simp only [putS]
                refine wpAnyH_take (i := 1) (v := .slice (some ⟨blk, off + (i + 1) * 6, none⟩) (d.size - (i + 1)) (cap - (i + 1))) rfl (by kernel_rfl) (by kernel_rfl) (by kernel_rfl) (fun _ _ _ h => h) (Or.inl ⟨by rfl, fun W _ => by go_simp⟩) hHeld ?_
                try simp only [putS]
                refine wpAnyH_take (i := 2) (v := .int .i64 ((c : Int) + 1)) rfl (by kernel_rfl) (by kernel_rfl) (by kernel_rfl) (fun _ _ _ h => h) (Or.inl ⟨by rfl, fun W _ => by go_simp⟩) hHeld ?_
                try simp only [putS]
                refine wpAnyH_take (i := 3) (v := .pointer (some ⟨blk, off + (i + 1) * 6 + (c + 1) * 6, none⟩)) rfl (by kernel_rfl) (by kernel_rfl) (by kernel_rfl) (fun _ _ _ h => h) (Or.inl ⟨by rfl, fun W _ => by go_simp⟩) hHeld ?_
                try simp only [putS]
                refine wpAnyH_take (i := 4) rfl (by kernel_rfl) (by kernel_rfl) (by kernel_rfl) (fun _ _ _ h => h) (yieldsIf_load_mid (by rfl) 39 (.tmp 41) rfl blk (off + (i + 1) * 6 + (c + 1) * 6) rfl ec.enc _ (fun w h => RA.out w h) Tryz.underlying39 rfl info28) hHeld ?_
                try simp only [putS]
                refine wpAnyH_take (i := 5) (v := .slice (some ⟨blk, off + (i + 1) * 6, none⟩) (d.size - (i + 1)) (cap - (i + 1))) rfl (by kernel_rfl) (by kernel_rfl) (by kernel_rfl) (fun _ _ _ h => h) (Or.inl ⟨by rfl, fun W _ => by go_simp⟩) hHeld ?_
                try simp only [putS]
                refine wpAnyH_take (i := 6) (v := .int .i64 ((c : Int) + 1)) rfl (by kernel_rfl) (by kernel_rfl) (by kernel_rfl) (fun _ _ _ h => h) (Or.inl ⟨by rfl, fun W _ => by go_simp⟩) hHeld ?_
                try simp only [putS]
                refine wpAnyH_take (i := 7) (v := .int .i64 c) rfl (by kernel_rfl) (by kernel_rfl) (by kernel_rfl) (fun _ _ _ h => h) (Or.inl ⟨by rfl, fun W _ => by go_simp⟩) hHeld ?_
                try simp only [putS]
                refine wpAnyH_take (i := 8) (v := .pointer (some ⟨blk, off + (i + 1) * 6 + c * 6, none⟩)) rfl (by kernel_rfl) (by kernel_rfl) (by kernel_rfl) (fun _ _ _ h => h) (Or.inl ⟨by rfl, fun W _ => by go_simp⟩) hHeld ?_
                try simp only [putS]
                refine wpAnyH_take (i := 9) rfl (by kernel_rfl) (by kernel_rfl) (by kernel_rfl) (fun _ _ _ h => h) (yieldsIf_load_mid (by rfl) 39 (.tmp 46) rfl blk (off + (i + 1) * 6 + c * 6) rfl ed.enc _ (fun w h => RB.out w h) Tryz.underlying39 rfl info28) hHeld ?_
                try simp only [putS]
                refine wpAnyH_ready (rs := [10]) (by kernel_rfl) (by simp) ?_
                refine AllReadyH.cons rfl (fun K hK => ?_) AllReadyH.nil
                rw [if_pos (by rfl)]
                go_simp
                refine (HC.out _).mono ?_
                rintro e0 w3 ⟨rfl, hb3⟩
                have hH2 := low_any hHeld hb3 hHeld.size
                clear hb3 hHeld
                refine hK.out _ _ hH2 (fun hH2 => ?_)
                clear hK K
                try simp only [putS]
                refine wpAnyH_take (i := 11) (v := .bool (!r)) rfl (by kernel_rfl) (by kernel_rfl) (by kernel_rfl) (fun _ _ _ h => h) (Or.inl ⟨by rfl, fun W _ => by go_simp⟩) hH2 ?_
                try simp only [putS]
                refine wpAnyH_done (by kernel_rfl) ?_ _
                cases r with
                | true =>
                  go_wp2_with fail
                  go_roundg (d.size - (i + 1 + (c + 1 + 1)))
                  case measure => omega
                  case rel => exact ⟨kk, c + 1, dk, rfl, by go_num, by omega, Nat.le_refl _, only_lowC bo hH2, hds, Lib.hid (hE.out.low hblk2 hH2), Lib.hid (hI.out.skip (Go.Lib.keeps_neg (by omega) (KR.out.1 (by first | rfl | trivial))))⟩
                | false =>
                  have E3 := hE.out.low hblk2 hH2
                  have rc := RA.out _ hH2
                  have hth := (E3 kk (by omega)).2
                  have E4 := E3.set VE.len6 kk (by omega) ec
                  have bo2 := (only_lowC bo hH2).trans (only_setCells blk ec.enc (off + kk * 6) w3)
                  have I4 := hI.out.keep (by rw [valsA_size]; exact hlt2) (Go.Lib.keeps_pos (fun h => absurd (KR.out.2 h) (by decide)))
                  rw [← HV1.out, ← valsA_set] at I4
                  have hkk3 : (kk : Int) < d.size := by omega
                  have HE4 := Lib.hid E4
                  have HI4 := Lib.hid I4
                  clear E4 I4 E3 hE hI bo HV1 KR RB HC
                  go_wp2_with (first
                    | ((with_reducible refine wpList_loadVE (.tmp 54) blk (off + (i + 1) * 6 + (c + 1) * 6) ec rc ?_ ?_ ?_ ?_); rfl; rfl; rfl)
                    | ((with_reducible refine wpList_storeVE (.tmp 56) (.tmp 55) blk (off + kk * 6) ec hth ?_ ?_ ?_ ?_ ?_); rfl; rfl; rfl; rfl; clear hth rc; generalize w3.setCells blk (off + kk * 6) ec.enc = w4 at *))
                  go_roundg (d.size - (i + 1 + (c + 1 + 1)))
                  case measure => omega
                  case rel => exact ⟨kk + 1, c + 1, dk.setIfInBounds kk ec, by go_num, by go_num, by omega, Nat.le_refl _, bo2, by simpa using hds, HE4, HI4⟩
              · have hend : i + 1 + (c + 1) = d.size := by omega
                have hnl : ¬ (c : Int) + 1 < (d.size - (i + 1) : Nat) := by omega
                have hth := hE.out.there (by decide) kk (by omega)
                rw [hds] at hth
                have hcl : ∀ ty, (Builtin.clear_ #[37] ty #[.slice (some ⟨blk, off + kk * 6, none⟩) (d.size - kk) (cap - kk)]).run Tryz.prog wr = .ok (.tuple #[]) (wr.setCells blk (off + kk * 6) (Builtin.zeroCells #[.int .i64 0, .bool false, .int .i64 0, .string ⟨#[]⟩, .string ⟨#[]⟩, .slice none 0 0] (d.size - kk)).toList) := fun ty =>
                  run_clear_row Tryz.prog wr 37 39 ty _ Tryz.underlying37 zero39 (by
                    intro v hv
                    simp only [Builtin.zeroCells, Array.toList_map, List.mem_map, Array.toList_range, List.mem_range] at hv
                    obtain ⟨q, _, rfl⟩ := hv
                    have hq : q % 6 < 6 := Nat.mod_lt _ (by decide)
                    show (#[Value.int .i64 0, .bool false, .int .i64 0, .string ⟨#[]⟩, .string ⟨#[]⟩, .slice none 0 0][q % 6]!).oneCell' = true
                    generalize q % 6 = z at hq
                    match z, hq with
                    | 0, _ | 1, _ | 2, _ | 3, _ | 4, _ | 5, _ => rfl) blk (off + kk * 6) (cap - kk) (by omega) hth
                have E4 := hE.out.tail VE.len6 kk (by omega) (Builtin.zeroCells #[.int .i64 0, .bool false, .int .i64 0, .string ⟨#[]⟩, .string ⟨#[]⟩, .slice none 0 0] (d.size - kk)).toList
                have bo2 := bo.trans (only_setCells blk (Builtin.zeroCells #[.int .i64 0, .bool false, .int .i64 0, .string ⟨#[]⟩, .string ⟨#[]⟩, .slice none 0 0] (d.size - kk)).toList (off + kk * 6) wr)
                have hsz2 : (dk.take kk).size = kk := by simp; omega
                have hres : (dk.take kk).toList.map VE.val = Go.Lib.compactUpTo (valsA d) d.size := by
                  have hI' := hI.out
                  rw [hend] at hI'
                  refine List.ext_getElem (by simp [hI'.len]; omega) fun j h1 h2 => ?_
                  have hj : j < kk := by rw [← hI'.len]; exact h2
                  have := hI'.low j hj
                  rw [List.getElem?_eq_getElem h2, valsA_get dk j (by omega)] at this
                  rw [Option.some.inj this, List.getElem_map, Array.getElem_toList, getElem!_pos dk j (by omega)]
                  congr 1
                  simp
                have HF := Lib.hid (And.intro hres E4)
                have hkc : kk ≤ cap := by omega
                have hkd : kk ≤ d.size := by omega
                have hkc3 : (kk : Int) ≤ cap := by omega
                have hkd3 : (kk : Int) ≤ d.size := by omega
                clear hres E4 hE hI hth bo
                generalize (Builtin.zeroCells #[.int .i64 0, .bool false, .int .i64 0, .string ⟨#[]⟩, .string ⟨#[]⟩, .slice none 0 0] (d.size - kk)).toList = zs at *
                go_wp2_with fail
                go_ret
                exact ⟨dk.take kk, by rw [hsz2]; rfl, HF.out.1, HF.out.2, bo2⟩
      · have hend : i + 1 = d.size := by omega
        have hn : ¬ (i : Int) + 1 < d.size := by omega
        go_wp2_with fail
        go_ret
        exact ⟨d, rfl, ALL.out fun j hj => hall.out j (by omega), HE.out.low hblk bw, Only.of_low bw⟩
end Go.Proofs.YtanbgdhmfjgihaaGreatDoor

/- What is left of a sorted list when it is compacted. -/
namespace Go.Proofs.YtanbgdhmfjgihaaGreatDoor
open Go.RowKit

section
variable {α : Type} [Inhabited α] [DecidableEq α]
theorem compact_has (d : Array α) (m : Nat) : (j : Nat) → j < m → d[j]! ∈ Go.Lib.compactUpTo d m
  | 0, h => by
    unfold Go.Lib.compactUpTo
    rw [List.mem_map]
    exact ⟨0, by rw [List.mem_filter]; exact ⟨List.mem_range.2 h, Go.Lib.keeps_lt_one d 0 (by omega)⟩, rfl⟩
  | j + 1, h => by
    by_cases e : d[j + 1]! = d[j]!
    · rw [e]; exact compact_has d m j (by omega)
    · unfold Go.Lib.compactUpTo
      rw [List.mem_map]
      exact ⟨j + 1, by rw [List.mem_filter]; exact ⟨List.mem_range.2 h, Go.Lib.keeps_pos e⟩, rfl⟩
theorem compact_of (d : Array α) (m : Nat) (x : α) (h : x ∈ Go.Lib.compactUpTo d m) : ∃ j, j < m ∧ x = d[j]! := by
  unfold Go.Lib.compactUpTo at h
  rw [List.mem_map] at h
  obtain ⟨j, hj, rfl⟩ := h
  rw [List.mem_filter] at hj
  exact ⟨j, List.mem_range.1 hj.1, rfl⟩
theorem compact_pair (R : α → α → Prop) (d : Array α) (m : Nat) (h : ∀ i j, i < j → j < m → d[j]! ≠ d[j - 1]! → R d[i]! d[j]!) : (Go.Lib.compactUpTo d m).Pairwise R := by
  unfold Go.Lib.compactUpTo
  rw [List.pairwise_map, List.pairwise_filter]
  refine (List.pairwise_lt_range (n := m)).imp_of_mem ?_
  intro i j _ hj hij _ hk
  refine h i j hij (List.mem_range.1 hj) ?_
  unfold Go.Lib.keeps at hk
  have := of_decide_eq_true hk
  rcases this with e | e
  · omega
  · exact e
end
theorem compact_len {α : Type} [Inhabited α] {dv : DecidableEq α} (d : Array α) (m : Nat) : (Go.Lib.compactUpTo d m).length ≤ m := by
  unfold Go.Lib.compactUpTo
  rw [List.length_map]
  exact Nat.le_trans (List.length_filter_le _ _) (by simp)
theorem perm_whole {α : Type} [Inhabited α] {d d' : Array α} (h : Go.Sort.PermIn 0 d.size d d') : d'.size = d.size ∧ d'.toList.Perm d.toList := by
  obtain ⟨h1, _, h3⟩ := h
  have e : d'.extract 0 d.size = d' := by rw [← h1]; simp
  have e2 : d.extract 0 d.size = d := by simp
  rw [e, e2] at h3
  exact ⟨h1, h3⟩
/-- Values that rise. -/
def Rise (l : List Val) : Prop := ∀ (i j : Nat) (_ : i < j) (h : j < l.length), orderI 1 (l[i]'(by omega)) l[j] < 0
theorem Rise.of_pair {l : List Val} (h : l.Pairwise fun a b => orderI 1 a b < 0) : Rise l := fun i j hij hj => List.pairwise_iff_getElem.1 h i j (by omega) hj hij
theorem Rise.pair {l : List Val} (h : Rise l) : l.Pairwise fun a b => orderI 1 a b < 0 := List.pairwise_iff_getElem.2 fun i j _ hj hij => h i j hij hj
theorem orderI_self (a : Val) : orderI 1 a a = 0 := by
  have := orderI_neg 1 a a
  omega
theorem Rise.lt {l : List Val} (h : Rise l) (i m : Nat) (hi : i < l.length) (hm : m < l.length) : orderI 1 l[i] l[m] < 0 ↔ i < m := by
  rcases Nat.lt_trichotomy i m with q | q | q
  · exact ⟨fun _ => q, fun _ => h i m q hm⟩
  · subst q
    rw [orderI_self]
    omega
  · have g := h m i q hi
    have e := orderI_neg 1 l[i] l[m]
    omega
theorem Rise.inj {l : List Val} (h : Rise l) (i m : Nat) (hi : i < l.length) (hm : m < l.length) (e : l[i] = l[m]) : i = m := by
  have e1 := (h.lt i m hi hm)
  have e2 := (h.lt m i hm hi)
  rw [e, orderI_self] at e1
  rw [e, orderI_self] at e2
  omega
/-- Two lists that rise and have the same values are one. -/
theorem Rise.ext {l m : List Val} (hl : Rise l) (hm : Rise m) (h : ∀ u, u ∈ l ↔ u ∈ m) : l = m := by
  have key : ∀ (l m : List Val), l.Pairwise (fun a b => orderI 1 a b < 0) → m.Pairwise (fun a b => orderI 1 a b < 0) → (∀ u, u ∈ l ↔ u ∈ m) → l = m := by
    intro l
    induction l with
    | nil =>
      intro m _ _ h
      cases m with
      | nil => rfl
      | cons b m => exact absurd ((h b).2 (List.mem_cons_self ..)) (by simp)
    | cons a l ih =>
      intro m hl hm h
      cases m with
      | nil => exact absurd ((h a).1 (List.mem_cons_self ..)) (by simp)
      | cons b m =>
        rw [List.pairwise_cons] at hl hm
        have hab : a = b := by
          rcases List.mem_cons.1 ((h a).1 (List.mem_cons_self ..)) with e | e
          · exact e
          · rcases List.mem_cons.1 ((h b).2 (List.mem_cons_self ..)) with e2 | e2
            · exact e2.symm
            · have q1 := hm.1 a e
              have q2 := hl.1 b e2
              have q3 := orderI_neg 1 a b
              omega
        subst hab
        congr 1
        refine ih m hl.2 hm.2 fun u => ?_
        constructor
        · intro hu
          rcases List.mem_cons.1 ((h u).1 (List.mem_cons_of_mem _ hu)) with e | e
          · subst e
            have := hl.1 u hu
            rw [orderI_self] at this
            omega
          · exact e
        · intro hu
          rcases List.mem_cons.1 ((h u).2 (List.mem_cons_of_mem _ hu)) with e | e
          · subst e
            have := hm.1 u hu
            rw [orderI_self] at this
            omega
          · exact e
  exact key l m hl.pair hm.pair h
/-- What sortedValues makes of values that may be. -/
theorem compact_rise {dv : DecidableEq Val} {d d' : Array VE} (hp : Go.Sort.PermIn 0 d.size d d') (hs : Go.Sort.SortedIn (Go.Proofs.ltOf VE.cf) 0 d.size d') (hm : ∀ u ∈ d.toList.map VE.val, mayP u 0 = true) :
    Rise (Go.Lib.compactUpTo (valsA d') d'.size) ∧ ∀ u, u ∈ Go.Lib.compactUpTo (valsA d') d'.size ↔ u ∈ d.toList.map VE.val := by
  obtain ⟨hz, hq⟩ := perm_whole hp
  have hin : ∀ j, j < d'.size → (valsA d')[j]! ∈ d.toList.map VE.val := fun j hj => by
    rw [valsA_get d' j hj]
    refine List.mem_map.2 ⟨d'[j]!, ?_, rfl⟩
    rw [← hq.mem_iff, getElem!_pos d' j hj]
    exact Array.getElem_mem_toList hj
  have hle : ∀ i j, i < j → j < d'.size → orderI 1 (valsA d')[i]! (valsA d')[j]! ≤ 0 := fun i j hij hj => by
    rw [valsA_get d' j hj, valsA_get d' i (by omega)]
    have q : ¬ orderI 1 d'[j]!.val d'[i]!.val < 0 := of_decide_eq_false (hs i j (Nat.zero_le _) hij (by omega))
    have e := orderI_neg 1 d'[i]!.val d'[j]!.val
    omega
  constructor
  · refine Rise.of_pair (compact_pair _ _ _ fun i j hij hj hne => ?_)
    have hstep : orderI 1 (valsA d')[j - 1]! (valsA d')[j]! < 0 := by
      have q := hle (j - 1) j (by omega) hj
      by_cases z : orderI 1 (valsA d')[j - 1]! (valsA d')[j]! = 0
      · have hsame := order_same 1 _ _ 0 0 (hm _ (hin (j - 1) (by omega))) (hm _ (hin j hj)) z
        rw [valsA_get d' j hj, valsA_get d' (j - 1) (by omega)] at hsame hne
        exact absurd ((VE.same_eq _ _).1 hsame).symm hne
      · omega
    by_cases e : i = j - 1
    · subst e; exact hstep
    · exact (orderI_tri 1 _ _ _).tl (hle i (j - 1) (by omega) (by omega)) hstep
  · intro u
    constructor
    · intro hu
      obtain ⟨j, hj, rfl⟩ := compact_of _ _ _ hu
      exact hin j hj
    · intro hu
      obtain ⟨e, he, rfl⟩ := List.mem_map.1 hu
      have he2 : e ∈ d'.toList := hq.mem_iff.2 he
      obtain ⟨j, hj, rfl⟩ := List.getElem_of_mem he2
      have hj' : j < d'.size := by simpa using hj
      have := compact_has (valsA d') d'.size j hj'
      rwa [valsA_get d' j hj', getElem!_pos d' j hj', ← Array.getElem_toList] at this
end Go.Proofs.YtanbgdhmfjgihaaGreatDoor

/- slices.BinarySearchFunc at values: a value that is there is found. -/
namespace Go.Proofs.YtanbgdhmfjgihaaGreatDoor
open Go.RowKit

/-- compareValues, of two values by what their cells say. -/
theorem cmpIs (u v : V6) (a b : Val) (q q2 : List Val) (W : World) (hG : Gd W) (hT : Tab W) (hu : Is W u a q) (hv : Is W v b q2) :
    Calls Tryz.prog 74 #[.agg #[.int .i64 u.k, .bool u.b, .int .i64 u.n, .string u.t, .string u.x, .slice u.p u.len u.cap], .agg #[.int .i64 v.k, .bool v.b, .int .i64 v.n, .string v.t, .string v.x, .slice v.p v.len v.cap]] W fun e w' => e = .returned (.int .i64 (orderI 1 a b)) ∧ Low W.heap.size W w' := by
  obtain ⟨k, b', n, t, x, p, len, cap⟩ := u
  obtain ⟨k2, b2, n2, t2, x2, p2, len2, cap2⟩ := v
  obtain ⟨e1, l1, f1, d1⟩ := hu
  obtain ⟨e2, l2, f2, d2⟩ := hv
  simp only at e1 l1 f1 d1 e2 l2 f2 d2
  subst l1 l2
  exact cmpValAt _ _ W k b' n t x q p cap k2 b2 n2 t2 x2 q2 p2 cap2 e1 e2 hG hT f1 f2 d1 d2
set_option maxHeartbeats 6400000 in
set_option maxRecDepth 20000 in
theorem searchAt (l : List Val) (g o cap m : Nat) (u : V6) (q : List Val) (w : World) (hG : Gd w) (hT : Tab w) (hl : Holds w g o l) (hr : Rise l) (hm : m < l.length) (hn : l.length < 1073741824) (hu : Is w u l[m] q) :
    Calls Tryz.prog 78 #[.slice (some ⟨g, o, none⟩) l.length cap, .agg #[.int .i64 u.k, .bool u.b, .int .i64 u.n, .string u.t, .string u.x, .slice u.p u.len u.cap], .func (.func 74) #[] #[]] w fun e w' => e = .returned (.tuple #[.int .i64 m, .bool true]) ∧ Low w.heap.size w w' := by
  obtain ⟨W0, hW0⟩ : ∃ W0, W0 = w.alloc (.cells #[.int .i64 u.k, .bool u.b, .int .i64 u.n, .string u.t, .string u.x, .slice u.p u.len u.cap] 39) := ⟨_, rfl⟩
  have S0 : Six W0 w.heap.size u.k u.b u.n u.t u.x u.p u.len u.cap := by rw [hW0]; exact six_new _ rfl
  have b0 : Low w.heap.size w W0 := by rw [hW0]; exact low1 _ _
  have HW := Lib.hid hW0
  have HL := Lib.hid hl
  have HR := Lib.hid hr
  have HU := Lib.hid hu
  have HG := Lib.hid hG
  have HT := Lib.hid hT
  have RU0 : Hid (∀ W, Low W0.heap.size W0 W → W.rangeAt w.heap.size 0 [.int .i64 u.k, .bool u.b, .int .i64 u.n, .string u.t, .string u.x, .slice u.p u.len u.cap]) := Lib.hid fun W h => range6 (S0.low h).c0 (S0.low h).c1 (S0.low h).c2 (S0.low h).c3 (S0.low h).c4 (S0.low h).c5
  have hm2 : (m : Int) < l.length := by omega
  clear hW0 hl hr hu S0 hG hT
  go_enter Tryz.func78, Tryz.ntmps78
  go_wp2_with fail
  rw [← HW.out]
  go_loopg [9, 10] l.length (fun gg s9 s10 wr => ∃ lo hi : Nat, s9 = .int .i64 lo ∧ s10 = .int .i64 hi ∧ lo ≤ m ∧ m ≤ hi ∧ hi ≤ l.length ∧ hi - lo ≤ gg ∧ Hid (Low W0.heap.size W0 wr))
  case atStart => exact ⟨0, l.length, rfl, rfl, Nat.zero_le _, by omega, Nat.le_refl _, by omega, Lib.hid (Low.refl _ _)⟩
  case round =>
    obtain ⟨lo, hi, rfl, rfl, hlo, hhi, hin, hg, hb⟩ := hrel
    by_cases hlt : lo < hi
    · have hx : (lo + hi) / 2 < l.length := by omega
      have hb0 : Low w.heap.size w wr := b0.trans (hb.out.mono b0.size)
      obtain ⟨v, q2, i2, r2⟩ := isOf (Holds.at_ l o (Holds.below l HL.out hb0.is) ((lo + hi) / 2) hx)
      have RV : Hid (∀ W, Low wr.heap.size wr W → W.rangeAt g (o + (lo + hi) / 2 * 6) [.int .i64 v.k, .bool v.b, .int .i64 v.n, .string v.t, .string v.x, .slice v.p v.len v.cap]) := Lib.hid fun W h => range_below r2 h.is
      have RU : Hid (∀ W, Low wr.heap.size wr W → W.rangeAt w.heap.size 0 [.int .i64 u.k, .bool u.b, .int .i64 u.n, .string u.t, .string u.x, .slice u.p u.len u.cap]) := Lib.hid fun W h => RU0.out W (low_any hb.out h hb.out.size)
      obtain ⟨c, hc⟩ : ∃ c, c = orderI 1 l[(lo + hi) / 2] l[m] := ⟨_, rfl⟩
      have HC : Hid (∀ W, Low wr.heap.size wr W → Calls Tryz.prog 74 #[.agg #[.int .i64 v.k, .bool v.b, .int .i64 v.n, .string v.t, .string v.x, .slice v.p v.len v.cap], .agg #[.int .i64 u.k, .bool u.b, .int .i64 u.n, .string u.t, .string u.x, .slice u.p u.len u.cap]] W fun e w' => e = .returned (.int .i64 c) ∧ Low W.heap.size W w') := Lib.hid fun W h => by
        have hw := low_any hb0 h hb0.size
        rw [hc]
        exact cmpIs v u _ _ q2 q W (HG.out.below hw.is) (HT.out.below hw.is) (i2.below h.is) (HU.out.below hw.is)
      have HZ : Hid (c < 0 ↔ (lo + hi) / 2 < m) := Lib.hid (by rw [hc]; exact HR.out.lt _ m hx hm)
      have hx3 : (((lo + hi) / 2 : Nat) : Int) < l.length := by omega
      have hlt3 : (lo : Int) < hi := by omega
      have hs1 : (lo : Int) + hi < 9223372036854775808 := by omega
      clear i2 r2 hc
      go_upto_region 5 with fail
      refine wp_region_held_drew (S := fun W => Low wr.heap.size wr W) (by kernel_rfl) (Low.refl _ _).drew (fun hHeld => ?_)
      refine wpAnyH_take (i := 0) (v := .func (.func 74) #[] #[]) rfl (by kernel_rfl) (by kernel_rfl) (by kernel_rfl) (fun _ _ _ h => h) (Or.inl ⟨by rfl, fun W _ => by go_simp⟩) hHeld ?_
      try simp only [putS]
      refine wpAnyH_take (i := 1) (v := .slice (some ⟨g, o, none⟩) l.length cap) rfl (by kernel_rfl) (by kernel_rfl) (by kernel_rfl) (fun _ _ _ h => h) (Or.inl ⟨by rfl, fun W _ => by go_simp⟩) hHeld ?_
      try simp only [putS]
      refine wpAnyH_take (i := 2) (v := .int .i64 (((lo : Int) + hi) / 2)) rfl (by kernel_rfl) (by kernel_rfl) (by kernel_rfl) (fun _ _ _ h => h) (Or.inl ⟨by rfl, fun W _ => by go_simp⟩) hHeld ?_
      try simp only [putS]
      refine wpAnyH_take (i := 3) (v := .pointer (some ⟨g, o + (lo + hi) / 2 * 6, none⟩)) rfl (by kernel_rfl) (by kernel_rfl) (by kernel_rfl) (fun _ _ _ h => h) (Or.inl ⟨by rfl, fun W _ => by
                have t1 : (0 : Int) ≤ ((lo : Int) + hi) / 2 := by omega
                have t2 : ((lo : Int) + hi) / 2 < l.length := by omega
                have t3 : (((lo : Int) + hi) / 2).toNat = (lo + hi) / 2 := by omega
                go_simp⟩) hHeld ?_
      try simp only [putS]
      refine wpAnyH_take (i := 4) rfl (by kernel_rfl) (by kernel_rfl) (by kernel_rfl) (fun _ _ _ h => h) (yieldsIf_load_mid (by rfl) 39 (.tmp 27) rfl (g) (o + (lo + hi) / 2 * 6) rfl [.int .i64 v.k, .bool v.b, .int .i64 v.n, .string v.t, .string v.x, .slice v.p v.len v.cap] _ (fun w h => RV.out _ h) Tryz.underlying39 rfl info28) hHeld ?_
      try simp only [putS]
      refine wpAnyH_take (i := 5) rfl (by kernel_rfl) (by kernel_rfl) (by kernel_rfl) (fun _ _ _ h => h) (yieldsIf_load_mid (by rfl) 39 (.tmp 4) rfl (w.heap.size) (0) rfl [.int .i64 u.k, .bool u.b, .int .i64 u.n, .string u.t, .string u.x, .slice u.p u.len u.cap] _ (fun w h => RU.out _ h) Tryz.underlying39 rfl info28) hHeld ?_
      try simp only [putS]
      refine wpAnyH_ready (rs := [6]) (by kernel_rfl) (by simp) ?_
      refine AllReadyH.cons rfl (fun K hK => ?_) AllReadyH.nil
      rw [if_pos (by rfl)]
      go_simp
      refine (HC.out _ hHeld).mono ?_
      rintro e0 w3 ⟨rfl, hb3⟩
      have hH2 := low_any hHeld hb3 hHeld.size
      clear hb3 hHeld
      refine hK.out _ _ hH2 (fun hH2 => ?_)
      clear hK K
      try simp only [putS]
      refine wpAnyH_take (i := 7) (v := .bool (decide (c < 0))) rfl (by kernel_rfl) (by kernel_rfl) (by kernel_rfl) (fun _ _ _ h => h) (Or.inl ⟨by rfl, fun W _ => by go_simp⟩) hH2 ?_
      try simp only [putS]
      refine wpAnyH_done (by kernel_rfl) ?_ _
      have hbN := low_any hb.out hH2 hb.out.size
      have HB := Lib.hid hbN
      by_cases hz : c < 0
      · have hz2 := HZ.out.1 hz
        rw [decide_eq_true hz]
        clear hH2 hbN hb0 RV RU HC HZ
        go_wp2_with fail
        go_roundg (hi - ((lo + hi) / 2 + 1))
        case measure => omega
        case rel => exact ⟨(lo + hi) / 2 + 1, hi, by rw [show (((lo + hi) / 2 + 1 : Nat) : Int) = ((lo : Int) + (hi : Int)) / 2 + 1 by omega], rfl, by omega, hhi, hin, Nat.le_refl _, HB⟩
      · have hz2 : ¬ (lo + hi) / 2 < m := fun h => hz (HZ.out.2 h)
        rw [decide_eq_false hz]
        clear hH2 hbN hb0 RV RU HC HZ
        go_wp2_with fail
        go_roundg ((lo + hi) / 2 - lo)
        case measure => omega
        case rel => exact ⟨lo, (lo + hi) / 2, rfl, by rw [show (((lo + hi) / 2 : Nat) : Int) = ((lo : Int) + (hi : Int)) / 2 by omega], hlo, by omega, by omega, Nat.le_refl _, HB⟩
    · obtain rfl : lo = m := by omega
      obtain rfl : hi = lo := by omega
      have hb0 : Low w.heap.size w wr := b0.trans (hb.out.mono b0.size)
      obtain ⟨v, q2, i2, r2⟩ := isOf (Holds.at_ l o (Holds.below l HL.out hb0.is) hi hm)
      have RV : Hid (∀ W, Low wr.heap.size wr W → W.rangeAt g (o + hi * 6) [.int .i64 v.k, .bool v.b, .int .i64 v.n, .string v.t, .string v.x, .slice v.p v.len v.cap]) := Lib.hid fun W h => range_below r2 h.is
      have RU : Hid (∀ W, Low wr.heap.size wr W → W.rangeAt w.heap.size 0 [.int .i64 u.k, .bool u.b, .int .i64 u.n, .string u.t, .string u.x, .slice u.p u.len u.cap]) := Lib.hid fun W h => RU0.out W (low_any hb.out h hb.out.size)
      have HC : Hid (∀ W, Low wr.heap.size wr W → Calls Tryz.prog 74 #[.agg #[.int .i64 v.k, .bool v.b, .int .i64 v.n, .string v.t, .string v.x, .slice v.p v.len v.cap], .agg #[.int .i64 u.k, .bool u.b, .int .i64 u.n, .string u.t, .string u.x, .slice u.p u.len u.cap]] W fun e w' => e = .returned (.int .i64 0) ∧ Low W.heap.size W w') := Lib.hid fun W h => by
        have hw := low_any hb0 h hb0.size
        have := cmpIs v u _ _ q2 q W (HG.out.below hw.is) (HT.out.below hw.is) (i2.below h.is) (HU.out.below hw.is)
        rwa [orderI_self] at this
      have HB := Lib.hid hb0
      clear i2 r2 hb0 hb
      go_upto_region 8 with fail
      refine wp_region_held_drew (S := fun W => Low wr.heap.size wr W) (by kernel_rfl) (Low.refl _ _).drew (fun hHeld => ?_)
      refine wpAnyH_take (i := 0) (v := .int .i64 hi) rfl (by kernel_rfl) (by kernel_rfl) (by kernel_rfl) (fun _ _ _ h => h) (Or.inl ⟨by rfl, fun W _ => by go_simp⟩) hHeld ?_
      try simp only [putS]
      refine wpAnyH_take (i := 1) (v := .int .i64 hi) rfl (by kernel_rfl) (by kernel_rfl) (by kernel_rfl) (fun _ _ _ h => h) (Or.inl ⟨by rfl, fun W _ => by go_simp⟩) hHeld ?_
      try simp only [putS]
      refine wpAnyH_take (i := 2) (v := .int .i64 l.length) rfl (by kernel_rfl) (by kernel_rfl) (by kernel_rfl) (fun _ _ _ h => h) (Or.inl ⟨by rfl, fun W _ => by go_simp⟩) hHeld ?_
      try simp only [putS]
      refine wpAnyH_take (i := 3) (v := .bool true) rfl (by kernel_rfl) (by kernel_rfl) (by kernel_rfl) (fun _ _ _ h => h) (Or.inl ⟨by rfl, fun W _ => by go_simp⟩) hHeld ?_
      try simp only [putS]
      refine wpAnyH_take (i := 4) (v := .bool true) rfl (by kernel_rfl) (by kernel_rfl) (by kernel_rfl) (fun _ _ _ h => h) (Or.inl ⟨by rfl, fun W _ => by go_simp⟩) hHeld ?_
      try simp only [putS]
      refine wpAnyH_take (i := 5) (v := .func (.func 74) #[] #[]) rfl (by kernel_rfl) (by kernel_rfl) (by kernel_rfl) (fun _ _ _ h => h) (Or.inl ⟨by rfl, fun W _ => by go_simp⟩) hHeld ?_
      try simp only [putS]
      refine wpAnyH_take (i := 6) (v := .slice (some ⟨g, o, none⟩) l.length cap) rfl (by kernel_rfl) (by kernel_rfl) (by kernel_rfl) (fun _ _ _ h => h) (Or.inl ⟨by rfl, fun W _ => by go_simp⟩) hHeld ?_
      try simp only [putS]
      refine wpAnyH_take (i := 7) (v := .int .i64 hi) rfl (by kernel_rfl) (by kernel_rfl) (by kernel_rfl) (fun _ _ _ h => h) (Or.inl ⟨by rfl, fun W _ => by go_simp⟩) hHeld ?_
      try simp only [putS]
      refine wpAnyH_take (i := 8) (v := .pointer (some ⟨g, o + hi * 6, none⟩)) rfl (by kernel_rfl) (by kernel_rfl) (by kernel_rfl) (fun _ _ _ h => h) (Or.inl ⟨by rfl, fun W _ => by go_simp⟩) hHeld ?_
      try simp only [putS]
      refine wpAnyH_take (i := 9) rfl (by kernel_rfl) (by kernel_rfl) (by kernel_rfl) (fun _ _ _ h => h) (yieldsIf_load_mid (by rfl) 39 (.tmp 43) rfl (g) (o + hi * 6) rfl [.int .i64 v.k, .bool v.b, .int .i64 v.n, .string v.t, .string v.x, .slice v.p v.len v.cap] _ (fun w h => RV.out _ h) Tryz.underlying39 rfl info28) hHeld ?_
      try simp only [putS]
      refine wpAnyH_take (i := 10) rfl (by kernel_rfl) (by kernel_rfl) (by kernel_rfl) (fun _ _ _ h => h) (yieldsIf_load_mid (by rfl) 39 (.tmp 4) rfl (w.heap.size) (0) rfl [.int .i64 u.k, .bool u.b, .int .i64 u.n, .string u.t, .string u.x, .slice u.p u.len u.cap] _ (fun w h => RU.out _ h) Tryz.underlying39 rfl info28) hHeld ?_
      try simp only [putS]
      refine wpAnyH_ready (rs := [11]) (by kernel_rfl) (by simp) ?_
      refine AllReadyH.cons rfl (fun K hK => ?_) AllReadyH.nil
      rw [if_pos (by rfl)]
      go_simp
      refine (HC.out _ hHeld).mono ?_
      rintro e0 w3 ⟨rfl, hb3⟩
      have hH2 := low_any hHeld hb3 hHeld.size
      clear hb3 hHeld
      refine hK.out _ _ hH2 (fun hH2 => ?_)
      clear hK K
      try simp only [putS]
      refine wpAnyH_take (i := 12) (v := .bool true) rfl (by kernel_rfl) (by kernel_rfl) (by kernel_rfl) (fun _ _ _ h => h) (Or.inl ⟨by rfl, fun W _ => by go_simp⟩) hH2 ?_
      try simp only [putS]
      refine wpAnyH_take (i := 13) (v := .bool true) rfl (by kernel_rfl) (by kernel_rfl) (by kernel_rfl) (fun _ _ _ h => h) (Or.inl ⟨by rfl, fun W _ => by go_simp⟩) hH2 ?_
      try simp only [putS]
      refine wpAnyH_take (i := 14) (v := .int .i64 hi) rfl (by kernel_rfl) (by kernel_rfl) (by kernel_rfl) (fun _ _ _ h => h) (Or.inl ⟨by rfl, fun W _ => by go_simp⟩) hH2 ?_
      try simp only [putS]
      refine wpAnyH_take (i := 15) (v := .bool true) rfl (by kernel_rfl) (by kernel_rfl) (by kernel_rfl) (fun _ _ _ h => h) (Or.inl ⟨by rfl, fun W _ => by go_simp⟩) hH2 ?_
      try simp only [putS]
      refine wpAnyH_done (by kernel_rfl) ?_ _
      go_wp2_with fail
      go_ret2
      exact ⟨rfl, low_any HB.out hH2 HB.out.size⟩
end Go.Proofs.YtanbgdhmfjgihaaGreatDoor
