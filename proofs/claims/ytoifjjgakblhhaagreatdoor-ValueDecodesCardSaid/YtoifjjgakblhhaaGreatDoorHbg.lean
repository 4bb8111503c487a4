/- Texts of one kind, one behind the other: each says ahead of itself what it shows. -/
import Derived.Test.YtoifjjgakblhhaaGreatDoorHbf
/- The document's own reader: lists that are read; values in one another. -/
namespace Go.Proofs.YtoifjjgakblhhaaGreatDoor
open Go.RowKit

/-- What one element's reading tells. -/
def ElemZ (f R : Nat) (r' : List UInt8) (s0 : Nat) (k : Int) (b : Bool) (m : Int) (t x : ByteArray) (p3 : Option Addr) (len3 cap3 : Nat) (w3 : World) : Prop :=
  (rzV f r' = none ∧ ∃ l', l'.length ≤ r'.length ∧ Rz w3 R l' true) ∨ (∃ (q' : List Val) (r2 : List UInt8), len3 = q'.length ∧ rzV f r' = some (.mk k b m t x q', r2) ∧ r2.length ≤ r'.length ∧ Fine m t x q'.length ∧ HeldF w3 (fun g => s0 ≤ g ∧ g < w3.heap.size) (.slice p3 len3 cap3) q' ∧ Rz w3 R r2 false)
/-- One value more, where it was read. -/
theorem rowZ {B R : Nat} {wr w3 w5 : World} {q : List Val} {A v' : Value} {xs : List Value} {f : Nat} {r' : List UInt8} {k : Int} {b : Bool} {m : Int} {t x : ByteArray} {p3 : Option Addr} {len3 cap3 : Nat} {o : Obj} (hgrow : (w3.alloc o).grownBy w5 A.ownBlock)
    (hown : wr.ownsRow (B + 1) 28 6 A q.length xs) (hacc : CellsF wr (fun g => B < g ∧ g < wr.heap.size ∧ A.ownBlock ≠ some g) xs q) (hO3 : Only R wr w3) (hBr : B < wr.heap.size) (hR : R ≤ B) (HV3 : Hid (ElemZ f R r' wr.heap.size k b m t x p3 len3 cap3 w3))
    (hown' : w5.ownsRow (B + 1) 28 6 v' (q.length + 1) (xs ++ [.int .i64 k, .bool b, .int .i64 m, .string t, .string x, .slice p3 len3 cap3])) (hloc : v'.ownBlock = A.ownBlock ∨ v'.ownBlock = some (w3.alloc o).heap.size) :
    ∀ (q' : List Val) (r2 : List UInt8), rzV f r' = some (.mk k b m t x q', r2) → AccZ B (q ++ [.mk k b m t x q']) v' w5 := fun q' r2 hv => by
  rcases HV3.out with ⟨h, _⟩ | ⟨q2, r3, hl, h, _, hf, hq, _⟩
  · rw [h] at hv; cases hv
  · rw [h] at hv
    simp only [Option.some.injEq, Prod.mk.injEq, Val.mk.injEq] at hv
    obtain ⟨⟨_, _, _, _, _, rfl⟩, _⟩ := hv
    subst hl
    exact AccZ.next hown hacc hBr hR hO3 hf hq hown' hgrow hloc
/-- What the round leaves. -/
theorem endZ {B R j n gg f' : Nat} {w3 w5 w9 : World} {q : List Val} {l r r' : List UInt8} {s0 : Nat} {k : Int} {b : Bool} {m : Int} {t x : ByteArray} {p3 : Option Addr} {len3 cap3 : Nat} {p5 : Option Addr} {cap5 : Nat} (hqj : q.length = j)
    (heq : rdL (rzV f') n (r.drop 4) = (match rdL (rzV f') (gg + 1) r' with | none => none | some (q2, r2) => some (q ++ q2, r2))) (HV3 : Hid (ElemZ f' R r' s0 k b m t x p3 len3 cap3 w3))
    (hrow : ∀ (q' : List Val) (r2 : List UInt8), rzV f' r' = some (.mk k b m t x q', r2) → AccZ B (q ++ [.mk k b m t x q']) (.slice p5 (q.length + 1) cap5) w5) (hRd : ∀ l' bad, Rz w3 R l' bad → Rz w5 R l' bad) (on9 : Only B w5 w9)
    (u : Six w9 B 5 false 0 ⟨#[]⟩ ⟨#[]⟩ p5 (q.length + 1) cap5) (hRB : R < B) (hrl : r'.length ≤ l.length) (u5 : ∃ p n c, Six w5 B 5 false 0 ⟨#[]⟩ ⟨#[]⟩ p n c) :
    (∃ (q2 : List Val) (r2 : List UInt8), q2.length = j + 1 ∧ j + 1 = q.length + 1 ∧ r2.length ≤ l.length ∧ AccZ B q2 (.slice p5 (q.length + 1) cap5) w9 ∧ Rz w9 R r2 false ∧ rdL (rzV f') n (r.drop 4) = (match rdL (rzV f') gg r2 with | none => none | some (q3, r3) => some (q2 ++ q3, r3))) ∨
    (rdL (rzV f') n (r.drop 4) = none ∧ ∃ l', l'.length ≤ l.length ∧ Rz w9 R l' true) := by
  obtain ⟨p, n5, c, u5⟩ := u5
  rcases HV3.out with ⟨h, l', hl', hR⟩ | ⟨q', r2, _, h, h2, _, _, hR⟩
  · refine .inr ⟨?_, l', by omega, (hRd l' true hR).six u5 on9 hRB⟩
    rw [heq]
    unfold rdL
    rw [h]
  · refine .inl ⟨q ++ [.mk k b m t x q'], r2, by simp [hqj], by omega, by omega, (hrow q' r2 h).only on9 (Nat.le_refl _), (hRd r2 false hR).six u5 on9 hRB, ?_⟩
    rw [heq]
    conv => lhs; unfold rdL
    rw [h]
    simp only
    cases rdL (rzV f') gg r2 with
    | none => rfl
    | some p2 => simp

set_option maxRecDepth 20000 in
set_option maxHeartbeats 6400000 in
theorem rzList (R d f : Nat) (l r : List UInt8) (c : UInt8) (w : World) (hlr : l = c :: r) (hc : c.toNat = 5) (h : Rz w R l false) (hl : l.length ≤ 1000000000) (hl3 : l.length ≤ 1048576) (f' : Nat) (hf1 : f = f' + 1) (hdf : d + f = 61) (hyes : 4 ≤ r.length ∧ numW (r.take 4) ≤ 4096) (each : EachRz f' (d + 1) R) :
    Calls Tryz.prog 71 #[.pointer (some ⟨R, 0, none⟩), .int .i64 d] w (RzPost f R l false w) := by
  have hv : rzV f l = rzK (if f = 0 then none else some (rzV (f - 1))) 5 r := by rw [hlr, rzV_cons, hc]
  have hrl : r.length ≤ l.length := by rw [hlr]; simp
  have hl2 : r.length ≤ 1000000000 := by omega
  obtain ⟨W0, hW0⟩ : ∃ W0, W0 = w.alloc (.cells #[.int .i64 0, .bool false, .int .i64 0, .string ⟨#[]⟩, .string ⟨#[]⟩, .slice none 0 0] 28) := ⟨_, rfl⟩
  have S : Six W0 w.heap.size 0 false 0 ⟨#[]⟩ ⟨#[]⟩ none 0 0 := by rw [hW0]; exact six_new _ rfl
  have b0 : Below w.heap.size w W0 := by rw [hW0]; exact below1 _ _
  have hBR : w.heap.size ≠ R := by have := h.lt; omega
  have hRw : R < w.heap.size := h.lt
  have z0 : W0.heap.size = w.heap.size + 1 := by rw [hW0]; simp
  have hi := numOne R l r c 5 W0 hlr (by rw [hc]; rfl) (h.below b0) hl
  have O : Only R w W0 := Only.of_below b0
  have H0 := Lib.hid hW0
  have HF1 := Lib.hid hf1
  have HYES := Lib.hid hyes
  have heach : ∀ (l : List UInt8) (bad : Bool) (w : World), Rz w R l bad → l.length ≤ 1048576 → Calls Tryz.prog 71 #[.pointer (some ⟨R, 0, none⟩), .int .i64 ((d : Int) + 1)] w (RzPost f' R l bad w) := fun l bad w h1 h2 => each l bad w h1 h2
  have EACH := Lib.hid heach
  have hdf2 : d + f' = 60 := by omega
  have HV := Lib.hid hv
  clear hW0 hv h b0 hlr hc hyes each heach hf1 hdf
  go_enter Tryz.func71, Tryz.ntmps71
  go_upto_region 2 with (go_at_call 114; (try rw [← H0.out]); (with_reducible refine hi.mono ?_); rintro e w1 ⟨rfl, R1, O1⟩)
  have hsz := O1.size
  have S2 : Six (w1.alloc (.cells #[.int .i64 5, .bool false, .int .i64 0, .string ⟨#[]⟩, .string ⟨#[]⟩, .slice none 0 0] 28)) w1.heap.size 5 false 0 ⟨#[]⟩ ⟨#[]⟩ none 0 0 := six_new _ rfl
  replace S := (S.only O1 hBR).alloc (.cells #[.int .i64 5, .bool false, .int .i64 0, .string ⟨#[]⟩, .string ⟨#[]⟩, .slice none 0 0] 28)
  replace R1 := R1.below (below1 w1 (.cells #[.int .i64 5, .bool false, .int .i64 0, .string ⟨#[]⟩, .string ⟨#[]⟩, .slice none 0 0] 28))
  replace O := (O.trans O1).alloc (.cells #[.int .i64 5, .bool false, .int .i64 0, .string ⟨#[]⟩, .string ⟨#[]⟩, .slice none 0 0] 28)
  obtain ⟨B, hB⟩ : ∃ B, B = w1.heap.size := ⟨_, rfl⟩
  have hBw : w.heap.size < B := by omega
  have hBR2 : B ≠ R := by omega
  have hBne : w.heap.size ≠ B := by omega
  have hRB : R < B := by omega
  rw [← hB] at S2 ⊢
  generalize w1.alloc (.cells #[.int .i64 5, .bool false, .int .i64 0, .string ⟨#[]⟩, .string ⟨#[]⟩, .slice none 0 0] 28) = W2 at S S2 R1 O ⊢
  have f0 := S2.c0
  clear hi O1 hB hsz
  obtain ⟨i0, hi, hz0, hz1, hz2⟩ := info_parts info28b
  obtain ⟨n, hn⟩ : ∃ n, n = numW (r.take 4) := ⟨_, rfl⟩
  have hn2 : n ≤ 4096 := by rw [hn]; exact HYES.out.2
  have hm : ∀ W, Rz W R r false → Calls Tryz.prog 114 #[.pointer (some ⟨R, 0, none⟩), .int .i64 4] W fun e w' => e = .returned (.int .i64 n) ∧ Rz w' R (r.drop 4) false ∧ Only R W w' := fun W hR => (show Calls Tryz.prog 114 #[.pointer (some ⟨R, 0, none⟩), .int .i64 4] W fun e w' => e = .returned (.int .i64 (toI64 (numW (r.take 4)))) ∧ Rz w' R (r.drop 4) false ∧ Only R W w' from numGood R W 4 (by omega) r HYES.out.1 hR hl2).mono (by
    rintro e w' ⟨he, h⟩
    rw [toI64_small _ (by have := num4 r; omega), ← hn] at he
    exact ⟨he, h⟩)
  have HN := Lib.hid hn
  clear hn
  have hn3 : ¬(4096 : Int) < n := by omega
  have hn4 : ¬4096 < n := by omega
  have hd1 : ¬(60 : Int) < d := by omega
  have hd2 : ¬60 < d := by omega
  have hd3 : (d : Int) ≤ 60 := by omega
  have he1 : IntKind.i64.wrap ((d : Int) + 1) = (d : Int) + 1 := IntWalk.i64_in _ (by omega)
  have hdd : decide ((60 : Int) < d) = false := decide_eq_false hd1
  have hdd2 : decide (60 < d) = false := decide_eq_false hd2
  have hnn : decide ((4096 : Int) < n) = false := decide_eq_false hn3
  have hnn2 : decide (4096 < n) = false := decide_eq_false hn4
  go_upto_region 23 with (go_at_call 114; (with_reducible refine (hm _ R1).mono ?_); rintro e w3 ⟨rfl, R3, O3⟩)
  replace S := S.only O3 hBR
  replace S2 := S2.only O3 hBR2
  replace O := O.trans O3
  have rc := R3.c1
  have rf := R3.f1
  have on4 := (Only.refl R w3).setCell 1 none (.bool false)
  have R4 := R3.set1 false
  clear R1 O3 hm f0 R3
  go_upto_region 24 with fail
  replace S := S.only on4 hBR
  replace S2 := S2.only on4 hBR2
  replace O := O.trans on4
  generalize w3.setCell ⟨R, 1, none⟩ (.bool false) = W4 at S S2 O R4 ⊢
  clear rc rf on4
  have HS := Lib.hid S
  have HS2 := Lib.hid S2
  have HOO := Lib.hid O
  have HR4 := Lib.hid R4
  have hbw : B < W4.heap.size := S2.lt
  clear S S2 O R4
  go_wp2_with fail
  go_loopg [8] n (fun gg s8 wr => ∃ (j : Nat) (p : Option Addr) (len cap : Nat), j + gg = n ∧ s8 = .int .i64 j ∧ Hid (Six wr w.heap.size 0 false 0 ⟨#[]⟩ ⟨#[]⟩ none 0 0) ∧ Hid (Six wr B 5 false 0 ⟨#[]⟩ ⟨#[]⟩ p len cap) ∧ Hid (Only R w wr) ∧ (Hid (∃ (q : List Val) (r' : List UInt8), q.length = j ∧ j = len ∧ r'.length ≤ l.length ∧ AccZ B q (.slice p len cap) wr ∧ Rz wr R r' false ∧ rdL (rzV f') n (r.drop 4) = (match rdL (rzV f') gg r' with | none => none | some (q2, r2) => some (q ++ q2, r2))) ∨ Hid (rdL (rzV f') n (r.drop 4) = none ∧ ∃ l', l'.length ≤ l.length ∧ Rz wr R l' true)))
  case atStart =>
    refine ⟨0, none, 0, 0, by omega, rfl, HS, HS2, HOO, .inl (Lib.hid ⟨[], r.drop 4, rfl, rfl, by rw [List.length_drop]; omega, ⟨[], by simpa using World.ownsRow_nil W4 (B + 1) 28 6, by unfold CellsF; rfl⟩, HR4.out, ?_⟩)⟩
    cases rdL (rzV f') n (r.drop 4) with
    | none => rfl
    | some pp => rfl
  case round =>
    clear HS HS2 HOO HR4 hbw
    obtain ⟨j, p, len, cap, hjg, rfl, HS, HS2, HOO, hst⟩ := hrel
    rcases hst with HG | HB
    · obtain ⟨q, r', hqj, hlen, hrl', ⟨xs, hown, hacc⟩, hR, heq⟩ := HG.out
      subst hlen
      have HQJ := Lib.hid hqj
      have hqb : q.length ≤ 4096 := by omega
      clear hqj
      have rc := hR.c1
      have hBr : B < wr.heap.size := HS2.out.lt
      by_cases hlt : j < n
      · have hlti : (j : Int) < n := by omega
        obtain ⟨gk', rfl⟩ : ∃ gk', gk = gk' + 1 := ⟨gk - 1, by omega⟩
        have HQ := Lib.hid heq
        have hcall : ∀ W, Rz W R r' false → Calls Tryz.prog 71 #[.pointer (some ⟨R, 0, none⟩), .int .i64 ((d : Int) + 1)] W fun e w' => ∃ (k : Int) (b : Bool) (m : Int) (t x : ByteArray) (p3 : Option Addr) (len3 cap3 : Nat), e = .returned (.agg #[.int .i64 k, .bool b, .int .i64 m, .string t, .string x, .slice p3 len3 cap3]) ∧ Only R W w' ∧ Hid (ElemZ f' R r' W.heap.size k b m t x p3 len3 cap3 w') := fun W hR => (EACH.out r' false W hR (by omega)).mono (by
          rintro e w' (⟨h, ⟨k, b, m, t, x, p3, len3, cap3, he⟩, h1, h2⟩ | ⟨k, b, m, t, x, q', p3, cap3, r2, _, h, h1, h2, he, h3, h4, h5⟩)
          · exact ⟨k, b, m, t, x, p3, len3, cap3, he, h2, Lib.hid (.inl ⟨h.resolve_left (by simp), h1⟩)⟩
          · exact ⟨k, b, m, t, x, p3, q'.length, cap3, he, h5, Lib.hid (.inr ⟨q', r2, rfl, h, h1, h2, h3, h4⟩)⟩)
        have HC := Lib.hid hcall
        clear heq hcall HG
        go_upto_region 27 with fail
        clear rc
        refine wp_region_held_drew (S := fun W => ∃ p' n' c', Six W B 5 false 0 ⟨#[]⟩ ⟨#[]⟩ p' n' c') (by kernel_rfl) ⟨_, _, _, HS2.out⟩ (fun hHeld => ?_)
        clear hHeld
        have u : Six wr.drew B 5 false 0 ⟨#[]⟩ ⟨#[]⟩ p j cap := HS2.out
        have hRd : Rz wr.drew R r' false := hR
        refine wpAnyH_take (i := 0) (v := (.pointer (some ⟨B, 5, none⟩))) rfl (by kernel_rfl) (by kernel_rfl) (by kernel_rfl) (fun _ _ _ h => h) (Or.inl ⟨by rfl, fun W _ => by go_simp⟩) ⟨_, _, _, u⟩ ?_
        try simp only [Act.put, List.getElem_toArray, List.getElem_cons_succ, List.getElem_cons_zero, List.setIfInBounds_toArray, List.set_cons_zero, List.set_cons_succ]
        refine wpAnyH_take (i := 2) (v := (.pointer (some ⟨R, 0, none⟩))) rfl (by kernel_rfl) (by kernel_rfl) (by kernel_rfl) (fun _ _ _ h => h) (Or.inl ⟨by rfl, fun W _ => by go_simp⟩) ⟨_, _, _, u⟩ ?_
        try simp only [Act.put, List.getElem_toArray, List.getElem_cons_succ, List.getElem_cons_zero, List.setIfInBounds_toArray, List.set_cons_zero, List.set_cons_succ]
        refine wpAnyH_take (i := 3) (v := (.int .i64 d)) rfl (by kernel_rfl) (by kernel_rfl) (by kernel_rfl) (fun _ _ _ h => h) (Or.inl ⟨by rfl, fun W _ => by go_simp⟩) ⟨_, _, _, u⟩ ?_
        try simp only [Act.put, List.getElem_toArray, List.getElem_cons_succ, List.getElem_cons_zero, List.setIfInBounds_toArray, List.set_cons_zero, List.set_cons_succ]
        refine wpAnyH_take (i := 4) (v := (.int .i64 ((d : Int) + 1))) rfl (by kernel_rfl) (by kernel_rfl) (by kernel_rfl) (fun _ _ _ h => h) (Or.inl ⟨by rfl, fun W _ => by go_simp⟩) ⟨_, _, _, u⟩ ?_
        try simp only [Act.put, List.getElem_toArray, List.getElem_cons_succ, List.getElem_cons_zero, List.setIfInBounds_toArray, List.set_cons_zero, List.set_cons_succ]
        refine wpAnyH_ready (rs := [1, 5]) (by kernel_rfl) (by simp) ?_
        refine AllReadyH.cons rfl (fun K hK => ?_) (AllReadyH.cons rfl (fun K hK => ?_) AllReadyH.nil)
        · skip
          have c5 := u.c5
          go_simp
          refine hK.out _ _ ⟨_, _, _, u⟩ (fun _ => ?_)
          clear hK K c5
          try simp only [Act.put, List.getElem_toArray, List.getElem_cons_succ, List.getElem_cons_zero, List.setIfInBounds_toArray, List.set_cons_zero, List.set_cons_succ]
          refine wpAnyH_ready (rs := [5]) (by kernel_rfl) (by simp) ?_
          refine AllReadyH.cons rfl (fun K hK => ?_) AllReadyH.nil
          rw [if_pos (by rfl)]
          go_simp
          refine (HC.out _ hRd).mono ?_
          rintro e w3 ⟨k, b, m, t, x, p3, len3, cap3, rfl, hO3, HV3⟩
          replace u := u.only hO3 hBR2
          have hO3' : Only R wr w3 := (Only.refl R wr).drew.trans hO3
          have hownX := ownZ_only hown hO3' (show R < B + 1 by omega)
          refine hK.out _ _ ⟨_, _, _, u⟩ (fun _ => ?_)
          clear hK K
          try simp only [Act.put, List.getElem_toArray, List.getElem_cons_succ, List.getElem_cons_zero, List.setIfInBounds_toArray, List.set_cons_zero, List.set_cons_succ]
          refine wpAnyH_ready (rs := [6]) (by kernel_rfl) (by simp) ?_
          refine AllReadyH.cons rfl (fun K hK => ?_) AllReadyH.nil
          go_simp
          replace u := u.alloc (.cells #[.int .i64 k, .bool b, .int .i64 m, .string t, .string x, .slice p3 len3 cap3] 28)
          refine hK.out _ _ ⟨_, _, _, u⟩ (fun _ => ?_)
          clear hK K
          try simp only [Act.put, List.getElem_toArray, List.getElem_cons_succ, List.getElem_cons_zero, List.setIfInBounds_toArray, List.set_cons_zero, List.set_cons_succ]
          refine wpAnyH_ready (rs := [7]) (by kernel_rfl) (by simp) ?_
          refine AllReadyH.cons rfl (fun K hK => ?_) AllReadyH.nil
          rw [if_pos (by rfl)]
          refine wp_append_own_at (.tmp 92) (.tmp 97) 22 rfl (B + 1) 28 i0 (.agg #[.int .i64 0, .bool false, .int .i64 0, .string ⟨#[]⟩, .string ⟨#[]⟩, .slice none 0 0]) 6 80 Tryz.underlying22 hi hz0 hz1 hz2 rfl (by decide) (.slice p j cap) q.length xs rfl (hownX.alloc _) ⟨w3.heap.size, 0, none⟩ 1 1 [.int .i64 k, .bool b, .int .i64 m, .string t, .string x, .slice p3 len3 cap3] rfl rfl (cell_six_new _ _ _ _ _ _ _ _) ?_ ?_ ?_ ?_ ?_
          · intro v hv
            simp only [List.mem_cons, List.mem_nil_iff, or_false] at hv
            rcases hv with rfl | rfl | rfl | rfl | rfl | rfl <;> rfl
          · unfold maxLen; omega
          · omega
          · have := hO3'.size
            simp
            omega
          intro v' w5 hown' hgrow hloc
          have hneB : some B ≠ (Value.slice p j cap).ownBlock := fun e => by have := (hown.lt B e.symm).1; omega
          replace u := u.grown hgrow hneB
          have hrow5 := rowZ hgrow hown hacc hO3' hBr (by omega) HV3 hown' hloc
          have hOn5 : Only R w w5 := ((HOO.out.trans hO3').alloc (.cells #[.int .i64 k, .bool b, .int .i64 m, .string t, .string x, .slice p3 len3 cap3] 28)).grownZ hgrow (fun g hg => by have := (hown.lt g hg).1; omega)
          have hS5 : Six w5 w.heap.size 0 false 0 ⟨#[]⟩ ⟨#[]⟩ none 0 0 := ((HS.out.only hO3' hBR).alloc (.cells #[.int .i64 k, .bool b, .int .i64 m, .string t, .string x, .slice p3 len3 cap3] 28)).grown hgrow (fun e => by have := (hown.lt _ e.symm).1; omega)
          have hRd5 : ∀ l' bad, Rz w3 R l' bad → Rz w5 R l' bad := fun l' bad h => (h.below (below1 w3 (.cells #[.int .i64 k, .bool b, .int .i64 m, .string t, .string x, .slice p3 len3 cap3] 28))).grown (hownX.alloc _) hgrow (by omega)
          obtain ⟨p5, cap5, rfl⟩ : ∃ p5 cap5, v' = .slice p5 (q.length + 1) cap5 := by
            rcases hown'.2 with ⟨_, h⟩ | ⟨g, c, cur, e, _⟩
            · omega
            · exact ⟨_, c, e⟩
          clear hown' hloc
          refine hK.out _ _ ⟨_, _, _, u⟩ (fun _ => ?_)
          clear hK K
          try simp only [Act.put, List.getElem_toArray, List.getElem_cons_succ, List.getElem_cons_zero, List.setIfInBounds_toArray, List.set_cons_zero, List.set_cons_succ]
          refine wpAnyH_take (i := 8) (v := (.pointer (some ⟨B, 5, none⟩))) rfl (by kernel_rfl) (by kernel_rfl) (by kernel_rfl) (fun _ _ _ h => h) (Or.inl ⟨by rfl, fun W _ => by go_simp⟩) ⟨_, _, _, u⟩ ?_
          try simp only [Act.put, List.getElem_toArray, List.getElem_cons_succ, List.getElem_cons_zero, List.setIfInBounds_toArray, List.set_cons_zero, List.set_cons_succ]
          refine wpAnyH_ready (rs := [9]) (by kernel_rfl) (by simp) ?_
          refine AllReadyH.cons rfl (fun K hK => ?_) AllReadyH.nil
          have c5 := u.c5
          have f5 := u.free 5
          go_simp
          have u5x : ∃ p n c, Six w5 B 5 false 0 ⟨#[]⟩ ⟨#[]⟩ p n c := ⟨_, _, _, u⟩
          have on9 := (Only.refl B w5).setCell 5 none (.slice p5 (q.length + 1) cap5)
          replace u := u.set5 p5 (q.length + 1) cap5
          refine hK.out _ _ ⟨_, _, _, u⟩ (fun _ => ?_)
          clear hK K c5 f5
          try simp only [Act.put, List.getElem_toArray, List.getElem_cons_succ, List.getElem_cons_zero, List.setIfInBounds_toArray, List.set_cons_zero, List.set_cons_succ]
          refine wpAnyH_done (by kernel_rfl) ?_ _
          have hend := endZ HQJ.out HQ.out HV3 hrow5 hRd5 on9 u hRB hrl' u5x
          have HS9 := Lib.hid (hS5.only on9 hBne)
          have HO9 := Lib.hid (hOn5.new on9 (by omega))
          have HU := Lib.hid u
          have HEND := Lib.hid hend
          generalize w5.setCell ⟨B, 5, none⟩ (.slice p5 (q.length + 1) cap5) = W9 at HS9 HO9 HU HEND ⊢
          clear u u5x hend hS5 hOn5 hRd5 on9 hgrow hrow5 hownX hO3 hO3' HV3 hRd hown hacc hneB
          go_wp2_with fail
          go_roundg gk'
          case measure => omega
          case rel => exact ⟨j + 1, p5, q.length + 1, cap5, by omega, by go_num, HS9, HU, HO9, HEND.out.imp Lib.hid Lib.hid⟩
        · skip
          rw [if_pos (by rfl)]
          go_simp
          refine (HC.out _ hRd).mono ?_
          rintro e w3 ⟨k, b, m, t, x, p3, len3, cap3, rfl, hO3, HV3⟩
          replace u := u.only hO3 hBR2
          have hO3' : Only R wr w3 := (Only.refl R wr).drew.trans hO3
          have hownX := ownZ_only hown hO3' (show R < B + 1 by omega)
          refine hK.out _ _ ⟨_, _, _, u⟩ (fun _ => ?_)
          clear hK K
          try simp only [Act.put, List.getElem_toArray, List.getElem_cons_succ, List.getElem_cons_zero, List.setIfInBounds_toArray, List.set_cons_zero, List.set_cons_succ]
          refine wpAnyH_ready (rs := [1, 6]) (by kernel_rfl) (by simp) ?_
          refine AllReadyH.cons rfl (fun K hK => ?_) (AllReadyH.cons rfl (fun K hK => ?_) AllReadyH.nil)
          · skip
            have c5 := u.c5
            go_simp
            refine hK.out _ _ ⟨_, _, _, u⟩ (fun _ => ?_)
            clear hK K c5
            try simp only [Act.put, List.getElem_toArray, List.getElem_cons_succ, List.getElem_cons_zero, List.setIfInBounds_toArray, List.set_cons_zero, List.set_cons_succ]
            refine wpAnyH_ready (rs := [6]) (by kernel_rfl) (by simp) ?_
            refine AllReadyH.cons rfl (fun K hK => ?_) AllReadyH.nil
            go_simp
            replace u := u.alloc (.cells #[.int .i64 k, .bool b, .int .i64 m, .string t, .string x, .slice p3 len3 cap3] 28)
            refine hK.out _ _ ⟨_, _, _, u⟩ (fun _ => ?_)
            clear hK K
            try simp only [Act.put, List.getElem_toArray, List.getElem_cons_succ, List.getElem_cons_zero, List.setIfInBounds_toArray, List.set_cons_zero, List.set_cons_succ]
            refine wpAnyH_ready (rs := [7]) (by kernel_rfl) (by simp) ?_
            refine AllReadyH.cons rfl (fun K hK => ?_) AllReadyH.nil
            rw [if_pos (by rfl)]
            refine wp_append_own_at (.tmp 92) (.tmp 97) 22 rfl (B + 1) 28 i0 (.agg #[.int .i64 0, .bool false, .int .i64 0, .string ⟨#[]⟩, .string ⟨#[]⟩, .slice none 0 0]) 6 80 Tryz.underlying22 hi hz0 hz1 hz2 rfl (by decide) (.slice p j cap) q.length xs rfl (hownX.alloc _) ⟨w3.heap.size, 0, none⟩ 1 1 [.int .i64 k, .bool b, .int .i64 m, .string t, .string x, .slice p3 len3 cap3] rfl rfl (cell_six_new _ _ _ _ _ _ _ _) ?_ ?_ ?_ ?_ ?_
            · intro v hv
              simp only [List.mem_cons, List.mem_nil_iff, or_false] at hv
              rcases hv with rfl | rfl | rfl | rfl | rfl | rfl <;> rfl
            · unfold maxLen; omega
            · omega
            · have := hO3'.size
              simp
              omega
            intro v' w5 hown' hgrow hloc
            have hneB : some B ≠ (Value.slice p j cap).ownBlock := fun e => by have := (hown.lt B e.symm).1; omega
            replace u := u.grown hgrow hneB
            have hrow5 := rowZ hgrow hown hacc hO3' hBr (by omega) HV3 hown' hloc
            have hOn5 : Only R w w5 := ((HOO.out.trans hO3').alloc (.cells #[.int .i64 k, .bool b, .int .i64 m, .string t, .string x, .slice p3 len3 cap3] 28)).grownZ hgrow (fun g hg => by have := (hown.lt g hg).1; omega)
            have hS5 : Six w5 w.heap.size 0 false 0 ⟨#[]⟩ ⟨#[]⟩ none 0 0 := ((HS.out.only hO3' hBR).alloc (.cells #[.int .i64 k, .bool b, .int .i64 m, .string t, .string x, .slice p3 len3 cap3] 28)).grown hgrow (fun e => by have := (hown.lt _ e.symm).1; omega)
            have hRd5 : ∀ l' bad, Rz w3 R l' bad → Rz w5 R l' bad := fun l' bad h => (h.below (below1 w3 (.cells #[.int .i64 k, .bool b, .int .i64 m, .string t, .string x, .slice p3 len3 cap3] 28))).grown (hownX.alloc _) hgrow (by omega)
            obtain ⟨p5, cap5, rfl⟩ : ∃ p5 cap5, v' = .slice p5 (q.length + 1) cap5 := by
              rcases hown'.2 with ⟨_, h⟩ | ⟨g, c, cur, e, _⟩
              · omega
              · exact ⟨_, c, e⟩
            clear hown' hloc
            refine hK.out _ _ ⟨_, _, _, u⟩ (fun _ => ?_)
            clear hK K
            try simp only [Act.put, List.getElem_toArray, List.getElem_cons_succ, List.getElem_cons_zero, List.setIfInBounds_toArray, List.set_cons_zero, List.set_cons_succ]
            refine wpAnyH_take (i := 8) (v := (.pointer (some ⟨B, 5, none⟩))) rfl (by kernel_rfl) (by kernel_rfl) (by kernel_rfl) (fun _ _ _ h => h) (Or.inl ⟨by rfl, fun W _ => by go_simp⟩) ⟨_, _, _, u⟩ ?_
            try simp only [Act.put, List.getElem_toArray, List.getElem_cons_succ, List.getElem_cons_zero, List.setIfInBounds_toArray, List.set_cons_zero, List.set_cons_succ]
            refine wpAnyH_ready (rs := [9]) (by kernel_rfl) (by simp) ?_
            refine AllReadyH.cons rfl (fun K hK => ?_) AllReadyH.nil
            have c5 := u.c5
            have f5 := u.free 5
            go_simp
            have u5x : ∃ p n c, Six w5 B 5 false 0 ⟨#[]⟩ ⟨#[]⟩ p n c := ⟨_, _, _, u⟩
            have on9 := (Only.refl B w5).setCell 5 none (.slice p5 (q.length + 1) cap5)
            replace u := u.set5 p5 (q.length + 1) cap5
            refine hK.out _ _ ⟨_, _, _, u⟩ (fun _ => ?_)
            clear hK K c5 f5
            try simp only [Act.put, List.getElem_toArray, List.getElem_cons_succ, List.getElem_cons_zero, List.setIfInBounds_toArray, List.set_cons_zero, List.set_cons_succ]
            refine wpAnyH_done (by kernel_rfl) ?_ _
            have hend := endZ HQJ.out HQ.out HV3 hrow5 hRd5 on9 u hRB hrl' u5x
            have HS9 := Lib.hid (hS5.only on9 hBne)
            have HO9 := Lib.hid (hOn5.new on9 (by omega))
            have HU := Lib.hid u
            have HEND := Lib.hid hend
            generalize w5.setCell ⟨B, 5, none⟩ (.slice p5 (q.length + 1) cap5) = W9 at HS9 HO9 HU HEND ⊢
            clear u u5x hend hS5 hOn5 hRd5 on9 hgrow hrow5 hownX hO3 hO3' HV3 hRd hown hacc hneB
            go_wp2_with fail
            go_roundg gk'
            case measure => omega
            case rel => exact ⟨j + 1, p5, q.length + 1, cap5, by omega, by go_num, HS9, HU, HO9, HEND.out.imp Lib.hid Lib.hid⟩
          · skip
            go_simp
            replace u := u.alloc (.cells #[.int .i64 k, .bool b, .int .i64 m, .string t, .string x, .slice p3 len3 cap3] 28)
            refine hK.out _ _ ⟨_, _, _, u⟩ (fun _ => ?_)
            clear hK K
            try simp only [Act.put, List.getElem_toArray, List.getElem_cons_succ, List.getElem_cons_zero, List.setIfInBounds_toArray, List.set_cons_zero, List.set_cons_succ]
            refine wpAnyH_ready (rs := [1]) (by kernel_rfl) (by simp) ?_
            refine AllReadyH.cons rfl (fun K hK => ?_) AllReadyH.nil
            have c5 := u.c5
            go_simp
            refine hK.out _ _ ⟨_, _, _, u⟩ (fun _ => ?_)
            clear hK K c5
            try simp only [Act.put, List.getElem_toArray, List.getElem_cons_succ, List.getElem_cons_zero, List.setIfInBounds_toArray, List.set_cons_zero, List.set_cons_succ]
            refine wpAnyH_ready (rs := [7]) (by kernel_rfl) (by simp) ?_
            refine AllReadyH.cons rfl (fun K hK => ?_) AllReadyH.nil
            rw [if_pos (by rfl)]
            refine wp_append_own_at (.tmp 92) (.tmp 97) 22 rfl (B + 1) 28 i0 (.agg #[.int .i64 0, .bool false, .int .i64 0, .string ⟨#[]⟩, .string ⟨#[]⟩, .slice none 0 0]) 6 80 Tryz.underlying22 hi hz0 hz1 hz2 rfl (by decide) (.slice p j cap) q.length xs rfl (hownX.alloc _) ⟨w3.heap.size, 0, none⟩ 1 1 [.int .i64 k, .bool b, .int .i64 m, .string t, .string x, .slice p3 len3 cap3] rfl rfl (cell_six_new _ _ _ _ _ _ _ _) ?_ ?_ ?_ ?_ ?_
            · intro v hv
              simp only [List.mem_cons, List.mem_nil_iff, or_false] at hv
              rcases hv with rfl | rfl | rfl | rfl | rfl | rfl <;> rfl
            · unfold maxLen; omega
            · omega
            · have := hO3'.size
              simp
              omega
            intro v' w5 hown' hgrow hloc
            have hneB : some B ≠ (Value.slice p j cap).ownBlock := fun e => by have := (hown.lt B e.symm).1; omega
            replace u := u.grown hgrow hneB
            have hrow5 := rowZ hgrow hown hacc hO3' hBr (by omega) HV3 hown' hloc
            have hOn5 : Only R w w5 := ((HOO.out.trans hO3').alloc (.cells #[.int .i64 k, .bool b, .int .i64 m, .string t, .string x, .slice p3 len3 cap3] 28)).grownZ hgrow (fun g hg => by have := (hown.lt g hg).1; omega)
            have hS5 : Six w5 w.heap.size 0 false 0 ⟨#[]⟩ ⟨#[]⟩ none 0 0 := ((HS.out.only hO3' hBR).alloc (.cells #[.int .i64 k, .bool b, .int .i64 m, .string t, .string x, .slice p3 len3 cap3] 28)).grown hgrow (fun e => by have := (hown.lt _ e.symm).1; omega)
            have hRd5 : ∀ l' bad, Rz w3 R l' bad → Rz w5 R l' bad := fun l' bad h => (h.below (below1 w3 (.cells #[.int .i64 k, .bool b, .int .i64 m, .string t, .string x, .slice p3 len3 cap3] 28))).grown (hownX.alloc _) hgrow (by omega)
            obtain ⟨p5, cap5, rfl⟩ : ∃ p5 cap5, v' = .slice p5 (q.length + 1) cap5 := by
              rcases hown'.2 with ⟨_, h⟩ | ⟨g, c, cur, e, _⟩
              · omega
              · exact ⟨_, c, e⟩
            clear hown' hloc
            refine hK.out _ _ ⟨_, _, _, u⟩ (fun _ => ?_)
            clear hK K
            try simp only [Act.put, List.getElem_toArray, List.getElem_cons_succ, List.getElem_cons_zero, List.setIfInBounds_toArray, List.set_cons_zero, List.set_cons_succ]
            refine wpAnyH_take (i := 8) (v := (.pointer (some ⟨B, 5, none⟩))) rfl (by kernel_rfl) (by kernel_rfl) (by kernel_rfl) (fun _ _ _ h => h) (Or.inl ⟨by rfl, fun W _ => by go_simp⟩) ⟨_, _, _, u⟩ ?_
            try simp only [Act.put, List.getElem_toArray, List.getElem_cons_succ, List.getElem_cons_zero, List.setIfInBounds_toArray, List.set_cons_zero, List.set_cons_succ]
            refine wpAnyH_ready (rs := [9]) (by kernel_rfl) (by simp) ?_
            refine AllReadyH.cons rfl (fun K hK => ?_) AllReadyH.nil
            have c5 := u.c5
            have f5 := u.free 5
            go_simp
            have u5x : ∃ p n c, Six w5 B 5 false 0 ⟨#[]⟩ ⟨#[]⟩ p n c := ⟨_, _, _, u⟩
            have on9 := (Only.refl B w5).setCell 5 none (.slice p5 (q.length + 1) cap5)
            replace u := u.set5 p5 (q.length + 1) cap5
            refine hK.out _ _ ⟨_, _, _, u⟩ (fun _ => ?_)
            clear hK K c5 f5
            try simp only [Act.put, List.getElem_toArray, List.getElem_cons_succ, List.getElem_cons_zero, List.setIfInBounds_toArray, List.set_cons_zero, List.set_cons_succ]
            refine wpAnyH_done (by kernel_rfl) ?_ _
            have hend := endZ HQJ.out HQ.out HV3 hrow5 hRd5 on9 u hRB hrl' u5x
            have HS9 := Lib.hid (hS5.only on9 hBne)
            have HO9 := Lib.hid (hOn5.new on9 (by omega))
            have HU := Lib.hid u
            have HEND := Lib.hid hend
            generalize w5.setCell ⟨B, 5, none⟩ (.slice p5 (q.length + 1) cap5) = W9 at HS9 HO9 HU HEND ⊢
            clear u u5x hend hS5 hOn5 hRd5 on9 hgrow hrow5 hownX hO3 hO3' HV3 hRd hown hacc hneB
            go_wp2_with fail
            go_roundg gk'
            case measure => omega
            case rel => exact ⟨j + 1, p5, q.length + 1, cap5, by omega, by go_num, HS9, HU, HO9, HEND.out.imp Lib.hid Lib.hid⟩
      · have hlti : ¬(j : Int) < n := by omega
        obtain rfl : gk = 0 := by omega
        have hv : rdL (rzV f') n (r.drop 4) = some (q, r') := by
          rw [heq]
          simp [rdL]
        have hh : HeldF wr (fun g => B < g ∧ g < wr.heap.size) (.slice p q.length cap) q := by
          rw [HQJ.out]
          exact heldF_of_own (by rw [HQJ.out] at hown ⊢; exact hown) hacc (fun g hg => ⟨hg.1, hg.2.1⟩) (fun g hg => ⟨by have := (hown.lt g hg).1; omega, (hown.lt g hg).2⟩)
        have HV2 := Lib.hid hv
        have HH := Lib.hid hh
        have S := HS.out
        have S2 := HS2.out
        have O := HOO.out
        have R1 := hR
        clear heq hv hh hown hacc HG hR
        go_wp2_with (first
          | ((with_reducible refine wpList_load6 (.tmp 5) B S2 ?_ ?_ ?_ ?_); rfl; rfl; rfl)
          | ((with_reducible refine wpList_store6 (k' := 5) (b' := false) (n' := 0) (t' := ⟨#[]⟩) (x' := ⟨#[]⟩) (p' := p) (len' := j) (cap' := cap) (.tmp 4) (.tmp 100) w.heap.size S ?_ ?_ ?_ ?_ ?_); rfl; rfl; rfl; rfl; intro w9 on9 S9))
        have R9 := R1.six S on9 hRw
        have O9 := O.new on9 (Nat.le_refl _)
        have hh9 : HeldF w9 (fun g => w.heap.size ≤ g ∧ g < w9.heap.size) (.slice p q.length cap) q := HH.out.stays (fun g hg => ⟨⟨by omega, Nat.lt_of_lt_of_le hg.2 on9.size⟩, on9.block g hg.2 (by omega)⟩) q
        refine bodyPost_ret (results_six1 (p := 4) Tryz.results71 _ rfl S9) rfl (.inr ⟨5, false, 0, ⟨#[]⟩, ⟨#[]⟩, q, p, cap, r', rfl, ?_, hrl', ⟨by decide, by decide, by omega, by decide, by decide⟩, by rw [HQJ.out], hh9, R9, O9⟩)
        rw [HV.out, rzK_list, HF1.out, if_neg (Nat.succ_ne_zero _), if_pos HYES.out, ← HN.out]
        show (match rdL (rzV f') n (r.drop 4) with | none => none | some (q, r') => some (Val.mk 5 false 0 E0 E0 q, r')) = _
        rw [HV2.out]
        rfl
    · obtain ⟨hbad, l', hl', hR⟩ := HB.out
      have rc := hR.c1
      have S := HS.out
      have S2 := HS2.out
      have O := HOO.out
      have R1 := hR
      have HBAD := Lib.hid hbad
      clear HB hR hbad
      by_cases hlt : j < n
      · skip
        go_wp2_with (first
          | ((with_reducible refine wpList_load6 (.tmp 5) B S2 ?_ ?_ ?_ ?_); rfl; rfl; rfl)
          | ((with_reducible refine wpList_store6 (k' := 5) (b' := false) (n' := 0) (t' := ⟨#[]⟩) (x' := ⟨#[]⟩) (p' := p) (len' := len) (cap' := cap) (.tmp 4) (.tmp 100) w.heap.size S ?_ ?_ ?_ ?_ ?_); rfl; rfl; rfl; rfl; intro w9 on9 S9))
        have R9 := R1.six S on9 hRw
        have O9 := O.new on9 (Nat.le_refl _)
        refine bodyPost_ret (results_six1 (p := 4) Tryz.results71 _ rfl S9) rfl (.inl ⟨.inr ?_, ⟨_, _, _, _, _, _, _, _, rfl⟩, ⟨_, hl', R9⟩, O9⟩)
        rw [HV.out, rzK_list, HF1.out, if_neg (Nat.succ_ne_zero _), if_pos HYES.out, ← HN.out]
        show (match rdL (rzV f') n (r.drop 4) with | none => none | some (q, r') => some (Val.mk 5 false 0 E0 E0 q, r')) = _
        rw [HBAD.out]
      · skip
        go_wp2_with (first
          | ((with_reducible refine wpList_load6 (.tmp 5) B S2 ?_ ?_ ?_ ?_); rfl; rfl; rfl)
          | ((with_reducible refine wpList_store6 (k' := 5) (b' := false) (n' := 0) (t' := ⟨#[]⟩) (x' := ⟨#[]⟩) (p' := p) (len' := len) (cap' := cap) (.tmp 4) (.tmp 100) w.heap.size S ?_ ?_ ?_ ?_ ?_); rfl; rfl; rfl; rfl; intro w9 on9 S9))
        have R9 := R1.six S on9 hRw
        have O9 := O.new on9 (Nat.le_refl _)
        refine bodyPost_ret (results_six1 (p := 4) Tryz.results71 _ rfl S9) rfl (.inl ⟨.inr ?_, ⟨_, _, _, _, _, _, _, _, rfl⟩, ⟨_, hl', R9⟩, O9⟩)
        rw [HV.out, rzK_list, HF1.out, if_neg (Nat.succ_ne_zero _), if_pos HYES.out, ← HN.out]
        show (match rdL (rzV f') n (r.drop 4) with | none => none | some (q, r') => some (Val.mk 5 false 0 E0 E0 q, r')) = _
        rw [HBAD.out]

/-- What the document's own value tells, whatever bytes. -/
theorem valueZ (R : Nat) : (f d : Nat) → d + f = 61 → EachRz f d R := by
  intro f
  induction f with
  | zero =>
    intro d hdf l bad w h hl
    exact step 0 d hdf (fun _ hh => by omega) l bad w h hl
  | succ f ih =>
    intro d hdf l bad w h hl
    exact step (f + 1) d hdf (fun f' hh => by
      have e : f' = f := by omega
      rw [e]
      exact ih (d + 1) (by omega)) l bad w h hl
where
  step (f d : Nat) (hdf : d + f = 61) (ih : ∀ f', f = f' + 1 → EachRz f' (d + 1) R) : EachRz f d R := by
    intro l bad w h hl
    have hl9 : l.length ≤ 1000000000 := by omega
    by_cases hb : bad = true ∨ l = []
    · exact rzBad R d f l bad w hb h hl9
    have hb0 : bad = false := by cases bad; rfl; exact absurd (.inl rfl) hb
    subst hb0
    cases l with
    | nil => exact absurd (.inr rfl) hb
    | cons c r =>
      by_cases h0 : c.toNat = 0
      · exact rzNull R d f _ r c w rfl h0 h hl9
      by_cases h1 : c.toNat = 1
      · exact rzTruth R d f _ r c w rfl h1 h hl9
      by_cases h2 : c.toNat = 2
      · exact rzWhole R d f _ r c w rfl h2 h hl9
      by_cases h3 : c.toNat = 3
      · exact rzExact R d f _ r c w rfl h3 h hl9 hl
      by_cases h4 : c.toNat = 4
      · exact rzText R d f _ r c w rfl h4 h hl9 hl
      by_cases h5 : c.toNat = 5
      · by_cases hy : f = 0 ∨ ¬(4 ≤ r.length ∧ numW (r.take 4) ≤ 4096)
        · exact rzListNo R d f _ r c w rfl h5 h hl9 hdf hy
        · have hf : f ≠ 0 := fun h => hy (.inl h)
          have hyes : 4 ≤ r.length ∧ numW (r.take 4) ≤ 4096 := Classical.not_not.1 (fun h => hy (.inr h))
          exact rzList R d f _ r c w rfl h5 h hl9 hl (f - 1) (by omega) hdf hyes (ih (f - 1) (by omega))
      by_cases h6 : c.toNat = 6
      · exact rzNode R d f _ r c w rfl h6 h hl9
      by_cases h7 : c.toNat = 7
      · exact rzEdge R d f _ r c w rfl h7 h hl9
      by_cases h8 : c.toNat = 8
      · exact rzIri R d f _ r c w rfl h8 h hl9 hl
      by_cases h9 : c.toNat = 9
      · exact rzBlank R d f _ r c w rfl h9 h hl9 hl
      by_cases h10 : c.toNat = 10
      · exact rzLit R d f _ r c w rfl h10 h hl9 hl
      exact rzStranger R d f _ r c w rfl c.toNat (by omega) rfl h hl9
end Go.Proofs.YtoifjjgakblhhaaGreatDoor
