/- Texts of one kind, one behind the other: each says ahead of itself what it shows. -/
import Derived.Test.YtoifjjgakblhhaaGreatDoorHbe
import Derived.Test.YtoifjjgakblhhaaGreatDoorHaq
/- The document's own reader: lists, values in one another. -/
namespace Go.Proofs.YtoifjjgakblhhaaGreatDoor
open Go.RowKit

theorem wp_append_own_at {P : Program} {w : World} {o : Oper} {a : Act} {K : Act → World → Prop} {Q : Exit → Act → World → Prop} (s x : Operand) (t : TypeId)
    (ho : o.op = .call { callee := .builtin .append, args := #[s, x], argTypes := #[t, t] })
    (base : Nat) (e : TypeId) (i : TypeInfo) (z : Value) (size bytes : Nat) (ht : P.underlying t = some (.slice e)) (hi : P.info? e = some i) (hz : i.zero = some z)
    (hsize : i.size = size) (hby : i.bytes = bytes) (hzs : z.cells.size = size) (hsz : 0 < size)
    (v : Value) (n : Nat) (xs : List Value) (hs : a.eval s = v) (hown : w.ownsRow base e size v n xs)
    (ad : Addr) (m c : Nat) (news : List Value) (hx : a.eval x = .slice (some ad) m c) (hl : news.length = m * size) (hnews : ∀ j u, news[j]? = some u → w.cell? (ad.add j) = some u) (h1 : ∀ u ∈ news, u.oneCell' = true)
    (h63 : n + m ≤ maxLen) (hbytes : (n + m) * bytes ≤ 140737488355328) (hbase : base ≤ w.heap.size)
    (h : ∀ v' w', w'.ownsRow base e size v' (n + m) (xs ++ news) → w.grownBy w' v.ownBlock → (v'.ownBlock = v.ownBlock ∨ v'.ownBlock = some w.heap.size) → K (a.put o.dst v') w') : o.wp P a w K Q := by
  obtain ⟨v', w', hr, h2, h3, h4, h5⟩ := run_append_own_at (P := P) w base t o.type e i z size bytes ht hi hz hsize hby hzs hsz v n xs hown ad m c news hl hnews h1 h63 hbytes hbase
  unfold Oper.wp execOp
  simp only [ho, resolve, invoke, builtin, Sem.run_bind, Sem.run_pure, Result.andThen_ok, List.map_toArray, List.map_cons, List.map_nil, hs, hx, hr]
  exact h v' w' h2 h3 h5
/-- The row of values read so far, above the box. -/
def AccZ (B : Nat) (q : List Val) (A : Value) (wr : World) : Prop := ∃ xs, wr.ownsRow (B + 1) 28 6 A q.length xs ∧ CellsF wr (fun g => B < g ∧ g < wr.heap.size ∧ A.ownBlock ≠ some g) xs q
theorem ownZ_only {w w' : World} {R base : Nat} {e : TypeId} {size : Nat} {v : Value} {n : Nat} {xs : List Value} (h : w.ownsRow base e size v n xs) (o : Only R w w') (hR : R < base) : w'.ownsRow base e size v n xs := by
  refine ⟨h.1, ?_⟩
  rcases h.2 with h0 | ⟨g, cap, cur, e1, h1, h2, h3⟩
  · exact .inl h0
  · exact .inr ⟨g, cap, cur, e1, h1, (o.block g (lt_of_heap h2) (by omega)).trans h2, h3⟩
theorem AccZ.only {B R : Nat} {q : List Val} {A : Value} {w w' : World} (h : AccZ B q A w) (o : Only R w w') (hR : R ≤ B) : AccZ B q A w' := by
  obtain ⟨xs, h1, h2⟩ := h
  exact ⟨xs, ownZ_only h1 o (by omega), h2.stays (fun g hg => ⟨⟨hg.1, Nat.lt_of_lt_of_le hg.2.1 o.size, hg.2.2⟩, o.block g hg.2.1 (by omega)⟩) q⟩
theorem AccZ.next {B : Nat} {wr wf w1 : World} {l : List Val} {A A2 : Value} {xs : List Value} {k : Int} {b : Bool} {n : Int} {t x : ByteArray} {q : List Val} {V : Value} {o : Obj} {R : Nat}
    (hx : wr.ownsRow (B + 1) 28 6 A l.length xs) (hc : CellsF wr (fun g => B < g ∧ g < wr.heap.size ∧ A.ownBlock ≠ some g) xs l) (hB : B < wr.heap.size) (hR : R ≤ B)
    (bf : Only R wr wf) (hf : Fine n t x q.length) (hq : HeldF wf (fun g => wr.heap.size ≤ g ∧ g < wf.heap.size) V q)
    (hown : w1.ownsRow (B + 1) 28 6 A2 (l.length + 1) (xs ++ [.int .i64 k, .bool b, .int .i64 n, .string t, .string x, V])) (hgrow : (wf.alloc o).grownBy w1 A.ownBlock) (hloc : A2.ownBlock = A.ownBlock ∨ A2.ownBlock = some (wf.alloc o).heap.size) :
    AccZ B (l ++ [.mk k b n t x q]) A2 w1 := by
  have hA : ∀ g, A.ownBlock = some g → g < wr.heap.size := fun g hg => (hx.lt g hg).2
  have s1 : (wf.alloc o).heap.size = wf.heap.size + 1 := by simp
  have s2 : wr.heap.size ≤ wf.heap.size := bf.size
  have s3 : (wf.alloc o).heap.size ≤ w1.heap.size := hgrow.size
  have hn2 : ∀ g, g < wf.heap.size → A.ownBlock ≠ some g → A2.ownBlock ≠ some g := fun g hg hne h => by
    rcases hloc with h2 | h2
    · exact hne (h2 ▸ h)
    · rw [h2] at h
      have := Option.some.inj h
      omega
  have keep : ∀ g, g < wf.heap.size → A.ownBlock ≠ some g → w1.heap[g]? = wf.heap[g]? := fun g hg hne => by
    rw [hgrow.block g (by omega) (fun h => hne h.symm)]
    exact Below.heap_alloc _ _ _ hg
  refine ⟨_, by rw [List.length_append]; exact hown, ?_⟩
  refine CellsF.append l _ (hc.stays (fun g hg => ⟨⟨hg.1, by omega, hn2 g (by omega) hg.2.2⟩, ?_⟩) l) (CellsF.one hf (hq.stays (fun g hg => ?_) q))
  · rw [keep g (by omega) hg.2.2]
    exact bf.block g hg.2.1 (by omega)
  · have hne : A.ownBlock ≠ some g := fun h => by have := hA g h; omega
    exact ⟨⟨by omega, by omega, hn2 g hg.2 hne⟩, keep g hg.2 hne⟩
theorem Only.grownZ {R : Nat} {w wf w1 : World} {row : Option Nat} (h : Only R w wf) (k : wf.grownBy w1 row) (hb : ∀ g, row = some g → w.heap.size ≤ g) : Only R w w1 :=
  ⟨k.os.trans h.os, k.tape.trans h.tape, k.output.trans h.output, Nat.le_trans h.size k.size, fun i hi e => (k.block i (Nat.lt_of_lt_of_le hi h.size) (fun e2 => by have := hb i e2.symm; omega)).trans (h.block i hi e)⟩
/-- The reader is as it was where a row of values grew. -/
theorem Rz.grown {w w1 : World} {R : Nat} {l : List UInt8} {bad : Bool} {A : Value} {base n : Nat} {xs : List Value} (h : Rz w R l bad) (hx : w.ownsRow base 28 6 A n xs) (k : w.grownBy w1 A.ownBlock) (hR : R < base) : Rz w1 R l bad := by
  have hne : ∀ g, g ≤ R → some g ≠ A.ownBlock := fun g hg e => by have := (hx.lt g e.symm).1; omega
  obtain ⟨p1, cap1, h1, h2, h3, h4⟩ := h
  refine ⟨p1, cap1, (k.block R (lt_of_heap h1) (hne R (Nat.le_refl _))).trans h1, h2, h3, ?_⟩
  rcases h4 with h4 | ⟨g, off, e, hg, hc⟩
  · exact .inl h4
  · exact .inr ⟨g, off, e, hg, fun j c hj => (World.cell?_of_block (w := w) (a := ⟨g, off + j, none⟩) (k.block g (World.block_lt_of_cell? w _ (hc j c hj)) (hne g (by omega)))).trans (hc j c hj)⟩
/-- What the document's own value tells, for each reader in that block. -/
def EachRz (f d R : Nat) : Prop := ∀ (l : List UInt8) (bad : Bool) (w : World), Rz w R l bad → l.length ≤ 1048576 → Calls Tryz.prog 71 #[.pointer (some ⟨R, 0, none⟩), .int .i64 d] w (RzPost f R l bad w)
/-- What follows a list's kind. -/
theorem rzK_list (f : Nat) (r : List UInt8) : rzK (if f = 0 then none else some (rzV (f - 1))) 5 r = (if f = 0 then none else if 4 ≤ r.length ∧ numW (r.take 4) ≤ 4096 then (match rdL (rzV (f - 1)) (numW (r.take 4)) (r.drop 4) with
    | none => none
    | some (q, r') => some (.mk 5 false 0 E0 E0 q, r')) else none) := by
  unfold rzK
  rw [if_neg (by decide), if_neg (by decide), if_neg (by decide), if_neg (by decide), if_neg (by decide), if_pos rfl]
  by_cases h0 : f = 0
  · rw [if_pos h0, if_pos h0]
  · rw [if_neg h0, if_neg h0]
    rfl

set_option maxRecDepth 20000 in
set_option maxHeartbeats 6400000 in
theorem rzListNo (R d f : Nat) (l r : List UInt8) (c : UInt8) (w : World) (hlr : l = c :: r) (hc : c.toNat = 5) (h : Rz w R l false) (hl : l.length ≤ 1000000000) (hdf : d + f = 61) (hno : f = 0 ∨ ¬(4 ≤ r.length ∧ numW (r.take 4) ≤ 4096)) :
    Calls Tryz.prog 71 #[.pointer (some ⟨R, 0, none⟩), .int .i64 d] w (RzPost f R l false w) := by
  have hv : rzV f l = rzK (if f = 0 then none else some (rzV (f - 1))) 5 r := by rw [hlr, rzV_cons, hc]
  have hrl : r.length ≤ l.length := by rw [hlr]; simp
  have hl2 : r.length ≤ 1000000000 := by omega
  obtain ⟨W0, hW0⟩ : ∃ W0, W0 = w.alloc (.cells #[.int .i64 0, .bool false, .int .i64 0, .string ⟨#[]⟩, .string ⟨#[]⟩, .slice none 0 0] 28) := ⟨_, rfl⟩
  have S : Six W0 w.heap.size 0 false 0 ⟨#[]⟩ ⟨#[]⟩ none 0 0 := by rw [hW0]; exact six_new _ rfl
  have b0 : Below w.heap.size w W0 := by rw [hW0]; exact below1 _ _
  have hBR : w.heap.size ≠ R := by have := h.lt; omega
  have hRw : R < w.heap.size := h.lt
  have z0 : W0.heap.size = w.heap.size + 1 := by rw [hW0]; simp
  have hi := numOne R l r c 5 W0 hlr (by rw [hc]; rfl) (h.below b0) hl
  have O : Only R w W0 := Only.of_below b0
  have H0 := Lib.hid hW0
  have HNO := Lib.hid hno
  have HV := Lib.hid hv
  clear hW0 hv h b0 hlr hc hno
  go_enter Tryz.func71, Tryz.ntmps71
  go_upto_region 2 with (go_at_call 114; (try rw [← H0.out]); (with_reducible refine hi.mono ?_); rintro e w1 ⟨rfl, R1, O1⟩)
  have hsz := O1.size
  have S2 : Six (w1.alloc (.cells #[.int .i64 5, .bool false, .int .i64 0, .string ⟨#[]⟩, .string ⟨#[]⟩, .slice none 0 0] 28)) w1.heap.size 5 false 0 ⟨#[]⟩ ⟨#[]⟩ none 0 0 := six_new _ rfl
  replace S := (S.only O1 hBR).alloc (.cells #[.int .i64 5, .bool false, .int .i64 0, .string ⟨#[]⟩, .string ⟨#[]⟩, .slice none 0 0] 28)
  replace R1 := R1.below (below1 w1 (.cells #[.int .i64 5, .bool false, .int .i64 0, .string ⟨#[]⟩, .string ⟨#[]⟩, .slice none 0 0] 28))
  replace O := (O.trans O1).alloc (.cells #[.int .i64 5, .bool false, .int .i64 0, .string ⟨#[]⟩, .string ⟨#[]⟩, .slice none 0 0] 28)
  obtain ⟨B, hB⟩ : ∃ B, B = w1.heap.size := ⟨_, rfl⟩
  have hBw : w.heap.size < B := by omega
  have hBR2 : B ≠ R := by omega
  have hBne : w.heap.size ≠ B := by omega
  have hRB : R < B := by omega
  rw [← hB] at S2 ⊢
  generalize w1.alloc (.cells #[.int .i64 5, .bool false, .int .i64 0, .string ⟨#[]⟩, .string ⟨#[]⟩, .slice none 0 0] 28) = W2 at S S2 R1 O ⊢
  have f0 := S2.c0
  clear hi O1 hB hsz
  have hcc : ∀ W, Rz W R r false → Calls Tryz.prog 114 #[.pointer (some ⟨R, 0, none⟩), .int .i64 4] W fun e w' => ∃ (z : Nat) (bad : Bool), z < 4294967296 ∧ e = .returned (.int .i64 z) ∧ (bad = false → f = 0 ∨ 4096 < z) ∧ (∃ l', l'.length ≤ r.length ∧ Rz w' R l' bad) ∧ Only R W w' := fun W hR => (show Calls Tryz.prog 114 #[.pointer (some ⟨R, 0, none⟩), .int .i64 4] W (NumPost R r false 4 W) from numAt R r false 4 W hR (by omega) hl2).mono (by
    rintro e w' (⟨_, he, h3, h4⟩ | ⟨⟨_, h1⟩, he, h3, h4⟩)
    · exact ⟨0, true, by decide, he, by simp, ⟨r, Nat.le_refl _, h3⟩, h4⟩
    · have hx := num4 r
      rw [toI64_small _ (by omega)] at he
      exact ⟨_, false, hx, he, fun _ => by rcases HNO.out with h0 | h0; exact .inl h0; exact .inr (by have := fun h => h0 ⟨h1, h⟩; omega), ⟨_, by rw [List.length_drop]; omega, h3⟩, h4⟩)
  have hd1 : (d : Int) ≤ 61 := by omega
  go_upto_region 23 with (go_at_call 114; (with_reducible refine (hcc _ R1).mono ?_); rintro e w3 ⟨z, bad, hz, rfl, hbz, ⟨l3, hl3, R3⟩, O3⟩)
  replace S := S.only O3 hBR
  replace S2 := S2.only O3 hBR2
  replace O := O.trans O3
  have rc := R3.c1
  have rf := R3.f1
  have on4 := (Only.refl R w3).setCell 1 none (.bool true)
  have R4 := R3.set1 true
  clear R1 O3 hcc
  have hwalk : ∀ (V : Bool), V = bad → True := fun _ _ => trivial
  clear hwalk
  cases bad with
  | true =>
    have rc4 := R4.c1
    go_wp2_with fail
    go_loopg [8] 0 (fun gg s8 wr => gg = 0 ∧ s8 = .int .i64 0 ∧ wr = w3.setCell ⟨R, 1, none⟩ (.bool true))
    case atStart => exact ⟨rfl, rfl, rfl⟩
    case round =>
      obtain ⟨_, rfl, rfl⟩ := hrel
      replace S := S.only on4 hBR
      replace S2 := S2.only on4 hBR2
      replace O := O.trans on4
      have R1 := R4
      by_cases hz0 : 0 < z
      · skip
        go_wp2_with (first
          | ((with_reducible refine wpList_load6 (.tmp 5) B S2 ?_ ?_ ?_ ?_); rfl; rfl; rfl)
          | ((with_reducible refine wpList_store6 (k' := 5) (b' := false) (n' := 0) (t' := ⟨#[]⟩) (x' := ⟨#[]⟩) (p' := none) (len' := 0) (cap' := 0) (.tmp 4) (.tmp 100) w.heap.size S ?_ ?_ ?_ ?_ ?_); rfl; rfl; rfl; rfl; intro w9 on9 S9))
        have R9 := R1.six S on9 hRw
        have O9 := O.new on9 (Nat.le_refl _)
        refine bodyPost_ret (results_six1 (p := 4) Tryz.results71 _ rfl S9) rfl (.inl ⟨.inr ?_, ⟨_, _, _, _, _, _, _, _, rfl⟩, ⟨_, by omega, R9⟩, O9⟩)
        rw [HV.out]
        rw [rzK_list]
        rcases HNO.out with h0 | h0
        · rw [if_pos h0]
        · rw [if_neg h0]
          split <;> rfl
      · skip
        go_wp2_with (first
          | ((with_reducible refine wpList_load6 (.tmp 5) B S2 ?_ ?_ ?_ ?_); rfl; rfl; rfl)
          | ((with_reducible refine wpList_store6 (k' := 5) (b' := false) (n' := 0) (t' := ⟨#[]⟩) (x' := ⟨#[]⟩) (p' := none) (len' := 0) (cap' := 0) (.tmp 4) (.tmp 100) w.heap.size S ?_ ?_ ?_ ?_ ?_); rfl; rfl; rfl; rfl; intro w9 on9 S9))
        have R9 := R1.six S on9 hRw
        have O9 := O.new on9 (Nat.le_refl _)
        refine bodyPost_ret (results_six1 (p := 4) Tryz.results71 _ rfl S9) rfl (.inl ⟨.inr ?_, ⟨_, _, _, _, _, _, _, _, rfl⟩, ⟨_, by omega, R9⟩, O9⟩)
        rw [HV.out]
        rw [rzK_list]
        rcases HNO.out with h0 | h0
        · rw [if_pos h0]
        · rw [if_neg h0]
          split <;> rfl
  | false =>
    by_cases h4 : (4096 : Int) < z
    · skip
      have rc4 := R4.c1
      go_wp2_with fail
      go_loopg [8] 0 (fun gg s8 wr => gg = 0 ∧ s8 = .int .i64 0 ∧ wr = w3.setCell ⟨R, 1, none⟩ (.bool true))
      case atStart => exact ⟨rfl, rfl, rfl⟩
      case round =>
        obtain ⟨_, rfl, rfl⟩ := hrel
        replace S := S.only on4 hBR
        replace S2 := S2.only on4 hBR2
        replace O := O.trans on4
        have R1 := R4
        by_cases hz0 : 0 < z
        · skip
          go_wp2_with (first
            | ((with_reducible refine wpList_load6 (.tmp 5) B S2 ?_ ?_ ?_ ?_); rfl; rfl; rfl)
            | ((with_reducible refine wpList_store6 (k' := 5) (b' := false) (n' := 0) (t' := ⟨#[]⟩) (x' := ⟨#[]⟩) (p' := none) (len' := 0) (cap' := 0) (.tmp 4) (.tmp 100) w.heap.size S ?_ ?_ ?_ ?_ ?_); rfl; rfl; rfl; rfl; intro w9 on9 S9))
          have R9 := R1.six S on9 hRw
          have O9 := O.new on9 (Nat.le_refl _)
          refine bodyPost_ret (results_six1 (p := 4) Tryz.results71 _ rfl S9) rfl (.inl ⟨.inr ?_, ⟨_, _, _, _, _, _, _, _, rfl⟩, ⟨_, by omega, R9⟩, O9⟩)
          rw [HV.out]
          rw [rzK_list]
          rcases HNO.out with h0 | h0
          · rw [if_pos h0]
          · rw [if_neg h0]
            split <;> rfl
        · skip
          go_wp2_with (first
            | ((with_reducible refine wpList_load6 (.tmp 5) B S2 ?_ ?_ ?_ ?_); rfl; rfl; rfl)
            | ((with_reducible refine wpList_store6 (k' := 5) (b' := false) (n' := 0) (t' := ⟨#[]⟩) (x' := ⟨#[]⟩) (p' := none) (len' := 0) (cap' := 0) (.tmp 4) (.tmp 100) w.heap.size S ?_ ?_ ?_ ?_ ?_); rfl; rfl; rfl; rfl; intro w9 on9 S9))
          have R9 := R1.six S on9 hRw
          have O9 := O.new on9 (Nat.le_refl _)
          refine bodyPost_ret (results_six1 (p := 4) Tryz.results71 _ rfl S9) rfl (.inl ⟨.inr ?_, ⟨_, _, _, _, _, _, _, _, rfl⟩, ⟨_, by omega, R9⟩, O9⟩)
          rw [HV.out]
          rw [rzK_list]
          rcases HNO.out with h0 | h0
          · rw [if_pos h0]
          · rw [if_neg h0]
            split <;> rfl
    · have hd60 : (60 : Int) < d := by
        rcases hbz rfl with h0 | h0
        · omega
        · omega
      have rc4 := R4.c1
      go_wp2_with fail
      go_loopg [8] 0 (fun gg s8 wr => gg = 0 ∧ s8 = .int .i64 0 ∧ wr = w3.setCell ⟨R, 1, none⟩ (.bool true))
      case atStart => exact ⟨rfl, rfl, rfl⟩
      case round =>
        obtain ⟨_, rfl, rfl⟩ := hrel
        replace S := S.only on4 hBR
        replace S2 := S2.only on4 hBR2
        replace O := O.trans on4
        have R1 := R4
        by_cases hz0 : 0 < z
        · skip
          go_wp2_with (first
            | ((with_reducible refine wpList_load6 (.tmp 5) B S2 ?_ ?_ ?_ ?_); rfl; rfl; rfl)
            | ((with_reducible refine wpList_store6 (k' := 5) (b' := false) (n' := 0) (t' := ⟨#[]⟩) (x' := ⟨#[]⟩) (p' := none) (len' := 0) (cap' := 0) (.tmp 4) (.tmp 100) w.heap.size S ?_ ?_ ?_ ?_ ?_); rfl; rfl; rfl; rfl; intro w9 on9 S9))
          have R9 := R1.six S on9 hRw
          have O9 := O.new on9 (Nat.le_refl _)
          refine bodyPost_ret (results_six1 (p := 4) Tryz.results71 _ rfl S9) rfl (.inl ⟨.inr ?_, ⟨_, _, _, _, _, _, _, _, rfl⟩, ⟨_, by omega, R9⟩, O9⟩)
          rw [HV.out]
          rw [rzK_list]
          rcases HNO.out with h0 | h0
          · rw [if_pos h0]
          · rw [if_neg h0]
            split <;> rfl
        · skip
          go_wp2_with (first
            | ((with_reducible refine wpList_load6 (.tmp 5) B S2 ?_ ?_ ?_ ?_); rfl; rfl; rfl)
            | ((with_reducible refine wpList_store6 (k' := 5) (b' := false) (n' := 0) (t' := ⟨#[]⟩) (x' := ⟨#[]⟩) (p' := none) (len' := 0) (cap' := 0) (.tmp 4) (.tmp 100) w.heap.size S ?_ ?_ ?_ ?_ ?_); rfl; rfl; rfl; rfl; intro w9 on9 S9))
          have R9 := R1.six S on9 hRw
          have O9 := O.new on9 (Nat.le_refl _)
          refine bodyPost_ret (results_six1 (p := 4) Tryz.results71 _ rfl S9) rfl (.inl ⟨.inr ?_, ⟨_, _, _, _, _, _, _, _, rfl⟩, ⟨_, by omega, R9⟩, O9⟩)
          rw [HV.out]
          rw [rzK_list]
          rcases HNO.out with h0 | h0
          · rw [if_pos h0]
          · rw [if_neg h0]
            split <;> rfl

end Go.Proofs.YtoifjjgakblhhaaGreatDoor
