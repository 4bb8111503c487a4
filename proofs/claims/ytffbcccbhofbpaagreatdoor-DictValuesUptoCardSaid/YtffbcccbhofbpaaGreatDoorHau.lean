/- Texts of one kind, one behind the other: each says ahead of itself what it shows. -/
import Derived.Test.YtffbcccbhofbpaaGreatDoorHat
import Derived.Test.YtffbcccbhofbpaaGreatDoorHaj
/- The reader: lists, and values in one another. -/
namespace Go.Proofs.YtffbcccbhofbpaaGreatDoor
open Go.RowKit

/-- What a round of list keeps: the row of values read so far. -/
structure AccO (R : Nat) (w : World) (l : List Val) (A : Value) (wr : World) : Prop where
  own : ∃ xs hi, wr.ownsRow w.heap.size 31 6 A l.length xs ∧ CellsT wr A.ownBlock w.heap.size hi xs l ∧ w.heap.size ≤ hi ∧ hi ≤ wr.heap.size
  on : Only R w wr
theorem own_only {w w' : World} {R base : Nat} {e : TypeId} {size : Nat} {v : Value} {n : Nat} {xs : List Value} (h : w.ownsRow base e size v n xs) (o : Only R w w') (hR : R < base) : w'.ownsRow base e size v n xs := by
  refine ⟨h.1, ?_⟩
  rcases h.2 with h0 | ⟨g, cap, cur, e1, h1, h2, h3⟩
  · exact .inl h0
  · exact .inr ⟨g, cap, cur, e1, h1, (o.block g (lt_of_heap h2) (by omega)).trans h2, h3⟩
theorem Only.grownO {R : Nat} {w wf w1 : World} {row : Option Nat} (h : Only R w wf) (k : wf.grownBy w1 row) (hb : ∀ g, row = some g → w.heap.size ≤ g) : Only R w w1 :=
  ⟨k.os.trans h.os, k.tape.trans h.tape, k.output.trans h.output, Nat.le_trans h.size k.size, fun i hi e => (k.block i (Nat.lt_of_lt_of_le hi h.size) (fun e2 => by have := hb i e2.symm; omega)).trans (h.block i hi e)⟩
/-- The round's end: one value more. -/
theorem AccO.next {R : Nat} {w wr wf w1 : World} {l : List Val} {A A2 : Value} {xs : List Value} {hi : Nat} {k : Int} {b : Bool} {n : Int} {t x : ByteArray} {q : List Val} {V : Value} {o : Obj}
    (hx : wr.ownsRow w.heap.size 31 6 A l.length xs) (hc : CellsT wr A.ownBlock w.heap.size hi xs l) (hh1 : w.heap.size ≤ hi) (hh2 : hi ≤ wr.heap.size) (hon : Only R w wr) (hR : R < w.heap.size)
    (bf : Only R wr wf) (hf : Fine n t x q.length) (hq : HeldT wf wr.heap.size wf.heap.size V q)
    (hown : w1.ownsRow w.heap.size 31 6 A2 (l.length + 1) (xs ++ [.int .i64 k, .bool b, .int .i64 n, .string t, .string x, V])) (hgrow : (wf.alloc o).grownBy w1 A.ownBlock) (hloc : A2.ownBlock = A.ownBlock ∨ A2.ownBlock = some (wf.heap.size + 1)) :
    AccO R w (l ++ [.mk k b n t x q]) A2 w1 := by
  have hs : wr.heap.size ≤ wf.heap.size := bf.size
  have hs1 := hgrow.size
  have hz : (wf.alloc o).heap.size = wf.heap.size + 1 := by simp
  have hA : ∀ g, A.ownBlock = some g → g < wr.heap.size := fun g h => (hx.lt g h).2
  have keep : ∀ i, i < wf.heap.size → A.ownBlock ≠ some i → w1.heap[i]? = wf.heap[i]? := fun i hi hne => by
    rw [hgrow.block i (by omega) (fun h => hne h.symm)]
    exact Below.heap_alloc _ _ _ hi
  refine ⟨⟨_, wf.heap.size, by rw [List.length_append]; exact hown, ?_, by omega, by omega⟩, ((hon.trans bf).alloc o).grownO hgrow (fun g hg => (hx.lt g hg).1)⟩
  have c1 : CellsT w1 A.ownBlock w.heap.size hi xs l := CellsT.stays l _ (fun i a b' hne => (keep i (by omega) hne).trans (bf.block i (by omega) (by omega))) hc
  have c2 : CellsT w1 A2.ownBlock w.heap.size hi xs l := CellsT.owner (hloc.imp id fun h => ⟨_, h, by omega⟩) l _ c1
  refine CellsT.snoc hh2 hs (fun g hg hb => ?_) hf (HeldT.stays (fun i a b' => keep i b' (fun h => ?_)) q hq) l _ hh1 c2
  · rcases hloc with h | h
    · have := hA g (by rw [← h]; exact hg)
      omega
    · rw [h] at hg
      injection hg with hg
      omega
  · have := hA i h
    omega
/-- The reader is as it was where a row of values grew. -/
theorem Rd.grown {w w1 : World} {R : Nat} {l : List UInt8} {A : Value} {base n : Nat} {xs : List Value} (h : Rd w R l) (hx : w.ownsRow base 31 6 A n xs) (k : w.grownBy w1 A.ownBlock) (hR : R < base) : Rd w1 R l := by
  have hty : ∀ g (cs : Array Value × (Nat × Nat)), w.heap[g]? = some (Obj.cells cs.1 5 cs.2) → some g ≠ A.ownBlock := fun g cs hg e2 => by
    rcases hx.2 with ⟨e, _⟩ | ⟨g2, cap, cur, e, _, h2, _⟩
    · rw [e] at e2; cases e2
    · rw [e] at e2
      obtain rfl : g = g2 := Option.some.inj e2
      rw [hg] at h2
      injection h2 with h7
      injection h7 with _ h8
      exact absurd h8 (by decide)
  have hRA : some R ≠ A.ownBlock := fun e => by have := (hx.lt R e.symm).1; omega
  obtain ⟨p1, cap1, h1, h2, h3, h4⟩ := h
  refine ⟨p1, cap1, (k.block R (lt_of_heap h1) hRA).trans h1, h2, h3, ?_⟩
  rcases h4 with h4 | ⟨g, off, e, hg, ⟨cs, hcs⟩, hc⟩
  · exact .inl h4
  · exact .inr ⟨g, off, e, hg, ⟨cs, (k.block g (lt_of_heap hcs) (hty g cs hcs)).trans hcs⟩, fun j c hj => (World.cell?_of_block (w := w) (a := ⟨g, off + j, none⟩) (k.block g (lt_of_heap hcs) (hty g cs hcs))).trans (hc j c hj)⟩
/-- What value tells, for each reader in that block. -/
def EachRd (f d R : Nat) : Prop := ∀ (l : List UInt8) (w : World), Rd w R l → l.length ≤ 1000000000 → Calls Tryz.prog 41 #[.pointer (some ⟨R, 0, none⟩), .int .i64 d] w (RdPost f R l w)

set_option maxRecDepth 20000 in
set_option maxHeartbeats 6400000 in
theorem listNo (f d R : Nat) (l : List UInt8) (w : World) (h : Rd w R l) (hl : l.length ≤ 1000000000) (hdf : d + f = 60) (hno : f = 0 ∨ ¬(4 ≤ l.length ∧ numW (l.take 4) ≤ 4096)) :
    Calls Tryz.prog 54 #[.pointer (some ⟨R, 0, none⟩), .int .i64 ((d : Int) + 1)] w (LstPost f R l w) := by
  have hv : lstP f l = none := by
    unfold lstP
    rcases hno with h0 | h0
    · rw [if_pos h0]
    · rw [if_neg h0]
      split <;> rfl
  have hc : Calls Tryz.prog 64 #[.pointer (some ⟨R, 0, none⟩), .int .i64 4096] w (CountPost R l 4096 w) := countAt R l 4096 w h (by omega) hl
  have hcc : Calls Tryz.prog 64 #[.pointer (some ⟨R, 0, none⟩), .int .i64 4096] w fun e w' => ∃ (z : Int) (ok : Bool), e = .returned (.tuple #[.int .i64 z, .bool ok]) ∧ (ok = true → f = 0) ∧ Only R w w' := hc.mono (by
    rintro e w' (⟨_, ⟨z, he⟩, h3⟩ | ⟨h2, he, _, h3⟩)
    · exact ⟨z, false, he, by simp, h3⟩
    · exact ⟨_, true, he, fun _ => hno.resolve_right (fun h4 => h4 h2), h3⟩)
  have HV := Lib.hid hv
  have hd1 : (d : Int) ≤ 60 := by omega
  have hd0 : f = 0 → ¬(d : Int) + 1 ≤ 60 := fun h0 => by omega
  have HD := Lib.hid hd0
  clear hv hc hno hd0
  go_enter Tryz.func54, Tryz.ntmps54
  go_upto_region 2 with (go_at_call 64; (with_reducible refine hcc.mono ?_); rintro e w1 ⟨z, ok, rfl, hok, hO⟩)
  cases ok with
  | false =>
    clear hok
    go_wp2_with fail
    go_ret2
    exact .inl ⟨HV.out, ⟨none, 0, 0, rfl⟩, hO⟩
  | true =>
    have h61 : 60 < (d : Int) + 1 := by have := HD.out (hok rfl); omega
    clear hok
    go_wp2_with fail
    go_ret2
    exact .inl ⟨HV.out, ⟨none, 0, 0, rfl⟩, hO⟩

set_option maxRecDepth 20000 in
set_option maxHeartbeats 6400000 in
theorem listYes (f d R : Nat) (l : List UInt8) (w : World) (h : Rd w R l) (hl : l.length ≤ 1000000000) (hdf : d + (f + 1) = 60) (hyes : 4 ≤ l.length ∧ numW (l.take 4) ≤ 4096) (each : EachRd f (d + 1) R) :
    Calls Tryz.prog 54 #[.pointer (some ⟨R, 0, none⟩), .int .i64 ((d : Int) + 1)] w (LstPost (f + 1) R l w) := by
  obtain ⟨i0, hi, hz0, hz1, hz2⟩ := info_parts info28b
  obtain ⟨n, hn⟩ : ∃ n, n = numW (l.take 4) := ⟨_, rfl⟩
  have hn2 : n ≤ 4096 := by rw [hn]; exact hyes.2
  have hv : lstP (f + 1) l = rdL (rdV f) n (l.drop 4) := by
    unfold lstP
    rw [if_neg (by omega), if_pos hyes, hn]
    rfl
  have hcc : Calls Tryz.prog 64 #[.pointer (some ⟨R, 0, none⟩), .int .i64 4096] w fun e w' => e = .returned (.tuple #[.int .i64 n, .bool true]) ∧ Rd w' R (l.drop 4) ∧ Only R w w' := (countAt R l 4096 w h (by omega) hl).mono (by
    rintro e w' (⟨h2, _⟩ | ⟨_, he, h3⟩)
    · exact absurd hyes h2
    · exact ⟨by rw [hn]; exact he, h3⟩)
  have hRw := h.lt
  have HV := Lib.hid hv
  have hd1 : (d : Int) + 1 ≤ 60 := by omega
  have hev : ∀ (l : List UInt8) (w : World), Rd w R l → l.length ≤ 1000000000 → Calls Tryz.prog 41 #[.pointer (some ⟨R, 0, none⟩), .int .i64 ((d : Int) + 1)] w (RdPost f R l w) := fun l w h1 h2 => each l w h1 h2
  have HE := Lib.hid hev
  have ld : (l.drop 4).length ≤ l.length := by rw [List.length_drop]; omega
  clear hv hyes each hev h hn
  go_enter Tryz.func54, Tryz.ntmps54
  go_wp2_with (go_at_call 64; (with_reducible refine hcc.mono ?_); rintro e w1 ⟨rfl, hR1, hO1⟩)
  clear hcc
  go_loopg [8, 23] n (fun gg s8 s23 wr => ∃ (j : Nat) (q : List Val) (r : List UInt8), j + gg = n ∧ s23 = .int .i64 j ∧ q.length = j ∧ r.length ≤ l.length ∧ Hid (AccO R w q s8 wr) ∧ Hid (Rd wr R r) ∧ Hid (rdL (rdV f) n (l.drop 4) = (match rdL (rdV f) gg r with
      | none => none
      | some (q2, r2) => some (q ++ q2, r2))))
  case atStart =>
    refine ⟨0, [], l.drop 4, by omega, rfl, rfl, ld, Lib.hid ⟨⟨[], w.heap.size, by simpa using World.ownsRow_nil w1 w.heap.size 31 6, by unfold CellsT; rfl, Nat.le_refl _, hO1.size⟩, hO1⟩, Lib.hid hR1, Lib.hid ?_⟩
    cases rdL (rdV f) n (l.drop 4) with
    | none => rfl
    | some pp => rfl
  case round =>
    clear hR1 hO1
    obtain ⟨j, q, r, hjg, rfl, hqj, hrl, HA, HR, HQ⟩ := hrel
    by_cases hlt : (j : Int) < n
    · obtain ⟨gk', rfl⟩ : ∃ gk', gk = gk' + 1 := ⟨gk - 1, by omega⟩
      have hc := HE.out r wr HR.out (by omega)
      cases hrv : rdV f r with
      | none =>
        have hc' : Calls Tryz.prog 41 #[.pointer (some ⟨R, 0, none⟩), .int .i64 ((d : Int) + 1)] wr fun e w' => (∃ (k : Int) (b : Bool) (n : Int) (t x : ByteArray) (p : Option Addr) (len cap : Nat), e = .returned (.tuple #[.agg #[.int .i64 k, .bool b, .int .i64 n, .string t, .string x, .slice p len cap], .bool false])) ∧ Only R wr w' := hc.mono (by
          rintro e w' (⟨_, he, h3⟩ | ⟨_, _, _, _, _, _, _, _, _, h, _⟩)
          · exact ⟨he, h3⟩
          · rw [hrv] at h; cases h)
        have hq2 : lstP (f + 1) l = none := by
          rw [HV.out, HQ.out]
          unfold rdL
          rw [hrv]
        have HQ2 := Lib.hid hq2
        have HON := Lib.hid HA.out.on
        clear hc hq2 hrv HQ HA
        go_wp2_with (go_at_call 41; (with_reducible refine hc'.mono ?_); rintro e w2 ⟨⟨k, b, m, t, x, p, len, cp, rfl⟩, hO2⟩)
        go_ret2
        exact .inl ⟨HQ2.out, ⟨none, 0, 0, rfl⟩, (HON.out.trans hO2).alloc _⟩
      | some pp =>
        obtain ⟨v, r'⟩ := pp
        have hc' : Calls Tryz.prog 41 #[.pointer (some ⟨R, 0, none⟩), .int .i64 ((d : Int) + 1)] wr fun e w' => ∃ (k : Int) (b : Bool) (n : Int) (t x : ByteArray) (q : List Val) (p : Option Addr) (cap : Nat), v = .mk k b n t x q ∧ r'.length ≤ r.length ∧ Fine n t x q.length ∧ e = .returned (.tuple #[.agg #[.int .i64 k, .bool b, .int .i64 n, .string t, .string x, .slice p q.length cap], .bool true]) ∧ HeldT w' wr.heap.size w'.heap.size (.slice p q.length cap) q ∧ Rd w' R r' ∧ Only R wr w' := hc.mono (by
          rintro e w' (⟨h, _⟩ | ⟨k, b, n, t, x, q, p, cap, r2, h, h1, h2, he, h3⟩)
          · rw [hrv] at h; cases h
          · rw [hrv] at h
            simp only [Option.some.injEq, Prod.mk.injEq] at h
            obtain ⟨rfl, rfl⟩ := h
            exact ⟨k, b, n, t, x, q, p, cap, rfl, h1, h2, he, h3⟩)
        have hq2 : rdL (rdV f) n (l.drop 4) = (match rdL (rdV f) gk' r' with
            | none => none
            | some (q2, r2) => some ((q ++ [v]) ++ q2, r2)) := by
          rw [HQ.out]
          conv => lhs; unfold rdL
          rw [hrv]
          simp only
          cases rdL (rdV f) gk' r' with
          | none => rfl
          | some p2 => simp
        have HQ2 := Lib.hid hq2
        clear hc hq2 hrv HQ
        go_upto_region 8 with (go_at_call 41; (with_reducible refine hc'.mono ?_); rintro e w2 ⟨k, b, m, t, x, q', p, cp, rfl, h1, hf, rfl, hh, hR2, hO2⟩)
        obtain ⟨W3, hW3⟩ : ∃ W3, W3 = w2.alloc (.cells #[.int .i64 k, .bool b, .int .i64 m, .string t, .string x, .slice p q'.length cp] 31) := ⟨_, rfl⟩
        have S3 : Six W3 w2.heap.size k b m t x p q'.length cp := by rw [hW3]; exact six_new _ rfl
        have b3 : Below w2.heap.size w2 W3 := by rw [hW3]; exact below1 _ _
        rw [← hW3]
        clear hW3
        have hR3 := hR2.below b3
        have hO3 : Only R wr W3 := hO2.trans (Only.of_below b3)
        have hh3 : HeldT W3 wr.heap.size W3.heap.size (.slice p q'.length cp) q' := HeldT.wide (Nat.le_refl _) b3.size q' (HeldT.stays (fun g _ g2 => b3.block g g2) q' hh)
        obtain ⟨⟨xs, hi9, hown, hcs, hk1, hk2⟩, hon⟩ := HA.out
        have hRwr : R < wr.heap.size := Nat.lt_of_lt_of_le hRw hon.size
        have hownX := own_only hown hO3 hRw
        have hbs := hon.size
        have hfs := hO3.size
        have HX := Lib.hid (And.intro hown (And.intro hcs (And.intro hon (And.intro hO3 (And.intro hh3 (And.intro hf (And.intro hR3 (And.intro hk1 hk2))))))))
        clear hown hcs hon hk1 hk2 hO3 hh3 hf hR3 hR2 hO2 hh b3 HA HR hc'
        go_wp2_with (first
          | ((with_reducible refine wpList_load6 (.tmp 9) w2.heap.size S3 ?_ ?_ ?_ ?_); rfl; rfl; rfl)
          | (at_builtin; refine wpList_append_own_at _ rfl _ _ 22 rfl w.heap.size 31 i0 (.agg #[.int .i64 0, .bool false, .int .i64 0, .string ⟨#[]⟩, .string ⟨#[]⟩, .slice none 0 0]) 6 80 Tryz.underlying22 hi hz0 hz1 hz2 rfl (by decide) _ _ _ rfl (hownX.alloc _) ⟨W3.heap.size, 0, none⟩ 1 1 [.int .i64 k, .bool b, .int .i64 m, .string t, .string x, .slice p q'.length cp] rfl rfl (cell_six_new _ _ _ _ _ _ _ _) ?_ ?_ ?_ ?_ ?_))
        all_goals (try (first | (rw [hqj]; unfold maxLen; omega) | (rw [hqj]; omega) | (simp; omega) | (intro u hu; simp only [List.mem_cons, List.mem_nil_iff, or_false] at hu; rcases hu with rfl | rfl | rfl | rfl | rfl | rfl <;> rfl)))
        intro v' w4 hown' hgrow _ hloc
        have acc := AccO.next (k := k) (b := b) (n := m) (t := t) (x := x) (q := q') HX.out.1 HX.out.2.1 HX.out.2.2.2.2.2.2.2.1 HX.out.2.2.2.2.2.2.2.2 HX.out.2.2.1 hRw HX.out.2.2.2.1 HX.out.2.2.2.2.2.1 HX.out.2.2.2.2.1 (by rw [hqj]; exact hown') hgrow hloc
        have rd4 := (HX.out.2.2.2.2.2.2.1.below (below1 W3 (.cells #[.int .i64 k, .bool b, .int .i64 m, .string t, .string x, .slice p q'.length cp] 31))).grown (hownX.alloc _) hgrow hRw
        have ACC := Lib.hid acc
        have RD4 := Lib.hid rd4
        clear acc rd4 hown' hgrow hloc hownX S3
        go_wp2_with fail
        go_roundg gk'
        case measure => omega
        case rel => exact ⟨j + 1, q ++ [.mk k b m t x q'], r', by omega, by go_num, by simp [hqj], by omega, ACC, RD4, HQ2⟩
    · obtain rfl : gk = 0 := by omega
      have hq2 : lstP (f + 1) l = some (q, r) := by
        rw [HV.out, HQ.out]
        simp [rdL]
      obtain ⟨⟨xs, hi9, hown, hcs, hk1, hk2⟩, hon⟩ := HA.out
      have hh : HeldT wr w.heap.size wr.heap.size u8 q := heldT_of_own hown (CellsT.high hk2 q _ hcs) (Nat.le_refl _) (Nat.le_refl _)
      obtain ⟨p, cp, rfl⟩ := held_slice (HeldT.held q hh)
      have HX := Lib.hid (And.intro hq2 (And.intro hh hon))
      clear hq2 hown hcs hon hh hk1 hk2 HQ HA
      go_wp2_with fail
      go_ret2
      exact .inr ⟨q, p, cp, r, HX.out.1, hrl, by omega, by rw [hqj]; rfl, HX.out.2.1, HR.out, HX.out.2.2⟩
set_option maxRecDepth 20000 in
set_option maxHeartbeats 6400000 in
theorem rdEmpty (R d f : Nat) (w : World) (h : Rd w R []) :
    Calls Tryz.prog 41 #[.pointer (some ⟨R, 0, none⟩), .int .i64 d] w (RdPost f R [] w) := by
  have hv : rdV f [] = none := by cases f <;> rfl
  obtain ⟨W0, hW0⟩ : ∃ W0, W0 = w.alloc (.cells #[.int .i64 0, .bool false, .int .i64 0, .string ⟨#[]⟩, .string ⟨#[]⟩, .slice none 0 0] 31) := ⟨_, rfl⟩
  have S : Six W0 w.heap.size 0 false 0 ⟨#[]⟩ ⟨#[]⟩ none 0 0 := by rw [hW0]; exact six_new _ rfl
  have b0 : Below w.heap.size w W0 := by rw [hW0]; exact below1 _ _
  have O : Only R w W0 := Only.of_below b0
  have hm : Calls Tryz.prog 52 #[.pointer (some ⟨R, 0, none⟩), .int .i64 1] W0 fun e w' => e = .returned (.tuple #[.int .u64 0, .bool false]) ∧ w' = W0 := kindNone R W0 1 (by omega) (by omega) [] (by decide) (h.below b0) (by decide)
  have H0 := Lib.hid hW0
  have HV := Lib.hid hv
  clear hW0 hv h b0
  go_enter Tryz.func41, Tryz.ntmps41
  go_wp2_with (first
    | (go_at_call 52; (try rw [← H0.out]); (with_reducible refine hm.mono ?_); rintro e w1 ⟨rfl, hw1⟩; rw [hw1])
    | ((with_reducible refine wpList_store6 (k' := 0) (b' := false) (n' := 0) (t' := ⟨#[]⟩) (x' := ⟨#[]⟩) (p' := none) (len' := 0) (cap' := 0) (.tmp 4) (.tmp 16) w.heap.size S ?_ ?_ ?_ ?_ ?_); rfl; rfl; rfl; rfl; intro w9 on9 S9))
  exact bodyPost_ret (results_six_tmp (p := 4) (q := 5) Tryz.results41 _ (.bool false) rfl rfl S9) rfl (.inl ⟨HV.out, ⟨_, _, _, _, _, _, _, _, rfl⟩, O.new on9 (Nat.le_refl _)⟩)
/-- What value tells, whatever bytes. -/
theorem valueR (R : Nat) : (f d : Nat) → d + f = 60 → EachRd f d R := by
  intro f
  induction f with
  | zero =>
    intro d hdf l w h hl
    exact step 0 d hdf (fun r W hR hlr => listNo 0 d R r W hR hlr hdf (.inl rfl)) l w h hl
  | succ f ih =>
    intro d hdf l w h hl
    refine step (f + 1) d hdf (fun r W hR hlr => ?_) l w h hl
    by_cases hy : 4 ≤ r.length ∧ numW (r.take 4) ≤ 4096
    · exact listYes f d R r W hR hlr hdf hy (ih (d + 1) (by omega))
    · exact listNo (f + 1) d R r W hR hlr hdf (.inr hy)
where
  step (f d : Nat) (hdf : d + f = 60) (hls : ∀ r W, Rd W R r → r.length ≤ 1000000000 → Calls Tryz.prog 54 #[.pointer (some ⟨R, 0, none⟩), .int .i64 ((d : Int) + 1)] W (LstPost f R r W)) : EachRd f d R := by
    intro l w h hl
    cases l with
    | nil => exact rdEmpty R d f w h
    | cons c r =>
      have hr : r.length ≤ 1000000000 := by simp at hl; omega
      by_cases h0 : c.toNat = 0
      · exact rdNull R d f _ r c w rfl h0 h hl
      by_cases h1 : c.toNat = 1
      · exact rdTruth R d f _ r c w rfl h1 h hl
      by_cases h2 : c.toNat = 2
      · exact rdWhole R d f _ r c w rfl h2 h hl
      by_cases h3 : c.toNat = 3
      · exact rdExact R d f _ r c w rfl h3 h hl
      by_cases h4 : c.toNat = 4
      · exact rdText R d f _ r c w rfl h4 h hl
      by_cases h5 : c.toNat = 5
      · exact rdList R d f _ r c w rfl h5 h hl (by omega) (fun W hR => hls r W hR hr)
      by_cases h6 : c.toNat = 6
      · exact rdNode R d f _ r c w rfl h6 h hl
      by_cases h7 : c.toNat = 7
      · exact rdEdge R d f _ r c w rfl h7 h hl
      by_cases h8 : c.toNat = 8
      · exact rdIri R d f _ r c w rfl h8 h hl
      by_cases h9 : c.toNat = 9
      · exact rdBlank R d f _ r c w rfl h9 h hl
      by_cases h10 : c.toNat = 10
      · exact rdLit R d f _ r c w rfl h10 h hl
      refine rdStranger R d f _ r c w rfl c.toNat ?_ rfl h hl
      unfold kindT
      rw [if_neg (by omega), if_neg (by omega), if_neg (by omega), if_neg (by omega), if_neg (by omega), if_neg (by omega), if_neg (by omega), if_neg (by omega), if_neg (by omega), if_neg (by omega), if_neg (by omega)]
end Go.Proofs.YtffbcccbhofbpaaGreatDoor

/- Decode. -/
namespace Go.Proofs.YtffbcccbhofbpaaGreatDoor
open Go.RowKit

/-- A slice of bytes: what it reads as, with its capacity and its block. -/
def Src (w : World) (A : Value) (l : List UInt8) : Prop := ∃ p cap, A = .slice p l.length cap ∧ l.length ≤ cap ∧ cap ≤ maxLen ∧
  ((p = none ∧ l = []) ∨ ∃ g off, p = some ⟨g, off, none⟩ ∧ (∃ cs : Array Value × (Nat × Nat), w.heap[g]? = some (Obj.cells cs.1 5 cs.2)) ∧ ∀ j c, l[j]? = some c → w.cell? ⟨g, off + j, none⟩ = some (.int .u8 c.toNat))
theorem Src.below {w w' : World} {A : Value} {l : List UInt8} (h : Src w A l) (b : Below w.heap.size w w') : Src w' A l := by
  obtain ⟨p, cap, e, h1, h2, h3⟩ := h
  refine ⟨p, cap, e, h1, h2, ?_⟩
  rcases h3 with h3 | ⟨g, off, e2, ⟨cs, hcs⟩, hc⟩
  · exact .inl h3
  · exact .inr ⟨g, off, e2, ⟨cs, (b.block g (lt_of_heap hcs)).trans hcs⟩, fun j c hj => (b.cell (p := ⟨g, off + j, none⟩) (World.block_lt_of_cell? w _ (hc j c hj))).trans (hc j c hj)⟩
theorem Rd.new {w : World} {A : Value} {l : List UInt8} (h : Src w A l) (R : Nat) (hR : R = w.heap.size) : Rd (w.alloc (.cells #[A] 81)) R l := by
  have h' := h.below (w' := w.alloc (.cells #[A] 81)) (below1 _ _)
  obtain ⟨p, cap, rfl, h1, h2, h3⟩ := h
  obtain ⟨p', cap', e, _, _, h4⟩ := h'
  cases e
  subst hR
  refine ⟨p, cap, heap_new _ _ rfl, h1, h2, ?_⟩
  rcases h4 with h4 | ⟨g, off, e2, hcs, hc⟩
  · exact .inl h4
  · refine .inr ⟨g, off, e2, fun e3 => ?_, hcs, hc⟩
    rcases h3 with ⟨h3, _⟩ | ⟨g2, off2, e4, ⟨cs, hcs2⟩, _⟩
    · rw [h3] at e2; cases e2
    · rw [e4] at e2
      cases e2
      have := lt_of_heap hcs2
      omega
theorem Rd.cell {w : World} {R : Nat} {l : List UInt8} (h : Rd w R l) : ∃ p cap, w.cell? ⟨R, 0, none⟩ = some (.slice p l.length cap) := by
  obtain ⟨p, cap, h, _⟩ := h
  exact ⟨p, cap, cell_of h _ rfl⟩
def zeroV : Value := .agg #[.int .i64 0, .bool false, .int .i64 0, .string ⟨#[]⟩, .string ⟨#[]⟩, .slice none 0 0]
/-- What Decode tells. -/
def DecPost (w : World) (l : List UInt8) (e : Ending) (w' : World) : Prop :=
  (decP l = none ∧ e = .returned (.tuple #[.agg #[.int .i64 0, .bool false, .int .i64 0, .string ⟨#[]⟩, .string ⟨#[]⟩, .slice none 0 0], .int .i64 6]) ∧ Below w.heap.size w w') ∨
  (∃ (k : Int) (b : Bool) (n : Int) (t x : ByteArray) (q : List Val) (p : Option Addr) (cap : Nat), decP l = some (.mk k b n t x q) ∧ Fine n t x q.length ∧ e = .returned (.tuple #[.agg #[.int .i64 k, .bool b, .int .i64 n, .string t, .string x, .slice p q.length cap], .int .i64 0]) ∧ HeldT w' w.heap.size w'.heap.size (.slice p q.length cap) q ∧ Below w.heap.size w w')

set_option maxRecDepth 20000 in
set_option maxHeartbeats 6400000 in
theorem decodeNo (l : List UInt8) (A : Value) (w : World) (hs : Src w A l) (hl : l.length ≤ 1000000000) (hv : rdV 60 l = none) : Calls Tryz.prog 31 #[A] w (DecPost w l) := by
  obtain ⟨pA, capA, eA⟩ : ∃ p cap, A = .slice p l.length cap := by
    obtain ⟨p, cap, e, _⟩ := hs
    exact ⟨p, cap, e⟩
  subst eA
  obtain ⟨W1, hW1⟩ : ∃ W1, W1 = (w.alloc (.cells #[.int .i64 0, .bool false, .int .i64 0, .string ⟨#[]⟩, .string ⟨#[]⟩, .slice none 0 0] 31)).alloc (.cells #[.slice pA l.length capA] 81) := ⟨_, rfl⟩
  have S : Six W1 w.heap.size 0 false 0 ⟨#[]⟩ ⟨#[]⟩ none 0 0 := by rw [hW1]; exact (six_new _ rfl).alloc _
  have b1 : Below w.heap.size w W1 := by rw [hW1]; exact below2 _ _ _
  have hR : Rd W1 (w.heap.size + 1) l := by rw [hW1]; exact Rd.new (hs.below (below1 _ _)) _ (by simp)
  have z1 : W1.heap.size = w.heap.size + 2 := by rw [hW1]; simp
  have hval : Calls Tryz.prog 41 #[.pointer (some ⟨w.heap.size + 1, 0, none⟩), .int .i64 0] W1 (RdPost 60 (w.heap.size + 1) l W1) := valueR (w.heap.size + 1) 60 0 rfl l W1 hR hl
  have H1 := Lib.hid hW1
  clear hW1 hs hR
  have hd : decP l = none := by unfold decP; rw [hv]
  have HD := Lib.hid hd
  have hval' : Calls Tryz.prog 41 #[.pointer (some ⟨w.heap.size + 1, 0, none⟩), .int .i64 0] W1 fun e w' => (∃ (k : Int) (b : Bool) (n : Int) (t x : ByteArray) (p : Option Addr) (len cap : Nat), e = .returned (.tuple #[.agg #[.int .i64 k, .bool b, .int .i64 n, .string t, .string x, .slice p len cap], .bool false])) ∧ Only (w.heap.size + 1) W1 w' := hval.mono (by
    rintro e w' (⟨_, he, h3⟩ | ⟨_, _, _, _, _, _, _, _, _, h, _⟩)
    · exact ⟨he, h3⟩
    · rw [hv] at h; cases h)
  clear hval hv hd
  go_enter Tryz.func31, Tryz.ntmps31
  go_upto_region 3 with (go_at_call 41; (try rw [← H1.out]); (with_reducible refine hval'.mono ?_); rintro e w2 ⟨⟨k, b, n, t, x, p, len, cap, rfl⟩, hO⟩)
  have b2 := below_only b1 hO (by omega) (by omega)
  replace S := S.only hO (by omega)
  have b3 := b2.alloc b2.size (.cells #[.int .i64 k, .bool b, .int .i64 n, .string t, .string x, .slice p len cap] 31)
  replace S := S.alloc (.cells #[.int .i64 k, .bool b, .int .i64 n, .string t, .string x, .slice p len cap] 31)
  generalize w2.alloc (.cells #[.int .i64 k, .bool b, .int .i64 n, .string t, .string x, .slice p len cap] 31) = W3 at S b3 ⊢
  clear b2 hO b1
  go_wp2_with (first
    | ((with_reducible refine wpList_store6 (k' := 0) (b' := false) (n' := 0) (t' := ⟨#[]⟩) (x' := ⟨#[]⟩) (p' := none) (len' := 0) (cap' := 0) (.tmp 2) (.tmp 26) w.heap.size S ?_ ?_ ?_ ?_ ?_); rfl; rfl; rfl; rfl; intro w9 on9 S9))
  exact bodyPost_ret (results_six_tmp (p := 2) (q := 3) Tryz.results31 _ (.int .i64 6) rfl rfl S9) rfl (.inl ⟨HD.out, rfl, below_only b3 on9 (Nat.le_refl _) b3.size⟩)

set_option maxRecDepth 20000 in
set_option maxHeartbeats 6400000 in
theorem decodeMore (l : List UInt8) (A : Value) (w : World) (hs : Src w A l) (hl : l.length ≤ 1000000000) (k : Int) (b : Bool) (n : Int) (t x : ByteArray) (q : List Val) (r : List UInt8) (hv : rdV 60 l = some (.mk k b n t x q, r)) (hr : r ≠ []) : Calls Tryz.prog 31 #[A] w (DecPost w l) := by
  obtain ⟨pA, capA, eA⟩ : ∃ p cap, A = .slice p l.length cap := by
    obtain ⟨p, cap, e, _⟩ := hs
    exact ⟨p, cap, e⟩
  subst eA
  obtain ⟨W1, hW1⟩ : ∃ W1, W1 = (w.alloc (.cells #[.int .i64 0, .bool false, .int .i64 0, .string ⟨#[]⟩, .string ⟨#[]⟩, .slice none 0 0] 31)).alloc (.cells #[.slice pA l.length capA] 81) := ⟨_, rfl⟩
  have S : Six W1 w.heap.size 0 false 0 ⟨#[]⟩ ⟨#[]⟩ none 0 0 := by rw [hW1]; exact (six_new _ rfl).alloc _
  have b1 : Below w.heap.size w W1 := by rw [hW1]; exact below2 _ _ _
  have hR : Rd W1 (w.heap.size + 1) l := by rw [hW1]; exact Rd.new (hs.below (below1 _ _)) _ (by simp)
  have z1 : W1.heap.size = w.heap.size + 2 := by rw [hW1]; simp
  have hval : Calls Tryz.prog 41 #[.pointer (some ⟨w.heap.size + 1, 0, none⟩), .int .i64 0] W1 (RdPost 60 (w.heap.size + 1) l W1) := valueR (w.heap.size + 1) 60 0 rfl l W1 hR hl
  have H1 := Lib.hid hW1
  clear hW1 hs hR
  have hd : decP l = none := by
    unfold decP
    rw [hv]
    cases r with
    | nil => exact absurd rfl hr
    | cons c s => rfl
  have hrl : 0 < r.length := List.length_pos_iff.2 hr
  have HD := Lib.hid hd
  have hval' : Calls Tryz.prog 41 #[.pointer (some ⟨w.heap.size + 1, 0, none⟩), .int .i64 0] W1 fun e w' => ∃ (p : Option Addr) (cap : Nat), e = .returned (.tuple #[.agg #[.int .i64 k, .bool b, .int .i64 n, .string t, .string x, .slice p q.length cap], .bool true]) ∧ r.length ≤ l.length ∧ Fine n t x q.length ∧ HeldT w' W1.heap.size w'.heap.size (.slice p q.length cap) q ∧ Rd w' (w.heap.size + 1) r ∧ Only (w.heap.size + 1) W1 w' := hval.mono (by
    rintro e w' (⟨h, _⟩ | ⟨k1, b1, n1, t1, x1, q1, p, cap, r1, h, h1, h2, he, h3⟩)
    · rw [hv] at h; cases h
    · rw [hv] at h
      simp only [Option.some.injEq, Prod.mk.injEq, Val.mk.injEq] at h
      obtain ⟨⟨rfl, rfl, rfl, rfl, rfl, rfl⟩, rfl⟩ := h
      exact ⟨p, cap, he, h1, h2, h3⟩)
  clear hval hv hd hr
  go_enter Tryz.func31, Tryz.ntmps31
  go_upto_region 3 with (go_at_call 41; (try rw [← H1.out]); (with_reducible refine hval'.mono ?_); rintro e w2 ⟨p, cap, rfl, h1, hf, hh, hR2, hO⟩)
  have b2 := below_only b1 hO (by omega) (by omega)
  replace S := S.only hO (by omega)
  have b3 := b2.alloc b2.size (.cells #[.int .i64 k, .bool b, .int .i64 n, .string t, .string x, .slice p q.length cap] 31)
  replace S := S.alloc (.cells #[.int .i64 k, .bool b, .int .i64 n, .string t, .string x, .slice p q.length cap] 31)
  have S5 : Six (w2.alloc (.cells #[.int .i64 k, .bool b, .int .i64 n, .string t, .string x, .slice p q.length cap] 31)) w2.heap.size k b n t x p q.length cap := six_new _ rfl
  have bb : Below w2.heap.size w2 (w2.alloc (.cells #[.int .i64 k, .bool b, .int .i64 n, .string t, .string x, .slice p q.length cap] 31)) := below1 _ _
  obtain ⟨pr, capr, cr⟩ := (hR2.below bb).cell
  have hh3 : HeldT (w2.alloc (.cells #[.int .i64 k, .bool b, .int .i64 n, .string t, .string x, .slice p q.length cap] 31)) W1.heap.size (w2.alloc (.cells #[.int .i64 k, .bool b, .int .i64 n, .string t, .string x, .slice p q.length cap] 31)).heap.size (.slice p q.length cap) q := HeldT.wide (Nat.le_refl _) bb.size q (HeldT.stays (fun g _ g2 => bb.block g g2) q hh)
  generalize w2.alloc (.cells #[.int .i64 k, .bool b, .int .i64 n, .string t, .string x, .slice p q.length cap] 31) = W3 at S S5 b3 cr hh3 ⊢
  have HH := Lib.hid hh3
  have HF := Lib.hid hf
  clear b2 hO b1 bb hh hR2 hh3 hf
  have hrl2 : ¬((r.length : Int) = 0) := by omega
  have hrl3 : (0 : Int) < r.length := by omega
  go_wp2_with (first
    | ((with_reducible refine wpList_load6 (.tmp 5) w2.heap.size S5 ?_ ?_ ?_ ?_); rfl; rfl; rfl)
    | ((with_reducible refine wpList_load6g (.tmp 5) w2.heap.size S5 ?_ ?_ ?_ ?_); rfl; rfl; rfl)
    | ((with_reducible refine wpList_store6 (k' := 0) (b' := false) (n' := 0) (t' := ⟨#[]⟩) (x' := ⟨#[]⟩) (p' := none) (len' := 0) (cap' := 0) (.tmp 2) (.tmp 26) w.heap.size S ?_ ?_ ?_ ?_ ?_); rfl; rfl; rfl; rfl; intro w9 on9 S9))
  exact bodyPost_ret (results_six_tmp (p := 2) (q := 3) Tryz.results31 _ (.int .i64 6) rfl rfl S9) rfl (.inl ⟨HD.out, rfl, below_only b3 on9 (Nat.le_refl _) b3.size⟩)

set_option maxRecDepth 20000 in
set_option maxHeartbeats 6400000 in
theorem decodeBad (l : List UInt8) (A : Value) (w : World) (hG : Gd w) (hs : Src w A l) (hl : l.length ≤ 1000000000) (k : Int) (b : Bool) (n : Int) (t x : ByteArray) (q : List Val) (r : List UInt8) (hv : rdV 60 l = some (.mk k b n t x q, r)) (hr : r.length = 0) (hm : mayP (.mk k b n t x q) 0 = false) : Calls Tryz.prog 31 #[A] w (DecPost w l) := by
  obtain ⟨pA, capA, eA⟩ : ∃ p cap, A = .slice p l.length cap := by
    obtain ⟨p, cap, e, _⟩ := hs
    exact ⟨p, cap, e⟩
  subst eA
  obtain ⟨W1, hW1⟩ : ∃ W1, W1 = (w.alloc (.cells #[.int .i64 0, .bool false, .int .i64 0, .string ⟨#[]⟩, .string ⟨#[]⟩, .slice none 0 0] 31)).alloc (.cells #[.slice pA l.length capA] 81) := ⟨_, rfl⟩
  have S : Six W1 w.heap.size 0 false 0 ⟨#[]⟩ ⟨#[]⟩ none 0 0 := by rw [hW1]; exact (six_new _ rfl).alloc _
  have b1 : Below w.heap.size w W1 := by rw [hW1]; exact below2 _ _ _
  have hR : Rd W1 (w.heap.size + 1) l := by rw [hW1]; exact Rd.new (hs.below (below1 _ _)) _ (by simp)
  have z1 : W1.heap.size = w.heap.size + 2 := by rw [hW1]; simp
  have hval : Calls Tryz.prog 41 #[.pointer (some ⟨w.heap.size + 1, 0, none⟩), .int .i64 0] W1 (RdPost 60 (w.heap.size + 1) l W1) := valueR (w.heap.size + 1) 60 0 rfl l W1 hR hl
  have H1 := Lib.hid hW1
  clear hW1 hs hR
  have hd : decP l = none := by
    have := List.length_eq_zero_iff.1 hr
    subst this
    unfold decP
    rw [hv]
    simp [hm]
  have HD := Lib.hid hd
  have hval' : Calls Tryz.prog 41 #[.pointer (some ⟨w.heap.size + 1, 0, none⟩), .int .i64 0] W1 fun e w' => ∃ (p : Option Addr) (cap : Nat), e = .returned (.tuple #[.agg #[.int .i64 k, .bool b, .int .i64 n, .string t, .string x, .slice p q.length cap], .bool true]) ∧ r.length ≤ l.length ∧ Fine n t x q.length ∧ HeldT w' W1.heap.size w'.heap.size (.slice p q.length cap) q ∧ Rd w' (w.heap.size + 1) r ∧ Only (w.heap.size + 1) W1 w' := hval.mono (by
    rintro e w' (⟨h, _⟩ | ⟨k1, b1, n1, t1, x1, q1, p, cap, r1, h, h1, h2, he, h3⟩)
    · rw [hv] at h; cases h
    · rw [hv] at h
      simp only [Option.some.injEq, Prod.mk.injEq, Val.mk.injEq] at h
      obtain ⟨⟨rfl, rfl, rfl, rfl, rfl, rfl⟩, rfl⟩ := h
      exact ⟨p, cap, he, h1, h2, h3⟩)
  clear hval hv hd
  go_enter Tryz.func31, Tryz.ntmps31
  go_upto_region 3 with (go_at_call 41; (try rw [← H1.out]); (with_reducible refine hval'.mono ?_); rintro e w2 ⟨p, cap, rfl, h1, hf, hh, hR2, hO⟩)
  have b2 := below_only b1 hO (by omega) (by omega)
  replace S := S.only hO (by omega)
  have b3 := b2.alloc b2.size (.cells #[.int .i64 k, .bool b, .int .i64 n, .string t, .string x, .slice p q.length cap] 31)
  replace S := S.alloc (.cells #[.int .i64 k, .bool b, .int .i64 n, .string t, .string x, .slice p q.length cap] 31)
  have S5 : Six (w2.alloc (.cells #[.int .i64 k, .bool b, .int .i64 n, .string t, .string x, .slice p q.length cap] 31)) w2.heap.size k b n t x p q.length cap := six_new _ rfl
  have bb : Below w2.heap.size w2 (w2.alloc (.cells #[.int .i64 k, .bool b, .int .i64 n, .string t, .string x, .slice p q.length cap] 31)) := below1 _ _
  obtain ⟨pr, capr, cr⟩ := (hR2.below bb).cell
  have hh3 : HeldT (w2.alloc (.cells #[.int .i64 k, .bool b, .int .i64 n, .string t, .string x, .slice p q.length cap] 31)) W1.heap.size (w2.alloc (.cells #[.int .i64 k, .bool b, .int .i64 n, .string t, .string x, .slice p q.length cap] 31)).heap.size (.slice p q.length cap) q := HeldT.wide (Nat.le_refl _) bb.size q (HeldT.stays (fun g _ g2 => bb.block g g2) q hh)
  generalize w2.alloc (.cells #[.int .i64 k, .bool b, .int .i64 n, .string t, .string x, .slice p q.length cap] 31) = W3 at S S5 b3 cr hh3 ⊢
  have HH := Lib.hid hh3
  have HF := Lib.hid hf
  clear b2 hO b1 bb hh hR2 hh3 hf
  rw [hr] at cr
  have hck : ∀ W, Below W3.heap.size W3 W → Calls Tryz.prog 35 #[.agg #[.int .i64 k, .bool b, .int .i64 n, .string t, .string x, .slice p q.length cap]] W fun e w' => e = .returned (.bool false) ∧ Below W.heap.size W w' := fun W h => by
    have := checkAtV (.mk k b n t x q) k b n t x q (.slice p q.length cap) W rfl ((hG.below b3).below h) HF.out.ht HF.out.hx (Held.below q (HeldT.held q HH.out) h)
    rwa [hm] at this
  clear hG
  go_wp2_with (first
    | ((with_reducible refine wpList_load6 (.tmp 5) w2.heap.size S5 ?_ ?_ ?_ ?_); rfl; rfl; rfl)
    | ((with_reducible refine wpList_load6g (.tmp 5) w2.heap.size S5 ?_ ?_ ?_ ?_); rfl; rfl; rfl)
    | (go_at_call 35; (with_reducible refine (hck _ (Below.refl _ _)).mono ?_); rintro e w4 ⟨rfl, hb⟩; replace S := S.below hb; replace b3 := below_any b3 hb b3.size)
    | ((with_reducible refine wpList_store6 (k' := 0) (b' := false) (n' := 0) (t' := ⟨#[]⟩) (x' := ⟨#[]⟩) (p' := none) (len' := 0) (cap' := 0) (.tmp 2) (.tmp 26) w.heap.size S ?_ ?_ ?_ ?_ ?_); rfl; rfl; rfl; rfl; intro w9 on9 S9))
  exact bodyPost_ret (results_six_tmp (p := 2) (q := 3) Tryz.results31 _ (.int .i64 6) rfl rfl S9) rfl (.inl ⟨HD.out, rfl, below_only b3 on9 (Nat.le_refl _) b3.size⟩)

set_option maxRecDepth 20000 in
set_option maxHeartbeats 6400000 in
theorem decodeGood (l : List UInt8) (A : Value) (w : World) (hG : Gd w) (hs : Src w A l) (hl : l.length ≤ 1000000000) (k : Int) (b : Bool) (n : Int) (t x : ByteArray) (q : List Val) (r : List UInt8) (hv : rdV 60 l = some (.mk k b n t x q, r)) (hr : r.length = 0) (hm : mayP (.mk k b n t x q) 0 = true) : Calls Tryz.prog 31 #[A] w (DecPost w l) := by
  obtain ⟨pA, capA, eA⟩ : ∃ p cap, A = .slice p l.length cap := by
    obtain ⟨p, cap, e, _⟩ := hs
    exact ⟨p, cap, e⟩
  subst eA
  obtain ⟨W1, hW1⟩ : ∃ W1, W1 = (w.alloc (.cells #[.int .i64 0, .bool false, .int .i64 0, .string ⟨#[]⟩, .string ⟨#[]⟩, .slice none 0 0] 31)).alloc (.cells #[.slice pA l.length capA] 81) := ⟨_, rfl⟩
  have S : Six W1 w.heap.size 0 false 0 ⟨#[]⟩ ⟨#[]⟩ none 0 0 := by rw [hW1]; exact (six_new _ rfl).alloc _
  have b1 : Below w.heap.size w W1 := by rw [hW1]; exact below2 _ _ _
  have hR : Rd W1 (w.heap.size + 1) l := by rw [hW1]; exact Rd.new (hs.below (below1 _ _)) _ (by simp)
  have z1 : W1.heap.size = w.heap.size + 2 := by rw [hW1]; simp
  have hval : Calls Tryz.prog 41 #[.pointer (some ⟨w.heap.size + 1, 0, none⟩), .int .i64 0] W1 (RdPost 60 (w.heap.size + 1) l W1) := valueR (w.heap.size + 1) 60 0 rfl l W1 hR hl
  have H1 := Lib.hid hW1
  clear hW1 hs hR
  have hd : decP l = some (.mk k b n t x q) := by
    have := List.length_eq_zero_iff.1 hr
    subst this
    unfold decP
    rw [hv]
    simp [hm]
  have HD := Lib.hid hd
  have hval' : Calls Tryz.prog 41 #[.pointer (some ⟨w.heap.size + 1, 0, none⟩), .int .i64 0] W1 fun e w' => ∃ (p : Option Addr) (cap : Nat), e = .returned (.tuple #[.agg #[.int .i64 k, .bool b, .int .i64 n, .string t, .string x, .slice p q.length cap], .bool true]) ∧ r.length ≤ l.length ∧ Fine n t x q.length ∧ HeldT w' W1.heap.size w'.heap.size (.slice p q.length cap) q ∧ Rd w' (w.heap.size + 1) r ∧ Only (w.heap.size + 1) W1 w' := hval.mono (by
    rintro e w' (⟨h, _⟩ | ⟨k1, b1, n1, t1, x1, q1, p, cap, r1, h, h1, h2, he, h3⟩)
    · rw [hv] at h; cases h
    · rw [hv] at h
      simp only [Option.some.injEq, Prod.mk.injEq, Val.mk.injEq] at h
      obtain ⟨⟨rfl, rfl, rfl, rfl, rfl, rfl⟩, rfl⟩ := h
      exact ⟨p, cap, he, h1, h2, h3⟩)
  clear hval hv hd
  go_enter Tryz.func31, Tryz.ntmps31
  go_upto_region 3 with (go_at_call 41; (try rw [← H1.out]); (with_reducible refine hval'.mono ?_); rintro e w2 ⟨p, cap, rfl, h1, hf, hh, hR2, hO⟩)
  have b2 := below_only b1 hO (by omega) (by omega)
  replace S := S.only hO (by omega)
  have b3 := b2.alloc b2.size (.cells #[.int .i64 k, .bool b, .int .i64 n, .string t, .string x, .slice p q.length cap] 31)
  replace S := S.alloc (.cells #[.int .i64 k, .bool b, .int .i64 n, .string t, .string x, .slice p q.length cap] 31)
  have S5 : Six (w2.alloc (.cells #[.int .i64 k, .bool b, .int .i64 n, .string t, .string x, .slice p q.length cap] 31)) w2.heap.size k b n t x p q.length cap := six_new _ rfl
  have bb : Below w2.heap.size w2 (w2.alloc (.cells #[.int .i64 k, .bool b, .int .i64 n, .string t, .string x, .slice p q.length cap] 31)) := below1 _ _
  obtain ⟨pr, capr, cr⟩ := (hR2.below bb).cell
  have hh3 : HeldT (w2.alloc (.cells #[.int .i64 k, .bool b, .int .i64 n, .string t, .string x, .slice p q.length cap] 31)) W1.heap.size (w2.alloc (.cells #[.int .i64 k, .bool b, .int .i64 n, .string t, .string x, .slice p q.length cap] 31)).heap.size (.slice p q.length cap) q := HeldT.wide (Nat.le_refl _) bb.size q (HeldT.stays (fun g _ g2 => bb.block g g2) q hh)
  generalize w2.alloc (.cells #[.int .i64 k, .bool b, .int .i64 n, .string t, .string x, .slice p q.length cap] 31) = W3 at S S5 b3 cr hh3 ⊢
  have HH := Lib.hid hh3
  have HF := Lib.hid hf
  clear b2 hO b1 bb hh hR2 hh3 hf
  rw [hr] at cr
  have hck : ∀ W, Below W3.heap.size W3 W → Calls Tryz.prog 35 #[.agg #[.int .i64 k, .bool b, .int .i64 n, .string t, .string x, .slice p q.length cap]] W fun e w' => e = .returned (.bool true) ∧ Below W.heap.size W w' := fun W h => by
    have := checkAtV (.mk k b n t x q) k b n t x q (.slice p q.length cap) W rfl ((hG.below b3).below h) HF.out.ht HF.out.hx (Held.below q (HeldT.held q HH.out) h)
    rwa [hm] at this
  clear hG
  go_wp2_with (first
    | ((with_reducible refine wpList_load6 (.tmp 5) w2.heap.size S5 ?_ ?_ ?_ ?_); rfl; rfl; rfl)
    | ((with_reducible refine wpList_load6g (.tmp 5) w2.heap.size S5 ?_ ?_ ?_ ?_); rfl; rfl; rfl)
    | (go_at_call 35; (with_reducible refine (hck _ (Below.refl _ _)).mono ?_); rintro e w4 ⟨rfl, hb⟩; replace S := S.below hb; replace S5 := S5.below hb; replace b3 := below_any b3 hb b3.size)
    | ((with_reducible refine wpList_store6 (k' := k) (b' := b) (n' := n) (t' := t) (x' := x) (p' := p) (len' := q.length) (cap' := cap) (.tmp 2) (.tmp 27) w.heap.size S ?_ ?_ ?_ ?_ ?_); rfl; rfl; rfl; rfl; intro w9 on9 S9))
  refine bodyPost_ret (results_six_tmp (p := 2) (q := 3) Tryz.results31 _ (.int .i64 0) rfl rfl S9) rfl (.inr ⟨k, b, n, t, x, q, p, cap, HD.out, HF.out, rfl, ?_, below_only b3 on9 (Nat.le_refl _) b3.size⟩)
  exact HeldT.wide (by omega) (Nat.le_trans hb.size on9.size) q (HeldT.stays (fun g g1 g2 => (on9.block g (Nat.lt_of_lt_of_le g2 hb.size) (by omega)).trans (hb.block g g2)) q HH.out)
theorem decodeAt (l : List UInt8) (A : Value) (w : World) (hG : Gd w) (hs : Src w A l) (hl : l.length ≤ 1000000000) : Calls Tryz.prog 31 #[A] w (DecPost w l) := by
  cases hv : rdV 60 l with
  | none => exact decodeNo l A w hs hl hv
  | some pp =>
    obtain ⟨⟨k, b, n, t, x, q⟩, r⟩ := pp
    by_cases hr : r = []
    · cases hm : mayP (.mk k b n t x q) 0 with
      | true => exact decodeGood l A w hG hs hl k b n t x q r hv (by rw [hr]; rfl) hm
      | false => exact decodeBad l A w hG hs hl k b n t x q r hv (by rw [hr]; rfl) hm
    · exact decodeMore l A w hs hl k b n t x q r hv hr
end Go.Proofs.YtffbcccbhofbpaaGreatDoor
