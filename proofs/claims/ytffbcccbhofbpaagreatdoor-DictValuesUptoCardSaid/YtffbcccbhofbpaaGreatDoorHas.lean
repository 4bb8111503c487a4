/- Texts of one kind, one behind the other: each says ahead of itself what it shows. -/
import Derived.Test.YtffbcccbhofbpaaGreatDoorHar
import Derived.Test.YtffbcccbhofbpaaGreatDoorHap
import Derived.Test.YtffbcccbhofbpaaGreatDoorHaq
import Derived.Test.YtffbcccbhofbpaaGreatDoorHaj
import Derived.Test.YtffbcccbhofbpaaGreatDoorHak
/- The copies that the document's own text makes: their lists lie apart. -/
namespace Go.Proofs.YtffbcccbhofbpaaGreatDoor
open Go.RowKit

def CopyT (w : World) (q : List Val) (e : Ending) (w' : World) : Prop := ∃ V xs, e = .returned V ∧ w'.ownsRow w.heap.size 31 6 V q.length xs ∧ CellsT w' V.ownBlock w.heap.size w'.heap.size xs q ∧ Below w.heap.size w w'
/-- What a round keeps. -/
structure AccT (w : World) (l : List Val) (A : Value) (wr : World) : Prop where
  own : ∃ xs hi, wr.ownsRow w.heap.size 31 6 A l.length xs ∧ CellsT wr A.ownBlock w.heap.size hi xs l ∧ w.heap.size ≤ hi ∧ hi ≤ wr.heap.size
  bel : Below w.heap.size w wr
theorem AccT.next {w wr wf w1 : World} {l : List Val} {A A2 : Value} {xs : List Value} {hi : Nat} {k : Int} {b : Bool} {n : Int} {t x : ByteArray} {q : List Val} {V : Value} {o : Obj}
    (hx : wr.ownsRow w.heap.size 31 6 A l.length xs) (hc : CellsT wr A.ownBlock w.heap.size hi xs l) (hh1 : w.heap.size ≤ hi) (hh2 : hi ≤ wr.heap.size) (hbel : Below w.heap.size w wr)
    (bf : Below wr.heap.size wr wf) (hf : Fine n t x q.length) (hq : HeldT wf wr.heap.size wf.heap.size V q)
    (hown : w1.ownsRow w.heap.size 31 6 A2 (l.length + 1) (xs ++ [.int .i64 k, .bool b, .int .i64 n, .string t, .string x, V])) (hgrow : (wf.alloc o).grownBy w1 A.ownBlock) (hloc : A2.ownBlock = A.ownBlock ∨ A2.ownBlock = some (wf.heap.size + 1)) :
    AccT w (l ++ [.mk k b n t x q]) A2 w1 := by
  have hs := bf.size
  have hs1 := hgrow.size
  have hz : (wf.alloc o).heap.size = wf.heap.size + 1 := by simp
  have hA : ∀ g, A.ownBlock = some g → g < wr.heap.size := fun g h => (hx.lt g h).2
  have keep : ∀ i, i < wf.heap.size → A.ownBlock ≠ some i → w1.heap[i]? = wf.heap[i]? := fun i hi hne => by
    rw [hgrow.block i (by omega) (fun h => hne h.symm)]
    exact Below.heap_alloc _ _ _ hi
  refine ⟨⟨_, wf.heap.size, by rw [List.length_append]; exact hown, ?_, by omega, by omega⟩, ?_⟩
  · have c1 : CellsT w1 A.ownBlock w.heap.size hi xs l := CellsT.stays l _ (fun i a b' hne => (keep i (by omega) hne).trans (bf.block i (by omega))) hc
    have c2 : CellsT w1 A2.ownBlock w.heap.size hi xs l := CellsT.owner (hloc.imp id fun h => ⟨_, h, by omega⟩) l _ c1
    refine CellsT.snoc hh2 hs (fun g hg hb => ?_) hf (HeldT.stays (fun i a b' => keep i b' (fun h => ?_)) q hq) l _ hh1 c2
    · rcases hloc with h | h
      · have := hA g (by rw [← h]; exact hg)
        omega
      · rw [h] at hg
        injection hg with hg
        omega
    · have := hA i h
      omega
  · have h0 := hbel.size
    exact (((hbel.trans (bf.mono h0)).alloc (by omega) o).grown hgrow (by omega) (fun g hg => (hx.lt g hg).1))
/-- What CopyValue tells: the same cells, and a list of new blocks. -/
def RValT (w : World) (k : Int) (b : Bool) (n : Int) (t x : ByteArray) (q : List Val) (e : Ending) (w' : World) : Prop :=
  ∃ p c, e = .returned (.agg #[.int .i64 k, .bool b, .int .i64 n, .string t, .string x, .slice p q.length c]) ∧ HeldT w' w.heap.size w'.heap.size (.slice p q.length c) q ∧ Below w.heap.size w w'
def TCopyV (v : Val) : Prop := ∀ (W : World) (k : Int) (b : Bool) (n : Int) (t x : ByteArray) (q : List Val) (p : Option Addr) (cap : Nat), v = .mk k b n t x q → q.length ≤ 2097152 → Held W (.slice p q.length cap) q →
  Calls Tryz.prog 23 #[.slice p q.length cap] W (CopyT W q)

set_option maxRecDepth 20000 in
set_option maxHeartbeats 3200000 in
theorem tcopyValue (k : Int) (b : Bool) (n : Int) (t x : ByteArray) (q : List Val) (p : Option Addr) (cap : Nat) (w : World) (hc : ∀ W, Below w.heap.size w W → Calls Tryz.prog 23 #[.slice p q.length cap] W (CopyT W q)) :
    Calls Tryz.prog 7 #[.agg #[.int .i64 k, .bool b, .int .i64 n, .string t, .string x, .slice p q.length cap]] w (RValT w k b n t x q) := by
  obtain ⟨W0, hW0⟩ : ∃ W0, W0 = (w.alloc (.cells #[.int .i64 k, .bool b, .int .i64 n, .string t, .string x, .slice p q.length cap] 31)).alloc (.cells #[.int .i64 0, .bool false, .int .i64 0, .string ⟨#[]⟩, .string ⟨#[]⟩, .slice none 0 0] 31) := ⟨_, rfl⟩
  have S1 : Six W0 w.heap.size k b n t x p q.length cap := by rw [hW0]; exact (six_new _ rfl).alloc _
  have S2 : Six W0 (w.heap.size + 1) 0 false 0 ⟨#[]⟩ ⟨#[]⟩ none 0 0 := by rw [hW0]; exact six_new _ (by simp)
  have b0 : Below w.heap.size w W0 := by rw [hW0]; exact (below1 _ _).alloc (by simp) _
  have z0 : W0.heap.size = w.heap.size + 2 := by rw [hW0]; simp
  have c5 := S1.c5
  have H0 := Lib.hid hW0
  have HZ := Lib.hid z0
  clear hW0 z0
  go_enter Tryz.func7, Tryz.ntmps7
  go_wp2_with (first
    | (go_at_call 23; rw [← H0.out]; (with_reducible refine (hc _ b0).mono ?_); rintro e w2 ⟨V, ys, rfl, hv, hcs, hb2⟩
       have hq2 : HeldT w2 W0.heap.size w2.heap.size V q := heldT_of_own hv hcs (Nat.le_refl _) (Nat.le_refl _)
       obtain ⟨p2, c2, rfl⟩ := held_slice (HeldT.held q hq2)
       have T1 := S1.below hb2; have T2 := S2.below hb2; have b2 := below_any b0 hb2 b0.size; have c5 := T1.c5; have f5 := T1.free 5
       have HQ := Lib.hid hq2; clear hq2 hv hcs hb2 S1 S2 b0)
    | ((with_reducible refine wpList_load6 (.tmp 1) w.heap.size (T1.set5 p2 q.length c2) ?_ ?_ ?_ ?_); rfl; rfl; rfl)
    | ((with_reducible refine wpList_store6 (k' := k) (b' := b) (n' := n) (t' := t) (x' := x) (p' := p2) (len' := q.length) (cap' := c2) (.tmp 2) (.tmp 7) (w.heap.size + 1) (Six.only T2 (Only.refl w.heap.size _ |>.setCell 5 none _) (by omega)) ?_ ?_ ?_ ?_ ?_); rfl; rfl; rfl; rfl; intro w9 on9 S9))
  have on5 : Only w.heap.size w2 (w2.setCell ⟨w.heap.size, 5, none⟩ (.slice p2 q.length c2)) := (Only.refl w.heap.size w2).setCell 5 none _
  have s5 := on5.size
  have s9 := on9.size
  have b5 : Below w.heap.size w (w2.setCell ⟨w.heap.size, 5, none⟩ (.slice p2 q.length c2)) := below_only b2 on5 (Nat.le_refl _) b2.size
  refine bodyPost_ret (results_sixA (p := 2) Tryz.results7 _ rfl S9) rfl ⟨p2, c2, rfl, ?_, below_only b5 on9 (by omega) b5.size⟩
  have hz := HZ.out
  exact HeldT.wide (by omega) (by omega) q (HeldT.stays (fun i a b' => (on9.block i (by omega) (by omega)).trans (on5.block i (by omega) (by omega))) q HQ.out)
set_option maxRecDepth 20000 in
set_option maxHeartbeats 6400000 in
theorem tcopySome (l : List Val) (g off cap : Nat) (w : World) (hl : Holds w g off l) (hn : l.length ≤ 2097152) (each : ∀ v ∈ l, TCopyV v) :
    Calls Tryz.prog 23 #[.slice (some ⟨g, off, none⟩) l.length cap] w (CopyT w l) := by
  obtain ⟨n, hln⟩ : ∃ n, n = l.length := ⟨_, rfl⟩
  rw [← hln] at hn ⊢
  obtain ⟨i0, hi, hz0, hz1, hz2⟩ := info_parts info28b
  have HL := Lib.hid hln
  have HH := Lib.hid hl
  have HE := Lib.hid each
  clear hl hln each
  go_enter Tryz.func23, Tryz.ntmps23
  go_wp2_with fail
  go_loopg [3, 4] n (fun gg s3 s4 wr => ∃ j : Nat, j + gg = n ∧ s4 = .int .i64 j ∧ Hid (AccT w (l.take j) s3 wr))
  case atStart => exact ⟨0, by omega, rfl, Lib.hid ⟨⟨[], w.heap.size, by simpa using World.ownsRow_nil w w.heap.size 31 6, by unfold CellsT; rfl, Nat.le_refl _, Nat.le_refl _⟩, Below.refl _ _⟩⟩
  case round =>
    obtain ⟨j, hjg, rfl, HA⟩ := hrel
    by_cases hlt : (j : Int) < n
    · have hj1 : j < l.length := by have := HL.out; omega
      obtain ⟨k, b, m, t, x, q, p, cp, o1⟩ := ((Holds.at_ l off HH.out j hj1).below _ HA.out.bel).opens
      have hcp : Calls Tryz.prog 7 #[.agg #[.int .i64 k, .bool b, .int .i64 m, .string t, .string x, .slice p q.length cp]] wr (RValT wr k b m t x q) :=
        tcopyValue k b m t x q p cp wr fun W h => HE.out l[j] (List.getElem_mem hj1) W k b m t x q p cp o1.e o1.hf.hn (Held.below q o1.hl h)
      unfold RValT at hcp
      have HF := Lib.hid o1.hf
      have HV := Lib.hid o1.e
      have hjl : (l.take j).length = j := by rw [List.length_take]; omega
      have c0 := o1.c0
      have c1 := o1.c1
      have c2 := o1.c2
      have c3 := o1.c3
      have c4 := o1.c4
      have c5 := o1.c5
      clear o1
      go_wp2_with (first
        | ((with_reducible refine wpList_loadMid6 (.tmp 14) g (off + j * 6) k b m t x _ c0 c1 c2 c3 c4 c5 ?_ ?_ ?_ ?_); rfl; rfl; rfl)
        | (go_at_call 7; (with_reducible refine hcp.mono ?_); rintro e wf ⟨p5, k5, rfl, hq0, bf0⟩
           obtain ⟨⟨xs, hi9, hown, hcs, hh1, hh2⟩, hbel⟩ := HA.out
           have hownX := own_below hown bf0
           have hbs := hbel.size
           have hfs := bf0.size
           have HX := Lib.hid (And.intro hown (And.intro hcs (And.intro hh1 (And.intro hh2 (And.intro hbel (And.intro bf0 hq0))))))
           clear hown hcs hh1 hh2 hbel bf0 hq0 HA c0 c1 c2 c3 c4 c5 hcp)
        | (at_builtin; refine wpList_append_own_at _ rfl _ _ 22 rfl w.heap.size 31 i0 (.agg #[.int .i64 0, .bool false, .int .i64 0, .string ⟨#[]⟩, .string ⟨#[]⟩, .slice none 0 0]) 6 80 Tryz.underlying22 hi hz0 hz1 hz2 rfl (by decide) _ _ _ rfl (hownX.alloc _) ⟨wf.heap.size, 0, none⟩ 1 1 [.int .i64 k, .bool b, .int .i64 m, .string t, .string x, .slice p5 q.length k5] rfl rfl (cell_six_new _ _ _ _ _ _ _ _) ?_ ?_ ?_ ?_ ?_))
      all_goals (try (first | (rw [hjl]; unfold maxLen; omega) | (rw [hjl]; omega) | (simp; omega) | (intro u hu; simp only [List.mem_cons, List.mem_nil_iff, or_false] at hu; rcases hu with rfl | rfl | rfl | rfl | rfl | rfl <;> rfl)))
      intro v' w1 hown' hgrow _ hloc
      have acc := AccT.next (k := k) (b := b) (n := m) (t := t) (x := x) (q := q) HX.out.1 HX.out.2.1 HX.out.2.2.1 HX.out.2.2.2.1 HX.out.2.2.2.2.1 HX.out.2.2.2.2.2.1 HF.out HX.out.2.2.2.2.2.2 (by rw [hjl]; exact hown') hgrow hloc
      have e : l.take (j + 1) = l.take j ++ [.mk k b m t x q] := by rw [List.take_succ_eq_append_getElem hj1, HV.out]
      rw [← e] at acc
      have ACC := Lib.hid acc
      clear acc hown' hgrow hloc hownX
      go_wp2_with fail
      go_roundg (gk - 1)
      case measure => omega
      case rel => exact ⟨j + 1, by omega, by go_num, ACC⟩
    · have e : l.take j = l := by rw [List.take_of_length_le]; have := HL.out; omega
      have hA := HA.out
      rw [e] at hA
      obtain ⟨⟨xs, hi9, hown, hcs, hh1, hh2⟩, hbel⟩ := hA
      have HX := Lib.hid (And.intro hown (And.intro (CellsT.high hh2 l _ hcs) hbel))
      clear hown hcs hbel HA hh1 hh2
      go_wp2_with fail
      go_ret
      exact ⟨_, xs, rfl, HX.out.1, HX.out.2.1, HX.out.2.2⟩

theorem tcopy_list (q : List Val) (p : Option Addr) (cap : Nat) (w : World) (hl : Held w (.slice p q.length cap) q) (hn : q.length ≤ 2097152) (each : ∀ u ∈ q, TCopyV u) :
    Calls Tryz.prog 23 #[.slice p q.length cap] w (CopyT w q) := by
  cases q with
  | nil =>
    go_enter Tryz.func23, Tryz.ntmps23
    go_wp2_with fail
    go_loopg [3, 4] 0 (fun gg s3 s4 wr => gg = 0 ∧ s4 = .int .i64 0 ∧ s3 = .slice none 0 0 ∧ wr = w)
    case atStart => exact ⟨rfl, rfl, rfl, rfl⟩
    case round =>
      obtain ⟨_, rfl, rfl, rfl⟩ := hrel
      go_wp2_with fail
      go_ret
      exact ⟨_, [], rfl, World.ownsRow_nil _ _ 31 6, by unfold CellsT; rfl, Below.refl _ _⟩
  | cons v r =>
    obtain ⟨g, off, rfl, hh⟩ := hl.form
    exact tcopySome (v :: r) g off cap w hh hn each
mutual
theorem tcopyVal : (v : Val) → TCopyV v
  | .mk k b n t x q => fun W k1 b1 n1 t1 x1 q1 p cap e hn hl => by
    cases e
    exact tcopy_list q p cap W hl hn (tcopyEach q)
theorem tcopyEach : (q : List Val) → ∀ u ∈ q, TCopyV u
  | [], _, h => absurd h (by simp)
  | v :: r, u, h => by
    rcases List.mem_cons.1 h with h | h
    · rw [h]; exact tcopyVal v
    · exact tcopyEach r u h
end
/-- CopyValue. -/
theorem tcopyAt (k : Int) (b : Bool) (n : Int) (t x : ByteArray) (q : List Val) (p : Option Addr) (cap : Nat) (w : World) (hf : Fine n t x q.length) (hl : Held w (.slice p q.length cap) q) :
    Calls Tryz.prog 7 #[.agg #[.int .i64 k, .bool b, .int .i64 n, .string t, .string x, .slice p q.length cap]] w (RValT w k b n t x q) :=
  tcopyValue k b n t x q p cap w fun W h => tcopyVal (.mk k b n t x q) W k b n t x q p cap rfl hf.hn (Held.below q hl h)
end Go.Proofs.YtffbcccbhofbpaaGreatDoor

/- The reader: a value, kind by kind. -/
namespace Go.Proofs.YtffbcccbhofbpaaGreatDoor
open Go.RowKit

theorem Six.set0 {w : World} {g : Nat} {k : Int} {b : Bool} {n : Int} {t x : ByteArray} {p : Option Addr} {len cap : Nat} (h : Six w g k b n t x p len cap) (v : Int) : Six (w.setCell ⟨g, 0, none⟩ (.int .i64 v)) g v b n t x p len cap := heap_set h 0 (.int .i64 v)
theorem Only.new {R B : Nat} {w y z : World} (h : Only R w y) (k : Only B y z) (hB : w.heap.size ≤ B) : Only R w z :=
  ⟨k.os.trans h.os, k.tape.trans h.tape, k.output.trans h.output, Nat.le_trans h.size k.size, fun i hi e => (k.block i (Nat.lt_of_lt_of_le hi h.size) (by omega)).trans (h.block i hi e)⟩
/-- A value's box was written: the reader is as it was. -/
theorem Rd.six {w w' : World} {R B : Nat} {l : List UInt8} {k : Int} {b : Bool} {n : Int} {t x : ByteArray} {p : Option Addr} {len cap : Nat} (h : Rd w R l) (S : Six w B k b n t x p len cap) (o : Only B w w') (hne : B ≠ R) : Rd w' R l := by
  obtain ⟨p1, cap1, h1, h2, h3, h4⟩ := h
  refine ⟨p1, cap1, (o.block R (lt_of_heap h1) (fun e => hne e.symm)).trans h1, h2, h3, ?_⟩
  rcases h4 with h4 | ⟨g, off, e, hg, ⟨cs, hcs⟩, hc⟩
  · exact .inl h4
  · have hgB : g ≠ B := fun e2 => by
      subst e2
      have h6 : w.heap[g]? = some (.cells #[.int .i64 k, .bool b, .int .i64 n, .string t, .string x, .slice p len cap] 31) := S
      rw [h6] at hcs
      injection hcs with h7
      injection h7 with _ h8
      exact absurd h8 (by decide)
    exact .inr ⟨g, off, e, hg, ⟨cs, (o.block g (lt_of_heap hcs) hgB).trans hcs⟩, fun j c hj => (World.cell?_of_block (w := w) (a := ⟨g, off + j, none⟩) (o.block g (lt_of_heap hcs) hgB)).trans (hc j c hj)⟩
theorem wrap_toI64 (x : Nat) (h : x < 18446744073709551616) : IntKind.i64.wrap (x : Int) = toI64 x := by
  rw [IntKind.wrap_i64]
  unfold toI64
  split <;> omega
theorem toI64_bounds (x : Nat) (h : x < 18446744073709551616) : -9223372036854775808 ≤ toI64 x ∧ toI64 x ≤ 9223372036854775807 := by
  unfold toI64
  split <;> omega
/-- What value tells. -/
def RdPost (f R : Nat) (l : List UInt8) (w : World) (e : Ending) (w' : World) : Prop :=
  (rdV f l = none ∧ (∃ (k : Int) (b : Bool) (n : Int) (t x : ByteArray) (p : Option Addr) (len cap : Nat), e = .returned (.tuple #[.agg #[.int .i64 k, .bool b, .int .i64 n, .string t, .string x, .slice p len cap], .bool false])) ∧ Only R w w') ∨
  (∃ (k : Int) (b : Bool) (n : Int) (t x : ByteArray) (q : List Val) (p : Option Addr) (cap : Nat) (r : List UInt8), rdV f l = some (.mk k b n t x q, r) ∧ r.length ≤ l.length ∧ Fine n t x q.length ∧
    e = .returned (.tuple #[.agg #[.int .i64 k, .bool b, .int .i64 n, .string t, .string x, .slice p q.length cap], .bool true]) ∧ HeldT w' w.heap.size w'.heap.size (.slice p q.length cap) q ∧ Rd w' R r ∧ Only R w w')
theorem heldNil (w : World) (lo hi : Nat) (p : Option Addr) (cap : Nat) : HeldT w lo hi (.slice p ([] : List Val).length cap) [] := by unfold HeldT; exact ⟨p, cap, rfl⟩
theorem kindInt (R : Nat) (l r : List UInt8) (c : UInt8) (x : Int) (W : World) (hlr : l = c :: r) (hx : (c.toNat : Int) = x) (h : Rd W R l) (hl : l.length ≤ 1000000000) :
    Calls Tryz.prog 52 #[.pointer (some ⟨R, 0, none⟩), .int .i64 1] W fun e w' => e = .returned (.tuple #[.int .u64 x, .bool true]) ∧ Rd w' R r ∧ Only R W w' := by
  have hi : Calls Tryz.prog 52 #[.pointer (some ⟨R, 0, none⟩), .int .i64 1] W (IntPost R l 1 W) := intAt R l 1 W h (by omega) hl
  refine hi.mono ?_
  subst hlr
  rintro e w' (⟨h, _⟩ | ⟨_, he, h⟩)
  · simp at h
  · refine ⟨?_, h⟩
    rw [he, ← hx]
    simp [numW]
theorem kindNone (R : Nat) (W : World) (k : Nat) (hk0 : 0 < k) (hk : k ≤ 8) (l : List UInt8) (hlk : l.length < k) (h : Rd W R l) (hl : l.length ≤ 1000000000) :
    Calls Tryz.prog 52 #[.pointer (some ⟨R, 0, none⟩), .int .i64 k] W fun e w' => e = .returned (.tuple #[.int .u64 0, .bool false]) ∧ w' = W := by
  refine (intAt R l k W h hk hl).mono ?_
  rintro e w' (⟨_, he, h⟩ | ⟨h, _⟩)
  · exact ⟨he, h⟩
  · omega
theorem kindMany (R : Nat) (W : World) (k : Nat) (hk : k ≤ 8) (l : List UInt8) (hlk : k ≤ l.length) (h : Rd W R l) (hl : l.length ≤ 1000000000) :
    Calls Tryz.prog 52 #[.pointer (some ⟨R, 0, none⟩), .int .i64 k] W fun e w' => e = .returned (.tuple #[.int .u64 (numW (l.take k)), .bool true]) ∧ Rd w' R (l.drop k) ∧ Only R W w' := by
  refine (intAt R l k W h hk hl).mono ?_
  rintro e w' (⟨h, _⟩ | ⟨_, he, h⟩)
  · omega
  · exact ⟨he, h⟩

set_option maxRecDepth 20000 in
set_option maxHeartbeats 6400000 in
theorem rdNull (R d f : Nat) (l r : List UInt8) (c : UInt8) (w : World) (hlr : l = c :: r) (hc : c.toNat = 0) (h : Rd w R l) (hl : l.length ≤ 1000000000) :
    Calls Tryz.prog 41 #[.pointer (some ⟨R, 0, none⟩), .int .i64 d] w (RdPost f R l w) := by
  have hv : rdV f l = rdK (if f = 0 then none else some (rdV (f - 1))) 0 r := by rw [hlr, rdV_cons, hc]
  have hrl : r.length ≤ l.length := by rw [hlr]; simp
  obtain ⟨W0, hW0⟩ : ∃ W0, W0 = w.alloc (.cells #[.int .i64 0, .bool false, .int .i64 0, .string ⟨#[]⟩, .string ⟨#[]⟩, .slice none 0 0] 31) := ⟨_, rfl⟩
  have S : Six W0 w.heap.size 0 false 0 ⟨#[]⟩ ⟨#[]⟩ none 0 0 := by rw [hW0]; exact six_new _ rfl
  have b0 : Below w.heap.size w W0 := by rw [hW0]; exact below1 _ _
  have hBR : w.heap.size ≠ R := by have := h.lt; omega
  have hi := kindInt R l r c 0 W0 hlr (by rw [hc]; rfl) (h.below b0) hl
  have O : Only R w W0 := Only.of_below b0
  have hl2 : r.length ≤ 1000000000 := by omega
  have H0 := Lib.hid hW0
  have HV := Lib.hid hv
  clear hW0 hv h b0 hlr hc
  go_enter Tryz.func41, Tryz.ntmps41
  go_upto_region 22 with (first
    | (go_at_call 52; (try rw [← H0.out]); (with_reducible refine hi.mono ?_); rintro e w1 ⟨rfl, R1, O1⟩; replace S := S.only O1 hBR; have c0 := S.c0; have f0 := S.free 0; replace R1 := R1.six S ((Only.refl _ w1).setCell 0 none (.int .i64 0)) hBR; replace O := (O.trans O1).new ((Only.refl w.heap.size w1).setCell 0 none (.int .i64 0)) (Nat.le_refl _); replace S := S.set0 0; clear O1 hi)
    | ((with_reducible refine wpList_load6 (.tmp 4) w.heap.size S ?_ ?_ ?_ ?_); rfl; rfl; rfl)
    | (go_at_call 47; (with_reducible refine (kindOfAt 0 _ _ _ _ _ 113 rfl _).mono ?_); rintro e w2 ⟨rfl, hb2⟩; replace S := S.below hb2; replace R1 := R1.below hb2; replace O := O.trans (Only.of_below hb2); clear hb2 c0 f0)
    | (simp only [ta113_113, ta113_91, ta113_93, ta113_94, ta113_95, ta113_97, ta113_98, ta113_99, ta113_100, ta113_102, ta113_103, Result.andThen_ok]))
  go_wp2_with (first
    | ((with_reducible refine wpList_load6 (.tmp 4) w.heap.size S ?_ ?_ ?_ ?_); rfl; rfl; rfl)
    | ((with_reducible refine wpList_store6 (k' := 0) (b' := false) (n' := 0) (t' := ⟨#[]⟩) (x' := ⟨#[]⟩) (p' := none) (len' := 0) (cap' := 0) (.tmp 4) (.tmp 105) w.heap.size S ?_ ?_ ?_ ?_ ?_); rfl; rfl; rfl; rfl; intro w9 on9 S9))
  have R9 := R1.six S on9 hBR
  have O9 := O.new on9 (Nat.le_refl _)
  refine bodyPost_ret (results_six_tmp (p := 4) (q := 5) Tryz.results41 _ (.bool true) rfl rfl S9) rfl (.inr ⟨0, false, 0, ⟨#[]⟩, ⟨#[]⟩, [], none, 0, r, ?_, hrl, ⟨by decide, by decide, by decide, by decide, by decide⟩, rfl, heldNil _ _ _ _ _, R9, O9⟩)
  rw [HV.out]
  rfl


set_option maxRecDepth 20000 in
set_option maxHeartbeats 6400000 in
theorem rdStranger (R d f : Nat) (l r : List UInt8) (c : UInt8) (w : World) (hlr : l = c :: r) (k : Nat) (hk : kindT k = 115) (hc : c.toNat = k) (h : Rd w R l) (hl : l.length ≤ 1000000000) :
    Calls Tryz.prog 41 #[.pointer (some ⟨R, 0, none⟩), .int .i64 d] w (RdPost f R l w) := by
  have hv : rdV f l = rdK (if f = 0 then none else some (rdV (f - 1))) k r := by rw [hlr, rdV_cons, hc]
  have hrl : r.length ≤ l.length := by rw [hlr]; simp
  obtain ⟨W0, hW0⟩ : ∃ W0, W0 = w.alloc (.cells #[.int .i64 0, .bool false, .int .i64 0, .string ⟨#[]⟩, .string ⟨#[]⟩, .slice none 0 0] 31) := ⟨_, rfl⟩
  have S : Six W0 w.heap.size 0 false 0 ⟨#[]⟩ ⟨#[]⟩ none 0 0 := by rw [hW0]; exact six_new _ rfl
  have b0 : Below w.heap.size w W0 := by rw [hW0]; exact below1 _ _
  have hBR : w.heap.size ≠ R := by have := h.lt; omega
  have hi := kindInt R l r c k W0 hlr (by rw [hc]) (h.below b0) hl
  have O : Only R w W0 := Only.of_below b0
  have hl2 : r.length ≤ 1000000000 := by omega
  have hk256 : k < 256 := by rw [← hc]; exact UInt8.toNat_lt c
  have H0 := Lib.hid hW0
  have HV := Lib.hid hv
  clear hW0 hv h b0 hlr hc
  go_enter Tryz.func41, Tryz.ntmps41
  go_upto_region 22 with (first
    | (go_at_call 52; (try rw [← H0.out]); (with_reducible refine hi.mono ?_); rintro e w1 ⟨rfl, R1, O1⟩; replace S := S.only O1 hBR; have c0 := S.c0; have f0 := S.free 0; replace R1 := R1.six S ((Only.refl _ w1).setCell 0 none (.int .i64 k)) hBR; replace O := (O.trans O1).new ((Only.refl w.heap.size w1).setCell 0 none (.int .i64 k)) (Nat.le_refl _); replace S := S.set0 k; clear O1 hi)
    | ((with_reducible refine wpList_load6 (.tmp 4) w.heap.size S ?_ ?_ ?_ ?_); rfl; rfl; rfl)
    | (go_at_call 47; (with_reducible refine (kindOfAt k _ _ _ _ _ 115 hk.symm _).mono ?_); rintro e w2 ⟨rfl, hb2⟩; replace S := S.below hb2; replace R1 := R1.below hb2; replace O := O.trans (Only.of_below hb2); clear hb2 c0 f0)
    | (simp only [ta115_113, ta115_91, ta115_93, ta115_94, ta115_95, ta115_97, ta115_98, ta115_99, ta115_100, ta115_102, ta115_103, Result.andThen_ok]))
  go_wp2_with (first
    | ((with_reducible refine wpList_load6 (.tmp 4) w.heap.size S ?_ ?_ ?_ ?_); rfl; rfl; rfl)
    | ((with_reducible refine wpList_store6 (k' := k) (b' := false) (n' := 0) (t' := ⟨#[]⟩) (x' := ⟨#[]⟩) (p' := none) (len' := 0) (cap' := 0) (.tmp 4) (.tmp 105) w.heap.size S ?_ ?_ ?_ ?_ ?_); rfl; rfl; rfl; rfl; intro w9 on9 S9))
  have R9 := R1.six S on9 hBR
  have O9 := O.new on9 (Nat.le_refl _)
  refine bodyPost_ret (results_six_tmp (p := 4) (q := 5) Tryz.results41 _ (.bool true) rfl rfl S9) rfl (.inr ⟨k, false, 0, ⟨#[]⟩, ⟨#[]⟩, [], none, 0, r, ?_, hrl, ⟨by decide, by decide, by decide, by decide, by decide⟩, rfl, heldNil _ _ _ _ _, R9, O9⟩)
  rw [HV.out]
  obtain ⟨h0, h1, h2, h3, h4, h5, h6, h7, h8, h9, h10⟩ := strange hk
  unfold rdK
  rw [if_neg (by omega), if_neg (by omega), if_neg (by omega), if_neg (by omega), if_neg (by omega)]
  rfl


set_option maxRecDepth 20000 in
set_option maxHeartbeats 6400000 in
theorem rdWhole (R d f : Nat) (l r : List UInt8) (c : UInt8) (w : World) (hlr : l = c :: r) (hc : c.toNat = 2) (h : Rd w R l) (hl : l.length ≤ 1000000000) :
    Calls Tryz.prog 41 #[.pointer (some ⟨R, 0, none⟩), .int .i64 d] w (RdPost f R l w) := by
  have hv : rdV f l = rdK (if f = 0 then none else some (rdV (f - 1))) 2 r := by rw [hlr, rdV_cons, hc]
  have hrl : r.length ≤ l.length := by rw [hlr]; simp
  obtain ⟨W0, hW0⟩ : ∃ W0, W0 = w.alloc (.cells #[.int .i64 0, .bool false, .int .i64 0, .string ⟨#[]⟩, .string ⟨#[]⟩, .slice none 0 0] 31) := ⟨_, rfl⟩
  have S : Six W0 w.heap.size 0 false 0 ⟨#[]⟩ ⟨#[]⟩ none 0 0 := by rw [hW0]; exact six_new _ rfl
  have b0 : Below w.heap.size w W0 := by rw [hW0]; exact below1 _ _
  have hBR : w.heap.size ≠ R := by have := h.lt; omega
  have hi := kindInt R l r c 2 W0 hlr (by rw [hc]; rfl) (h.below b0) hl
  have O : Only R w W0 := Only.of_below b0
  have hl2 : r.length ≤ 1000000000 := by omega
  have H0 := Lib.hid hW0
  have HV := Lib.hid hv
  clear hW0 hv h b0 hlr hc
  go_enter Tryz.func41, Tryz.ntmps41
  go_upto_region 12 with (first
    | (go_at_call 52; (try rw [← H0.out]); (with_reducible refine hi.mono ?_); rintro e w1 ⟨rfl, R1, O1⟩; replace S := S.only O1 hBR; have c0 := S.c0; have f0 := S.free 0; replace R1 := R1.six S ((Only.refl _ w1).setCell 0 none (.int .i64 2)) hBR; replace O := (O.trans O1).new ((Only.refl w.heap.size w1).setCell 0 none (.int .i64 2)) (Nat.le_refl _); replace S := S.set0 2; clear O1 hi)
    | ((with_reducible refine wpList_load6 (.tmp 4) w.heap.size S ?_ ?_ ?_ ?_); rfl; rfl; rfl)
    | (go_at_call 47; (with_reducible refine (kindOfAt 2 _ _ _ _ _ 93 rfl _).mono ?_); rintro e w2 ⟨rfl, hb2⟩; replace S := S.below hb2; replace R1 := R1.below hb2; replace O := O.trans (Only.of_below hb2); clear hb2 c0 f0)
    | (simp only [ta93_113, ta93_91, ta93_93, ta93_94, ta93_95, ta93_97, ta93_98, ta93_99, ta93_100, ta93_102, ta93_103, Result.andThen_ok]))
  by_cases h8 : 8 ≤ r.length
  · have hm : ∀ W, Rd W R r → Calls Tryz.prog 52 #[.pointer (some ⟨R, 0, none⟩), .int .i64 8] W fun e w' => e = .returned (.tuple #[.int .u64 (numW (r.take 8)), .bool true]) ∧ Rd w' R (r.drop 8) ∧ Only R W w' := fun W hR => kindMany R W 8 (by omega) r h8 hR hl2
    have hlt : numW (r.take 8) < 18446744073709551616 := by
      have h1 := numW_lt (r.take 8)
      rw [List.length_take, Nat.min_eq_left h8] at h1
      exact h1
    have hz : IntKind.i64.wrap (numW (r.take 8) : Int) = toI64 (numW (r.take 8)) := wrap_toI64 _ hlt
    have hb := toI64_bounds _ hlt
    obtain ⟨z, hzz⟩ : ∃ z, z = toI64 (numW (r.take 8)) := ⟨_, rfl⟩
    obtain ⟨y, hy⟩ : ∃ y, y = numW (r.take 8) := ⟨_, rfl⟩
    rw [← hzz] at hb hz
    rw [← hy] at hm hz hlt hzz
    have HZ := Lib.hid hzz
    have HY := Lib.hid hy
    clear hzz hy
    go_upto_region 22 with (first
      | (go_at_call 52; (with_reducible refine (hm _ R1).mono ?_); rintro e w3 ⟨rfl, R3, O3⟩; replace S := S.only O3 hBR; have c2 := S.c2; have f2 := S.free 2; replace R1 := R3.six S ((Only.refl _ w3).setCell 2 none (.int .i64 z)) hBR; replace O := (O.trans O3).new ((Only.refl w.heap.size w3).setCell 2 none (.int .i64 z)) (Nat.le_refl _); replace S := S.set2 z; clear O3 R3))
    clear c2 f2
    go_wp2_with (first
      | ((with_reducible refine wpList_load6 (.tmp 4) w.heap.size S ?_ ?_ ?_ ?_); rfl; rfl; rfl)
      | ((with_reducible refine wpList_store6 (k' := 2) (b' := false) (n' := z) (t' := ⟨#[]⟩) (x' := ⟨#[]⟩) (p' := none) (len' := 0) (cap' := 0) (.tmp 4) (.tmp 105) w.heap.size S ?_ ?_ ?_ ?_ ?_); rfl; rfl; rfl; rfl; intro w9 on9 S9))
    have R9 := R1.six S on9 hBR
    have O9 := O.new on9 (Nat.le_refl _)
    refine bodyPost_ret (results_six_tmp (p := 4) (q := 5) Tryz.results41 _ (.bool true) rfl rfl S9) rfl (.inr ⟨2, false, z, ⟨#[]⟩, ⟨#[]⟩, [], none, 0, (r.drop 8), ?_, by rw [List.length_drop]; omega, ⟨by decide, by decide, by decide, hb.1, hb.2⟩, rfl, heldNil _ _ _ _ _, R9, O9⟩)
    rw [HV.out]
    show (if 8 ≤ r.length then some (Val.mk 2 false (toI64 (numW (r.take 8))) E0 E0 [], r.drop 8) else none) = _
    rw [if_pos h8, ← HY.out, ← HZ.out]
    rfl
  · have hm : ∀ W, Rd W R r → Calls Tryz.prog 52 #[.pointer (some ⟨R, 0, none⟩), .int .i64 8] W fun e w' => e = .returned (.tuple #[.int .u64 0, .bool false]) ∧ w' = W := fun W hR => kindNone R W 8 (by omega) (by omega) r (by omega) hR hl2
    go_upto_region 22 with (first
      | (go_at_call 52; (with_reducible refine (hm _ R1).mono ?_); rintro e w3 ⟨rfl, hw3⟩; rw [hw3]; have c2 := S.c2; have f2 := S.free 2; replace O := O.new ((Only.refl w.heap.size w2).setCell 2 none (.int .i64 0)) (Nat.le_refl _); replace S := S.set2 0))
    clear c2 f2
    go_wp2_with (first
      | ((with_reducible refine wpList_load6 (.tmp 4) w.heap.size S ?_ ?_ ?_ ?_); rfl; rfl; rfl)
      | ((with_reducible refine wpList_store6 (k' := 2) (b' := false) (n' := 0) (t' := ⟨#[]⟩) (x' := ⟨#[]⟩) (p' := none) (len' := 0) (cap' := 0) (.tmp 4) (.tmp 105) w.heap.size S ?_ ?_ ?_ ?_ ?_); rfl; rfl; rfl; rfl; intro w9 on9 S9))
    refine bodyPost_ret (results_six_tmp (p := 4) (q := 5) Tryz.results41 _ (.bool false) rfl rfl S9) rfl (.inl ⟨?_, ⟨_, _, _, _, _, _, _, _, rfl⟩, O.new on9 (Nat.le_refl _)⟩)
    rw [HV.out]
    show (if 8 ≤ r.length then some (Val.mk 2 false (toI64 (numW (r.take 8))) E0 E0 [], r.drop 8) else none) = _
    rw [if_neg h8]


set_option maxRecDepth 20000 in
set_option maxHeartbeats 6400000 in
theorem rdNode (R d f : Nat) (l r : List UInt8) (c : UInt8) (w : World) (hlr : l = c :: r) (hc : c.toNat = 6) (h : Rd w R l) (hl : l.length ≤ 1000000000) :
    Calls Tryz.prog 41 #[.pointer (some ⟨R, 0, none⟩), .int .i64 d] w (RdPost f R l w) := by
  have hv : rdV f l = rdK (if f = 0 then none else some (rdV (f - 1))) 6 r := by rw [hlr, rdV_cons, hc]
  have hrl : r.length ≤ l.length := by rw [hlr]; simp
  obtain ⟨W0, hW0⟩ : ∃ W0, W0 = w.alloc (.cells #[.int .i64 0, .bool false, .int .i64 0, .string ⟨#[]⟩, .string ⟨#[]⟩, .slice none 0 0] 31) := ⟨_, rfl⟩
  have S : Six W0 w.heap.size 0 false 0 ⟨#[]⟩ ⟨#[]⟩ none 0 0 := by rw [hW0]; exact six_new _ rfl
  have b0 : Below w.heap.size w W0 := by rw [hW0]; exact below1 _ _
  have hBR : w.heap.size ≠ R := by have := h.lt; omega
  have hi := kindInt R l r c 6 W0 hlr (by rw [hc]; rfl) (h.below b0) hl
  have O : Only R w W0 := Only.of_below b0
  have hl2 : r.length ≤ 1000000000 := by omega
  have H0 := Lib.hid hW0
  have HV := Lib.hid hv
  clear hW0 hv h b0 hlr hc
  go_enter Tryz.func41, Tryz.ntmps41
  go_upto_region 12 with (first
    | (go_at_call 52; (try rw [← H0.out]); (with_reducible refine hi.mono ?_); rintro e w1 ⟨rfl, R1, O1⟩; replace S := S.only O1 hBR; have c0 := S.c0; have f0 := S.free 0; replace R1 := R1.six S ((Only.refl _ w1).setCell 0 none (.int .i64 6)) hBR; replace O := (O.trans O1).new ((Only.refl w.heap.size w1).setCell 0 none (.int .i64 6)) (Nat.le_refl _); replace S := S.set0 6; clear O1 hi)
    | ((with_reducible refine wpList_load6 (.tmp 4) w.heap.size S ?_ ?_ ?_ ?_); rfl; rfl; rfl)
    | (go_at_call 47; (with_reducible refine (kindOfAt 6 _ _ _ _ _ 94 rfl _).mono ?_); rintro e w2 ⟨rfl, hb2⟩; replace S := S.below hb2; replace R1 := R1.below hb2; replace O := O.trans (Only.of_below hb2); clear hb2 c0 f0)
    | (simp only [ta94_113, ta94_91, ta94_93, ta94_94, ta94_95, ta94_97, ta94_98, ta94_99, ta94_100, ta94_102, ta94_103, Result.andThen_ok]))
  by_cases h8 : 8 ≤ r.length
  · have hm : ∀ W, Rd W R r → Calls Tryz.prog 52 #[.pointer (some ⟨R, 0, none⟩), .int .i64 8] W fun e w' => e = .returned (.tuple #[.int .u64 (numW (r.take 8)), .bool true]) ∧ Rd w' R (r.drop 8) ∧ Only R W w' := fun W hR => kindMany R W 8 (by omega) r h8 hR hl2
    have hlt : numW (r.take 8) < 18446744073709551616 := by
      have h1 := numW_lt (r.take 8)
      rw [List.length_take, Nat.min_eq_left h8] at h1
      exact h1
    have hz : IntKind.i64.wrap (numW (r.take 8) : Int) = toI64 (numW (r.take 8)) := wrap_toI64 _ hlt
    have hb := toI64_bounds _ hlt
    obtain ⟨z, hzz⟩ : ∃ z, z = toI64 (numW (r.take 8)) := ⟨_, rfl⟩
    obtain ⟨y, hy⟩ : ∃ y, y = numW (r.take 8) := ⟨_, rfl⟩
    rw [← hzz] at hb hz
    rw [← hy] at hm hz hlt hzz
    have HZ := Lib.hid hzz
    have HY := Lib.hid hy
    clear hzz hy
    go_upto_region 22 with (first
      | (go_at_call 52; (with_reducible refine (hm _ R1).mono ?_); rintro e w3 ⟨rfl, R3, O3⟩; replace S := S.only O3 hBR; have c2 := S.c2; have f2 := S.free 2; replace R1 := R3.six S ((Only.refl _ w3).setCell 2 none (.int .i64 z)) hBR; replace O := (O.trans O3).new ((Only.refl w.heap.size w3).setCell 2 none (.int .i64 z)) (Nat.le_refl _); replace S := S.set2 z; clear O3 R3))
    clear c2 f2
    go_wp2_with (first
      | ((with_reducible refine wpList_load6 (.tmp 4) w.heap.size S ?_ ?_ ?_ ?_); rfl; rfl; rfl)
      | ((with_reducible refine wpList_store6 (k' := 6) (b' := false) (n' := z) (t' := ⟨#[]⟩) (x' := ⟨#[]⟩) (p' := none) (len' := 0) (cap' := 0) (.tmp 4) (.tmp 105) w.heap.size S ?_ ?_ ?_ ?_ ?_); rfl; rfl; rfl; rfl; intro w9 on9 S9))
    have R9 := R1.six S on9 hBR
    have O9 := O.new on9 (Nat.le_refl _)
    refine bodyPost_ret (results_six_tmp (p := 4) (q := 5) Tryz.results41 _ (.bool true) rfl rfl S9) rfl (.inr ⟨6, false, z, ⟨#[]⟩, ⟨#[]⟩, [], none, 0, (r.drop 8), ?_, by rw [List.length_drop]; omega, ⟨by decide, by decide, by decide, hb.1, hb.2⟩, rfl, heldNil _ _ _ _ _, R9, O9⟩)
    rw [HV.out]
    show (if 8 ≤ r.length then some (Val.mk 6 false (toI64 (numW (r.take 8))) E0 E0 [], r.drop 8) else none) = _
    rw [if_pos h8, ← HY.out, ← HZ.out]
    rfl
  · have hm : ∀ W, Rd W R r → Calls Tryz.prog 52 #[.pointer (some ⟨R, 0, none⟩), .int .i64 8] W fun e w' => e = .returned (.tuple #[.int .u64 0, .bool false]) ∧ w' = W := fun W hR => kindNone R W 8 (by omega) (by omega) r (by omega) hR hl2
    go_upto_region 22 with (first
      | (go_at_call 52; (with_reducible refine (hm _ R1).mono ?_); rintro e w3 ⟨rfl, hw3⟩; rw [hw3]; have c2 := S.c2; have f2 := S.free 2; replace O := O.new ((Only.refl w.heap.size w2).setCell 2 none (.int .i64 0)) (Nat.le_refl _); replace S := S.set2 0))
    clear c2 f2
    go_wp2_with (first
      | ((with_reducible refine wpList_load6 (.tmp 4) w.heap.size S ?_ ?_ ?_ ?_); rfl; rfl; rfl)
      | ((with_reducible refine wpList_store6 (k' := 6) (b' := false) (n' := 0) (t' := ⟨#[]⟩) (x' := ⟨#[]⟩) (p' := none) (len' := 0) (cap' := 0) (.tmp 4) (.tmp 105) w.heap.size S ?_ ?_ ?_ ?_ ?_); rfl; rfl; rfl; rfl; intro w9 on9 S9))
    refine bodyPost_ret (results_six_tmp (p := 4) (q := 5) Tryz.results41 _ (.bool false) rfl rfl S9) rfl (.inl ⟨?_, ⟨_, _, _, _, _, _, _, _, rfl⟩, O.new on9 (Nat.le_refl _)⟩)
    rw [HV.out]
    show (if 8 ≤ r.length then some (Val.mk 6 false (toI64 (numW (r.take 8))) E0 E0 [], r.drop 8) else none) = _
    rw [if_neg h8]


set_option maxRecDepth 20000 in
set_option maxHeartbeats 6400000 in
theorem rdEdge (R d f : Nat) (l r : List UInt8) (c : UInt8) (w : World) (hlr : l = c :: r) (hc : c.toNat = 7) (h : Rd w R l) (hl : l.length ≤ 1000000000) :
    Calls Tryz.prog 41 #[.pointer (some ⟨R, 0, none⟩), .int .i64 d] w (RdPost f R l w) := by
  have hv : rdV f l = rdK (if f = 0 then none else some (rdV (f - 1))) 7 r := by rw [hlr, rdV_cons, hc]
  have hrl : r.length ≤ l.length := by rw [hlr]; simp
  obtain ⟨W0, hW0⟩ : ∃ W0, W0 = w.alloc (.cells #[.int .i64 0, .bool false, .int .i64 0, .string ⟨#[]⟩, .string ⟨#[]⟩, .slice none 0 0] 31) := ⟨_, rfl⟩
  have S : Six W0 w.heap.size 0 false 0 ⟨#[]⟩ ⟨#[]⟩ none 0 0 := by rw [hW0]; exact six_new _ rfl
  have b0 : Below w.heap.size w W0 := by rw [hW0]; exact below1 _ _
  have hBR : w.heap.size ≠ R := by have := h.lt; omega
  have hi := kindInt R l r c 7 W0 hlr (by rw [hc]; rfl) (h.below b0) hl
  have O : Only R w W0 := Only.of_below b0
  have hl2 : r.length ≤ 1000000000 := by omega
  have H0 := Lib.hid hW0
  have HV := Lib.hid hv
  clear hW0 hv h b0 hlr hc
  go_enter Tryz.func41, Tryz.ntmps41
  go_upto_region 12 with (first
    | (go_at_call 52; (try rw [← H0.out]); (with_reducible refine hi.mono ?_); rintro e w1 ⟨rfl, R1, O1⟩; replace S := S.only O1 hBR; have c0 := S.c0; have f0 := S.free 0; replace R1 := R1.six S ((Only.refl _ w1).setCell 0 none (.int .i64 7)) hBR; replace O := (O.trans O1).new ((Only.refl w.heap.size w1).setCell 0 none (.int .i64 7)) (Nat.le_refl _); replace S := S.set0 7; clear O1 hi)
    | ((with_reducible refine wpList_load6 (.tmp 4) w.heap.size S ?_ ?_ ?_ ?_); rfl; rfl; rfl)
    | (go_at_call 47; (with_reducible refine (kindOfAt 7 _ _ _ _ _ 95 rfl _).mono ?_); rintro e w2 ⟨rfl, hb2⟩; replace S := S.below hb2; replace R1 := R1.below hb2; replace O := O.trans (Only.of_below hb2); clear hb2 c0 f0)
    | (simp only [ta95_113, ta95_91, ta95_93, ta95_94, ta95_95, ta95_97, ta95_98, ta95_99, ta95_100, ta95_102, ta95_103, Result.andThen_ok]))
  by_cases h8 : 8 ≤ r.length
  · have hm : ∀ W, Rd W R r → Calls Tryz.prog 52 #[.pointer (some ⟨R, 0, none⟩), .int .i64 8] W fun e w' => e = .returned (.tuple #[.int .u64 (numW (r.take 8)), .bool true]) ∧ Rd w' R (r.drop 8) ∧ Only R W w' := fun W hR => kindMany R W 8 (by omega) r h8 hR hl2
    have hlt : numW (r.take 8) < 18446744073709551616 := by
      have h1 := numW_lt (r.take 8)
      rw [List.length_take, Nat.min_eq_left h8] at h1
      exact h1
    have hz : IntKind.i64.wrap (numW (r.take 8) : Int) = toI64 (numW (r.take 8)) := wrap_toI64 _ hlt
    have hb := toI64_bounds _ hlt
    obtain ⟨z, hzz⟩ : ∃ z, z = toI64 (numW (r.take 8)) := ⟨_, rfl⟩
    obtain ⟨y, hy⟩ : ∃ y, y = numW (r.take 8) := ⟨_, rfl⟩
    rw [← hzz] at hb hz
    rw [← hy] at hm hz hlt hzz
    have HZ := Lib.hid hzz
    have HY := Lib.hid hy
    clear hzz hy
    go_upto_region 22 with (first
      | (go_at_call 52; (with_reducible refine (hm _ R1).mono ?_); rintro e w3 ⟨rfl, R3, O3⟩; replace S := S.only O3 hBR; have c2 := S.c2; have f2 := S.free 2; replace R1 := R3.six S ((Only.refl _ w3).setCell 2 none (.int .i64 z)) hBR; replace O := (O.trans O3).new ((Only.refl w.heap.size w3).setCell 2 none (.int .i64 z)) (Nat.le_refl _); replace S := S.set2 z; clear O3 R3))
    clear c2 f2
    go_wp2_with (first
      | ((with_reducible refine wpList_load6 (.tmp 4) w.heap.size S ?_ ?_ ?_ ?_); rfl; rfl; rfl)
      | ((with_reducible refine wpList_store6 (k' := 7) (b' := false) (n' := z) (t' := ⟨#[]⟩) (x' := ⟨#[]⟩) (p' := none) (len' := 0) (cap' := 0) (.tmp 4) (.tmp 105) w.heap.size S ?_ ?_ ?_ ?_ ?_); rfl; rfl; rfl; rfl; intro w9 on9 S9))
    have R9 := R1.six S on9 hBR
    have O9 := O.new on9 (Nat.le_refl _)
    refine bodyPost_ret (results_six_tmp (p := 4) (q := 5) Tryz.results41 _ (.bool true) rfl rfl S9) rfl (.inr ⟨7, false, z, ⟨#[]⟩, ⟨#[]⟩, [], none, 0, (r.drop 8), ?_, by rw [List.length_drop]; omega, ⟨by decide, by decide, by decide, hb.1, hb.2⟩, rfl, heldNil _ _ _ _ _, R9, O9⟩)
    rw [HV.out]
    show (if 8 ≤ r.length then some (Val.mk 7 false (toI64 (numW (r.take 8))) E0 E0 [], r.drop 8) else none) = _
    rw [if_pos h8, ← HY.out, ← HZ.out]
    rfl
  · have hm : ∀ W, Rd W R r → Calls Tryz.prog 52 #[.pointer (some ⟨R, 0, none⟩), .int .i64 8] W fun e w' => e = .returned (.tuple #[.int .u64 0, .bool false]) ∧ w' = W := fun W hR => kindNone R W 8 (by omega) (by omega) r (by omega) hR hl2
    go_upto_region 22 with (first
      | (go_at_call 52; (with_reducible refine (hm _ R1).mono ?_); rintro e w3 ⟨rfl, hw3⟩; rw [hw3]; have c2 := S.c2; have f2 := S.free 2; replace O := O.new ((Only.refl w.heap.size w2).setCell 2 none (.int .i64 0)) (Nat.le_refl _); replace S := S.set2 0))
    clear c2 f2
    go_wp2_with (first
      | ((with_reducible refine wpList_load6 (.tmp 4) w.heap.size S ?_ ?_ ?_ ?_); rfl; rfl; rfl)
      | ((with_reducible refine wpList_store6 (k' := 7) (b' := false) (n' := 0) (t' := ⟨#[]⟩) (x' := ⟨#[]⟩) (p' := none) (len' := 0) (cap' := 0) (.tmp 4) (.tmp 105) w.heap.size S ?_ ?_ ?_ ?_ ?_); rfl; rfl; rfl; rfl; intro w9 on9 S9))
    refine bodyPost_ret (results_six_tmp (p := 4) (q := 5) Tryz.results41 _ (.bool false) rfl rfl S9) rfl (.inl ⟨?_, ⟨_, _, _, _, _, _, _, _, rfl⟩, O.new on9 (Nat.le_refl _)⟩)
    rw [HV.out]
    show (if 8 ≤ r.length then some (Val.mk 7 false (toI64 (numW (r.take 8))) E0 E0 [], r.drop 8) else none) = _
    rw [if_neg h8]


end Go.Proofs.YtffbcccbhofbpaaGreatDoor
