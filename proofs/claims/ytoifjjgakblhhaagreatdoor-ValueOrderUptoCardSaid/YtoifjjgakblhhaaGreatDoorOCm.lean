/- How two lists stand, given how their elements do: CompareFunc over orderWithin's closure. -/
import Derived.Test.YtoifjjgakblhhaaGreatDoorOBm
import Derived.Test.YtoifjjgakblhhaaGreatDoorGo
namespace Go.Proofs.YtoifjjgakblhhaaGreatDoor
open Go.RowKit

/-- Order's contract at a value. -/
def OrdAt (v : Val) : Prop := ∀ (lang : Int) (W : World) (k : Int) (b : Bool) (n : Int) (t x : ByteArray) (q : List Val) (p : Option Addr) (cap : Nat) (v2 : Val) (k2 : Int) (b2 : Bool) (n2 : Int) (t2 x2 : ByteArray) (q2 : List Val) (p2 : Option Addr) (cap2 : Nat),
  v = .mk k b n t x q → v2 = .mk k2 b2 n2 t2 x2 q2 → Gd W → Tab W → Fine n t x q.length → Fine n2 t2 x2 q2.length → Held W (.slice p q.length cap) q → Held W (.slice p2 q2.length cap2) q2 →
  Calls Tryz.prog 23 #[.int .i64 lang, .agg #[.int .i64 k, .bool b, .int .i64 n, .string t, .string x, .slice p q.length cap], .agg #[.int .i64 k2, .bool b2, .int .i64 n2, .string t2, .string x2, .slice p2 q2.length cap2]] W
    fun e w' => e = .returned (.int .i64 (orderI lang v v2)) ∧ Below W.heap.size W w'

theorem listI_drop (lang : Int) (l l2 : List Val) (j : Nat) (h : j < l.length) (h2 : j < l2.length) : listI lang (l.drop j) (l2.drop j) = lexI (orderI lang l[j] l2[j]) (listI lang (l.drop (j + 1)) (l2.drop (j + 1))) := by
  rw [List.drop_eq_getElem_cons h, List.drop_eq_getElem_cons h2, listI]
theorem listI_long (lang : Int) (l l2 : List Val) (j : Nat) (h : j < l.length) (h2 : l2.length ≤ j) : listI lang (l.drop j) (l2.drop j) = 1 := by
  rw [List.drop_eq_getElem_cons h, List.drop_eq_nil_of_le h2, listI]
theorem listI_short (lang : Int) (l l2 : List Val) (h2 : l.length < l2.length) : listI lang (l.drop l.length) (l2.drop l.length) = -1 := by
  rw [List.drop_eq_nil_of_le (Nat.le_refl _), List.drop_eq_getElem_cons h2, listI]
theorem listI_end (lang : Int) (l l2 : List Val) (h2 : l2.length ≤ l.length) : listI lang (l.drop l.length) (l2.drop l.length) = 0 := by
  rw [List.drop_eq_nil_of_le (Nat.le_refl _), List.drop_eq_nil_of_le h2, listI]

set_option maxHeartbeats 1600000 in
theorem ordClosure {v : Val} (h : OrdAt v) (lang : Int) (gl : Nat) (W : World) (k : Int) (b : Bool) (n : Int) (t x : ByteArray) (q : List Val) (p : Option Addr) (cap : Nat) (v2 : Val) (k2 : Int) (b2 : Bool) (n2 : Int) (t2 x2 : ByteArray) (q2 : List Val) (p2 : Option Addr) (cap2 : Nat)
    (e1 : v = .mk k b n t x q) (e2 : v2 = .mk k2 b2 n2 t2 x2 q2) (hG : Gd W) (hT : Tab W) (hf : Fine n t x q.length) (hf2 : Fine n2 t2 x2 q2.length) (hl : Held W (.slice p q.length cap) q) (hl2 : Held W (.slice p2 q2.length cap2) q2) (hcl : W.cell? ⟨gl, 0, none⟩ = some (.int .i64 lang)) :
    Calls Tryz.prog 94 #[.agg #[.int .i64 k, .bool b, .int .i64 n, .string t, .string x, .slice p q.length cap], .agg #[.int .i64 k2, .bool b2, .int .i64 n2, .string t2, .string x2, .slice p2 q2.length cap2], .pointer (some ⟨gl, 0, none⟩)] W
      fun e w' => e = .returned (.int .i64 (orderI lang v v2)) ∧ Below W.heap.size W w' := by
  obtain ⟨W0, hW0⟩ : ∃ W0, W0 = (W.alloc (.cells #[.int .i64 k, .bool b, .int .i64 n, .string t, .string x, .slice p q.length cap] 28)).alloc (.cells #[.int .i64 k2, .bool b2, .int .i64 n2, .string t2, .string x2, .slice p2 q2.length cap2] 28) := ⟨_, rfl⟩
  have S4 : Six W0 W.heap.size k b n t x p q.length cap := by rw [hW0]; exact (six_new _ rfl).alloc _
  have S5 : Six W0 (W.heap.size + 1) k2 b2 n2 t2 x2 p2 q2.length cap2 := by rw [hW0]; exact six_new _ (by simp)
  have b0 : Below W.heap.size W W0 := by rw [hW0]; exact below2 _ _ _
  have hc0 : W0.cell? ⟨gl, 0, none⟩ = some (.int .i64 lang) := (b0.cell (p := ⟨gl, 0, none⟩) (World.block_lt_of_cell? W _ hcl)).trans hcl
  have hc := h lang W0 k b n t x q p cap v2 k2 b2 n2 t2 x2 q2 p2 cap2 e1 e2 (hG.below b0) (hT.below b0) hf hf2 (Held.below q hl b0) (Held.below q2 hl2 b0)
  have hc00 := hc0
  rw [hW0] at hc00
  have z0 := b0.size
  have H0 := Lib.hid hW0
  clear hl hl2 hf hf2 hG hT hW0 e1 e2 h hcl
  generalize orderI lang v v2 = r at hc ⊢
  go_enter Tryz.func94, Tryz.ntmps94
  go_wp2_with (first
    | (rw [← H0.out]; (with_reducible refine wpList_load6 (.tmp 3) W.heap.size S4 ?_ ?_ ?_ ?_); rfl; rfl; rfl)
    | ((with_reducible refine wpList_load6 (.tmp 3) W.heap.size S4 ?_ ?_ ?_ ?_); rfl; rfl; rfl)
    | ((with_reducible refine wpList_load6 (.tmp 4) (W.heap.size + 1) S5 ?_ ?_ ?_ ?_); rfl; rfl; rfl)
    | (go_at_call 23; (with_reducible refine hc.mono ?_); rintro e w3 ⟨rfl, hb3⟩; replace b0 := below_any b0 hb3 z0))
  go_ret
  exact ⟨rfl, b0⟩

theorem cmpFuncNil (lang : Int) (p p2 : Option Addr) (l2 : List Val) (cap cap2 : Nat) (F : Value) (w : World) :
    Calls Tryz.prog 93 #[.slice p 0 cap, .slice p2 l2.length cap2, F] w fun e w' => e = .returned (.int .i64 (listI lang [] l2)) ∧ Below w.heap.size w w' := by
  cases l2 with
  | nil =>
    rw [show listI lang [] [] = 0 from by unfold listI; rfl, List.length_nil]
    go_enter Tryz.func93, Tryz.ntmps93
    go_wp2_with fail
    go_loopw [13] (fun i wr => i = .int .i64 0 ∧ wr = w) (fun _ _ => 0)
    case atStart => exact ⟨rfl, rfl⟩
    case round =>
      obtain ⟨rfl, rfl⟩ := hrel
      go_wp2_with fail
      go_ret
      exact ⟨rfl, Below.refl _ _⟩
  | cons v r =>
    rw [show listI lang [] (v :: r) = -1 from by unfold listI; rfl, List.length_cons]
    go_enter Tryz.func93, Tryz.ntmps93
    go_wp2_with fail
    go_loopw [13] (fun i wr => i = .int .i64 0 ∧ wr = w) (fun _ _ => 0)
    case atStart => exact ⟨rfl, rfl⟩
    case round =>
      obtain ⟨rfl, rfl⟩ := hrel
      go_wp2_with fail
      go_ret
      exact ⟨rfl, Below.refl _ _⟩

set_option maxRecDepth 20000 in
set_option maxHeartbeats 3200000 in
theorem cmpFuncSome (lang : Int) (gl : Nat) (l l2 : List Val) (g off cap : Nat) (P2 : Option Addr) (g2 off2 cap2 : Nat) (w : World) (hG : Gd w) (hT : Tab w) (hcl : w.cell? ⟨gl, 0, none⟩ = some (.int .i64 lang)) (hl : Holds w g off l) (hl2 : Holds w g2 off2 l2)
    (hP2 : 0 < l2.length → P2 = some ⟨g2, off2, none⟩) (hn : l.length ≤ 2097152) (hn2 : l2.length ≤ 2097152) (each : ∀ v ∈ l, OrdAt v) :
    Calls Tryz.prog 93 #[.slice (some ⟨g, off, none⟩) l.length cap, .slice P2 l2.length cap2, .func (.func 94) #[] #[.pointer (some ⟨gl, 0, none⟩)]] w fun e w' => e = .returned (.int .i64 (listI lang l l2)) ∧ Below w.heap.size w w' := by
  have HH := Lib.hid hl
  have HH2 := Lib.hid hl2
  have HE := Lib.hid each
  have HP := Lib.hid hP2
  clear hl hl2 each hP2
  go_enter Tryz.func93, Tryz.ntmps93
  go_wp2_with fail
  go_loopw [13] (fun i wr => ∃ j : Nat, j ≤ l.length ∧ i = .int .i64 j ∧ Below w.heap.size w wr ∧ Hid (listI lang l l2 = listI lang (l.drop j) (l2.drop j))) (fun i _ => l.length - (intOf i).toNat)
  case atStart => exact ⟨0, Nat.zero_le _, rfl, Below.refl _ _, Lib.hid (by rw [List.drop_zero, List.drop_zero])⟩
  case round =>
    obtain ⟨j, hj, rfl, hb, HA⟩ := hrel
    by_cases hlt : j < l.length
    · obtain ⟨k, b, n, t, x, q, p, cp, o1⟩ := ((Holds.at_ l off HH.out j hlt).below _ hb).opens
      have hs : w.heap.size ≤ wr.heap.size := hb.size
      by_cases hlt2 : j < l2.length
      · obtain rfl := HP.out (by omega)
        obtain ⟨k2, b2, n2, t2, x2, q2, p2, cp2, o2⟩ := ((Holds.at_ l2 off2 HH2.out j hlt2).below _ hb).opens
        obtain ⟨c1, hc1⟩ : ∃ c1, c1 = Obj.cells #[.int .i64 k, .bool b, .int .i64 n, .string t, .string x, .slice p q.length cp] 28 := ⟨_, rfl⟩
        obtain ⟨c2, hc2⟩ : ∃ c2, c2 = Obj.cells #[.int .i64 k2, .bool b2, .int .i64 n2, .string t2, .string x2, .slice p2 q2.length cp2] 28 := ⟨_, rfl⟩
        have bb := below2 wr c1 c2
        have b0 : Below w.heap.size w ((wr.alloc c1).alloc c2) := (hb.alloc hs _).alloc (by simp; omega) _
        have hcl2 : ((wr.alloc c1).alloc c2).cell? ⟨gl, 0, none⟩ = some (.int .i64 lang) := (b0.cell (p := ⟨gl, 0, none⟩) (World.block_lt_of_cell? w _ hcl)).trans hcl
        have hc := ordClosure (HE.out l[j] (List.getElem_mem hlt)) lang gl ((wr.alloc c1).alloc c2) k b n t x q p cp l2[j] k2 b2 n2 t2 x2 q2 p2 cp2 o1.e o2.e (hG.below b0) (hT.below b0) o1.hf o2.hf (Held.below q o1.hl bb) (Held.below q2 o2.hl bb) hcl2
        obtain ⟨r, hr⟩ : ∃ r, r = orderI lang l[j] l2[j] := ⟨_, rfl⟩
        rw [← hr] at hc
        have hA := HA.out
        rw [listI_drop lang l l2 j hlt hlt2, ← hr] at hA
        have l0 : Six ((wr.alloc c1).alloc c2) wr.heap.size k b n t x p q.length cp := by rw [hc1]; exact (six_new _ rfl).alloc _
        have l1 : Six ((wr.alloc c1).alloc c2) (wr.heap.size + 1) k2 b2 n2 t2 x2 p2 q2.length cp2 := by rw [hc2]; exact six_new _ (by simp)
        have z0 : w.heap.size ≤ ((wr.alloc c1).alloc c2).heap.size := b0.size
        have O1 := Lib.hid o1
        have O2 := Lib.hid (o2.below (below1 wr c1))
        clear o1 o2 bb hr HA hcl2
        by_cases hr0 : r = 0
        · subst hr0
          rw [lexI_zero] at hA
          have HA := Lib.hid hA
          clear hA
          subst hc1 hc2
          go_wp2_with (first
            | ((with_reducible refine wpList_loadMid6 (.tmp 16) g (off + j * 6) k b n t x (.slice p q.length cp) O1.out.c0 O1.out.c1 O1.out.c2 O1.out.c3 O1.out.c4 O1.out.c5 ?_ ?_ ?_ ?_); rfl; rfl; rfl)
            | ((with_reducible refine wpList_loadMid6 (.tmp 24) g2 (off2 + j * 6) k2 b2 n2 t2 x2 (.slice p2 q2.length cp2) O2.out.c0 O2.out.c1 O2.out.c2 O2.out.c3 O2.out.c4 O2.out.c5 ?_ ?_ ?_ ?_); rfl; rfl; rfl)
            | ((with_reducible refine wpList_load6 (.tmp 8) wr.heap.size l0 ?_ ?_ ?_ ?_); rfl; rfl; rfl)
            | ((with_reducible refine wpList_load6 (.tmp 9) (wr.heap.size + 1) l1 ?_ ?_ ?_ ?_); rfl; rfl; rfl)
            | (go_at_call 94; (with_reducible refine hc.mono ?_); rintro e w3 ⟨rfl, hb3⟩; have b3 := below_any b0 hb3 z0))
          go_roundw
          case rel => exact ⟨j + 1, by omega, by go_num, b3, HA⟩
          case measure => simp [intOf]; omega
        · have e : lexI r (listI lang (l.drop (j + 1)) (l2.drop (j + 1))) = r := by unfold lexI; rw [if_neg hr0]
          rw [e] at hA
          have HA := Lib.hid hA
          have e2 : (r != 0) = true := by simpa using hr0
          clear hA e
          subst hc1 hc2
          go_wp2_with (first
            | ((with_reducible refine wpList_loadMid6 (.tmp 16) g (off + j * 6) k b n t x (.slice p q.length cp) O1.out.c0 O1.out.c1 O1.out.c2 O1.out.c3 O1.out.c4 O1.out.c5 ?_ ?_ ?_ ?_); rfl; rfl; rfl)
            | ((with_reducible refine wpList_loadMid6 (.tmp 24) g2 (off2 + j * 6) k2 b2 n2 t2 x2 (.slice p2 q2.length cp2) O2.out.c0 O2.out.c1 O2.out.c2 O2.out.c3 O2.out.c4 O2.out.c5 ?_ ?_ ?_ ?_); rfl; rfl; rfl)
            | ((with_reducible refine wpList_load6 (.tmp 8) wr.heap.size l0 ?_ ?_ ?_ ?_); rfl; rfl; rfl)
            | ((with_reducible refine wpList_load6 (.tmp 9) (wr.heap.size + 1) l1 ?_ ?_ ?_ ?_); rfl; rfl; rfl)
            | (go_at_call 94; (with_reducible refine hc.mono ?_); rintro e w3 ⟨rfl, hb3⟩; have b3 := below_any b0 hb3 z0))
          go_ret
          exact ⟨by rw [HA.out]; rfl, b3⟩
      · have hA := HA.out
        rw [listI_long lang l l2 j hlt (by omega)] at hA
        have HA2 := Lib.hid hA
        have O1 := Lib.hid o1
        have b0 : Below w.heap.size w (wr.alloc (.cells #[.int .i64 k, .bool b, .int .i64 n, .string t, .string x, .slice p q.length cp] 28)) := hb.alloc hs _
        clear hA HA o1
        go_wp2_with (first
          | ((with_reducible refine wpList_loadMid6 (.tmp 16) g (off + j * 6) k b n t x (.slice p q.length cp) O1.out.c0 O1.out.c1 O1.out.c2 O1.out.c3 O1.out.c4 O1.out.c5 ?_ ?_ ?_ ?_); rfl; rfl; rfl))
        go_ret
        exact ⟨by rw [HA2.out]; rfl, b0⟩
    · obtain rfl : j = l.length := by omega
      have hA := HA.out
      by_cases hs : l.length < l2.length
      · rw [listI_short lang l l2 hs] at hA
        have HA2 := Lib.hid hA
        clear hA HA
        go_wp2_with fail
        go_ret
        exact ⟨by rw [HA2.out]; rfl, hb⟩
      · rw [listI_end lang l l2 (by omega)] at hA
        have HA2 := Lib.hid hA
        clear hA HA
        go_wp2_with fail
        go_ret
        exact ⟨by rw [HA2.out]; rfl, hb⟩

theorem cmpFuncAt (lang : Int) (gl : Nat) (l l2 : List Val) (p p2 : Option Addr) (cap cap2 : Nat) (w : World) (hG : Gd w) (hT : Tab w) (hcl : w.cell? ⟨gl, 0, none⟩ = some (.int .i64 lang)) (hl : Held w (.slice p l.length cap) l) (hl2 : Held w (.slice p2 l2.length cap2) l2) (hn : l.length ≤ 2097152) (hn2 : l2.length ≤ 2097152) (each : ∀ v ∈ l, OrdAt v) :
    Calls Tryz.prog 93 #[.slice p l.length cap, .slice p2 l2.length cap2, .func (.func 94) #[] #[.pointer (some ⟨gl, 0, none⟩)]] w fun e w' => e = .returned (.int .i64 (listI lang l l2)) ∧ Below w.heap.size w w' := by
  cases l with
  | nil => exact cmpFuncNil lang p p2 l2 cap cap2 _ w
  | cons v r =>
    obtain ⟨g, off, rfl, hh⟩ := hl.form
    cases l2 with
    | nil => exact cmpFuncSome lang gl (v :: r) [] g off cap p2 0 0 cap2 w hG hT hcl hh (by unfold Holds; trivial) (fun h => absurd h (by simp)) hn hn2 each
    | cons v2 r2 =>
      obtain ⟨g2, off2, rfl, hh2⟩ := hl2.form
      exact cmpFuncSome lang gl (v :: r) (v2 :: r2) g off cap _ g2 off2 cap2 w hG hT hcl hh hh2 (fun _ => rfl) hn hn2 each
end Go.Proofs.YtoifjjgakblhhaaGreatDoor
