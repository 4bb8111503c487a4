/- Texts of one kind, one behind the other: each says ahead of itself what it shows. -/
import Derived.Test.YtanbgdhmfjgihaaGreatDoorJal
import Derived.Test.YtanbgdhmfjgihaaGreatDoorJao
import Derived.Test.YtanbgdhmfjgihaaGreatDoorJai
import Derived.Test.YtanbgdhmfjgihaaGreatDoorJaj
import Derived.Deep.RegionHeld3
import Derived.Deep.RegionWith
import Derived.Test.YtanbgdhmfjgihaaGreatDoorJan
/- A triple in memory; triples.Check. -/
namespace Go.Proofs.YtanbgdhmfjgihaaGreatDoor
open Go.RowKit

/-- A value's six cells. -/
structure V6 where
  k : Int
  b : Bool
  n : Int
  t : ByteArray
  x : ByteArray
  p : Option Addr
  len : Nat
  cap : Nat
/-- What a value's cells say of it: the value itself, its list in memory, and that all of it is of fair size. -/
structure Is (W : World) (v : V6) (u : Val) (q : List Val) : Prop where
  e : u = .mk v.k v.b v.n v.t v.x q
  hq : v.len = q.length
  hf : Fine v.n v.t v.x q.length
  hl : Held W (.slice v.p v.len v.cap) q
theorem Is.below {W W' : World} {v : V6} {u : Val} {q : List Val} (h : Is W v u q) (b : Below W.heap.size W W') : Is W' v u q := ⟨h.e, h.hq, h.hf, Held.below q h.hl b⟩

theorem info41 : (Tryz.prog.info? 41).map (·.size) = some 18 := by kernel_rfl
/-- A triple's cells in a block of its own. -/
def Box18 (W : World) (g : Nat) (s q o : V6) : Prop := W.heap[g]? = some (.cells #[.int .i64 s.k, .bool s.b, .int .i64 s.n, .string s.t, .string s.x, .slice s.p s.len s.cap, .int .i64 q.k, .bool q.b, .int .i64 q.n, .string q.t, .string q.x, .slice q.p q.len q.cap, .int .i64 o.k, .bool o.b, .int .i64 o.n, .string o.t, .string o.x, .slice o.p o.len o.cap] 41)
section
variable {w w' : World} {g e : Nat} {s q o : V6}
theorem Box18.below (h : Box18 w g s q o) (c : Below w.heap.size w w') : Box18 w' g s q o := (c.block g (lt_of_heap h)).trans h
theorem Box18.only (h : Box18 w g s q o) (c : Only e w w') (d : g ≠ e) : Box18 w' g s q o := (c.block g (lt_of_heap h) d).trans h
theorem Box18.alloc (h : Box18 w g s q o) (b : Obj) : Box18 (w.alloc b) g s q o := heap_old _ h
theorem Box18.lt (h : Box18 w g s q o) : g < w.heap.size := lt_of_heap h
theorem box18_new (w : World) (e : w.heap.size = g) : Box18 (w.alloc (.cells #[.int .i64 s.k, .bool s.b, .int .i64 s.n, .string s.t, .string s.x, .slice s.p s.len s.cap, .int .i64 q.k, .bool q.b, .int .i64 q.n, .string q.t, .string q.x, .slice q.p q.len q.cap, .int .i64 o.k, .bool o.b, .int .i64 o.n, .string o.t, .string o.x, .slice o.p o.len o.cap] 41)) g s q o := heap_new _ _ e

theorem Box18.c0 (h : Box18 w g s q o) : w.cell? ⟨g, 0, none⟩ = some (.int .i64 s.k) := cell_of h _ rfl
theorem Box18.c1 (h : Box18 w g s q o) : w.cell? ⟨g, 1, none⟩ = some (.bool s.b) := cell_of h _ rfl
theorem Box18.c2 (h : Box18 w g s q o) : w.cell? ⟨g, 2, none⟩ = some (.int .i64 s.n) := cell_of h _ rfl
theorem Box18.c3 (h : Box18 w g s q o) : w.cell? ⟨g, 3, none⟩ = some (.string s.t) := cell_of h _ rfl
theorem Box18.c4 (h : Box18 w g s q o) : w.cell? ⟨g, 4, none⟩ = some (.string s.x) := cell_of h _ rfl
theorem Box18.c5 (h : Box18 w g s q o) : w.cell? ⟨g, 5, none⟩ = some (.slice s.p s.len s.cap) := cell_of h _ rfl
theorem Box18.r0 (h : Box18 w g s q o) : w.rangeAt g 0 [.int .i64 s.k, .bool s.b, .int .i64 s.n, .string s.t, .string s.x, .slice s.p s.len s.cap] := range6 h.c0 h.c1 h.c2 h.c3 h.c4 h.c5
theorem Box18.c6 (h : Box18 w g s q o) : w.cell? ⟨g, 6, none⟩ = some (.int .i64 q.k) := cell_of h _ rfl
theorem Box18.c7 (h : Box18 w g s q o) : w.cell? ⟨g, 7, none⟩ = some (.bool q.b) := cell_of h _ rfl
theorem Box18.c8 (h : Box18 w g s q o) : w.cell? ⟨g, 8, none⟩ = some (.int .i64 q.n) := cell_of h _ rfl
theorem Box18.c9 (h : Box18 w g s q o) : w.cell? ⟨g, 9, none⟩ = some (.string q.t) := cell_of h _ rfl
theorem Box18.c10 (h : Box18 w g s q o) : w.cell? ⟨g, 10, none⟩ = some (.string q.x) := cell_of h _ rfl
theorem Box18.c11 (h : Box18 w g s q o) : w.cell? ⟨g, 11, none⟩ = some (.slice q.p q.len q.cap) := cell_of h _ rfl
theorem Box18.r1 (h : Box18 w g s q o) : w.rangeAt g 6 [.int .i64 q.k, .bool q.b, .int .i64 q.n, .string q.t, .string q.x, .slice q.p q.len q.cap] := range6 h.c6 h.c7 h.c8 h.c9 h.c10 h.c11
theorem Box18.c12 (h : Box18 w g s q o) : w.cell? ⟨g, 12, none⟩ = some (.int .i64 o.k) := cell_of h _ rfl
theorem Box18.c13 (h : Box18 w g s q o) : w.cell? ⟨g, 13, none⟩ = some (.bool o.b) := cell_of h _ rfl
theorem Box18.c14 (h : Box18 w g s q o) : w.cell? ⟨g, 14, none⟩ = some (.int .i64 o.n) := cell_of h _ rfl
theorem Box18.c15 (h : Box18 w g s q o) : w.cell? ⟨g, 15, none⟩ = some (.string o.t) := cell_of h _ rfl
theorem Box18.c16 (h : Box18 w g s q o) : w.cell? ⟨g, 16, none⟩ = some (.string o.x) := cell_of h _ rfl
theorem Box18.c17 (h : Box18 w g s q o) : w.cell? ⟨g, 17, none⟩ = some (.slice o.p o.len o.cap) := cell_of h _ rfl
theorem Box18.r2 (h : Box18 w g s q o) : w.rangeAt g 12 [.int .i64 o.k, .bool o.b, .int .i64 o.n, .string o.t, .string o.x, .slice o.p o.len o.cap] := range6 h.c12 h.c13 h.c14 h.c15 h.c16 h.c17
end

/-- A value is read out of the middle of a block; behind a guard that is met. -/
theorem wpList_mid6 {ops : Array Oper} {rest : List Oper} {o : Oper} {a : Act} {w : World} {Q : Exit → Act → World → Prop} (y : Operand) (g off : Nat) (v : V6) (h6 : w.rangeAt g off [.int .i64 v.k, .bool v.b, .int .i64 v.n, .string v.t, .string v.x, .slice v.p v.len v.cap])
    (hgd : o.guard = none) (ho : o.op = .load 39 y) (hx : a.eval y = .pointer (some ⟨g, off, none⟩))
    (h : wpList Tryz.prog ops Q rest (a.put o.dst (.agg #[.int .i64 v.k, .bool v.b, .int .i64 v.n, .string v.t, .string v.x, .slice v.p v.len v.cap])) w) : wpList Tryz.prog ops Q (o :: rest) a w :=
  wpList_load_mid hgd 39 y ho g off hx [.int .i64 v.k, .bool v.b, .int .i64 v.n, .string v.t, .string v.x, .slice v.p v.len v.cap] _ h6 Tryz.underlying39 rfl info28 h
theorem wpList_mid6g {ops : Array Oper} {rest : List Oper} {o : Oper} {a : Act} {w : World} {Q : Exit → Act → World → Prop} (y : Operand) (g off : Nat) (v : V6) (h6 : w.rangeAt g off [.int .i64 v.k, .bool v.b, .int .i64 v.n, .string v.t, .string v.x, .slice v.p v.len v.cap])
    (hw : Region.wanted o (yielded ops a.tmps) = true) (ho : o.op = .load 39 y) (hx : a.eval y = .pointer (some ⟨g, off, none⟩))
    (h : wpList Tryz.prog ops Q rest (a.put o.dst (.agg #[.int .i64 v.k, .bool v.b, .int .i64 v.n, .string v.t, .string v.x, .slice v.p v.len v.cap])) w) : wpList Tryz.prog ops Q (o :: rest) a w := by
  unfold wpList
  rw [if_pos hw]
  refine .inl ?_
  unfold Oper.wp execOp
  simp only [ho, hx, Instr.loadAt, Instr.sureAddr, Sem.run_bind, Sem.run_pure, Result.andThen_ok, run_loadVar_mid (P := Tryz.prog) w g off 39 [.int .i64 v.k, .bool v.b, .int .i64 v.n, .string v.t, .string v.x, .slice v.p v.len v.cap] _ h6 Tryz.underlying39 rfl info28]
  exact h

/-- Whether a triple may be. -/
def chkP (s q o : V6) (us uq uo : Val) : Bool := subjP s.k && predP q.k && objP o.k && mayP us 0 && mayP uq 0 && mayP uo 0

set_option maxHeartbeats 3200000 in
set_option maxRecDepth 20000 in
theorem checkTri (s q o : V6) (us uq uo : Val) (ls lq lo : List Val) (W : World) (hG : Gd W) (hs : Is W s us ls) (hq : Is W q uq lq) (ho : Is W o uo lo) :
    Calls Tryz.prog 13 #[.agg #[.int .i64 s.k, .bool s.b, .int .i64 s.n, .string s.t, .string s.x, .slice s.p s.len s.cap, .int .i64 q.k, .bool q.b, .int .i64 q.n, .string q.t, .string q.x, .slice q.p q.len q.cap, .int .i64 o.k, .bool o.b, .int .i64 o.n, .string o.t, .string o.x, .slice o.p o.len o.cap]] W fun e w' => e = .returned (.bool (chkP s q o us uq uo)) ∧ Low W.heap.size W w' := by
  obtain ⟨W0, hW0⟩ : ∃ W0, W0 = W.alloc (.cells #[.int .i64 s.k, .bool s.b, .int .i64 s.n, .string s.t, .string s.x, .slice s.p s.len s.cap, .int .i64 q.k, .bool q.b, .int .i64 q.n, .string q.t, .string q.x, .slice q.p q.len q.cap, .int .i64 o.k, .bool o.b, .int .i64 o.n, .string o.t, .string o.x, .slice o.p o.len o.cap] 41) := ⟨_, rfl⟩
  have B : Box18 W0 W.heap.size s q o := by rw [hW0]; exact box18_new _ rfl
  have b0 : Low W.heap.size W W0 := by rw [hW0]; exact low1 _ _
  have hc1 := fun w => subjAt s.k s.b s.n s.t s.x s.p s.len s.cap w
  have hc2 := fun w => predAt q.k q.b q.n q.t q.x q.p q.len q.cap w
  have hc3 := fun w => objAt o.k o.b o.n o.t o.x o.p o.len o.cap w
  have hc4 := fun w (h : Low W.heap.size W w) => checkAtV us s.k s.b s.n s.t s.x ls _ w hs.e (hG.below h.is) hs.hf.ht hs.hf.hx (hs.below h.is).hl
  have hc5 := fun w (h : Low W.heap.size W w) => checkAtV uq q.k q.b q.n q.t q.x lq _ w hq.e (hG.below h.is) hq.hf.ht hq.hf.hx (hq.below h.is).hl
  have hc6 := fun w (h : Low W.heap.size W w) => checkAtV uo o.k o.b o.n o.t o.x lo _ w ho.e (hG.below h.is) ho.hf.ht ho.hf.hx (ho.below h.is).hl
  have HW := Lib.hid hW0
  clear hW0 hs hq ho hG
  unfold chkP
  generalize subjP s.k = r1 at hc1 ⊢
  generalize predP q.k = r2 at hc2 ⊢
  generalize objP o.k = r3 at hc3 ⊢
  generalize mayP us 0 = r4 at hc4 ⊢
  generalize mayP uq 0 = r5 at hc5 ⊢
  generalize mayP uo 0 = r6 at hc6 ⊢
  cases r1 with
  | false =>
    clear hc2
    clear hc3
    clear hc4
    clear hc5
    clear hc6
    rw [show (false && r2 && r3 && r4 && r5 && r6) = false by simp]
    go_enter Tryz.func13, Tryz.ntmps13
    go_wp2_with (first
      | (rw [← HW.out]; (with_reducible refine wpList_mid6 (.tmp 3) W.heap.size 0 s B.r0 ?_ ?_ ?_ ?_); rfl; rfl; rfl)
      | (go_at_call 45; (with_reducible refine (hc1 _).mono ?_); rintro e w3 ⟨rfl, hb3⟩; replace b0 := low_any b0 hb3 b0.size; replace B := B.below hb3.is; clear hb3))
    go_ret
    exact ⟨rfl, b0⟩
  | true =>
    cases r2 with
    | false =>
      clear hc3
      clear hc4
      clear hc5
      clear hc6
      rw [show (true && false && r3 && r4 && r5 && r6) = false by simp]
      go_enter Tryz.func13, Tryz.ntmps13
      go_wp2_with (first
        | (rw [← HW.out]; (with_reducible refine wpList_mid6 (.tmp 3) W.heap.size 0 s B.r0 ?_ ?_ ?_ ?_); rfl; rfl; rfl)
        | ((with_reducible refine wpList_mid6g (.tmp 7) W.heap.size 6 q B.r1 ?_ ?_ ?_ ?_); rfl; rfl; rfl)
        | (go_at_call 45; (with_reducible refine (hc1 _).mono ?_); rintro e w3 ⟨rfl, hb3⟩; replace b0 := low_any b0 hb3 b0.size; replace B := B.below hb3.is; clear hb3)
        | (go_at_call 46; (with_reducible refine (hc2 _).mono ?_); rintro e w3 ⟨rfl, hb3⟩; replace b0 := low_any b0 hb3 b0.size; replace B := B.below hb3.is; clear hb3))
      go_ret
      exact ⟨rfl, b0⟩
    | true =>
      cases r3 with
      | false =>
        clear hc4
        clear hc5
        clear hc6
        rw [show (true && true && false && r4 && r5 && r6) = false by simp]
        go_enter Tryz.func13, Tryz.ntmps13
        go_wp2_with (first
          | (rw [← HW.out]; (with_reducible refine wpList_mid6 (.tmp 3) W.heap.size 0 s B.r0 ?_ ?_ ?_ ?_); rfl; rfl; rfl)
          | ((with_reducible refine wpList_mid6g (.tmp 7) W.heap.size 6 q B.r1 ?_ ?_ ?_ ?_); rfl; rfl; rfl)
          | ((with_reducible refine wpList_mid6g (.tmp 12) W.heap.size 12 o B.r2 ?_ ?_ ?_ ?_); rfl; rfl; rfl)
          | (go_at_call 45; (with_reducible refine (hc1 _).mono ?_); rintro e w3 ⟨rfl, hb3⟩; replace b0 := low_any b0 hb3 b0.size; replace B := B.below hb3.is; clear hb3)
          | (go_at_call 46; (with_reducible refine (hc2 _).mono ?_); rintro e w3 ⟨rfl, hb3⟩; replace b0 := low_any b0 hb3 b0.size; replace B := B.below hb3.is; clear hb3)
          | (go_at_call 47; (with_reducible refine (hc3 _).mono ?_); rintro e w3 ⟨rfl, hb3⟩; replace b0 := low_any b0 hb3 b0.size; replace B := B.below hb3.is; clear hb3))
        go_ret
        exact ⟨rfl, b0⟩
      | true =>
        cases r4 with
        | false =>
          clear hc5
          clear hc6
          rw [show (true && true && true && false && r5 && r6) = false by simp]
          go_enter Tryz.func13, Tryz.ntmps13
          go_wp2_with (first
            | (rw [← HW.out]; (with_reducible refine wpList_mid6 (.tmp 3) W.heap.size 0 s B.r0 ?_ ?_ ?_ ?_); rfl; rfl; rfl)
            | ((with_reducible refine wpList_mid6g (.tmp 7) W.heap.size 6 q B.r1 ?_ ?_ ?_ ?_); rfl; rfl; rfl)
            | ((with_reducible refine wpList_mid6g (.tmp 12) W.heap.size 12 o B.r2 ?_ ?_ ?_ ?_); rfl; rfl; rfl)
            | ((with_reducible refine wpList_mid6g (.tmp 17) W.heap.size 0 s B.r0 ?_ ?_ ?_ ?_); rfl; rfl; rfl)
            | (go_at_call 45; (with_reducible refine (hc1 _).mono ?_); rintro e w3 ⟨rfl, hb3⟩; replace b0 := low_any b0 hb3 b0.size; replace B := B.below hb3.is; clear hb3)
            | (go_at_call 46; (with_reducible refine (hc2 _).mono ?_); rintro e w3 ⟨rfl, hb3⟩; replace b0 := low_any b0 hb3 b0.size; replace B := B.below hb3.is; clear hb3)
            | (go_at_call 47; (with_reducible refine (hc3 _).mono ?_); rintro e w3 ⟨rfl, hb3⟩; replace b0 := low_any b0 hb3 b0.size; replace B := B.below hb3.is; clear hb3)
            | (go_at_call 48; (with_reducible refine (hc4 _ b0).mono ?_); rintro e w3 ⟨rfl, hb3⟩; replace b0 := low_any b0 hb3 b0.size; replace B := B.below hb3.is; clear hb3))
          go_ret
          exact ⟨rfl, b0⟩
        | true =>
          cases r5 with
          | false =>
            clear hc6
            rw [show (true && true && true && true && false && r6) = false by simp]
            go_enter Tryz.func13, Tryz.ntmps13
            go_wp2_with (first
              | (rw [← HW.out]; (with_reducible refine wpList_mid6 (.tmp 3) W.heap.size 0 s B.r0 ?_ ?_ ?_ ?_); rfl; rfl; rfl)
              | ((with_reducible refine wpList_mid6g (.tmp 7) W.heap.size 6 q B.r1 ?_ ?_ ?_ ?_); rfl; rfl; rfl)
              | ((with_reducible refine wpList_mid6g (.tmp 12) W.heap.size 12 o B.r2 ?_ ?_ ?_ ?_); rfl; rfl; rfl)
              | ((with_reducible refine wpList_mid6g (.tmp 17) W.heap.size 0 s B.r0 ?_ ?_ ?_ ?_); rfl; rfl; rfl)
              | ((with_reducible refine wpList_mid6g (.tmp 22) W.heap.size 6 q B.r1 ?_ ?_ ?_ ?_); rfl; rfl; rfl)
              | (go_at_call 45; (with_reducible refine (hc1 _).mono ?_); rintro e w3 ⟨rfl, hb3⟩; replace b0 := low_any b0 hb3 b0.size; replace B := B.below hb3.is; clear hb3)
              | (go_at_call 46; (with_reducible refine (hc2 _).mono ?_); rintro e w3 ⟨rfl, hb3⟩; replace b0 := low_any b0 hb3 b0.size; replace B := B.below hb3.is; clear hb3)
              | (go_at_call 47; (with_reducible refine (hc3 _).mono ?_); rintro e w3 ⟨rfl, hb3⟩; replace b0 := low_any b0 hb3 b0.size; replace B := B.below hb3.is; clear hb3)
              | (go_at_call 48; (with_reducible refine (hc4 _ b0).mono ?_); rintro e w3 ⟨rfl, hb3⟩; replace b0 := low_any b0 hb3 b0.size; replace B := B.below hb3.is; clear hb3)
              | (go_at_call 48; (with_reducible refine (hc5 _ b0).mono ?_); rintro e w3 ⟨rfl, hb3⟩; replace b0 := low_any b0 hb3 b0.size; replace B := B.below hb3.is; clear hb3))
            go_ret
            exact ⟨rfl, b0⟩
          | true =>
            cases r6 with
            | false =>
              rw [show (true && true && true && true && true && false) = false by simp]
              go_enter Tryz.func13, Tryz.ntmps13
              go_wp2_with (first
                | (rw [← HW.out]; (with_reducible refine wpList_mid6 (.tmp 3) W.heap.size 0 s B.r0 ?_ ?_ ?_ ?_); rfl; rfl; rfl)
                | ((with_reducible refine wpList_mid6g (.tmp 7) W.heap.size 6 q B.r1 ?_ ?_ ?_ ?_); rfl; rfl; rfl)
                | ((with_reducible refine wpList_mid6g (.tmp 12) W.heap.size 12 o B.r2 ?_ ?_ ?_ ?_); rfl; rfl; rfl)
                | ((with_reducible refine wpList_mid6g (.tmp 17) W.heap.size 0 s B.r0 ?_ ?_ ?_ ?_); rfl; rfl; rfl)
                | ((with_reducible refine wpList_mid6g (.tmp 22) W.heap.size 6 q B.r1 ?_ ?_ ?_ ?_); rfl; rfl; rfl)
                | ((with_reducible refine wpList_mid6g (.tmp 27) W.heap.size 12 o B.r2 ?_ ?_ ?_ ?_); rfl; rfl; rfl)
                | (go_at_call 45; (with_reducible refine (hc1 _).mono ?_); rintro e w3 ⟨rfl, hb3⟩; replace b0 := low_any b0 hb3 b0.size; replace B := B.below hb3.is; clear hb3)
                | (go_at_call 46; (with_reducible refine (hc2 _).mono ?_); rintro e w3 ⟨rfl, hb3⟩; replace b0 := low_any b0 hb3 b0.size; replace B := B.below hb3.is; clear hb3)
                | (go_at_call 47; (with_reducible refine (hc3 _).mono ?_); rintro e w3 ⟨rfl, hb3⟩; replace b0 := low_any b0 hb3 b0.size; replace B := B.below hb3.is; clear hb3)
                | (go_at_call 48; (with_reducible refine (hc4 _ b0).mono ?_); rintro e w3 ⟨rfl, hb3⟩; replace b0 := low_any b0 hb3 b0.size; replace B := B.below hb3.is; clear hb3)
                | (go_at_call 48; (with_reducible refine (hc5 _ b0).mono ?_); rintro e w3 ⟨rfl, hb3⟩; replace b0 := low_any b0 hb3 b0.size; replace B := B.below hb3.is; clear hb3)
                | (go_at_call 48; (with_reducible refine (hc6 _ b0).mono ?_); rintro e w3 ⟨rfl, hb3⟩; replace b0 := low_any b0 hb3 b0.size; replace B := B.below hb3.is; clear hb3))
              go_ret
              exact ⟨rfl, b0⟩
            | true =>
              go_enter Tryz.func13, Tryz.ntmps13
              go_wp2_with (first
                | (rw [← HW.out]; (with_reducible refine wpList_mid6 (.tmp 3) W.heap.size 0 s B.r0 ?_ ?_ ?_ ?_); rfl; rfl; rfl)
                | ((with_reducible refine wpList_mid6g (.tmp 7) W.heap.size 6 q B.r1 ?_ ?_ ?_ ?_); rfl; rfl; rfl)
                | ((with_reducible refine wpList_mid6g (.tmp 12) W.heap.size 12 o B.r2 ?_ ?_ ?_ ?_); rfl; rfl; rfl)
                | ((with_reducible refine wpList_mid6g (.tmp 17) W.heap.size 0 s B.r0 ?_ ?_ ?_ ?_); rfl; rfl; rfl)
                | ((with_reducible refine wpList_mid6g (.tmp 22) W.heap.size 6 q B.r1 ?_ ?_ ?_ ?_); rfl; rfl; rfl)
                | ((with_reducible refine wpList_mid6g (.tmp 27) W.heap.size 12 o B.r2 ?_ ?_ ?_ ?_); rfl; rfl; rfl)
                | (go_at_call 45; (with_reducible refine (hc1 _).mono ?_); rintro e w3 ⟨rfl, hb3⟩; replace b0 := low_any b0 hb3 b0.size; replace B := B.below hb3.is; clear hb3)
                | (go_at_call 46; (with_reducible refine (hc2 _).mono ?_); rintro e w3 ⟨rfl, hb3⟩; replace b0 := low_any b0 hb3 b0.size; replace B := B.below hb3.is; clear hb3)
                | (go_at_call 47; (with_reducible refine (hc3 _).mono ?_); rintro e w3 ⟨rfl, hb3⟩; replace b0 := low_any b0 hb3 b0.size; replace B := B.below hb3.is; clear hb3)
                | (go_at_call 48; (with_reducible refine (hc4 _ b0).mono ?_); rintro e w3 ⟨rfl, hb3⟩; replace b0 := low_any b0 hb3 b0.size; replace B := B.below hb3.is; clear hb3)
                | (go_at_call 48; (with_reducible refine (hc5 _ b0).mono ?_); rintro e w3 ⟨rfl, hb3⟩; replace b0 := low_any b0 hb3 b0.size; replace B := B.below hb3.is; clear hb3)
                | (go_at_call 48; (with_reducible refine (hc6 _ b0).mono ?_); rintro e w3 ⟨rfl, hb3⟩; replace b0 := low_any b0 hb3 b0.size; replace B := B.below hb3.is; clear hb3))
              go_ret
              exact ⟨rfl, b0⟩

end Go.Proofs.YtanbgdhmfjgihaaGreatDoor

/- The document's own answer: signs, ranks, whether a value is a number, truths. -/
namespace Go.Proofs.YtanbgdhmfjgihaaGreatDoor
open Go.RowKit

theorem signAt (a b : Bool) (w : World) : Calls Tryz.prog 68 #[.bool a, .bool b] w fun e w' => e = .returned (.int .i64 (if a then -1 else if b then 1 else 0)) ∧ w' = w := by
  cases a <;> cases b
  all_goals
    go_enter Tryz.func68, Tryz.ntmps68
    go_wp2_with fail
    go_ret
    exact ⟨rfl, rfl⟩
set_option maxHeartbeats 1600000 in
theorem refRankAt (lang k : Int) (w : World) : Calls Tryz.prog 67 #[.int .i64 lang, .int .i64 k] w fun e w' => e = .returned (.int .i64 (rankI lang k)) ∧ w' = w := by
  by_cases h5 : k = 5
  · subst h5
    rw [show rankI lang 5 = 1 from rfl]
    go_enter Tryz.func67, Tryz.ntmps67
    go_wp2_with fail
    go_ret
    exact ⟨rfl, rfl⟩
  by_cases h6 : k = 6
  · subst h6
    rw [show rankI lang 6 = 2 from rfl]
    go_enter Tryz.func67, Tryz.ntmps67
    go_wp2_with fail
    go_ret
    exact ⟨rfl, rfl⟩
  by_cases h7 : k = 7
  · subst h7
    rw [show rankI lang 7 = 3 from rfl]
    go_enter Tryz.func67, Tryz.ntmps67
    go_wp2_with fail
    go_ret
    exact ⟨rfl, rfl⟩
  by_cases h9 : k = 9
  · subst h9
    rw [show rankI lang 9 = 4 from rfl]
    go_enter Tryz.func67, Tryz.ntmps67
    go_wp2_with fail
    go_ret
    exact ⟨rfl, rfl⟩
  by_cases h8 : k = 8
  · subst h8
    rw [show rankI lang 8 = 5 from rfl]
    go_enter Tryz.func67, Tryz.ntmps67
    go_wp2_with fail
    go_ret
    exact ⟨rfl, rfl⟩
  by_cases h10 : k = 10
  · subst h10
    rw [show rankI lang 10 = 6 from rfl]
    go_enter Tryz.func67, Tryz.ntmps67
    go_wp2_with fail
    go_ret
    exact ⟨rfl, rfl⟩
  by_cases h4 : k = 4
  · subst h4
    rw [show rankI lang 4 = 7 from rfl]
    go_enter Tryz.func67, Tryz.ntmps67
    go_wp2_with fail
    go_ret
    exact ⟨rfl, rfl⟩
  by_cases h1 : k = 1
  · subst h1
    rw [show rankI lang 1 = 8 from rfl]
    go_enter Tryz.func67, Tryz.ntmps67
    go_wp2_with fail
    go_ret
    exact ⟨rfl, rfl⟩
  by_cases h2 : k = 2
  · subst h2
    rw [show rankI lang 2 = 9 from rfl]
    go_enter Tryz.func67, Tryz.ntmps67
    go_wp2_with fail
    go_ret
    exact ⟨rfl, rfl⟩
  by_cases h3 : k = 3
  · subst h3
    rw [show rankI lang 3 = 9 from rfl]
    go_enter Tryz.func67, Tryz.ntmps67
    go_wp2_with fail
    go_ret
    exact ⟨rfl, rfl⟩
  by_cases h0 : k = 0
  · subst h0
    by_cases hl : lang = 1
    · subst hl
      rw [show rankI 1 0 = 0 from rfl]
      go_enter Tryz.func67, Tryz.ntmps67
      go_wp2_with fail
      go_ret
      exact ⟨rfl, rfl⟩
    · rw [show rankI lang 0 = 10 by unfold rankI; rw [if_pos rfl, if_neg hl]]
      have e1 : (lang == 1) = false := by simpa using hl
      go_enter Tryz.func67, Tryz.ntmps67
      go_wp2_with fail
      go_ret
      exact ⟨rfl, rfl⟩
  rw [show rankI lang k = 11 by unfold rankI; simp [h0, h1, h2, h3, h4, h5, h6, h7, h8, h9, h10]]
  have e0 : (k == 0) = false := by simpa using h0
  have e1 : (k == 1) = false := by simpa using h1
  have e2 : (k == 2) = false := by simpa using h2
  have e3 : (k == 3) = false := by simpa using h3
  have e4 : (k == 4) = false := by simpa using h4
  have e5 : (k == 5) = false := by simpa using h5
  have e6 : (k == 6) = false := by simpa using h6
  have e7 : (k == 7) = false := by simpa using h7
  have e8 : (k == 8) = false := by simpa using h8
  have e9 : (k == 9) = false := by simpa using h9
  have e10 : (k == 10) = false := by simpa using h10
  clear h0 h1 h2 h3 h4 h5 h6 h7 h8 h9 h10
  go_enter Tryz.func67, Tryz.ntmps67
  go_wp2_with fail
  go_ret
  exact ⟨rfl, rfl⟩
end Go.Proofs.YtanbgdhmfjgihaaGreatDoor

/- How two lists stand, by the document's own rows, given how their elements do. -/
namespace Go.Proofs.YtanbgdhmfjgihaaGreatDoor
open Go.RowKit

/-- The document's own Order's contract at a value. -/
def OrdRef (v : Val) : Prop := ∀ (lang : Int) (W : World) (k : Int) (b : Bool) (n : Int) (t x : ByteArray) (q : List Val) (p : Option Addr) (cap : Nat) (v2 : Val) (k2 : Int) (b2 : Bool) (n2 : Int) (t2 x2 : ByteArray) (q2 : List Val) (p2 : Option Addr) (cap2 : Nat),
  v = .mk k b n t x q → v2 = .mk k2 b2 n2 t2 x2 q2 → Fine n t x q.length → Fine n2 t2 x2 q2.length → Held W (.slice p q.length cap) q → Held W (.slice p2 q2.length cap2) q2 →
  Calls Tryz.prog 34 #[.int .i64 lang, .agg #[.int .i64 k, .bool b, .int .i64 n, .string t, .string x, .slice p q.length cap], .agg #[.int .i64 k2, .bool b2, .int .i64 n2, .string t2, .string x2, .slice p2 q2.length cap2]] W
    fun e w' => e = .returned (.int .i64 (orderI lang v v2)) ∧ Below W.heap.size W w'

set_option maxRecDepth 20000 in
set_option maxHeartbeats 6400000 in
theorem rowsAt (lang : Int) (l l2 : List Val) (p p2 : Option Addr) (cap cap2 : Nat) (w : World) (hl : Held w (.slice p l.length cap) l) (hl2 : Held w (.slice p2 l2.length cap2) l2) (hn : l.length ≤ 2097152) (hn2 : l2.length ≤ 2097152) (each : ∀ v ∈ l, OrdRef v) :
    Calls Tryz.prog 71 #[.int .i64 lang, .slice p l.length cap, .slice p2 l2.length cap2] w fun e w' => e = .returned (.int .i64 (listI lang l l2)) ∧ Below w.heap.size w w' := by
  obtain ⟨z, hz⟩ : ∃ z, z = listI lang l l2 := ⟨_, rfl⟩
  rw [← hz]
  have HZ := Lib.hid hz
  have HL := Lib.hid hl
  have HL2 := Lib.hid hl2
  have HE := Lib.hid each
  clear hl hl2 each hz
  go_enter Tryz.func71, Tryz.ntmps71
  go_wp2_with fail
  go_loopw [7] (fun i wr => ∃ j : Nat, j ≤ l.length ∧ j ≤ l2.length ∧ i = .int .i64 j ∧ Below w.heap.size w wr ∧ Hid (z = listI lang (l.drop j) (l2.drop j))) (fun i _ => l.length - (intOf i).toNat)
  case atStart => exact ⟨0, Nat.zero_le _, Nat.zero_le _, rfl, Below.refl _ _, Lib.hid (by rw [List.drop_zero, List.drop_zero]; exact HZ.out)⟩
  case round =>
    obtain ⟨j, hj, hj2, rfl, hb, HA⟩ := hrel
    by_cases hlt : j < l.length
    · by_cases hlt2 : j < l2.length
      · obtain ⟨g, off, rfl, hh⟩ : ∃ g off, p = some ⟨g, off, none⟩ ∧ Holds w g off l := by
          have hq := HL.out
          cases l with
          | nil => simp at hlt
          | cons v r => exact hq.form
        obtain ⟨g2, off2, rfl, hh2⟩ : ∃ g2 off2, p2 = some ⟨g2, off2, none⟩ ∧ Holds w g2 off2 l2 := by
          have hq := HL2.out
          cases l2 with
          | nil => simp at hlt2
          | cons v r => exact hq.form
        obtain ⟨k, b, n, t, x, q, p, cp, o1⟩ := (Holds.at_ l off hh j hlt).opens
        obtain ⟨k2, b2, n2, t2, x2, q2, p2, cp2, o2⟩ := (Holds.at_ l2 off2 hh2 j hlt2).opens
        have hc := fun W (hb : Below w.heap.size w W) => HE.out l[j] (List.getElem_mem hlt) lang W k b n t x q p cp l2[j] k2 b2 n2 t2 x2 q2 p2 cp2 o1.e o2.e o1.hf o2.hf (Held.below q o1.hl hb) (Held.below q2 o2.hl hb)
        obtain ⟨r, hr⟩ : ∃ r, r = orderI lang l[j] l2[j] := ⟨_, rfl⟩
        rw [← hr] at hc
        have hA := HA.out
        rw [listI_drop lang l l2 j hlt hlt2, ← hr] at hA
        have R1 : ∀ w', Below w.heap.size w w' → w'.rangeAt g (off + j * 6) [.int .i64 k, .bool b, .int .i64 n, .string t, .string x, .slice p q.length cp] := fun w' h => (o1.below h).range
        have R2 : ∀ w', Below w.heap.size w w' → w'.rangeAt g2 (off2 + j * 6) [.int .i64 k2, .bool b2, .int .i64 n2, .string t2, .string x2, .slice p2 q2.length cp2] := fun w' h => (o2.below h).range
        have HC := Lib.hid hc
        have HA2 := Lib.hid hA
        have HR1 := Lib.hid R1
        have HR2 := Lib.hid R2
        clear o1 o2 hr hc R1 R2 hh hh2 hA HA
        have hlti : (j : Int) < l.length := by omega
        have hlti2 : (j : Int) < l2.length := by omega
        go_wp2_with fail
        refine wp_region_held_drew (S := fun w' => Below w.heap.size w w') (by kernel_rfl) hb.drew (fun hHeld => ?_)
        refine wpAnyH_take (i := 0) (v := .int .i64 lang) rfl (by kernel_rfl) (by kernel_rfl) (by kernel_rfl) (fun _ _ _ h => h) (Or.inl ⟨by rfl, fun W _ => by go_simp⟩) hHeld ?_
        try simp only [Act.put, List.getElem_toArray, List.getElem_cons_zero, List.setIfInBounds_toArray, List.set_cons_zero, List.set_cons_succ]
        refine wpAnyH_take (i := 1) (v := .slice (some ⟨g, off, none⟩) l.length cap) rfl (by kernel_rfl) (by kernel_rfl) (by kernel_rfl) (fun _ _ _ h => h) (Or.inl ⟨by rfl, fun W _ => by go_simp⟩) hHeld ?_
        try simp only [Act.put, List.getElem_toArray, List.getElem_cons_succ, List.getElem_cons_zero, List.setIfInBounds_toArray, List.set_cons_zero, List.set_cons_succ]
        refine wpAnyH_take (i := 2) (v := .int .i64 j) rfl (by kernel_rfl) (by kernel_rfl) (by kernel_rfl) (fun _ _ _ h => h) (Or.inl ⟨by rfl, fun W _ => by go_simp⟩) hHeld ?_
        try simp only [Act.put, List.getElem_toArray, List.getElem_cons_succ, List.getElem_cons_zero, List.setIfInBounds_toArray, List.set_cons_zero, List.set_cons_succ]
        refine wpAnyH_take (i := 3) (v := .pointer (some ⟨g, off + j * 6, none⟩)) rfl (by kernel_rfl) (by kernel_rfl) (by kernel_rfl) (fun _ _ _ h => h) (Or.inl ⟨by rfl, fun W _ => by go_simp⟩) hHeld ?_
        try simp only [Act.put, List.getElem_toArray, List.getElem_cons_succ, List.getElem_cons_zero, List.setIfInBounds_toArray, List.set_cons_zero, List.set_cons_succ]
        refine wpAnyH_take (i := 4) rfl (by kernel_rfl) (by kernel_rfl) (by kernel_rfl) (fun _ _ _ h => h) (yieldsIf_load_mid (by rfl) 39 (.tmp 24) rfl g (off + j * 6) rfl _ _ (fun w h => HR1.out w h) Tryz.underlying39 rfl info28) hHeld ?_
        try simp only [Act.put, List.getElem_toArray, List.getElem_cons_succ, List.getElem_cons_zero, List.setIfInBounds_toArray, List.set_cons_zero, List.set_cons_succ]
        refine wpAnyH_take (i := 5) (v := .slice (some ⟨g2, off2, none⟩) l2.length cap2) rfl (by kernel_rfl) (by kernel_rfl) (by kernel_rfl) (fun _ _ _ h => h) (Or.inl ⟨by rfl, fun W _ => by go_simp⟩) hHeld ?_
        try simp only [Act.put, List.getElem_toArray, List.getElem_cons_succ, List.getElem_cons_zero, List.setIfInBounds_toArray, List.set_cons_zero, List.set_cons_succ]
        refine wpAnyH_take (i := 6) (v := .int .i64 j) rfl (by kernel_rfl) (by kernel_rfl) (by kernel_rfl) (fun _ _ _ h => h) (Or.inl ⟨by rfl, fun W _ => by go_simp⟩) hHeld ?_
        try simp only [Act.put, List.getElem_toArray, List.getElem_cons_succ, List.getElem_cons_zero, List.setIfInBounds_toArray, List.set_cons_zero, List.set_cons_succ]
        refine wpAnyH_take (i := 7) (v := .pointer (some ⟨g2, off2 + j * 6, none⟩)) rfl (by kernel_rfl) (by kernel_rfl) (by kernel_rfl) (fun _ _ _ h => h) (Or.inl ⟨by rfl, fun W _ => by go_simp⟩) hHeld ?_
        try simp only [Act.put, List.getElem_toArray, List.getElem_cons_succ, List.getElem_cons_zero, List.setIfInBounds_toArray, List.set_cons_zero, List.set_cons_succ]
        refine wpAnyH_take (i := 8) rfl (by kernel_rfl) (by kernel_rfl) (by kernel_rfl) (fun _ _ _ h => h) (yieldsIf_load_mid (by rfl) 39 (.tmp 28) rfl g2 (off2 + j * 6) rfl _ _ (fun w h => HR2.out w h) Tryz.underlying39 rfl info28) hHeld ?_
        try simp only [Act.put, List.getElem_toArray, List.getElem_cons_succ, List.getElem_cons_zero, List.setIfInBounds_toArray, List.set_cons_zero, List.set_cons_succ]
        refine wpAnyH_ready (rs := [9]) (by kernel_rfl) (by simp) ?_
        refine AllReadyH.cons rfl (fun K hK => ?_) AllReadyH.nil
        rw [if_pos (by rfl)]
        go_simp
        refine (HC.out _ hHeld).mono ?_
        rintro e w3 ⟨rfl, hb3⟩
        refine hK.out _ _ (below_any hHeld hb3 hHeld.size) (fun hHeld2 => ?_)
        clear hK K hb3 hHeld
        try simp only [Act.put, List.getElem_toArray, List.getElem_cons_succ, List.getElem_cons_zero, List.setIfInBounds_toArray, List.set_cons_zero, List.set_cons_succ]
        refine wpAnyH_take (i := 10) (v := .int .i64 r) rfl (by kernel_rfl) (by kernel_rfl) (by kernel_rfl) (fun _ _ _ h => h) (Or.inl ⟨by rfl, fun W _ => by go_simp⟩) hHeld2 ?_
        try simp only [Act.put, List.getElem_toArray, List.getElem_cons_succ, List.getElem_cons_zero, List.setIfInBounds_toArray, List.set_cons_zero, List.set_cons_succ]
        refine wpAnyH_done (by kernel_rfl) ?_ _
        by_cases hr0 : r = 0
        · have e2 : (r != 0) = false := by simp [hr0]
          have HA3 := Lib.hid (show z = listI lang (l.drop (j + 1)) (l2.drop (j + 1)) by rw [HA2.out, hr0, lexI_zero])
          clear HA2
          go_wp2_with fail
          go_roundw
          case rel => exact ⟨j + 1, by omega, by omega, by go_num, hHeld2, HA3⟩
          case measure => simp [intOf]; omega
        · have e2 : (r != 0) = true := by simpa using hr0
          have HA3 := Lib.hid (show z = r by rw [HA2.out]; exact if_neg hr0)
          clear HA2
          go_wp2_with fail
          go_ret
          exact ⟨by rw [HA3.out]; rfl, hHeld2⟩
      · obtain rfl : j = l2.length := by omega
        have HA3 := Lib.hid (show z = 1 by rw [HA.out]; exact listI_long lang l l2 _ hlt (Nat.le_refl _))
        clear HA
        go_wp2_with (go_at_call 68; (with_reducible refine (signAt _ _ _).mono ?_); rintro e w' ⟨rfl, rfl⟩)
        go_ret
        exact ⟨by rw [HA3.out]; simp, hb⟩
    · obtain rfl : j = l.length := by omega
      by_cases hs : l.length < l2.length
      · have HA3 := Lib.hid (show z = -1 by rw [HA.out]; exact listI_short lang l l2 hs)
        clear HA
        go_wp2_with (go_at_call 68; (with_reducible refine (signAt _ _ _).mono ?_); rintro e w' ⟨rfl, rfl⟩)
        go_ret
        exact ⟨by rw [HA3.out]; simp, hb⟩
      · have HA3 := Lib.hid (show z = 0 by rw [HA.out]; exact listI_end lang l l2 (by omega))
        clear HA
        go_wp2_with (go_at_call 68; (with_reducible refine (signAt _ _ _).mono ?_); rintro e w' ⟨rfl, rfl⟩)
        go_ret
        exact ⟨by rw [HA3.out]; simp, hb⟩
end Go.Proofs.YtanbgdhmfjgihaaGreatDoor

/- Both texts as numbers of the document's, and whether they are decimals. -/
namespace Go.Proofs.YtanbgdhmfjgihaaGreatDoor
open Go.RowKit

theorem yieldsIf_load44 {ops : Array Oper} {S : World → Prop} {op : Oper} {a : Act} (hw : Region.wanted op (yielded ops a.tmps) = true) (x : Operand) (ho : op.op = .load 131 x)
    (g : Nat) (hx : a.eval x = .pointer (some ⟨g, 0, none⟩)) (n : Bool) (v : Value) (sc : Int) (hS : ∀ w, S w → Rec w g n v sc) : YieldsIf Tryz.prog ops S op (.agg #[.bool n, v, .int .i64 sc]) a :=
  .inl ⟨hw, fun w hw' => by
    unfold execOp
    simp only [ho, hx, Instr.loadAt, Instr.sureAddr, Sem.run_bind, Sem.run_pure, Result.andThen_ok, run_loadVar_row (P := Tryz.prog) w g 131 131 _ (0, 0) _ (hS w hw') Tryz.underlying131 rfl (by exact info44)]⟩
theorem wp_store44 {op : Oper} {a : Act} {w : World} {K : Act → World → Prop} {Q : Exit → Act → World → Prop} {n m : Bool} {v u : Value} {sc sd : Int} (x y : Operand) (ho : op.op = .store 131 x y) (g : Nat)
    (hx : a.eval x = .pointer (some ⟨g, 0, none⟩)) (hy : a.eval y = .agg #[.bool m, u, .int .i64 sd]) (hg : Rec w g n v sc) (h1 : u.oneCell' = true) (h : ∀ w', Only g w w' → Rec w' g m u sd → K (a.put op.dst undef) w') : op.wp Tryz.prog a w K Q := by
  unfold Oper.wp execOp
  simp only [ho, hx, hy, Instr.storeAt, Instr.sureAddr, Sem.run_bind, Sem.run_pure, Result.andThen_ok, run_storeVar_row (P := Tryz.prog) w g 131 131 _ #[.bool m, u, .int .i64 sd] hg (by exact info44) rfl (by simp [h1]; exact ⟨rfl, rfl⟩)]
  exact h _ (Only.setRow w _) (heap_setRow hg)
theorem Ints.rec {w w' : World} {v z : Value} {ds : List Nat} {g : Nat} {n : Bool} {k : Int} (h : Ints w v ds) (ho : Only g w w') (hg : Rec w g n z k) : Ints w' v ds := h.only ho hg (by decide)
theorem rec_new (W : World) {g : Nat} (e : W.heap.size = g) : Rec (W.alloc (.cells #[.bool false, .slice none 0 0, .int .i64 0] 131)) g false (.slice none 0 0) 0 := heap_new _ _ e

/-- What is known within the last statement of 'two'. -/
structure TwoS (w : World) (g7 g9 : Nat) (N1 : Bool) (u : Value) (s1 : Int) (d1 : List Nat) (N2 : Bool) (v : Value) (s2 : Int) (d2 : List Nat) (w' : World) : Prop where
  r7 : Rec w' g7 N1 u s1
  r9 : Rec w' g9 N2 v s2
  r4 : ∃ n z k, Rec w' w.heap.size n z k
  r5 : ∃ n z k, Rec w' (w.heap.size + 1) n z k
  i1 : Ints w' u d1
  i2 : Ints w' v d2
  bel : Below w.heap.size w w'
  n7 : w.heap.size + 2 ≤ g7
  n9 : w.heap.size + 2 ≤ g9
theorem TwoS.below {w w' w2 : World} {g7 g9 : Nat} {N1 N2 : Bool} {u v : Value} {s1 s2 : Int} {d1 d2 : List Nat} (h : TwoS w g7 g9 N1 u s1 d1 N2 v s2 d2 w') (k : Below w'.heap.size w' w2) : TwoS w g7 g9 N1 u s1 d1 N2 v s2 d2 w2 := by
  obtain ⟨n4, z4, k4, r4⟩ := h.r4
  obtain ⟨n5, z5, k5, r5⟩ := h.r5
  exact ⟨h.r7.below k, h.r9.below k, ⟨_, _, _, r4.below k⟩, ⟨_, _, _, r5.below k⟩, h.i1.below k, h.i2.below k, below_any h.bel k (Nat.le_of_lt r4.lt), h.n7, h.n9⟩
theorem TwoS.set4 {w w' w2 : World} {g7 g9 : Nat} {N1 N2 n : Bool} {u v z : Value} {s1 s2 k : Int} {d1 d2 : List Nat} (h : TwoS w g7 g9 N1 u s1 d1 N2 v s2 d2 w') (ho : Only w.heap.size w' w2) (hr : Rec w2 w.heap.size n z k) : TwoS w g7 g9 N1 u s1 d1 N2 v s2 d2 w2 := by
  obtain ⟨n4, z4, k4, r4⟩ := h.r4
  obtain ⟨n5, z5, k5, r5⟩ := h.r5
  have a := h.n7
  have b := h.n9
  exact ⟨h.r7.only ho (by omega), h.r9.only ho (by omega), ⟨_, _, _, hr⟩, ⟨_, _, _, r5.only ho (by omega)⟩, h.i1.rec ho r4, h.i2.rec ho r4, below_only h.bel ho (Nat.le_refl _) (Nat.le_of_lt r4.lt), h.n7, h.n9⟩
theorem TwoS.set5 {w w' w2 : World} {g7 g9 : Nat} {N1 N2 n : Bool} {u v z : Value} {s1 s2 k : Int} {d1 d2 : List Nat} (h : TwoS w g7 g9 N1 u s1 d1 N2 v s2 d2 w') (ho : Only (w.heap.size + 1) w' w2) (hr : Rec w2 (w.heap.size + 1) n z k) : TwoS w g7 g9 N1 u s1 d1 N2 v s2 d2 w2 := by
  obtain ⟨n4, z4, k4, r4⟩ := h.r4
  obtain ⟨n5, z5, k5, r5⟩ := h.r5
  have a := h.n7
  have b := h.n9
  exact ⟨h.r7.only ho (by omega), h.r9.only ho (by omega), ⟨_, _, _, r4.only ho (by omega)⟩, ⟨_, _, _, hr⟩, h.i1.rec ho r5, h.i2.rec ho r5, below_only h.bel ho (by omega) (Nat.le_of_lt r4.lt), h.n7, h.n9⟩
/-- The result of 'two'. -/
theorem results442 {fn : Func} {p p2 q : Tmp} (h : fn.results = #[.cell p 131, .cell p2 131, .tmp q]) (tmps : Array Value) {w : World} {g g2 : Nat} {n n2 : Bool} {v v2 : Value} {sc sc2 : Int} (x : Value)
    (hp : tmps.getD p undef = .pointer (some ⟨g, 0, none⟩)) (hp2 : tmps.getD p2 undef = .pointer (some ⟨g2, 0, none⟩)) (hq : tmps.getD q undef = x) (hg : Rec w g n v sc) (hg2 : Rec w g2 n2 v2 sc2) : (results fn tmps).run Tryz.prog w = .ok (.tuple #[.agg #[.bool n, v, .int .i64 sc], .agg #[.bool n2, v2, .int .i64 sc2], x]) w := by
  have hp' : tmps[p]?.getD undef = .pointer (some ⟨g, 0, none⟩) := by simpa using hp
  have hp2' : tmps[p2]?.getD undef = .pointer (some ⟨g2, 0, none⟩) := by simpa using hp2
  have hq' : tmps[q]?.getD undef = x := by simpa using hq
  have hl := run_loadVar_row (P := Tryz.prog) w g 131 131 _ (0, 0) _ hg Tryz.underlying131 rfl (by exact info44)
  have hl2 := run_loadVar_row (P := Tryz.prog) w g2 131 131 _ (0, 0) _ hg2 Tryz.underlying131 rfl (by exact info44)
  simp [results, h, hp', hp2', hq', asAddr, hl, hl2]
def ParsedAs (s : ByteArray) (N : Bool) (sc : Int) (ds : List Nat) (o : Bool) : Prop :=
  ∀ W, Calls Tryz.prog 120 #[.string s] W fun e w' => ∃ u, e = .returned (.tuple #[.agg #[.bool N, u, .int .i64 sc], .bool o]) ∧ Ints w' u ds ∧ Below W.heap.size W w'
theorem ParsedAs.at {s : ByteArray} {N : Bool} {sc : Int} {ds : List Nat} {o : Bool} (h : ParsedAs s N sc ds o) (W : World) : Calls Tryz.prog 120 #[.string s] W fun e w' => ∃ u, e = .returned (.tuple #[.agg #[.bool N, u, .int .i64 sc], .bool o]) ∧ Ints w' u ds ∧ Below W.heap.size W w' := h W
def CheckedAs (s : ByteArray) (c : Bool) : Prop := ∀ W, Calls Tryz.prog 99 #[.string s] W fun e w' => e = .returned (.bool c) ∧ Below W.heap.size W w'
theorem CheckedAs.at {s : ByteArray} {c : Bool} (h : CheckedAs s c) (W : World) : Calls Tryz.prog 99 #[.string s] W fun e w' => e = .returned (.bool c) ∧ Below W.heap.size W w' := h W
end Go.Proofs.YtanbgdhmfjgihaaGreatDoor

/- Sums, products and quotients of digits, as numbers. No Go stands here. -/
namespace Go.Proofs.YtanbgdhmfjgihaaGreatDoor

theorem sv_mul (n : Bool) (x k : Nat) : sv n (x * k) = sv n x * (k : Int) := by
  unfold sv; cases n
  · simp
  · simp [Int.neg_mul]
theorem sv_zero (n : Bool) : sv n 0 = 0 := by cases n <;> rfl
theorem sv_not (n : Bool) (x : Nat) : sv (!n) x = -sv n x := by cases n <;> simp [sv]

/-- A round of the inner loop of a product: digit x of the one number at place i times the digits of the other. -/
structure Row (i x : Nat) (bs' : List Nat) (D0 : Nat) (len : Nat) (ds : List Nat) (k c : Nat) : Prop where
  small : Small ds
  len : ds.length = len
  car : c ≤ 9
  val : val10 ds + c * 10 ^ (i + k) = D0 + x * vT k (dig bs') * 10 ^ i
end Go.Proofs.YtanbgdhmfjgihaaGreatDoor

/- The document's reckoning with digits is reckoning with numbers scaled by 10 ^ 54. No Go stands here. -/
namespace Go.Proofs.YtanbgdhmfjgihaaGreatDoor

theorem pow_cut {s t : Nat} (h : s ≤ t) (h2 : t ≤ 54) : 10 ^ (t - s) * 10 ^ (54 - t) = 10 ^ (54 - s) := by
  rw [← Nat.pow_add]; congr 1; omega
theorem nval_plus {na nb nz : Bool} {da db dz : List Nat} {sa sb s : Nat} (h1 : sa ≤ s) (h2 : sb ≤ s) (h54 : s ≤ 54)
    (h : sv nz (val10 dz) = sv na (val10 da * 10 ^ (s - sa)) + sv nb (val10 db * 10 ^ (s - sb))) : nval nz dz s = nval na da sa + nval nb db sb := by
  unfold nval
  rw [sv_mul, h, Int.add_mul, ← sv_mul, ← sv_mul, Nat.mul_assoc, Nat.mul_assoc, pow_cut h1 h54, pow_cut h2 h54]

/-- What a decimal is to the document: its sign, its digits, how many of them are behind the point. -/
structure Dec (l : List UInt8) (n : Bool) (ds : List Nat) (sc : Nat) : Prop where
  sign : n = dsign l
  small : Small ds
  amt : val10 ds * 10 ^ (54 - sc) = damt l
  sc : sc ≤ 20
  len : ds.length ≤ 60
theorem Dec.val {l : List UInt8} {n : Bool} {ds : List Nat} {sc : Nat} (h : Dec l n ds sc) : nval n ds sc = dval l := by
  unfold nval dval; rw [h.amt, h.sign]
theorem split_chk {l : List UInt8} (h : chk l = true) : okP (sgn l).2 = true ∧ Dec l (sgn l).1 (revD ((Lib.cut (sgn l).2 [46]).1 ++ (Lib.cut (sgn l).2 [46]).2.1)) (Lib.cut (sgn l).2 [46]).2.1.length := by
  obtain ⟨_, _, _, _, a, b, hsp, ha, hb, la, lb, e⟩ := chk_dec l h
  rw [splitP_ok] at hsp
  by_cases hk : okP (sgn l).2 = true
  · rw [if_pos hk] at hsp
    have e0 := Option.some.inj hsp
    have e1 : (sgn l).1 = dsign l := congrArg (·.1) e0
    have e2 : (Lib.cut (sgn l).2 [46]).1 = a := congrArg (·.2.1) e0
    have e3 : (Lib.cut (sgn l).2 [46]).2.1 = b := congrArg (·.2.2) e0
    refine ⟨hk, e1, ?_, ?_, ?_, ?_⟩
    · rw [e2, e3]; exact small_rev _ (by rw [List.all_append, ha, hb]; rfl)
    · rw [e2, e3, e, num54_rev a b (by omega)]
    · rw [e3]; exact lb
    · rw [e2, e3, revD_len, List.length_append]; omega
  · rw [if_neg hk] at hsp; cases hsp

end Go.Proofs.YtanbgdhmfjgihaaGreatDoor
