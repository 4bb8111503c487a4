/- Texts of one kind, one behind the other: each says ahead of itself what it shows. -/
import Derived.Test.YtanbgdhmfjgihaaGreatDoorJat
/- What lies below a cursor; Next, Seek, Open, Key. -/
namespace Go.Proofs.YtanbgdhmfjgihaaGreatDoor
open Go.RowKit

theorem wpList_storeSpan {ops : Array Oper} {rest : List Oper} {o : Oper} {a : Act} {w : World} {Q : Exit → Act → World → Prop} {p q : Value} (u v : Int) (y z : Operand) (g : Nat) (hg : w.heap[g]? = some (.cells #[p, q] 90))
    (hgd : o.guard = none) (ho : o.op = .store 90 y z) (hx : a.eval y = .pointer (some ⟨g, 0, none⟩)) (hy : a.eval z = .agg #[.int .i64 u, .int .i64 v])
    (h : wpList Tryz.prog ops Q rest (a.put o.dst undef) (w.setRow g #[.int .i64 u, .int .i64 v])) : wpList Tryz.prog ops Q (o :: rest) a w :=
  wpList_store_row hgd 90 y z ho g #[.int .i64 u, .int .i64 v] hx hy 90 _ hg info90 rfl (by simp [Value.oneCell']) h
/-- Gallop, from any place. -/
theorem gallopAt (g : Nat) (b0 : Value) (eg : ∀ args w, (callFunc g args).run Tryz.prog w = .ok (.enter g args) w) (a e : Nat) (p : Nat → Bool) (w : World) (he : e < 1099511627776)
    (mono : ∀ i j, a ≤ i → i ≤ j → j < e → p j = true → p i = true)
    (hf : ∀ W, Low w.heap.size w W → ∀ j : Nat, a ≤ j → j < e → Calls Tryz.prog g #[b0, .int .i64 j] W fun x w' => x = .returned (.bool (p j)) ∧ Low W.heap.size W w') :
    Calls Tryz.prog 91 #[.agg #[.int .i64 a, .int .i64 e], .func (.func g) #[b0] #[]] w fun x w' => x = .returned (.int .i64 (gal p a (e - a) : Nat)) ∧ Low w.heap.size w w' := by
  by_cases h : a < e
  · cases hp : p a with
    | true => exact gallopSome g b0 eg a e p w h hp he mono hf
    | false =>
      have hz : gal p a (e - a) = a := by
        rw [show e - a = (e - a - 1) + 1 by omega, gal, if_neg (by rw [hp]; exact Bool.false_ne_true)]
      rw [hz]
      exact gallopStop g b0 eg a e w h fun W b => by have := hf W b a (Nat.le_refl _) h; rwa [hp] at this
  · rw [show e - a = 0 by omega, gal]
    exact gallopNone g b0 a e w (by omega)
theorem eg59 : ∀ args w, (callFunc 59 args).run Tryz.prog w = .ok (.enter 59 args) w := enters_of Tryz.func59 (by kernel_rfl) rfl
set_option maxHeartbeats 3200000 in
set_option maxRecDepth 20000 in
theorem belowRaw (g a e r d : Nat) (w : World) (hd : 1 ≤ d) (hd3 : d ≤ 3) (k11 : w.cell? ⟨g, 11, none⟩ = some (.int .i64 d))
    (h65 : ∀ W, Low w.heap.size w W → Calls Tryz.prog 65 #[.pointer (some ⟨g, 0, none⟩)] W fun e' w' => e' = .returned (.agg #[.int .i64 a, .int .i64 e]) ∧ Low W.heap.size W w')
    (h91 : ∀ W, Low w.heap.size w W → Calls Tryz.prog 91 #[.agg #[.int .i64 a, .int .i64 e], .func (.func 59) #[.pointer (some ⟨g, 0, none⟩)] #[]] W fun e' w' => e' = .returned (.int .i64 r) ∧ Low W.heap.size W w') :
    Calls Tryz.prog 55 #[.pointer (some ⟨g, 0, none⟩)] w fun e' w' => e' = .returned (.agg #[.int .i64 a, .int .i64 r]) ∧ Low w.heap.size w w' := by
  obtain ⟨W1, hW1⟩ : ∃ W1, W1 = w.alloc (.cells #[.int .i64 0, .int .i64 0] 90) := ⟨_, rfl⟩
  have BR : W1.heap[w.heap.size]? = some (.cells #[.int .i64 0, .int .i64 0] 90) := by rw [hW1]; exact heap_new _ _ rfl
  have b0 : Low w.heap.size w W1 := by rw [hW1]; exact low1 _ _
  have c11 : W1.cell? ⟨g, 11, none⟩ = some (.int .i64 d) := (b0.cell (p := ⟨g, 11, none⟩) (World.block_lt_of_cell? w _ k11)).trans k11
  have e1 : ((d : Int) == 0) = false := by simp; omega
  have H65 := Lib.hid h65
  have HG := Lib.hid h91
  have HW := Lib.hid hW1
  clear hW1 h65 h91
  go_enter Tryz.func55, Tryz.ntmps55
  go_upto_region 4 with (first
    | (go_at_call 65; (with_reducible refine (H65.out _ b0).mono ?_); rintro e0 w3 ⟨rfl, hb3⟩; replace b0 := low_any b0 hb3 b0.size; replace BR := (hb3.block _ (lt_of_heap BR)).trans BR; clear hb3 c11)
    | (rw [← HW.out]))
  have hne : w3.heap.size ≠ w.heap.size := by have := lt_of_heap BR; omega
  generalize hw4 : w3.alloc (Obj.cells #[Value.int IntKind.i64 a, Value.int IntKind.i64 e] 90) = w4
  have KB : w4.heap[w3.heap.size]? = some (.cells #[.int .i64 a, .int .i64 e] 90) := by rw [← hw4]; exact heap_new _ _ rfl
  replace b0 : Low w.heap.size w w4 := by rw [← hw4]; exact b0.alloc b0.size _
  replace BR : w4.heap[w.heap.size]? = some (.cells #[.int .i64 0, .int .i64 0] 90) := by rw [← hw4]; exact heap_old _ BR
  generalize w3.heap.size = b3 at *
  clear hw4
  refine wp_region_held_drew (S := fun W => W.heap[b3]? = some (.cells #[.int .i64 a, .int .i64 e] 90)) (by kernel_rfl) KB (fun hHeld => ?_)
  refine wpAnyH_take (i := 0) (v := .pointer (some ⟨b3, 0, none⟩)) rfl (by kernel_rfl) (by kernel_rfl) (by kernel_rfl) (fun _ _ _ h => h) (Or.inl ⟨by rfl, fun W _ => by go_simp⟩) hHeld ?_
  try simp only [Act.put, List.getElem_toArray, List.getElem_cons_zero, List.setIfInBounds_toArray, List.set_cons_zero, List.set_cons_succ]
  refine wpAnyH_take (i := 1) (v := .int .i64 a) rfl (by kernel_rfl) (by kernel_rfl) (by kernel_rfl) (fun _ _ _ h => h) (Or.inl ⟨by rfl, fun W h => by have c0 := cell_of h 0 rfl; go_simp⟩) hHeld ?_
  try simp only [Act.put, List.getElem_toArray, List.getElem_cons_succ, List.getElem_cons_zero, List.setIfInBounds_toArray, List.set_cons_zero, List.set_cons_succ]
  refine wpAnyH_take (i := 2) rfl (by kernel_rfl) (by kernel_rfl) (by kernel_rfl) (fun _ _ _ h => h) (yieldsIf_load_mid (by rfl) 90 (.tmp 3) rfl b3 0 rfl [.int .i64 a, .int .i64 e] _ (fun w h => span2 h) Tryz.underlying90 rfl info90) hHeld ?_
  try simp only [Act.put, List.getElem_toArray, List.getElem_cons_succ, List.getElem_cons_zero, List.setIfInBounds_toArray, List.set_cons_zero, List.set_cons_succ]
  refine wpAnyH_take (i := 3) (v := .pointer (some ⟨g, 0, none⟩)) rfl (by kernel_rfl) (by kernel_rfl) (by kernel_rfl) (fun _ _ _ h => h) (Or.inl ⟨by rfl, fun W _ => by go_simp⟩) hHeld ?_
  try simp only [Act.put, List.getElem_toArray, List.getElem_cons_succ, List.getElem_cons_zero, List.setIfInBounds_toArray, List.set_cons_zero, List.set_cons_succ]
  refine wpAnyH_take (i := 4) (v := .func (.func 59) #[.pointer (some ⟨g, 0, none⟩)] #[]) rfl (by kernel_rfl) (by kernel_rfl) (by kernel_rfl) (fun _ _ _ h => h) (Or.inl ⟨by rfl, fun W _ => by go_simp⟩) hHeld ?_
  try simp only [Act.put, List.getElem_toArray, List.getElem_cons_succ, List.getElem_cons_zero, List.setIfInBounds_toArray, List.set_cons_zero, List.set_cons_succ]
  refine wpAnyH_ready (rs := [5]) (by kernel_rfl) (by simp) ?_
  refine AllReadyH.cons rfl (fun K hK => ?_) AllReadyH.nil
  rw [if_pos (by rfl)]
  go_simp
  refine (HG.out _ b0.drew).mono ?_
  rintro e0 w3 ⟨rfl, hb3⟩
  have b1 := low_any b0.drew hb3 b0.size
  have KB2 := (hb3.block _ (lt_of_heap KB)).trans KB
  have BR2 := (hb3.block _ (lt_of_heap BR)).trans BR
  clear hb3
  refine hK.out _ _ KB2 (fun hH2 => ?_)
  clear hK K
  try simp only [Act.put, List.getElem_toArray, List.getElem_cons_succ, List.getElem_cons_zero, List.setIfInBounds_toArray, List.set_cons_zero, List.set_cons_succ]
  refine wpAnyH_take (i := 6) (v := .agg #[.int .i64 a, .int .i64 r]) rfl (by kernel_rfl) (by kernel_rfl) (by kernel_rfl) (fun _ _ _ h => h) (Or.inl ⟨by rfl, fun W _ => by go_simp⟩) hH2 ?_
  try simp only [Act.put, List.getElem_toArray, List.getElem_cons_succ, List.getElem_cons_zero, List.setIfInBounds_toArray, List.set_cons_zero, List.set_cons_succ]
  refine wpAnyH_ready (rs := [7]) (by kernel_rfl) (by simp) ?_
  refine AllReadyH.cons rfl (fun K hK => ?_) AllReadyH.nil
  rw [if_pos (by rfl)]
  have b2 := low_only b1 (Only.setRow (b := w.heap.size) w3 #[.int .i64 a, .int .i64 r]) (Nat.le_refl _) b1.size
  have KB3 := ((Only.setRow (b := w.heap.size) w3 #[.int .i64 a, .int .i64 r]).block b3 (lt_of_heap KB2) hne).trans KB2
  refine wp_store_row 90 (.tmp 2) (.tmp 23) rfl w.heap.size #[.int .i64 a, .int .i64 r] rfl rfl 90 _ BR2 info90 rfl (by simp [Value.oneCell']) ?_
  have u5 := heap_setRow (w := w3) (g := w.heap.size) (c' := #[.int .i64 a, .int .i64 r]) BR2
  generalize w3.setRow w.heap.size #[.int .i64 a, .int .i64 r] = w5 at *
  refine hK.out _ _ KB3 (fun _ => ?_)
  clear hK K
  refine wpAnyH_done (by kernel_rfl) ?_ _
  go_wp2_with fail
  exact bodyPost_ret (v := .agg #[.int .i64 a, .int .i64 r]) (results_cell_row (p := 2) (ty := 90) Tryz.results55 _ _ w.heap.size 90 _ (0, 0) _ rfl u5 Tryz.underlying90 rfl (by exact info90)) rfl ⟨rfl, b2⟩
/-- What lies below: from where to where. -/
def SM.same (s : SM) (k v a j : Nat) : Bool := s.num k v j == s.num k v a
def CS.bot (c : CS) (s : SM) (k : Nat) : Nat := gal (s.same k c.lev c.pos) c.pos (c.fin - c.pos)
theorem belowC {W0 W : World} {s : SM} {g k : Nat} {c : CS} (h : At W0 s W g c k) (ok : SMok s) (h1 : 1 ≤ c.d) (h3 : c.d ≤ 3) (hf : c.fin ≤ c.n)
    (mono : ∀ i j, c.pos ≤ i → i ≤ j → j < c.fin → s.same k c.lev c.pos j = true → s.same k c.lev c.pos i = true) :
    Calls Tryz.prog 55 #[.pointer (some ⟨g, 0, none⟩)] W fun e w' => e = .returned (.agg #[.int .i64 c.pos, .int .i64 (c.bot s k)]) ∧ Low W.heap.size W w' := by
  have hn := h.n
  have hl := ok.nl k
  refine belowRaw g c.pos c.fin (c.bot s k) c.d W h1 h3 h.B.c11 (fun W' b => hereC (h.low b) h1 h3) (fun W' b => ?_)
  exact gallopAt 59 _ eg59 c.pos c.fin (s.same k c.lev c.pos) W' (by omega) mono (fun W2 b2 j hj hj2 => holdsC ((h.low b).low b2) ok h1 h3 j (by omega) (by omega))
set_option maxHeartbeats 3200000 in
set_option maxRecDepth 20000 in
theorem belowTop {W : World} {g : Nat} {c : CS} (B : Cur W g c) (h0 : c.d = 0) :
    Calls Tryz.prog 55 #[.pointer (some ⟨g, 0, none⟩)] W fun e w' => e = .returned (.agg #[.int .i64 0, .int .i64 c.n]) ∧ Low W.heap.size W w' := by
  obtain ⟨W1, hW1⟩ : ∃ W1, W1 = W.alloc (.cells #[.int .i64 0, .int .i64 0] 90) := ⟨_, rfl⟩
  have BR : W1.heap[W.heap.size]? = some (.cells #[.int .i64 0, .int .i64 0] 90) := by rw [hW1]; exact heap_new _ _ rfl
  have b0 : Low W.heap.size W W1 := by rw [hW1]; exact low1 _ _
  have B1 := B.low b0
  have c11 : W1.cell? ⟨g, 11, none⟩ = some (.int .i64 0) := by have := B1.c11; rw [h0] at this; exact this
  have c1 : W1.cell? ⟨g, 1, none⟩ = some (.slice c.pl c.n c.cl) := B1.cell 1 _ rfl
  have b2 := low_only b0 (Only.setRow (b := W.heap.size) W1 #[.int .i64 0, .int .i64 c.n]) (Nat.le_refl _) b0.size
  have u5 := heap_setRow (w := W1) (g := W.heap.size) (c' := #[.int .i64 0, .int .i64 c.n]) BR
  have HW := Lib.hid hW1
  clear hW1 B B1 b0
  go_enter Tryz.func55, Tryz.ntmps55
  go_upto_region 1 with fail
  rw [← HW.out]
  go_wp2_with ((with_reducible refine wpList_storeSpan 0 c.n (.tmp 2) (.tmp 14) W.heap.size BR ?_ ?_ ?_ ?_ ?_); rfl; rfl; rfl; rfl; generalize W1.setRow W.heap.size #[.int .i64 0, .int .i64 c.n] = w5 at *)
  exact bodyPost_ret (v := .agg #[.int .i64 0, .int .i64 c.n]) (results_cell_row (p := 2) (ty := 90) Tryz.results55 _ _ W.heap.size 90 _ (0, 0) _ rfl u5 Tryz.underlying90 rfl (by exact info90)) rfl ⟨rfl, b2⟩
end Go.Proofs.YtanbgdhmfjgihaaGreatDoor

/- Open; Key. -/
namespace Go.Proofs.YtanbgdhmfjgihaaGreatDoor
open Go.RowKit

set_option maxHeartbeats 3200000 in
set_option maxRecDepth 20000 in
theorem openGo0 (g a e : Nat) (cs cs' : Array Value) (w : World) (hae : a < e) (B : w.heap[g]? = some (.cells cs 93)) (k11 : cs[11]? = some (.int .i64 0)) (ka : ∃ x, cs[5]? = some x) (ke : ∃ x, cs[6]? = some x)
    (k1 : ((cs.setIfInBounds 5 (.int .i64 a)).setIfInBounds 6 (.int .i64 e))[11]? = some (.int .i64 0))
    (kc : ((cs.setIfInBounds 5 (.int .i64 a)).setIfInBounds 6 (.int .i64 e)).setIfInBounds 11 (.int .i64 1) = cs')
    (h55 : Calls Tryz.prog 55 #[.pointer (some ⟨g, 0, none⟩)] w fun e' w' => e' = .returned (.agg #[.int .i64 a, .int .i64 e]) ∧ Low w.heap.size w w') :
    Calls Tryz.prog 22 #[.pointer (some ⟨g, 0, none⟩)] w fun e' w' => e' = .returned (.bool true) ∧ Only g w w' ∧ w'.heap[g]? = some (.cells cs' 93) := by
  obtain ⟨xa, ka⟩ := ka
  obtain ⟨xe, ke⟩ := ke
  have hemp := fun W => emptyAt a e W
  rw [decide_eq_false (by omega)] at hemp
  have c11 := cell_of B 11 k11
  have HC := Lib.hid kc
  have HK := Lib.hid k11
  have HK1 := Lib.hid k1
  have HKA := Lib.hid ka
  have HKE := Lib.hid ke
  clear kc k11 k1 ka ke
  go_enter Tryz.func22, Tryz.ntmps22
  go_upto_region 4 with (go_at_call 55; (with_reducible refine h55.mono ?_); rintro e0 w3 ⟨rfl, b0⟩)
  have hne : w3.heap.size ≠ g := by have := lt_of_heap B; have := b0.size; omega
  have B3 := (b0.block _ (lt_of_heap B)).trans B
  generalize hw4 : w3.alloc (Obj.cells #[Value.int IntKind.i64 a, Value.int IntKind.i64 e] 90) = w4
  have KB : w4.heap[w3.heap.size]? = some (.cells #[.int .i64 a, .int .i64 e] 90) := by rw [← hw4]; exact heap_new _ _ rfl
  replace b0 : Low w.heap.size w w4 := by rw [← hw4]; exact b0.alloc b0.size _
  have B4 : w4.heap[g]? = some (.cells cs 93) := by rw [← hw4]; exact heap_old _ B3
  generalize w3.heap.size = b3 at *
  clear hw4 h55 B3
  go_upto_region 6 with (first
    | ((with_reducible refine wpList_span (.tmp 3) b3 0 a e (span2 KB) ?_ ?_ ?_ ?_); rfl; rfl; rfl)
    | (go_at_call 56; (with_reducible refine (hemp _).mono ?_); rintro e0 w6 ⟨rfl, hb6⟩; replace b0 := low_any b0 hb6 b0.size; have B6 := (hb6.block _ (lt_of_heap B4)).trans B4; replace KB := (hb6.block _ (lt_of_heap KB)).trans KB; clear hb6))
  refine wp_region_held_drew (S := fun W => W.cell? ⟨g, 11, none⟩ = some (.int .i64 0) ∧ W.heap[b3]? = some (.cells #[.int .i64 a, .int .i64 e] 90)) (by kernel_rfl) ⟨cell_of (w := w6.drew) B6 11 HK.out, KB⟩ (fun hHeld => ?_)
  refine wpAnyH_take (i := 0) (v := .pointer (some ⟨g, 0, none⟩)) rfl (by kernel_rfl) (by kernel_rfl) (by kernel_rfl) (fun _ _ _ h => h) (Or.inl ⟨by rfl, fun W _ => by go_simp⟩) hHeld ?_
  try simp only [Act.put, List.getElem_toArray, List.getElem_cons_zero, List.setIfInBounds_toArray, List.set_cons_zero, List.set_cons_succ]
  refine wpAnyH_take (i := 1) (v := .pointer (some ⟨g, 0, none⟩)) rfl (by kernel_rfl) (by kernel_rfl) (by kernel_rfl) (fun _ _ _ h => h) (Or.inl ⟨by rfl, fun W _ => by go_simp⟩) hHeld ?_
  try simp only [Act.put, List.getElem_toArray, List.getElem_cons_succ, List.getElem_cons_zero, List.setIfInBounds_toArray, List.set_cons_zero, List.set_cons_succ]
  refine wpAnyH_take (i := 2) (v := .pointer (some ⟨g, 0, none⟩)) rfl (by kernel_rfl) (by kernel_rfl) (by kernel_rfl) (fun _ _ _ h => h) (Or.inl ⟨by rfl, fun W _ => by go_simp⟩) hHeld ?_
  try simp only [Act.put, List.getElem_toArray, List.getElem_cons_succ, List.getElem_cons_zero, List.setIfInBounds_toArray, List.set_cons_zero, List.set_cons_succ]
  refine wpAnyH_take (i := 3) (v := .pointer (some ⟨g, 11, none⟩)) rfl (by kernel_rfl) (by kernel_rfl) (by kernel_rfl) (fun _ _ _ h => h) (Or.inl ⟨by rfl, fun W _ => by go_simp⟩) hHeld ?_
  try simp only [Act.put, List.getElem_toArray, List.getElem_cons_succ, List.getElem_cons_zero, List.setIfInBounds_toArray, List.set_cons_zero, List.set_cons_succ]
  refine wpAnyH_take (i := 4) (v := .int .i64 0) rfl (by kernel_rfl) (by kernel_rfl) (by kernel_rfl) (fun _ _ _ h => h) (Or.inl ⟨by rfl, fun W h => by have c0 := h.1; go_simp⟩) hHeld ?_
  try simp only [Act.put, List.getElem_toArray, List.getElem_cons_succ, List.getElem_cons_zero, List.setIfInBounds_toArray, List.set_cons_zero, List.set_cons_succ]
  refine wpAnyH_take (i := 5) rfl (by kernel_rfl) (by kernel_rfl) (by kernel_rfl) (fun _ _ _ h => h) (yieldsIf_load_mid (by rfl) 90 (.tmp 3) rfl b3 0 rfl [.int .i64 a, .int .i64 e] _ (fun w h => span2 h.2) Tryz.underlying90 rfl info90) hHeld ?_
  try simp only [Act.put, List.getElem_toArray, List.getElem_cons_succ, List.getElem_cons_zero, List.setIfInBounds_toArray, List.set_cons_zero, List.set_cons_succ]
  refine wpAnyH_take (i := 6) (v := .pointer (some ⟨g, 0, none⟩)) rfl (by kernel_rfl) (by kernel_rfl) (by kernel_rfl) (fun _ _ _ h => h) (Or.inl ⟨by rfl, fun W _ => by go_simp⟩) hHeld ?_
  try simp only [Act.put, List.getElem_toArray, List.getElem_cons_succ, List.getElem_cons_zero, List.setIfInBounds_toArray, List.set_cons_zero, List.set_cons_succ]
  refine wpAnyH_take (i := 7) (v := .pointer (some ⟨g, 5, none⟩)) rfl (by kernel_rfl) (by kernel_rfl) (by kernel_rfl) (fun _ _ _ h => h) (Or.inl ⟨by rfl, fun W _ => by go_simp⟩) hHeld ?_
  try simp only [Act.put, List.getElem_toArray, List.getElem_cons_succ, List.getElem_cons_zero, List.setIfInBounds_toArray, List.set_cons_zero, List.set_cons_succ]
  refine wpAnyH_take (i := 8) (v := .pointer (some ⟨g, 5, none⟩)) rfl (by kernel_rfl) (by kernel_rfl) (by kernel_rfl) (fun _ _ _ h => h) (Or.inl ⟨by rfl, fun W _ => by go_simp⟩) hHeld ?_
  try simp only [Act.put, List.getElem_toArray, List.getElem_cons_succ, List.getElem_cons_zero, List.setIfInBounds_toArray, List.set_cons_zero, List.set_cons_succ]
  refine wpAnyH_ready (rs := [9]) (by kernel_rfl) (by simp) ?_
  refine AllReadyH.cons rfl (fun K hK => ?_) AllReadyH.nil
  rw [if_pos (by rfl)]
  have hth : w6.drew.there g 5 2 := fun j hj => by
    match j, hj with
    | 0, _ => exact ⟨by rw [cell_of (w := w6.drew) B6 5 HKA.out]; rfl, free_of (w := w6.drew) B6 _⟩
    | 1, _ => exact ⟨by rw [cell_of (w := w6.drew) B6 6 HKE.out]; rfl, free_of (w := w6.drew) B6 _⟩
  refine wp_store_mid 90 (.tmp 21) (.tmp 18) rfl g 5 #[.int .i64 a, .int .i64 e] rfl rfl hth info90 (by simp [Value.oneCell']) ?_
  have C1 := heap_set (w := w6.drew) B6 5 (.int .i64 a)
  have C2 := heap_set C1 6 (.int .i64 e)
  have O1 : Only g w ((w6.drew.setCell ⟨g, 5, none⟩ (.int .i64 a)).setCell ⟨g, 6, none⟩ (.int .i64 e)) := (((Only.of_low (b := g) b0.drew).setCell 5 none _).setCell 6 none _)
  have KB2 := (((Only.refl g w6.drew).setCell 5 none (.int .i64 a)).setCell 6 none (.int .i64 e)).block b3 (lt_of_heap KB) hne |>.trans KB
  show K _ ((w6.drew.setCell ⟨g, 5, none⟩ (.int .i64 a)).setCell ⟨g, 6, none⟩ (.int .i64 e))
  generalize (w6.drew.setCell ⟨g, 5, none⟩ (.int .i64 a)).setCell ⟨g, 6, none⟩ (.int .i64 e) = w7 at *
  have c11 := cell_of C2 11 HK1.out
  have f11 : w7.frozen? ⟨g, 11, none⟩ = false := free_of C2 _
  refine hK.out _ _ ⟨c11, KB2⟩ (fun _ => ?_)
  clear hK K
  refine wpAnyH_done (by kernel_rfl) ?_ _
  have O2 : Only g w (w7.setCell ⟨g, 11, none⟩ (.int .i64 1)) := O1.setCell 11 none _
  have C3 := heap_set C2 11 (.int .i64 1)
  rw [HC.out] at C3
  have FIN := Lib.hid (And.intro O2 C3)
  clear C1 C2 C3 O1 O2 KB2 hth
  go_wp2_with fail
  go_ret
  exact ⟨rfl, FIN.out⟩

set_option maxHeartbeats 3200000 in
set_option maxRecDepth 20000 in
theorem openGo1 (g a e : Nat) (cs cs' : Array Value) (w : World) (hae : a < e) (B : w.heap[g]? = some (.cells cs 93)) (k11 : cs[11]? = some (.int .i64 1)) (ka : ∃ x, cs[7]? = some x) (ke : ∃ x, cs[8]? = some x)
    (k1 : ((cs.setIfInBounds 7 (.int .i64 a)).setIfInBounds 8 (.int .i64 e))[11]? = some (.int .i64 1))
    (kc : ((cs.setIfInBounds 7 (.int .i64 a)).setIfInBounds 8 (.int .i64 e)).setIfInBounds 11 (.int .i64 2) = cs')
    (h55 : Calls Tryz.prog 55 #[.pointer (some ⟨g, 0, none⟩)] w fun e' w' => e' = .returned (.agg #[.int .i64 a, .int .i64 e]) ∧ Low w.heap.size w w') :
    Calls Tryz.prog 22 #[.pointer (some ⟨g, 0, none⟩)] w fun e' w' => e' = .returned (.bool true) ∧ Only g w w' ∧ w'.heap[g]? = some (.cells cs' 93) := by
  obtain ⟨xa, ka⟩ := ka
  obtain ⟨xe, ke⟩ := ke
  have hemp := fun W => emptyAt a e W
  rw [decide_eq_false (by omega)] at hemp
  have c11 := cell_of B 11 k11
  have HC := Lib.hid kc
  have HK := Lib.hid k11
  have HK1 := Lib.hid k1
  have HKA := Lib.hid ka
  have HKE := Lib.hid ke
  clear kc k11 k1 ka ke
  go_enter Tryz.func22, Tryz.ntmps22
  go_upto_region 4 with (go_at_call 55; (with_reducible refine h55.mono ?_); rintro e0 w3 ⟨rfl, b0⟩)
  have hne : w3.heap.size ≠ g := by have := lt_of_heap B; have := b0.size; omega
  have B3 := (b0.block _ (lt_of_heap B)).trans B
  generalize hw4 : w3.alloc (Obj.cells #[Value.int IntKind.i64 a, Value.int IntKind.i64 e] 90) = w4
  have KB : w4.heap[w3.heap.size]? = some (.cells #[.int .i64 a, .int .i64 e] 90) := by rw [← hw4]; exact heap_new _ _ rfl
  replace b0 : Low w.heap.size w w4 := by rw [← hw4]; exact b0.alloc b0.size _
  have B4 : w4.heap[g]? = some (.cells cs 93) := by rw [← hw4]; exact heap_old _ B3
  generalize w3.heap.size = b3 at *
  clear hw4 h55 B3
  go_upto_region 6 with (first
    | ((with_reducible refine wpList_span (.tmp 3) b3 0 a e (span2 KB) ?_ ?_ ?_ ?_); rfl; rfl; rfl)
    | (go_at_call 56; (with_reducible refine (hemp _).mono ?_); rintro e0 w6 ⟨rfl, hb6⟩; replace b0 := low_any b0 hb6 b0.size; have B6 := (hb6.block _ (lt_of_heap B4)).trans B4; replace KB := (hb6.block _ (lt_of_heap KB)).trans KB; clear hb6))
  refine wp_region_held_drew (S := fun W => W.cell? ⟨g, 11, none⟩ = some (.int .i64 1) ∧ W.heap[b3]? = some (.cells #[.int .i64 a, .int .i64 e] 90)) (by kernel_rfl) ⟨cell_of (w := w6.drew) B6 11 HK.out, KB⟩ (fun hHeld => ?_)
  refine wpAnyH_take (i := 0) (v := .pointer (some ⟨g, 0, none⟩)) rfl (by kernel_rfl) (by kernel_rfl) (by kernel_rfl) (fun _ _ _ h => h) (Or.inl ⟨by rfl, fun W _ => by go_simp⟩) hHeld ?_
  try simp only [Act.put, List.getElem_toArray, List.getElem_cons_zero, List.setIfInBounds_toArray, List.set_cons_zero, List.set_cons_succ]
  refine wpAnyH_take (i := 1) (v := .pointer (some ⟨g, 0, none⟩)) rfl (by kernel_rfl) (by kernel_rfl) (by kernel_rfl) (fun _ _ _ h => h) (Or.inl ⟨by rfl, fun W _ => by go_simp⟩) hHeld ?_
  try simp only [Act.put, List.getElem_toArray, List.getElem_cons_succ, List.getElem_cons_zero, List.setIfInBounds_toArray, List.set_cons_zero, List.set_cons_succ]
  refine wpAnyH_take (i := 2) (v := .pointer (some ⟨g, 0, none⟩)) rfl (by kernel_rfl) (by kernel_rfl) (by kernel_rfl) (fun _ _ _ h => h) (Or.inl ⟨by rfl, fun W _ => by go_simp⟩) hHeld ?_
  try simp only [Act.put, List.getElem_toArray, List.getElem_cons_succ, List.getElem_cons_zero, List.setIfInBounds_toArray, List.set_cons_zero, List.set_cons_succ]
  refine wpAnyH_take (i := 3) (v := .pointer (some ⟨g, 11, none⟩)) rfl (by kernel_rfl) (by kernel_rfl) (by kernel_rfl) (fun _ _ _ h => h) (Or.inl ⟨by rfl, fun W _ => by go_simp⟩) hHeld ?_
  try simp only [Act.put, List.getElem_toArray, List.getElem_cons_succ, List.getElem_cons_zero, List.setIfInBounds_toArray, List.set_cons_zero, List.set_cons_succ]
  refine wpAnyH_take (i := 4) (v := .int .i64 1) rfl (by kernel_rfl) (by kernel_rfl) (by kernel_rfl) (fun _ _ _ h => h) (Or.inl ⟨by rfl, fun W h => by have c0 := h.1; go_simp⟩) hHeld ?_
  try simp only [Act.put, List.getElem_toArray, List.getElem_cons_succ, List.getElem_cons_zero, List.setIfInBounds_toArray, List.set_cons_zero, List.set_cons_succ]
  refine wpAnyH_take (i := 5) rfl (by kernel_rfl) (by kernel_rfl) (by kernel_rfl) (fun _ _ _ h => h) (yieldsIf_load_mid (by rfl) 90 (.tmp 3) rfl b3 0 rfl [.int .i64 a, .int .i64 e] _ (fun w h => span2 h.2) Tryz.underlying90 rfl info90) hHeld ?_
  try simp only [Act.put, List.getElem_toArray, List.getElem_cons_succ, List.getElem_cons_zero, List.setIfInBounds_toArray, List.set_cons_zero, List.set_cons_succ]
  refine wpAnyH_take (i := 6) (v := .pointer (some ⟨g, 0, none⟩)) rfl (by kernel_rfl) (by kernel_rfl) (by kernel_rfl) (fun _ _ _ h => h) (Or.inl ⟨by rfl, fun W _ => by go_simp⟩) hHeld ?_
  try simp only [Act.put, List.getElem_toArray, List.getElem_cons_succ, List.getElem_cons_zero, List.setIfInBounds_toArray, List.set_cons_zero, List.set_cons_succ]
  refine wpAnyH_take (i := 7) (v := .pointer (some ⟨g, 5, none⟩)) rfl (by kernel_rfl) (by kernel_rfl) (by kernel_rfl) (fun _ _ _ h => h) (Or.inl ⟨by rfl, fun W _ => by go_simp⟩) hHeld ?_
  try simp only [Act.put, List.getElem_toArray, List.getElem_cons_succ, List.getElem_cons_zero, List.setIfInBounds_toArray, List.set_cons_zero, List.set_cons_succ]
  refine wpAnyH_take (i := 8) (v := .pointer (some ⟨g, 7, none⟩)) rfl (by kernel_rfl) (by kernel_rfl) (by kernel_rfl) (fun _ _ _ h => h) (Or.inl ⟨by rfl, fun W _ => by go_simp⟩) hHeld ?_
  try simp only [Act.put, List.getElem_toArray, List.getElem_cons_succ, List.getElem_cons_zero, List.setIfInBounds_toArray, List.set_cons_zero, List.set_cons_succ]
  refine wpAnyH_ready (rs := [9]) (by kernel_rfl) (by simp) ?_
  refine AllReadyH.cons rfl (fun K hK => ?_) AllReadyH.nil
  rw [if_pos (by rfl)]
  have hth : w6.drew.there g 7 2 := fun j hj => by
    match j, hj with
    | 0, _ => exact ⟨by rw [cell_of (w := w6.drew) B6 7 HKA.out]; rfl, free_of (w := w6.drew) B6 _⟩
    | 1, _ => exact ⟨by rw [cell_of (w := w6.drew) B6 8 HKE.out]; rfl, free_of (w := w6.drew) B6 _⟩
  refine wp_store_mid 90 (.tmp 21) (.tmp 18) rfl g 7 #[.int .i64 a, .int .i64 e] rfl rfl hth info90 (by simp [Value.oneCell']) ?_
  have C1 := heap_set (w := w6.drew) B6 7 (.int .i64 a)
  have C2 := heap_set C1 8 (.int .i64 e)
  have O1 : Only g w ((w6.drew.setCell ⟨g, 7, none⟩ (.int .i64 a)).setCell ⟨g, 8, none⟩ (.int .i64 e)) := (((Only.of_low (b := g) b0.drew).setCell 7 none _).setCell 8 none _)
  have KB2 := (((Only.refl g w6.drew).setCell 7 none (.int .i64 a)).setCell 8 none (.int .i64 e)).block b3 (lt_of_heap KB) hne |>.trans KB
  show K _ ((w6.drew.setCell ⟨g, 7, none⟩ (.int .i64 a)).setCell ⟨g, 8, none⟩ (.int .i64 e))
  generalize (w6.drew.setCell ⟨g, 7, none⟩ (.int .i64 a)).setCell ⟨g, 8, none⟩ (.int .i64 e) = w7 at *
  have c11 := cell_of C2 11 HK1.out
  have f11 : w7.frozen? ⟨g, 11, none⟩ = false := free_of C2 _
  refine hK.out _ _ ⟨c11, KB2⟩ (fun _ => ?_)
  clear hK K
  refine wpAnyH_done (by kernel_rfl) ?_ _
  have O2 : Only g w (w7.setCell ⟨g, 11, none⟩ (.int .i64 2)) := O1.setCell 11 none _
  have C3 := heap_set C2 11 (.int .i64 2)
  rw [HC.out] at C3
  have FIN := Lib.hid (And.intro O2 C3)
  clear C1 C2 C3 O1 O2 KB2 hth
  go_wp2_with fail
  go_ret
  exact ⟨rfl, FIN.out⟩

set_option maxHeartbeats 3200000 in
set_option maxRecDepth 20000 in
theorem openGo2 (g a e : Nat) (cs cs' : Array Value) (w : World) (hae : a < e) (B : w.heap[g]? = some (.cells cs 93)) (k11 : cs[11]? = some (.int .i64 2)) (ka : ∃ x, cs[9]? = some x) (ke : ∃ x, cs[10]? = some x)
    (k1 : ((cs.setIfInBounds 9 (.int .i64 a)).setIfInBounds 10 (.int .i64 e))[11]? = some (.int .i64 2))
    (kc : ((cs.setIfInBounds 9 (.int .i64 a)).setIfInBounds 10 (.int .i64 e)).setIfInBounds 11 (.int .i64 3) = cs')
    (h55 : Calls Tryz.prog 55 #[.pointer (some ⟨g, 0, none⟩)] w fun e' w' => e' = .returned (.agg #[.int .i64 a, .int .i64 e]) ∧ Low w.heap.size w w') :
    Calls Tryz.prog 22 #[.pointer (some ⟨g, 0, none⟩)] w fun e' w' => e' = .returned (.bool true) ∧ Only g w w' ∧ w'.heap[g]? = some (.cells cs' 93) := by
  obtain ⟨xa, ka⟩ := ka
  obtain ⟨xe, ke⟩ := ke
  have hemp := fun W => emptyAt a e W
  rw [decide_eq_false (by omega)] at hemp
  have c11 := cell_of B 11 k11
  have HC := Lib.hid kc
  have HK := Lib.hid k11
  have HK1 := Lib.hid k1
  have HKA := Lib.hid ka
  have HKE := Lib.hid ke
  clear kc k11 k1 ka ke
  go_enter Tryz.func22, Tryz.ntmps22
  go_upto_region 4 with (go_at_call 55; (with_reducible refine h55.mono ?_); rintro e0 w3 ⟨rfl, b0⟩)
  have hne : w3.heap.size ≠ g := by have := lt_of_heap B; have := b0.size; omega
  have B3 := (b0.block _ (lt_of_heap B)).trans B
  generalize hw4 : w3.alloc (Obj.cells #[Value.int IntKind.i64 a, Value.int IntKind.i64 e] 90) = w4
  have KB : w4.heap[w3.heap.size]? = some (.cells #[.int .i64 a, .int .i64 e] 90) := by rw [← hw4]; exact heap_new _ _ rfl
  replace b0 : Low w.heap.size w w4 := by rw [← hw4]; exact b0.alloc b0.size _
  have B4 : w4.heap[g]? = some (.cells cs 93) := by rw [← hw4]; exact heap_old _ B3
  generalize w3.heap.size = b3 at *
  clear hw4 h55 B3
  go_upto_region 6 with (first
    | ((with_reducible refine wpList_span (.tmp 3) b3 0 a e (span2 KB) ?_ ?_ ?_ ?_); rfl; rfl; rfl)
    | (go_at_call 56; (with_reducible refine (hemp _).mono ?_); rintro e0 w6 ⟨rfl, hb6⟩; replace b0 := low_any b0 hb6 b0.size; have B6 := (hb6.block _ (lt_of_heap B4)).trans B4; replace KB := (hb6.block _ (lt_of_heap KB)).trans KB; clear hb6))
  refine wp_region_held_drew (S := fun W => W.cell? ⟨g, 11, none⟩ = some (.int .i64 2) ∧ W.heap[b3]? = some (.cells #[.int .i64 a, .int .i64 e] 90)) (by kernel_rfl) ⟨cell_of (w := w6.drew) B6 11 HK.out, KB⟩ (fun hHeld => ?_)
  refine wpAnyH_take (i := 0) (v := .pointer (some ⟨g, 0, none⟩)) rfl (by kernel_rfl) (by kernel_rfl) (by kernel_rfl) (fun _ _ _ h => h) (Or.inl ⟨by rfl, fun W _ => by go_simp⟩) hHeld ?_
  try simp only [Act.put, List.getElem_toArray, List.getElem_cons_zero, List.setIfInBounds_toArray, List.set_cons_zero, List.set_cons_succ]
  refine wpAnyH_take (i := 1) (v := .pointer (some ⟨g, 0, none⟩)) rfl (by kernel_rfl) (by kernel_rfl) (by kernel_rfl) (fun _ _ _ h => h) (Or.inl ⟨by rfl, fun W _ => by go_simp⟩) hHeld ?_
  try simp only [Act.put, List.getElem_toArray, List.getElem_cons_succ, List.getElem_cons_zero, List.setIfInBounds_toArray, List.set_cons_zero, List.set_cons_succ]
  refine wpAnyH_take (i := 2) (v := .pointer (some ⟨g, 0, none⟩)) rfl (by kernel_rfl) (by kernel_rfl) (by kernel_rfl) (fun _ _ _ h => h) (Or.inl ⟨by rfl, fun W _ => by go_simp⟩) hHeld ?_
  try simp only [Act.put, List.getElem_toArray, List.getElem_cons_succ, List.getElem_cons_zero, List.setIfInBounds_toArray, List.set_cons_zero, List.set_cons_succ]
  refine wpAnyH_take (i := 3) (v := .pointer (some ⟨g, 11, none⟩)) rfl (by kernel_rfl) (by kernel_rfl) (by kernel_rfl) (fun _ _ _ h => h) (Or.inl ⟨by rfl, fun W _ => by go_simp⟩) hHeld ?_
  try simp only [Act.put, List.getElem_toArray, List.getElem_cons_succ, List.getElem_cons_zero, List.setIfInBounds_toArray, List.set_cons_zero, List.set_cons_succ]
  refine wpAnyH_take (i := 4) (v := .int .i64 2) rfl (by kernel_rfl) (by kernel_rfl) (by kernel_rfl) (fun _ _ _ h => h) (Or.inl ⟨by rfl, fun W h => by have c0 := h.1; go_simp⟩) hHeld ?_
  try simp only [Act.put, List.getElem_toArray, List.getElem_cons_succ, List.getElem_cons_zero, List.setIfInBounds_toArray, List.set_cons_zero, List.set_cons_succ]
  refine wpAnyH_take (i := 5) rfl (by kernel_rfl) (by kernel_rfl) (by kernel_rfl) (fun _ _ _ h => h) (yieldsIf_load_mid (by rfl) 90 (.tmp 3) rfl b3 0 rfl [.int .i64 a, .int .i64 e] _ (fun w h => span2 h.2) Tryz.underlying90 rfl info90) hHeld ?_
  try simp only [Act.put, List.getElem_toArray, List.getElem_cons_succ, List.getElem_cons_zero, List.setIfInBounds_toArray, List.set_cons_zero, List.set_cons_succ]
  refine wpAnyH_take (i := 6) (v := .pointer (some ⟨g, 0, none⟩)) rfl (by kernel_rfl) (by kernel_rfl) (by kernel_rfl) (fun _ _ _ h => h) (Or.inl ⟨by rfl, fun W _ => by go_simp⟩) hHeld ?_
  try simp only [Act.put, List.getElem_toArray, List.getElem_cons_succ, List.getElem_cons_zero, List.setIfInBounds_toArray, List.set_cons_zero, List.set_cons_succ]
  refine wpAnyH_take (i := 7) (v := .pointer (some ⟨g, 5, none⟩)) rfl (by kernel_rfl) (by kernel_rfl) (by kernel_rfl) (fun _ _ _ h => h) (Or.inl ⟨by rfl, fun W _ => by go_simp⟩) hHeld ?_
  try simp only [Act.put, List.getElem_toArray, List.getElem_cons_succ, List.getElem_cons_zero, List.setIfInBounds_toArray, List.set_cons_zero, List.set_cons_succ]
  refine wpAnyH_take (i := 8) (v := .pointer (some ⟨g, 9, none⟩)) rfl (by kernel_rfl) (by kernel_rfl) (by kernel_rfl) (fun _ _ _ h => h) (Or.inl ⟨by rfl, fun W _ => by go_simp⟩) hHeld ?_
  try simp only [Act.put, List.getElem_toArray, List.getElem_cons_succ, List.getElem_cons_zero, List.setIfInBounds_toArray, List.set_cons_zero, List.set_cons_succ]
  refine wpAnyH_ready (rs := [9]) (by kernel_rfl) (by simp) ?_
  refine AllReadyH.cons rfl (fun K hK => ?_) AllReadyH.nil
  rw [if_pos (by rfl)]
  have hth : w6.drew.there g 9 2 := fun j hj => by
    match j, hj with
    | 0, _ => exact ⟨by rw [cell_of (w := w6.drew) B6 9 HKA.out]; rfl, free_of (w := w6.drew) B6 _⟩
    | 1, _ => exact ⟨by rw [cell_of (w := w6.drew) B6 10 HKE.out]; rfl, free_of (w := w6.drew) B6 _⟩
  refine wp_store_mid 90 (.tmp 21) (.tmp 18) rfl g 9 #[.int .i64 a, .int .i64 e] rfl rfl hth info90 (by simp [Value.oneCell']) ?_
  have C1 := heap_set (w := w6.drew) B6 9 (.int .i64 a)
  have C2 := heap_set C1 10 (.int .i64 e)
  have O1 : Only g w ((w6.drew.setCell ⟨g, 9, none⟩ (.int .i64 a)).setCell ⟨g, 10, none⟩ (.int .i64 e)) := (((Only.of_low (b := g) b0.drew).setCell 9 none _).setCell 10 none _)
  have KB2 := (((Only.refl g w6.drew).setCell 9 none (.int .i64 a)).setCell 10 none (.int .i64 e)).block b3 (lt_of_heap KB) hne |>.trans KB
  show K _ ((w6.drew.setCell ⟨g, 9, none⟩ (.int .i64 a)).setCell ⟨g, 10, none⟩ (.int .i64 e))
  generalize (w6.drew.setCell ⟨g, 9, none⟩ (.int .i64 a)).setCell ⟨g, 10, none⟩ (.int .i64 e) = w7 at *
  have c11 := cell_of C2 11 HK1.out
  have f11 : w7.frozen? ⟨g, 11, none⟩ = false := free_of C2 _
  refine hK.out _ _ ⟨c11, KB2⟩ (fun _ => ?_)
  clear hK K
  refine wpAnyH_done (by kernel_rfl) ?_ _
  have O2 : Only g w (w7.setCell ⟨g, 11, none⟩ (.int .i64 3)) := O1.setCell 11 none _
  have C3 := heap_set C2 11 (.int .i64 3)
  rw [HC.out] at C3
  have FIN := Lib.hid (And.intro O2 C3)
  clear C1 C2 C3 O1 O2 KB2 hth
  go_wp2_with fail
  go_ret
  exact ⟨rfl, FIN.out⟩

set_option maxHeartbeats 3200000 in
set_option maxRecDepth 20000 in
theorem openNo (g a e : Nat) (d : Int) (w : World) (hae : ¬ a < e) (c11 : w.cell? ⟨g, 11, none⟩ = some (.int .i64 d)) (hd : (d == 3) = false)
    (h55 : Calls Tryz.prog 55 #[.pointer (some ⟨g, 0, none⟩)] w fun e' w' => e' = .returned (.agg #[.int .i64 a, .int .i64 e]) ∧ Low w.heap.size w w') :
    Calls Tryz.prog 22 #[.pointer (some ⟨g, 0, none⟩)] w fun e' w' => e' = .returned (.bool false) ∧ Low w.heap.size w w' := by
  have hemp := fun W => emptyAt a e W
  rw [decide_eq_true (by omega)] at hemp
  go_enter Tryz.func22, Tryz.ntmps22
  go_upto_region 4 with (go_at_call 55; (with_reducible refine h55.mono ?_); rintro e0 w3 ⟨rfl, b0⟩)
  generalize hw4 : w3.alloc (Obj.cells #[Value.int IntKind.i64 a, Value.int IntKind.i64 e] 90) = w4
  have KB : w4.heap[w3.heap.size]? = some (.cells #[.int .i64 a, .int .i64 e] 90) := by rw [← hw4]; exact heap_new _ _ rfl
  replace b0 : Low w.heap.size w w4 := by rw [← hw4]; exact b0.alloc b0.size _
  generalize w3.heap.size = b3 at *
  clear hw4 h55
  go_wp2_with (first
    | ((with_reducible refine wpList_span (.tmp 3) b3 0 a e (span2 KB) ?_ ?_ ?_ ?_); rfl; rfl; rfl)
    | (go_at_call 56; (with_reducible refine (hemp _).mono ?_); rintro e0 w6 ⟨rfl, hb6⟩; replace b0 := low_any b0 hb6 b0.size; clear hb6))
  go_ret
  exact ⟨rfl, b0⟩
theorem openFull (g : Nat) (w : World) (c11 : w.cell? ⟨g, 11, none⟩ = some (.int .i64 3)) :
    Calls Tryz.prog 22 #[.pointer (some ⟨g, 0, none⟩)] w fun e' w' => e' = .returned (.bool false) ∧ Low w.heap.size w w' := by
  go_enter Tryz.func22, Tryz.ntmps22
  go_wp2_with fail
  go_ret
  exact ⟨rfl, Low.refl _ _⟩

theorem results_six_tmp {fn : Func} {p q : Tmp} (h : fn.results = #[.cell p 39, .tmp q]) (tmps : Array Value) {w : World} {g : Nat} {k : Int} {b : Bool} {n : Int} {t x : ByteArray} {pp : Option Addr} {len cap : Nat} (v : Value)
    (hp : tmps.getD p undef = .pointer (some ⟨g, 0, none⟩)) (hq : tmps.getD q undef = v) (hg : Six w g k b n t x pp len cap) : (results fn tmps).run Tryz.prog w = .ok (.tuple #[.agg #[.int .i64 k, .bool b, .int .i64 n, .string t, .string x, .slice pp len cap], v]) w := by
  have hp' : tmps[p]?.getD undef = .pointer (some ⟨g, 0, none⟩) := by simpa using hp
  have hq' : tmps[q]?.getD undef = v := by simpa using hq
  have hl := run_loadVar_row (P := Tryz.prog) w g 39 39 _ (0, 0) _ hg Tryz.underlying39 rfl info28
  simp [results, h, hp', hq', asAddr, hl]
set_option maxHeartbeats 3200000 in
set_option maxRecDepth 20000 in
theorem keyGo (g a e : Nat) (v : V6) (w : World) (ht : v.t.size ≤ 2097152) (hx : v.x.size ≤ 2097152)
    (h62 : Calls Tryz.prog 62 #[.pointer (some ⟨g, 0, none⟩)] (w.alloc (.cells #[.int .i64 0, .bool false, .int .i64 0, .string ⟨#[]⟩, .string ⟨#[]⟩, .slice none 0 0] 39)) fun e' w' => e' = .returned (.bool true) ∧ Low (w.heap.size + 1) (w.alloc (.cells #[.int .i64 0, .bool false, .int .i64 0, .string ⟨#[]⟩, .string ⟨#[]⟩, .slice none 0 0] 39)) w')
    (h65 : ∀ W, Low w.heap.size w W → Calls Tryz.prog 65 #[.pointer (some ⟨g, 0, none⟩)] W fun e' w' => e' = .returned (.agg #[.int .i64 a, .int .i64 e]) ∧ Low W.heap.size W w')
    (h64 : ∀ W, Low w.heap.size w W → Calls Tryz.prog 64 #[.pointer (some ⟨g, 0, none⟩), .int .i64 a] W fun e' w' => e' = .returned (.agg #[.int .i64 v.k, .bool v.b, .int .i64 v.n, .string v.t, .string v.x, .slice v.p v.len v.cap]) ∧ Low W.heap.size W w') :
    Calls Tryz.prog 30 #[.pointer (some ⟨g, 0, none⟩)] w fun e' w' => e' = .returned (.tuple #[.agg #[.int .i64 v.k, .bool v.b, .int .i64 v.n, .string v.t, .string v.x, .slice none 0 0], .bool true]) ∧ Below w.heap.size w w' := by
  obtain ⟨W1, hW1⟩ : ∃ W1, W1 = w.alloc (.cells #[.int .i64 0, .bool false, .int .i64 0, .string ⟨#[]⟩, .string ⟨#[]⟩, .slice none 0 0] 39) := ⟨_, rfl⟩
  rw [← hW1] at h62
  have u : Six W1 w.heap.size 0 false 0 ⟨#[]⟩ ⟨#[]⟩ none 0 0 := by rw [hW1]; exact six_new _ rfl
  have b0 : Low w.heap.size w W1 := by rw [hW1]; exact low1 _ _
  have hsz : W1.heap.size = w.heap.size + 1 := by rw [hW1]; simp
  rw [← hsz] at h62
  have ho := fun W => ownAt v.k v.b v.n v.t v.x v.p v.len v.cap W ht hx
  have hfl := fun w => field90 a e w
  have HW := Lib.hid hW1
  clear hW1 hsz
  go_enter Tryz.func30, Tryz.ntmps30
  go_upto_region 1 with fail
  rw [← HW.out]
  go_wp2_with (first
    | (go_at_call 62; (with_reducible refine h62.mono ?_); rintro e0 w6 ⟨rfl, hb6⟩; replace b0 := low_any b0 hb6 b0.size; replace u := u.below hb6.is; clear hb6 h62)
    | (go_at_call 65; (with_reducible refine (h65 _ b0).mono ?_); rintro e0 w6 ⟨rfl, hb6⟩; replace b0 := low_any b0 hb6 b0.size; replace u := u.below hb6.is; clear hb6)
    | (go_at_call 64; (with_reducible refine (h64 _ b0).mono ?_); rintro e0 w6 ⟨rfl, hb6⟩; replace b0 := low_any b0 hb6 b0.size; replace u := u.below hb6.is; clear hb6)
    | (go_at_call 63; (with_reducible refine (ho _).mono ?_); rintro e0 w6 ⟨rfl, hb6⟩; have b1 := below_any b0.is hb6 b0.size; replace u := u.below hb6; clear hb6)
    | ((with_reducible refine wpList_store6 (k' := v.k) (b' := v.b) (n' := v.n) (t' := v.t) (x' := v.x) (p' := none) (len' := 0) (cap' := 0) (.tmp 2) (.tmp 13) w.heap.size u ?_ ?_ ?_ ?_ ?_); rfl; rfl; rfl; rfl; intro w5 ho5 u5; have b5 := below_only b1 ho5 (Nat.le_refl _) b1.size))
  exact bodyPost_ret (v := .tuple #[.agg #[.int .i64 v.k, .bool v.b, .int .i64 v.n, .string v.t, .string v.x, .slice none 0 0], .bool true]) (results_six_tmp (p := 2) (q := 3) Tryz.results30 _ _ rfl rfl u5) rfl ⟨rfl, b5⟩
set_option maxHeartbeats 3200000 in
set_option maxRecDepth 20000 in
theorem keyNo (g : Nat) (w : World)
    (h62 : Calls Tryz.prog 62 #[.pointer (some ⟨g, 0, none⟩)] (w.alloc (.cells #[.int .i64 0, .bool false, .int .i64 0, .string ⟨#[]⟩, .string ⟨#[]⟩, .slice none 0 0] 39)) fun e' w' => e' = .returned (.bool false) ∧ Low (w.heap.size + 1) (w.alloc (.cells #[.int .i64 0, .bool false, .int .i64 0, .string ⟨#[]⟩, .string ⟨#[]⟩, .slice none 0 0] 39)) w') :
    Calls Tryz.prog 30 #[.pointer (some ⟨g, 0, none⟩)] w fun e' w' => e' = .returned (.tuple #[.agg #[.int .i64 0, .bool false, .int .i64 0, .string ⟨#[]⟩, .string ⟨#[]⟩, .slice none 0 0], .bool false]) ∧ Below w.heap.size w w' := by
  obtain ⟨W1, hW1⟩ : ∃ W1, W1 = w.alloc (.cells #[.int .i64 0, .bool false, .int .i64 0, .string ⟨#[]⟩, .string ⟨#[]⟩, .slice none 0 0] 39) := ⟨_, rfl⟩
  rw [← hW1] at h62
  have u : Six W1 w.heap.size 0 false 0 ⟨#[]⟩ ⟨#[]⟩ none 0 0 := by rw [hW1]; exact six_new _ rfl
  have b0 : Low w.heap.size w W1 := by rw [hW1]; exact low1 _ _
  have hsz : W1.heap.size = w.heap.size + 1 := by rw [hW1]; simp
  rw [← hsz] at h62
  have HW := Lib.hid hW1
  clear hW1 hsz
  go_enter Tryz.func30, Tryz.ntmps30
  go_upto_region 1 with fail
  rw [← HW.out]
  go_wp2_with (first
    | (go_at_call 62; (with_reducible refine h62.mono ?_); rintro e0 w6 ⟨rfl, hb6⟩; replace b0 := low_any b0 hb6 b0.size; replace u := u.below hb6.is; clear hb6 h62)
    | ((with_reducible refine wpList_store6 (k' := 0) (b' := false) (n' := 0) (t' := ⟨#[]⟩) (x' := ⟨#[]⟩) (p' := none) (len' := 0) (cap' := 0) (.tmp 2) (.tmp 7) w.heap.size u ?_ ?_ ?_ ?_ ?_); rfl; rfl; rfl; rfl; intro w5 ho5 u5; have b5 := low_only b0 ho5 (Nat.le_refl _) b0.size))
  exact bodyPost_ret (v := .tuple #[.agg #[.int .i64 0, .bool false, .int .i64 0, .string ⟨#[]⟩, .string ⟨#[]⟩, .slice none 0 0], .bool false]) (results_six_tmp (p := 2) (q := 3) Tryz.results30 _ _ rfl rfl u5) rfl ⟨rfl, b5.is⟩
end Go.Proofs.YtanbgdhmfjgihaaGreatDoor
