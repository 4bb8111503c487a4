/- Texts of one kind, one behind the other: each says ahead of itself what it shows. -/
import Derived.Test.YtanbgdhmfjgihaaGreatDoorHau
/- What lies ahead of a sought value; what lies below a cursor. -/
namespace Go.Proofs.YtanbgdhmfjgihaaGreatDoor
open Go.RowKit

set_option maxHeartbeats 3200000 in
set_option maxRecDepth 20000 in
theorem aheadRaw (g j : Nat) (u v : V6) (z : Int) (w : World)
    (h64 : ∀ W, Low w.heap.size w W → Calls Tryz.prog 64 #[.pointer (some ⟨g, 0, none⟩), .int .i64 j] W fun e w' => e = .returned (.agg #[.int .i64 v.k, .bool v.b, .int .i64 v.n, .string v.t, .string v.x, .slice v.p v.len v.cap]) ∧ Low W.heap.size W w')
    (h74 : ∀ W, Low w.heap.size w W → Calls Tryz.prog 74 #[.agg #[.int .i64 v.k, .bool v.b, .int .i64 v.n, .string v.t, .string v.x, .slice v.p v.len v.cap], .agg #[.int .i64 u.k, .bool u.b, .int .i64 u.n, .string u.t, .string u.x, .slice u.p u.len u.cap]] W fun e w' => e = .returned (.int .i64 z) ∧ Low W.heap.size W w') :
    Calls Tryz.prog 61 #[.agg #[.pointer (some ⟨g, 0, none⟩), .int .i64 u.k, .bool u.b, .int .i64 u.n, .string u.t, .string u.x, .slice u.p u.len u.cap], .int .i64 j] w fun e w' => e = .returned (.bool (decide (z < 0))) ∧ Low w.heap.size w w' := by
  obtain ⟨W1, hW1⟩ : ∃ W1, W1 = w.alloc (.cells #[.pointer (some ⟨g, 0, none⟩), .int .i64 u.k, .bool u.b, .int .i64 u.n, .string u.t, .string u.x, .slice u.p u.len u.cap] 101) := ⟨_, rfl⟩
  have B : W1.heap[w.heap.size]? = some (.cells #[.pointer (some ⟨g, 0, none⟩), .int .i64 u.k, .bool u.b, .int .i64 u.n, .string u.t, .string u.x, .slice u.p u.len u.cap] 101) := by rw [hW1]; exact heap_new _ _ rfl
  have b0 : Low w.heap.size w W1 := by rw [hW1]; exact low1 _ _
  have BB : ∀ W, Low W1.heap.size W1 W → W.heap[w.heap.size]? = some (.cells #[.pointer (some ⟨g, 0, none⟩), .int .i64 u.k, .bool u.b, .int .i64 u.n, .string u.t, .string u.x, .slice u.p u.len u.cap] 101) := fun W h => (h.block _ (lt_of_heap B)).trans B
  have KB0 : Hid (∀ W, Low W1.heap.size W1 W → W.cell? ⟨w.heap.size, 0, none⟩ = some (.pointer (some ⟨g, 0, none⟩))) := Lib.hid fun W h => cell_of (BB W h) 0 rfl
  have KB1 : Hid (∀ W, Low W1.heap.size W1 W → W.rangeAt w.heap.size 1 [.int .i64 u.k, .bool u.b, .int .i64 u.n, .string u.t, .string u.x, .slice u.p u.len u.cap]) := Lib.hid fun W h => range6 (cell_of (BB W h) 1 rfl) (cell_of (BB W h) 2 rfl) (cell_of (BB W h) 3 rfl) (cell_of (BB W h) 4 rfl) (cell_of (BB W h) 5 rfl) (cell_of (BB W h) 6 rfl)
  have H64 := Lib.hid h64
  have H74 := Lib.hid h74
  have HW := Lib.hid hW1
  clear hW1 h64 h74 BB
  go_enter Tryz.func61, Tryz.ntmps61
  go_upto_region 1 with fail
  rw [← HW.out]
  refine wp_region_held_drew (S := fun W => Low W1.heap.size W1 W) (by kernel_rfl) (Low.refl _ _).drew (fun hHeld => ?_)
  refine wpAnyH_take (i := 0) (v := .pointer (some ⟨w.heap.size, 0, none⟩)) rfl (by kernel_rfl) (by kernel_rfl) (by kernel_rfl) (fun _ _ _ h => h) (Or.inl ⟨by rfl, fun W _ => by go_simp⟩) hHeld ?_
  try simp only [Act.put, List.getElem_toArray, List.getElem_cons_succ, List.getElem_cons_zero, List.setIfInBounds_toArray, List.set_cons_zero, List.set_cons_succ]
  refine wpAnyH_take (i := 1) (v := .pointer (some ⟨g, 0, none⟩)) rfl (by kernel_rfl) (by kernel_rfl) (by kernel_rfl) (fun _ _ _ h => h) (Or.inl ⟨by rfl, fun W h => by have c0 := KB0.out W h; go_simp⟩) hHeld ?_
  try simp only [Act.put, List.getElem_toArray, List.getElem_cons_succ, List.getElem_cons_zero, List.setIfInBounds_toArray, List.set_cons_zero, List.set_cons_succ]
  refine wpAnyH_take (i := 2) (v := .int .i64 j) rfl (by kernel_rfl) (by kernel_rfl) (by kernel_rfl) (fun _ _ _ h => h) (Or.inl ⟨by rfl, fun W _ => by go_simp⟩) hHeld ?_
  try simp only [Act.put, List.getElem_toArray, List.getElem_cons_succ, List.getElem_cons_zero, List.setIfInBounds_toArray, List.set_cons_zero, List.set_cons_succ]
  refine wpAnyH_take (i := 4) (v := .pointer (some ⟨w.heap.size, 1, none⟩)) rfl (by kernel_rfl) (by kernel_rfl) (by kernel_rfl) (fun _ _ _ h => h) (Or.inl ⟨by rfl, fun W _ => by go_simp⟩) hHeld ?_
  try simp only [Act.put, List.getElem_toArray, List.getElem_cons_succ, List.getElem_cons_zero, List.setIfInBounds_toArray, List.set_cons_zero, List.set_cons_succ]
  refine wpAnyH_take (i := 5) rfl (by kernel_rfl) (by kernel_rfl) (by kernel_rfl) (fun _ _ _ h => h) (yieldsIf_load_mid (by rfl) 39 (.tmp 9) rfl w.heap.size 1 rfl [.int .i64 u.k, .bool u.b, .int .i64 u.n, .string u.t, .string u.x, .slice u.p u.len u.cap] _ (fun w h => KB1.out w h) Tryz.underlying39 rfl info28) hHeld ?_
  try simp only [Act.put, List.getElem_toArray, List.getElem_cons_succ, List.getElem_cons_zero, List.setIfInBounds_toArray, List.set_cons_zero, List.set_cons_succ]
  refine wpAnyH_ready (rs := [3]) (by kernel_rfl) (by simp) ?_
  refine AllReadyH.cons rfl (fun K hK => ?_) AllReadyH.nil
  rw [if_pos (by rfl)]
  go_simp
  refine (H64.out _ (b0.trans (hHeld.mono b0.size))).mono ?_
  rintro e0 w3 ⟨rfl, hb3⟩
  have hH2 := low_any hHeld hb3 hHeld.size
  clear hb3
  refine hK.out _ _ hH2 (fun hH2 => ?_)
  clear hK K
  try simp only [Act.put, List.getElem_toArray, List.getElem_cons_succ, List.getElem_cons_zero, List.setIfInBounds_toArray, List.set_cons_zero, List.set_cons_succ]
  refine wpAnyH_ready (rs := [6]) (by kernel_rfl) (by simp) ?_
  refine AllReadyH.cons rfl (fun K hK => ?_) AllReadyH.nil
  rw [if_pos (by rfl)]
  go_simp
  refine (H74.out _ (b0.trans (hH2.mono b0.size))).mono ?_
  rintro e0 w3 ⟨rfl, hb3⟩
  have hH3 := low_any hH2 hb3 hH2.size
  clear hb3
  refine hK.out _ _ hH3 (fun hH3 => ?_)
  clear hK K
  try simp only [Act.put, List.getElem_toArray, List.getElem_cons_succ, List.getElem_cons_zero, List.setIfInBounds_toArray, List.set_cons_zero, List.set_cons_succ]
  refine wpAnyH_take (i := 7) (v := .bool (decide (z < 0))) rfl (by kernel_rfl) (by kernel_rfl) (by kernel_rfl) (fun _ _ _ h => h) (Or.inl ⟨by rfl, fun W _ => by go_simp⟩) hH3 ?_
  try simp only [Act.put, List.getElem_toArray, List.getElem_cons_succ, List.getElem_cons_zero, List.setIfInBounds_toArray, List.set_cons_zero, List.set_cons_succ]
  refine wpAnyH_take (i := 8) (v := .bool (decide (z < 0))) rfl (by kernel_rfl) (by kernel_rfl) (by kernel_rfl) (fun _ _ _ h => h) (Or.inl ⟨by rfl, fun W _ => by go_simp⟩) hH3 ?_
  try simp only [Act.put, List.getElem_toArray, List.getElem_cons_succ, List.getElem_cons_zero, List.setIfInBounds_toArray, List.set_cons_zero, List.set_cons_succ]
  refine wpAnyH_done (by kernel_rfl) ?_ _
  go_wp2_with fail
  go_ret
  exact ⟨rfl, b0.trans (hH3.mono b0.size)⟩
/-- Whether a place is ahead of what is sought. -/
def SM.less (s : SM) (u : Val) (k v j : Nat) : Bool := decide (orderI 1 ((s.vs[s.num k v j]?).getD (.mk 0 false 0 ⟨#[]⟩ ⟨#[]⟩ [])) u < 0)
theorem aheadC {W0 W : World} {s : SM} {g k : Nat} {c : CS} (h : At W0 s W g c k) (ok : SMok s) (hG : Gd W) (hT : Tab W) (h1 : 1 ≤ c.d) (h3 : c.d ≤ 3) (u : V6) (uv : Val) (q : List Val) (hu : Is W u uv q) (j : Nat) (hj : j < c.n) :
    Calls Tryz.prog 61 #[.agg #[.pointer (some ⟨g, 0, none⟩), .int .i64 u.k, .bool u.b, .int .i64 u.n, .string u.t, .string u.x, .slice u.p u.len u.cap], .int .i64 j] W fun e w' => e = .returned (.bool (s.less uv k c.lev j)) ∧ Low W.heap.size W w' := by
  obtain ⟨v, q2, i1, hv⟩ := valueC h ok h1 h3 j hj
  have hm := s.num_lt ok k c.lev j (by have := h.n; omega)
  have hl : s.less uv k c.lev j = decide (orderI 1 s.vs[s.num k c.lev j] uv < 0) := by
    unfold SM.less
    rw [List.getElem?_eq_getElem hm, Option.getD_some]
  rw [hl]
  obtain ⟨k0, b0, n0, t0, x0, p0, len0, cap0⟩ := v
  obtain ⟨k2, b2, n2, t2, x2, p2, len2, cap2⟩ := u
  obtain ⟨e1, l1, f1, d1⟩ := i1
  obtain ⟨e2, l2, f2, d2⟩ := hu
  simp only at e1 l1 f1 d1 e2 l2 f2 d2
  subst l1 l2
  refine aheadRaw g j ⟨k2, b2, n2, t2, x2, p2, q.length, cap2⟩ ⟨k0, b0, n0, t0, x0, p0, q2.length, cap0⟩ _ W hv (fun W' b => cmpValAt _ _ W' k0 b0 n0 t0 x0 q2 p0 cap0 k2 b2 n2 t2 x2 q p2 cap2 e1 e2 (hG.below b.is) (hT.below b.is) f1 f2 (Held.below q2 d1 b.is) (Held.below q d2 b.is))
end Go.Proofs.YtanbgdhmfjgihaaGreatDoor

/- What lies below a cursor; Next, Seek, Open, Key. -/
namespace Go.Proofs.YtanbgdhmfjgihaaGreatDoor
open Go.RowKit

theorem wpList_storeSpan {ops : Array Oper} {rest : List Oper} {o : Oper} {a : Act} {w : World} {Q : Exit → Act → World → Prop} {p q : Value} (u v : Int) (y z : Operand) (g : Nat) (hg : w.heap[g]? = some (.cells #[p, q] 90))
    (hgd : o.guard = none) (ho : o.op = .store 90 y z) (hx : a.eval y = .pointer (some ⟨g, 0, none⟩)) (hy : a.eval z = .agg #[.int .i64 u, .int .i64 v])
    (h : wpList Tryz.prog ops Q rest (a.put o.dst undef) (w.setRow g #[.int .i64 u, .int .i64 v])) : wpList Tryz.prog ops Q (o :: rest) a w :=
  wpList_store_row hgd 90 y z ho g #[.int .i64 u, .int .i64 v] hx hy 90 _ hg info90 rfl (by simp [Value.oneCell']) h
/-- Gallop, from any place. -/
theorem gallopAt (g : Nat) (b0 : Value) (eg : ∀ args w, (callFunc g args).run Tryz.prog w = .ok (.enter g args) w) (a e : Nat) (p : Nat → Bool) (w : World) (he : e < 1099511627776)
    (mono : ∀ i j, a ≤ i → i ≤ j → j < e → p j = true → p i = true)
    (hf : ∀ W, Low w.heap.size w W → ∀ j : Nat, a ≤ j → j < e → Calls Tryz.prog g #[b0, .int .i64 j] W fun x w' => x = .returned (.bool (p j)) ∧ Low W.heap.size W w') :
    Calls Tryz.prog 91 #[.agg #[.int .i64 a, .int .i64 e], .func (.func g) #[b0] #[]] w fun x w' => x = .returned (.int .i64 (gal p a (e - a) : Nat)) ∧ Low w.heap.size w w' := by
  by_cases h : a < e
  · cases hp : p a with
    | true => exact gallopSome g b0 eg a e p w h hp he mono hf
    | false =>
      have hz : gal p a (e - a) = a := by
        rw [show e - a = (e - a - 1) + 1 by omega, gal, if_neg (by rw [hp]; exact Bool.false_ne_true)]
      rw [hz]
      exact gallopStop g b0 eg a e w h fun W b => by have := hf W b a (Nat.le_refl _) h; rwa [hp] at this
  · rw [show e - a = 0 by omega, gal]
    exact gallopNone g b0 a e w (by omega)
theorem eg59 : ∀ args w, (callFunc 59 args).run Tryz.prog w = .ok (.enter 59 args) w := enters_of Tryz.func59 (by kernel_rfl) rfl
theorem eg61 : ∀ args w, (callFunc 61 args).run Tryz.prog w = .ok (.enter 61 args) w := enters_of Tryz.func61 (by kernel_rfl) rfl


set_option maxHeartbeats 3200000 in
set_option maxRecDepth 20000 in
theorem belowRaw (g a e r d : Nat) (w : World) (hd : 1 ≤ d) (hd3 : d ≤ 3) (k11 : w.cell? ⟨g, 11, none⟩ = some (.int .i64 d))
    (h65 : ∀ W, Low w.heap.size w W → Calls Tryz.prog 65 #[.pointer (some ⟨g, 0, none⟩)] W fun e' w' => e' = .returned (.agg #[.int .i64 a, .int .i64 e]) ∧ Low W.heap.size W w')
    (h91 : ∀ W, Low w.heap.size w W → Calls Tryz.prog 91 #[.agg #[.int .i64 a, .int .i64 e], .func (.func 59) #[.pointer (some ⟨g, 0, none⟩)] #[]] W fun e' w' => e' = .returned (.int .i64 r) ∧ Low W.heap.size W w') :
    Calls Tryz.prog 55 #[.pointer (some ⟨g, 0, none⟩)] w fun e' w' => e' = .returned (.agg #[.int .i64 a, .int .i64 r]) ∧ Low w.heap.size w w' := by
  obtain ⟨W1, hW1⟩ : ∃ W1, W1 = w.alloc (.cells #[.int .i64 0, .int .i64 0] 90) := ⟨_, rfl⟩
  have BR : W1.heap[w.heap.size]? = some (.cells #[.int .i64 0, .int .i64 0] 90) := by rw [hW1]; exact heap_new _ _ rfl
  have b0 : Low w.heap.size w W1 := by rw [hW1]; exact low1 _ _
  have c11 : W1.cell? ⟨g, 11, none⟩ = some (.int .i64 d) := (b0.cell (p := ⟨g, 11, none⟩) (World.block_lt_of_cell? w _ k11)).trans k11
  have e1 : ((d : Int) == 0) = false := by simp; omega
  have H65 := Lib.hid h65
  have HG := Lib.hid h91
  have HW := Lib.hid hW1
  clear hW1 h65 h91
  go_enter Tryz.func55, Tryz.ntmps55
  go_upto_region 4 with (first
    | (go_at_call 65; (with_reducible refine (H65.out _ b0).mono ?_); rintro e0 w3 ⟨rfl, hb3⟩; replace b0 := low_any b0 hb3 b0.size; replace BR := (hb3.block _ (lt_of_heap BR)).trans BR; clear hb3 c11)
    | (rw [← HW.out]))
  have hne : w3.heap.size ≠ w.heap.size := by have := lt_of_heap BR; omega
  generalize hw4 : w3.alloc (Obj.cells #[Value.int IntKind.i64 a, Value.int IntKind.i64 e] 90) = w4
  have KB : w4.heap[w3.heap.size]? = some (.cells #[.int .i64 a, .int .i64 e] 90) := by rw [← hw4]; exact heap_new _ _ rfl
  replace b0 : Low w.heap.size w w4 := by rw [← hw4]; exact b0.alloc b0.size _
  replace BR : w4.heap[w.heap.size]? = some (.cells #[.int .i64 0, .int .i64 0] 90) := by rw [← hw4]; exact heap_old _ BR
  generalize w3.heap.size = b3 at *
  clear hw4
  refine wp_region_held_drew (S := fun W => W.heap[b3]? = some (.cells #[.int .i64 a, .int .i64 e] 90)) (by kernel_rfl) KB (fun hHeld => ?_)
  refine wpAnyH_take (i := 0) (v := .pointer (some ⟨b3, 0, none⟩)) rfl (by kernel_rfl) (by kernel_rfl) (by kernel_rfl) (fun _ _ _ h => h) (Or.inl ⟨by rfl, fun W _ => by go_simp⟩) hHeld ?_
  try simp only [Act.put, List.getElem_toArray, List.getElem_cons_succ, List.getElem_cons_zero, List.setIfInBounds_toArray, List.set_cons_zero, List.set_cons_succ]
  refine wpAnyH_take (i := 1) (v := .int .i64 a) rfl (by kernel_rfl) (by kernel_rfl) (by kernel_rfl) (fun _ _ _ h => h) (Or.inl ⟨by rfl, fun W h => by have c0 := cell_of h 0 rfl; go_simp⟩) hHeld ?_
  try simp only [Act.put, List.getElem_toArray, List.getElem_cons_succ, List.getElem_cons_zero, List.setIfInBounds_toArray, List.set_cons_zero, List.set_cons_succ]
  refine wpAnyH_take (i := 2) rfl (by kernel_rfl) (by kernel_rfl) (by kernel_rfl) (fun _ _ _ h => h) (yieldsIf_load_mid (by rfl) 90 (.tmp 3) rfl b3 0 rfl [.int .i64 a, .int .i64 e] _ (fun w h => span2 h) Tryz.underlying90 rfl info90) hHeld ?_
  try simp only [Act.put, List.getElem_toArray, List.getElem_cons_succ, List.getElem_cons_zero, List.setIfInBounds_toArray, List.set_cons_zero, List.set_cons_succ]
  refine wpAnyH_take (i := 3) (v := .pointer (some ⟨g, 0, none⟩)) rfl (by kernel_rfl) (by kernel_rfl) (by kernel_rfl) (fun _ _ _ h => h) (Or.inl ⟨by rfl, fun W _ => by go_simp⟩) hHeld ?_
  try simp only [Act.put, List.getElem_toArray, List.getElem_cons_succ, List.getElem_cons_zero, List.setIfInBounds_toArray, List.set_cons_zero, List.set_cons_succ]
  refine wpAnyH_take (i := 4) (v := .func (.func 59) #[.pointer (some ⟨g, 0, none⟩)] #[]) rfl (by kernel_rfl) (by kernel_rfl) (by kernel_rfl) (fun _ _ _ h => h) (Or.inl ⟨by rfl, fun W _ => by go_simp⟩) hHeld ?_
  try simp only [Act.put, List.getElem_toArray, List.getElem_cons_succ, List.getElem_cons_zero, List.setIfInBounds_toArray, List.set_cons_zero, List.set_cons_succ]
  refine wpAnyH_ready (rs := [5]) (by kernel_rfl) (by simp) ?_
  refine AllReadyH.cons rfl (fun K hK => ?_) AllReadyH.nil
  rw [if_pos (by rfl)]
  go_simp
  refine (HG.out _ b0.drew).mono ?_
  rintro e0 w3 ⟨rfl, hb3⟩
  have b1 := low_any b0.drew hb3 b0.size
  have KB2 := (hb3.block _ (lt_of_heap KB)).trans KB
  have BR2 := (hb3.block _ (lt_of_heap BR)).trans BR
  clear hb3
  refine hK.out _ _ KB2 (fun hH2 => ?_)
  clear hK K
  try simp only [Act.put, List.getElem_toArray, List.getElem_cons_succ, List.getElem_cons_zero, List.setIfInBounds_toArray, List.set_cons_zero, List.set_cons_succ]
  refine wpAnyH_take (i := 6) (v := .agg #[.int .i64 a, .int .i64 r]) rfl (by kernel_rfl) (by kernel_rfl) (by kernel_rfl) (fun _ _ _ h => h) (Or.inl ⟨by rfl, fun W _ => by go_simp⟩) hH2 ?_
  try simp only [Act.put, List.getElem_toArray, List.getElem_cons_succ, List.getElem_cons_zero, List.setIfInBounds_toArray, List.set_cons_zero, List.set_cons_succ]
  refine wpAnyH_ready (rs := [7]) (by kernel_rfl) (by simp) ?_
  refine AllReadyH.cons rfl (fun K hK => ?_) AllReadyH.nil
  rw [if_pos (by rfl)]
  have b2 := low_only b1 (Only.setRow (b := w.heap.size) w3 #[.int .i64 a, .int .i64 r]) (Nat.le_refl _) b1.size
  have KB3 := ((Only.setRow (b := w.heap.size) w3 #[.int .i64 a, .int .i64 r]).block b3 (lt_of_heap KB2) hne).trans KB2
  refine wp_store_row 90 (.tmp 2) (.tmp 23) rfl w.heap.size #[.int .i64 a, .int .i64 r] rfl rfl 90 _ BR2 info90 rfl (by simp [Value.oneCell']) ?_
  have u5 := heap_setRow (w := w3) (g := w.heap.size) (c' := #[.int .i64 a, .int .i64 r]) BR2
  generalize w3.setRow w.heap.size #[.int .i64 a, .int .i64 r] = w5 at *
  refine hK.out _ _ KB3 (fun _ => ?_)
  clear hK K
  refine wpAnyH_done (by kernel_rfl) ?_ _
  go_wp2_with fail
  exact bodyPost_ret (v := .agg #[.int .i64 a, .int .i64 r]) (results_cell_row (p := 2) (ty := 90) Tryz.results55 _ _ w.heap.size 90 _ (0, 0) _ rfl u5 Tryz.underlying90 rfl (by exact info90)) rfl ⟨rfl, b2⟩
/-- What lies below: from where to where. -/
def SM.same (s : SM) (k v a j : Nat) : Bool := s.num k v j == s.num k v a
def CS.bot (c : CS) (s : SM) (k : Nat) : Nat := gal (s.same k c.lev c.pos) c.pos (c.fin - c.pos)
theorem belowC {W0 W : World} {s : SM} {g k : Nat} {c : CS} (h : At W0 s W g c k) (ok : SMok s) (h1 : 1 ≤ c.d) (h3 : c.d ≤ 3) (hf : c.fin ≤ c.n)
    (mono : ∀ i j, c.pos ≤ i → i ≤ j → j < c.fin → s.same k c.lev c.pos j = true → s.same k c.lev c.pos i = true) :
    Calls Tryz.prog 55 #[.pointer (some ⟨g, 0, none⟩)] W fun e w' => e = .returned (.agg #[.int .i64 c.pos, .int .i64 (c.bot s k)]) ∧ Low W.heap.size W w' := by
  have hn := h.n
  have hl := ok.nl k
  refine belowRaw g c.pos c.fin (c.bot s k) c.d W h1 h3 h.B.c11 (fun W' b => hereC (h.low b) h1 h3) (fun W' b => ?_)
  exact gallopAt 59 _ eg59 c.pos c.fin (s.same k c.lev c.pos) W' (by omega) mono (fun W2 b2 j hj hj2 => holdsC ((h.low b).low b2) ok h1 h3 j (by omega) (by omega))
set_option maxHeartbeats 3200000 in
set_option maxRecDepth 20000 in
theorem belowTop {W : World} {g : Nat} {c : CS} (B : Cur W g c) (h0 : c.d = 0) :
    Calls Tryz.prog 55 #[.pointer (some ⟨g, 0, none⟩)] W fun e w' => e = .returned (.agg #[.int .i64 0, .int .i64 c.n]) ∧ Low W.heap.size W w' := by
  obtain ⟨W1, hW1⟩ : ∃ W1, W1 = W.alloc (.cells #[.int .i64 0, .int .i64 0] 90) := ⟨_, rfl⟩
  have BR : W1.heap[W.heap.size]? = some (.cells #[.int .i64 0, .int .i64 0] 90) := by rw [hW1]; exact heap_new _ _ rfl
  have b0 : Low W.heap.size W W1 := by rw [hW1]; exact low1 _ _
  have B1 := B.low b0
  have c11 : W1.cell? ⟨g, 11, none⟩ = some (.int .i64 0) := by have := B1.c11; rw [h0] at this; exact this
  have c1 : W1.cell? ⟨g, 1, none⟩ = some (.slice c.pl c.n c.cl) := B1.cell 1 _ rfl
  have b2 := low_only b0 (Only.setRow (b := W.heap.size) W1 #[.int .i64 0, .int .i64 c.n]) (Nat.le_refl _) b0.size
  have u5 := heap_setRow (w := W1) (g := W.heap.size) (c' := #[.int .i64 0, .int .i64 c.n]) BR
  have HW := Lib.hid hW1
  clear hW1 B B1 b0
  go_enter Tryz.func55, Tryz.ntmps55
  go_upto_region 1 with fail
  rw [← HW.out]
  go_wp2_with ((with_reducible refine wpList_storeSpan 0 c.n (.tmp 2) (.tmp 14) W.heap.size BR ?_ ?_ ?_ ?_ ?_); rfl; rfl; rfl; rfl; generalize W1.setRow W.heap.size #[.int .i64 0, .int .i64 c.n] = w5 at *)
  exact bodyPost_ret (v := .agg #[.int .i64 0, .int .i64 c.n]) (results_cell_row (p := 2) (ty := 90) Tryz.results55 _ _ W.heap.size 90 _ (0, 0) _ rfl u5 Tryz.underlying90 rfl (by exact info90)) rfl ⟨rfl, b2⟩
end Go.Proofs.YtanbgdhmfjgihaaGreatDoor
