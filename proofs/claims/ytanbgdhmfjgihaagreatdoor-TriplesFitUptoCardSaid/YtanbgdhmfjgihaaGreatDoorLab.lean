/- Texts of one kind, one behind the other: each says ahead of itself what it shows. -/
import Derived.Test.YtanbgdhmfjgihaaGreatDoorLaa
import Derived.Lib.IndexMore
import Derived.Lib.TrimByte
import Derived.BigGuardPart
/- gallop, walked. -/
namespace Go.Proofs.YtanbgdhmfjgihaaGreatDoor
open Go.RowKit

theorem countP_upto (q : Nat → Bool) : (n c : Nat) → c ≤ n → (∀ t, t < c → q t = true) → (∀ t, c ≤ t → t < n → q t = false) → (List.range n).countP q = c
  | 0, c, h, _, _ => by
    obtain rfl : c = 0 := by omega
    rfl
  | n + 1, c, h, h1, h2 => by
    rw [List.range_succ, List.countP_append]
    by_cases e : c = n + 1
    · subst e
      rw [countP_upto q n n (Nat.le_refl _) (fun t ht => h1 t (by omega)) (fun t h3 h4 => by omega)]
      simp [h1 n (by omega)]
    · rw [countP_upto q n c (by omega) h1 (fun t h3 h4 => h2 t h3 (by omega))]
      simp [h2 n (by omega) (by omega)]
theorem count_gal (p : Nat → Bool) (f n : Nat) (mono : ∀ i j, i ≤ j → j < n → p (f + j) = true → p (f + i) = true) : (List.range n).countP (fun i => !(!p (f + i))) = gal p f n - f := by
  have g1 := gal_ge p n f
  have g2 := gal_le p n f
  refine countP_upto _ n (gal p f n - f) (by omega) (fun t ht => ?_) (fun t h3 h5 => ?_)
  · show (!(!p (f + t))) = true
    rw [gal_yes p n f (f + t) (by omega) (by omega)]; rfl
  · show (!(!p (f + t))) = false
    cases h : p (f + t) with
    | false => rfl
    | true =>
      have := mono (gal p f n - f) t h3 h5 h
      rw [show f + (gal p f n - f) = gal p f n by omega, gal_no p n f (by omega)] at this
      cases this
theorem span2 {W : World} {b a e : Nat} (h : W.heap[b]? = some (.cells #[.int .i64 a, .int .i64 e] 90)) : W.rangeAt b 0 [.int .i64 a, .int .i64 e] := range2 (cell_of h _ rfl) (cell_of h _ rfl)

theorem wpList_span {ops : Array Oper} {rest : List Oper} {o : Oper} {a : Act} {w : World} {Q : Exit → Act → World → Prop} (y : Operand) (g off : Nat) (u v : Nat) (h6 : w.rangeAt g off [.int .i64 u, .int .i64 v])
    (hgd : o.guard = none) (ho : o.op = .load 90 y) (hx : a.eval y = .pointer (some ⟨g, off, none⟩))
    (h : wpList Tryz.prog ops Q rest (a.put o.dst (.agg #[.int .i64 u, .int .i64 v])) w) : wpList Tryz.prog ops Q (o :: rest) a w :=
  wpList_load_mid hgd 90 y ho g off hx [.int .i64 u, .int .i64 v] _ h6 Tryz.underlying90 rfl info90 h
set_option maxHeartbeats 3200000 in
set_option maxRecDepth 20000 in
theorem gallopNone (g : Nat) (b0 : Value) (a e : Nat) (w : World) (h : e ≤ a) :
    Calls Tryz.prog 91 #[.agg #[.int .i64 a, .int .i64 e], .func (.func g) #[b0] #[]] w fun x w' => x = .returned (.int .i64 a) ∧ Low w.heap.size w w' := by
  obtain ⟨W1, hW1⟩ : ∃ W1, W1 = (w.alloc (.cells #[.int .i64 a, .int .i64 e] 90)).alloc (.cells #[.func (.func g) #[b0] #[]] 98) := ⟨_, rfl⟩
  have B : W1.heap[w.heap.size]? = some (.cells #[.int .i64 a, .int .i64 e] 90) := by rw [hW1]; exact heap_old _ (heap_new _ _ rfl)
  have b0' : Low w.heap.size w W1 := by rw [hW1]; exact low2 _ _ _
  have he := fun W => emptyAt a e W
  rw [decide_eq_true h] at he
  have HW := Lib.hid hW1
  clear hW1
  go_enter Tryz.func91, Tryz.ntmps91
  go_wp2_with (first
    | (rw [← HW.out]; (with_reducible refine wpList_span (.tmp 2) w.heap.size 0 a e (span2 B) ?_ ?_ ?_ ?_); rfl; rfl; rfl)
    | (go_at_call 56; (with_reducible refine (he _).mono ?_); rintro e w3 ⟨rfl, hb3⟩; replace b0' := low_any b0' hb3 b0'.size; replace B := (hb3.block _ (lt_of_heap B)).trans B; clear hb3; have c0 := cell_of B 0 rfl))
  go_ret
  exact ⟨rfl, b0'⟩

set_option maxHeartbeats 3200000 in
set_option maxRecDepth 20000 in
theorem gallopStop (g : Nat) (b0 : Value) (eg : ∀ args w, (callFunc g args).run Tryz.prog w = .ok (.enter g args) w) (a e : Nat) (w : World) (h : a < e)
    (hf : ∀ W, Low w.heap.size w W → Calls Tryz.prog g #[b0, .int .i64 a] W fun x w' => x = .returned (.bool false) ∧ Low W.heap.size W w') :
    Calls Tryz.prog 91 #[.agg #[.int .i64 a, .int .i64 e], .func (.func g) #[b0] #[]] w fun x w' => x = .returned (.int .i64 a) ∧ Low w.heap.size w w' := by
  obtain ⟨W1, hW1⟩ : ∃ W1, W1 = (w.alloc (.cells #[.int .i64 a, .int .i64 e] 90)).alloc (.cells #[.func (.func g) #[b0] #[]] 98) := ⟨_, rfl⟩
  have B : W1.heap[w.heap.size]? = some (.cells #[.int .i64 a, .int .i64 e] 90) := by rw [hW1]; exact heap_old _ (heap_new _ _ rfl)
  have B2 : W1.heap[w.heap.size + 1]? = some (.cells #[.func (.func g) #[b0] #[]] 98) := by rw [hW1]; exact heap_new _ _ (by simp)
  have b0' : Low w.heap.size w W1 := by rw [hW1]; exact low2 _ _ _
  have he := fun W => emptyAt a e W
  rw [decide_eq_false (by omega)] at he
  have HW := Lib.hid hW1
  clear hW1
  go_enter Tryz.func91, Tryz.ntmps91
  go_wp2_with (first
    | (rw [← HW.out]; (with_reducible refine wpList_span (.tmp 2) w.heap.size 0 a e (span2 B) ?_ ?_ ?_ ?_); rfl; rfl; rfl)
    | (go_at_call 56; (with_reducible refine (he _).mono ?_); rintro e w3 ⟨rfl, hb3⟩; replace b0' := low_any b0' hb3 b0'.size; replace B := (hb3.block _ (lt_of_heap B)).trans B; replace B2 := (hb3.block _ (lt_of_heap B2)).trans B2; clear hb3; have c0 := cell_of B 0 rfl; have c1 := cell_of B2 0 rfl)
    | (go_at_fn g; (with_reducible refine (hf _ b0').mono ?_); rintro e w3 ⟨rfl, hb3⟩; replace b0' := low_any b0' hb3 b0'.size; replace B := (hb3.block _ (lt_of_heap B)).trans B; clear hb3 c0 c1; have c0 := cell_of B 0 rfl))
  go_ret
  exact ⟨rfl, b0'⟩
end Go.Proofs.YtanbgdhmfjgihaaGreatDoor

/- gallop where its test holds at the first place. -/
namespace Go.Proofs.YtanbgdhmfjgihaaGreatDoor
open Go.RowKit

/-- What is left behind the leaps. -/
theorem gal_rest (p : Nat → Bool) (a e x s left : Nat) (ha : a ≤ x) (hx : x < e) (hs : 1 ≤ s) (hp : p x = true) (mono : ∀ i j, a ≤ i → i ≤ j → j < e → p j = true → p i = true) (hl : left = min (x + s) e - (x + 1))
    (hend : x + s < e → p (x + s) = false) : x + 1 + (List.range left).countP (fun i => !(!p (x + 1 + i))) = gal p a (e - a) := by
  rw [count_gal p (x + 1) left (fun i j hij hj h => mono _ _ (by omega) (by omega) (by omega) h)]
  have g1 := gal_ge p left (x + 1)
  have g2 := gal_le p left (x + 1)
  symm
  refine gal_is p a (e - a) _ (by omega) (by omega) (fun j h1 h2 => ?_) (fun h => ?_)
  · by_cases c : j ≤ x
    · exact mono j x h1 c hx hp
    · exact gal_yes p left (x + 1) j (by omega) (by omega)
  · rw [show x + 1 + (gal p (x + 1) left - (x + 1)) = gal p (x + 1) left by omega] at h ⊢
    by_cases c : gal p (x + 1) left < x + 1 + left
    · exact gal_no p left (x + 1) c
    · have e1 : gal p (x + 1) left = x + s := by omega
      rw [e1] at h ⊢
      exact hend (by omega)
theorem eg118 : ∀ args w, (callFunc 118 args).run Tryz.prog w = .ok (.enter 118 args) w := enters_of Tryz.func118 (by kernel_rfl) rfl

set_option maxHeartbeats 6400000 in
set_option maxRecDepth 20000 in
theorem gallopSome (g : Nat) (b0 : Value) (eg : ∀ args w, (callFunc g args).run Tryz.prog w = .ok (.enter g args) w) (a e : Nat) (p : Nat → Bool) (w : World) (h : a < e) (hp : p a = true) (he : e < 1099511627776)
    (mono : ∀ i j, a ≤ i → i ≤ j → j < e → p j = true → p i = true)
    (hf : ∀ W, Low w.heap.size w W → ∀ j : Nat, a ≤ j → j < e → Calls Tryz.prog g #[b0, .int .i64 j] W fun x w' => x = .returned (.bool (p j)) ∧ Low W.heap.size W w') :
    Calls Tryz.prog 91 #[.agg #[.int .i64 a, .int .i64 e], .func (.func g) #[b0] #[]] w fun x w' => x = .returned (.int .i64 (gal p a (e - a) : Nat)) ∧ Low w.heap.size w w' := by
  obtain ⟨W1, hW1⟩ : ∃ W1, W1 = (w.alloc (.cells #[.int .i64 a, .int .i64 e] 90)).alloc (.cells #[.func (.func g) #[b0] #[]] 98) := ⟨_, rfl⟩
  have B : W1.heap[w.heap.size]? = some (.cells #[.int .i64 a, .int .i64 e] 90) := by rw [hW1]; exact heap_old _ (heap_new _ _ rfl)
  have B2 : W1.heap[w.heap.size + 1]? = some (.cells #[.func (.func g) #[b0] #[]] 98) := by rw [hW1]; exact heap_new _ _ (by simp)
  have b0' : Low w.heap.size w W1 := by rw [hW1]; exact low2 _ _ _
  have hemp := fun W => emptyAt a e W
  rw [decide_eq_false (by omega)] at hemp
  have hfa := fun W (h : Low w.heap.size w W) => hf W h a (Nat.le_refl _) ‹a < e›
  rw [hp] at hfa
  have HF := Lib.hid hf
  have HM := Lib.hid mono
  have HP := Lib.hid hp
  have HW := Lib.hid hW1
  clear hW1 mono hf hp
  go_enter Tryz.func91, Tryz.ntmps91
  go_wp2_with (first
    | (rw [← HW.out]; (with_reducible refine wpList_span (.tmp 2) w.heap.size 0 a e (span2 B) ?_ ?_ ?_ ?_); rfl; rfl; rfl)
    | (go_at_call 56; (with_reducible refine (hemp _).mono ?_); rintro e0 w3 ⟨rfl, hb3⟩; replace b0' := low_any b0' hb3 b0'.size; replace B := (hb3.block _ (lt_of_heap B)).trans B; replace B2 := (hb3.block _ (lt_of_heap B2)).trans B2; clear hb3; have c0 := cell_of B 0 rfl; have c1 := cell_of B2 0 rfl)
    | (go_at_fn g; (with_reducible refine (hfa _ b0').mono ?_); rintro e0 w3 ⟨rfl, hb3⟩; replace b0' := low_any b0' hb3 b0'.size; replace B := (hb3.block _ (lt_of_heap B)).trans B; replace B2 := (hb3.block _ (lt_of_heap B2)).trans B2; clear hb3 c0 c1; have c0 := cell_of B 0 rfl))
  clear hfa hemp c0
  go_loopg [5, 6] (e - a) (fun gg s5 s6 wr => ∃ x s : Nat, s5 = .int .i64 x ∧ s6 = .int .i64 s ∧ a ≤ x ∧ x < e ∧ e - x ≤ gg ∧ 1 ≤ s ∧ s < 2199023255552 ∧ Hid (p x = true) ∧ Low w.heap.size w wr ∧ Hid (wr.heap[w.heap.size]? = some (.cells #[.int .i64 a, .int .i64 e] 90)) ∧ Hid (wr.heap[w.heap.size + 1]? = some (.cells #[.func (.func g) #[b0] #[]] 98)))
  case atStart => exact ⟨a, 1, rfl, rfl, Nat.le_refl _, h, Nat.le_refl _, Nat.le_refl _, by omega, HP, b0', Lib.hid B, Lib.hid B2⟩
  case round =>
    clear B B2 b0'
    obtain ⟨x, s, rfl, rfl, hax, hxe, hgg, hs1, hs2, hpx, bw, hB, hB2⟩ := hrel
    have B := hB.out
    have B2 := hB2.out
    have c1 := cell_of B 1 rfl
    have c2 := cell_of B2 0 rfl
    by_cases hlt : x + s < e
    · have hlt' : (x : Int) + s < e := by omega
      have hq := fun W (h : Low w.heap.size w W) => HF.out W h (x + s) (by omega) hlt
      rw [show ((x + s : Nat) : Int) = (x : Int) + s by omega] at hq
      cases hps : p (x + s) with
      | true =>
        rw [hps] at hq
        have HPS := Lib.hid hps
        clear hps
        go_wp2_with (go_at_fn g; (with_reducible refine (hq _ bw).mono ?_); rintro e0 w3 ⟨rfl, hb3⟩; replace bw := low_any bw hb3 bw.size; replace B := (hb3.block _ (lt_of_heap B)).trans B; replace B2 := (hb3.block _ (lt_of_heap B2)).trans B2; clear hb3 c1 c2)
        go_roundg (e - (x + s))
        case measure => omega
        case rel => exact ⟨x + s, s * 2, by go_num, by go_num, by omega, hlt, by omega, by omega, by omega, HPS, bw, Lib.hid B, Lib.hid B2⟩
      | false =>
        rw [hps] at hq
        have hend : x + s < e → p (x + s) = false := fun _ => hps
        have HE := Lib.hid (gal_rest p a e x s (s - 1) hax hxe hs1 hpx.out HM.out (by omega) hend)
        have hmin : min ((x : Int) + s) e = (x : Int) + s := by omega
        clear hend hps
        go_upto_region 8 with (go_at_fn g; (with_reducible refine (hq _ bw).mono ?_); rintro e0 w3 ⟨rfl, hb3⟩; replace bw := low_any bw hb3 bw.size; replace B := (hb3.block _ (lt_of_heap B)).trans B; replace B2 := (hb3.block _ (lt_of_heap B2)).trans B2; clear hb3 c1 c2)
        generalize hw4 : w3.alloc (Obj.cells #[Value.int IntKind.i64 ((x : Int) + 1)] 3) = w4
        replace bw : Low w.heap.size w w4 := by rw [← hw4]; exact bw.alloc bw.size _
        replace B : w4.heap[w.heap.size]? = some (.cells #[.int .i64 a, .int .i64 e] 90) := by rw [← hw4]; exact heap_old _ B
        replace B2 : w4.heap[w.heap.size + 1]? = some (.cells #[.func (.func g) #[b0] #[]] 98) := by rw [← hw4]; exact heap_old _ B2
        have B7 : w4.heap[w3.heap.size]? = some (.cells #[.int .i64 ((x : Int) + 1)] 3) := by rw [← hw4]; exact heap_new _ _ rfl
        generalize w3.heap.size = b7 at *
        have c1 := cell_of B 1 rfl
        have c7 := cell_of B7 0 rfl
        have HC : ∀ n, Calls Tryz.prog 117 #[.int .i64 ((s - 1 : Nat) : Int), .func (.func 118) #[] #[.pointer (some ⟨w.heap.size + 1, 0, none⟩), .pointer (some ⟨b7, 0, none⟩)]] (w4.drewN n) fun x' w' => x' = .returned (.int .i64 ((List.range (s - 1)).countP (fun i => !(!p (x + 1 + i))) : Nat)) ∧ Low (w4.drewN n).heap.size (w4.drewN n) w' := fun n =>
          searchL 118 #[.pointer (some ⟨w.heap.size + 1, 0, none⟩), .pointer (some ⟨b7, 0, none⟩)] (s - 1) (fun i => !p (x + 1 + i)) (w4.drewN n) eg118 (by omega)
            (fun W hW i hi => passAt g b0 eg (w.heap.size + 1) b7 (x + 1) i (p (x + 1 + i)) W (by omega) (cell_of ((hW.block _ (lt_of_heap B2)).trans B2) 0 rfl) (cell_of ((hW.block _ (lt_of_heap B7)).trans B7) 0 rfl)
              (by have := HF.out W (low_any (low_drewN bw n) hW (low_drewN bw n).size) (x + 1 + i) (by omega) (by omega); simpa using this))
            (fun i j hij hj h => by
              cases hh : p (x + 1 + j) with
              | false => rfl
              | true => rw [HM.out (x + 1 + i) (x + 1 + j) (by omega) (by omega) (by omega) hh] at h; cases h)
        have hleft : ((s - 1 : Nat) : Int) = (x : Int) + s - ((x : Int) + 1) := by omega
        rw [hleft] at HC
        have HC := Lib.hid HC
        clear hleft hw4
        go_upto_region 9 with fail
        refine wp_region_held_drew (S := fun W => W.cell? ⟨b7, 0, none⟩ = some (.int .i64 ((x : Int) + 1))) (by kernel_rfl) c7 (fun hHeld => ?_)
        replace bw := bw.drew
        have HC := HC.out 1
        refine wpAnyH_take (i := 0) (v := .int .i64 ((x : Int) + 1)) rfl (by kernel_rfl) (by kernel_rfl) (by kernel_rfl) (fun _ _ _ h => h) (Or.inl ⟨by rfl, fun W h => by have c0 := h; go_simp⟩) hHeld ?_
        try simp only [putS]
        refine wpAnyH_take (i := 1) (v := .int .i64 ((x : Int) + s - ((x : Int) + 1))) rfl (by kernel_rfl) (by kernel_rfl) (by kernel_rfl) (fun _ _ _ h => h) (Or.inl ⟨by rfl, fun W _ => by go_simp⟩) hHeld ?_
        try simp only [putS]
        refine wpAnyH_take (i := 2) (v := .func (.func 118) #[] #[.pointer (some ⟨w.heap.size + 1, 0, none⟩), .pointer (some ⟨b7, 0, none⟩)]) rfl (by kernel_rfl) (by kernel_rfl) (by kernel_rfl) (fun _ _ _ h => h) (Or.inl ⟨by rfl, fun W _ => by go_simp⟩) hHeld ?_
        try simp only [putS]
        refine wpAnyH_ready (rs := [3]) (by kernel_rfl) (by simp) ?_
        refine AllReadyH.cons rfl (fun K hK => ?_) AllReadyH.nil
        rw [if_pos (by rfl)]
        go_simp
        refine (HC).mono ?_
        rintro e0 w3 ⟨rfl, hb3⟩
        have h7 : w3.cell? ⟨b7, 0, none⟩ = some (.int .i64 ((x : Int) + 1)) := (hb3.cell (p := ⟨b7, 0, none⟩) (lt_of_heap B7)).trans hHeld
        replace bw := low_any bw hb3 bw.size
        clear HC
        refine hK.out _ _ h7 (fun hHeld => ?_)
        clear hK K
        try simp only [putS]
        have hres : ((x : Int) + 1) + ((List.range (s - 1)).countP (fun i => !(!p (x + 1 + i))) : Nat) = (gal p a (e - a) : Nat) := by rw [← HE.out]; omega
        have hgl := gal_le p (e - a) a
        have hwr : IntKind.i64.wrap ((gal p a (e - a) : Nat) : Int) = (gal p a (e - a) : Nat) := IntWalk.i64_in _ (by omega)
        generalize ((List.range (s - 1)).countP (fun i => !(!p (x + 1 + i))) : Nat) = cnt at *
        refine wpAnyH_take (i := 4) (v := .int .i64 (gal p a (e - a) : Nat)) rfl (by kernel_rfl) (by kernel_rfl) (by kernel_rfl) (fun _ _ _ h => h) (Or.inl ⟨by rfl, fun W _ => by go_simp⟩) hHeld ?_
        try simp only [putS]
        refine wpAnyH_take (i := 5) (v := .int .i64 (gal p a (e - a) : Nat)) rfl (by kernel_rfl) (by kernel_rfl) (by kernel_rfl) (fun _ _ _ h => h) (Or.inl ⟨by rfl, fun W _ => by go_simp⟩) hHeld ?_
        try simp only [putS]
        refine wpAnyH_done (by kernel_rfl) ?_ _
        go_wp2_with fail
        go_ret
        exact ⟨rfl, bw⟩
    · have hlt' : ¬ (x : Int) + s < e := by omega
      have HE := Lib.hid (gal_rest p a e x s (e - (x + 1)) hax hxe hs1 hpx.out HM.out (by omega) (fun h => absurd h hlt))
      have hmin : min ((x : Int) + s) e = e := by omega
      go_upto_region 8 with fail
      generalize hw4 : wr.alloc (Obj.cells #[Value.int IntKind.i64 ((x : Int) + 1)] 3) = w4
      replace bw : Low w.heap.size w w4 := by rw [← hw4]; exact bw.alloc bw.size _
      replace B : w4.heap[w.heap.size]? = some (.cells #[.int .i64 a, .int .i64 e] 90) := by rw [← hw4]; exact heap_old _ B
      replace B2 : w4.heap[w.heap.size + 1]? = some (.cells #[.func (.func g) #[b0] #[]] 98) := by rw [← hw4]; exact heap_old _ B2
      have B7 : w4.heap[wr.heap.size]? = some (.cells #[.int .i64 ((x : Int) + 1)] 3) := by rw [← hw4]; exact heap_new _ _ rfl
      generalize wr.heap.size = b7 at *
      have c1 := cell_of B 1 rfl
      have c7 := cell_of B7 0 rfl
      have HC : ∀ n, Calls Tryz.prog 117 #[.int .i64 ((e - (x + 1) : Nat) : Int), .func (.func 118) #[] #[.pointer (some ⟨w.heap.size + 1, 0, none⟩), .pointer (some ⟨b7, 0, none⟩)]] (w4.drewN n) fun x' w' => x' = .returned (.int .i64 ((List.range (e - (x + 1))).countP (fun i => !(!p (x + 1 + i))) : Nat)) ∧ Low (w4.drewN n).heap.size (w4.drewN n) w' := fun n =>
        searchL 118 #[.pointer (some ⟨w.heap.size + 1, 0, none⟩), .pointer (some ⟨b7, 0, none⟩)] (e - (x + 1)) (fun i => !p (x + 1 + i)) (w4.drewN n) eg118 (by omega)
          (fun W hW i hi => passAt g b0 eg (w.heap.size + 1) b7 (x + 1) i (p (x + 1 + i)) W (by omega) (cell_of ((hW.block _ (lt_of_heap B2)).trans B2) 0 rfl) (cell_of ((hW.block _ (lt_of_heap B7)).trans B7) 0 rfl)
            (by have := HF.out W (low_any (low_drewN bw n) hW (low_drewN bw n).size) (x + 1 + i) (by omega) (by omega); simpa using this))
          (fun i j hij hj h => by
            cases hh : p (x + 1 + j) with
            | false => rfl
            | true => rw [HM.out (x + 1 + i) (x + 1 + j) (by omega) (by omega) (by omega) hh] at h; cases h)
      have hleft : ((e - (x + 1) : Nat) : Int) = (e : Int) - ((x : Int) + 1) := by omega
      rw [hleft] at HC
      have HC := Lib.hid HC
      clear hleft hw4
      go_upto_region 9 with fail
      refine wp_region_held_drew (S := fun W => W.cell? ⟨b7, 0, none⟩ = some (.int .i64 ((x : Int) + 1))) (by kernel_rfl) c7 (fun hHeld => ?_)
      replace bw := bw.drew
      have HC := HC.out 1
      refine wpAnyH_take (i := 0) (v := .int .i64 ((x : Int) + 1)) rfl (by kernel_rfl) (by kernel_rfl) (by kernel_rfl) (fun _ _ _ h => h) (Or.inl ⟨by rfl, fun W h => by have c0 := h; go_simp⟩) hHeld ?_
      try simp only [putS]
      refine wpAnyH_take (i := 1) (v := .int .i64 ((e : Int) - ((x : Int) + 1))) rfl (by kernel_rfl) (by kernel_rfl) (by kernel_rfl) (fun _ _ _ h => h) (Or.inl ⟨by rfl, fun W _ => by go_simp⟩) hHeld ?_
      try simp only [putS]
      refine wpAnyH_take (i := 2) (v := .func (.func 118) #[] #[.pointer (some ⟨w.heap.size + 1, 0, none⟩), .pointer (some ⟨b7, 0, none⟩)]) rfl (by kernel_rfl) (by kernel_rfl) (by kernel_rfl) (fun _ _ _ h => h) (Or.inl ⟨by rfl, fun W _ => by go_simp⟩) hHeld ?_
      try simp only [putS]
      refine wpAnyH_ready (rs := [3]) (by kernel_rfl) (by simp) ?_
      refine AllReadyH.cons rfl (fun K hK => ?_) AllReadyH.nil
      rw [if_pos (by rfl)]
      go_simp
      refine (HC).mono ?_
      rintro e0 w3 ⟨rfl, hb3⟩
      have h7 : w3.cell? ⟨b7, 0, none⟩ = some (.int .i64 ((x : Int) + 1)) := (hb3.cell (p := ⟨b7, 0, none⟩) (lt_of_heap B7)).trans hHeld
      replace bw := low_any bw hb3 bw.size
      clear HC
      refine hK.out _ _ h7 (fun hHeld => ?_)
      clear hK K
      try simp only [putS]
      have hres : ((x : Int) + 1) + ((List.range (e - (x + 1))).countP (fun i => !(!p (x + 1 + i))) : Nat) = (gal p a (e - a) : Nat) := by rw [← HE.out]; omega
      have hgl := gal_le p (e - a) a
      have hwr : IntKind.i64.wrap ((gal p a (e - a) : Nat) : Int) = (gal p a (e - a) : Nat) := IntWalk.i64_in _ (by omega)
      generalize ((List.range (e - (x + 1))).countP (fun i => !(!p (x + 1 + i))) : Nat) = cnt at *
      refine wpAnyH_take (i := 4) (v := .int .i64 (gal p a (e - a) : Nat)) rfl (by kernel_rfl) (by kernel_rfl) (by kernel_rfl) (fun _ _ _ h => h) (Or.inl ⟨by rfl, fun W _ => by go_simp⟩) hHeld ?_
      try simp only [putS]
      refine wpAnyH_take (i := 5) (v := .int .i64 (gal p a (e - a) : Nat)) rfl (by kernel_rfl) (by kernel_rfl) (by kernel_rfl) (fun _ _ _ h => h) (Or.inl ⟨by rfl, fun W _ => by go_simp⟩) hHeld ?_
      try simp only [putS]
      refine wpAnyH_done (by kernel_rfl) ?_ _
      go_wp2_with fail
      go_ret
      exact ⟨rfl, bw⟩
end Go.Proofs.YtanbgdhmfjgihaaGreatDoor

/- The specification of texts of decimals: plain functions on bytes. No Go stands here. -/
namespace Go.Proofs.YtanbgdhmfjgihaaGreatDoor

/-- A digit's sign. -/
def isDig (c : UInt8) : Bool := 48 ≤ c && c ≤ 57
/-- Digits, one at least. -/
def digs (l : List UInt8) : Bool := !l.isEmpty && l.all isDig
/-- Nothing is said as 0. -/
def orN (l : List UInt8) : List UInt8 := if l.isEmpty then [48] else l
/-- The text of a sign and digits, if it may be. -/
def wr (neg : Bool) (a b : List UInt8) : Option (List UInt8) :=
  let x := Lib.trimLeftB a 48
  let y := Lib.trimRightB b 48
  if 40 < x.length ∨ 20 < y.length then none
  else some ((if neg && !(x ++ y).isEmpty then [45] else []) ++ (orN x ++ 46 :: orN y))
/-- The sign ahead, and what is behind it. -/
def sgn : List UInt8 → Bool × List UInt8
  | [] => (false, [])
  | c :: r => if c = 45 then (true, r) else if c = 43 then (false, r) else (false, c :: r)
/-- Sign, digits ahead of the point, digits behind it. -/
def splitP (l : List UInt8) : Option (Bool × List UInt8 × List UInt8) :=
  let c := Lib.cut (sgn l).2 [46]
  if digs c.1 && (!c.2.2 || digs c.2.1) then some ((sgn l).1, c.1, c.2.1) else none
/-- Read: the text, or none for what has no form; some none for what is too long. -/
def readP (l : List UInt8) : Option (Option (List UInt8)) := (splitP l).map fun x => wr x.1 x.2.1 x.2.2
/-- A decimal. -/
def chk (l : List UInt8) : Bool := readP l == some (some l)

theorem isDig_iff (c : UInt8) : isDig c = true ↔ 48 ≤ (c.toNat : Int) ∧ (c.toNat : Int) ≤ 57 := by
  unfold isDig
  rw [Bool.and_eq_true, decide_eq_true_iff, decide_eq_true_iff, UInt8.le_iff_toNat_le, UInt8.le_iff_toNat_le]
  show 48 ≤ c.toNat ∧ c.toNat ≤ 57 ↔ _
  omega

end Go.Proofs.YtanbgdhmfjgihaaGreatDoor

/- isDigits, orNought. -/
namespace Go.Proofs.YtanbgdhmfjgihaaGreatDoor
open Go.RowKit

theorem digs_no {s : ByteArray} {k : Nat} (h : k < s.size) (hk : isDig s[k] = false) : digs s.data.toList = false := by
  unfold digs
  have : s.data.toList.all isDig = false := by
    rw [List.all_eq_false]
    exact ⟨s[k], by simp [ByteArray.getElem_eq_getElem_data], by rw [hk]; simp⟩
  rw [this, Bool.and_false]
theorem take_all {s : ByteArray} {k : Nat} (h : k < s.size) (ha : (s.data.toList.take k).all isDig = true) (hk : isDig s[k] = true) : (s.data.toList.take (k + 1)).all isDig = true := by
  rw [List.take_succ_eq_append_getElem (by simpa using h), List.all_append, ha]
  simpa [ByteArray.getElem_eq_getElem_data] using hk

set_option maxHeartbeats 400000 in
theorem isDigitsAt (s : ByteArray) (w : World) (hs : s.size ≤ maxLen) :
    Calls Tryz.prog 189 #[.string s] w fun e w' => e = .returned (.bool (digs s.data.toList)) ∧ w' = w := by
  unfold maxLen at hs
  go_enter Tryz.func189, Tryz.ntmps189
  go_wp2
  go_loop [6] (fun i => ∃ k : Nat, k ≤ s.size ∧ i = .int .i64 k ∧ (s.data.toList.take k).all isDig = true) (fun i => s.size - (intOf i).toNat)
  case atStart => exact ⟨0, Nat.zero_le _, rfl, by simp⟩
  case round =>
    obtain ⟨k, hk, rfl, hall⟩ := hrel
    have HA := Lib.hid hall
    clear hall
    by_cases hlt : k < s.size
    · by_cases h1 : (s[k].toNat : Int) < 48
      · go_wp2
        go_ret
        refine ⟨?_, rfl⟩
        rw [digs_no hlt (Bool.eq_false_iff.2 fun e => by have := (isDig_iff _).1 e; omega)]
        rfl
      · by_cases h2 : (57 : Int) < s[k].toNat
        · go_wp2
          go_ret
          refine ⟨?_, rfl⟩
          rw [digs_no hlt (Bool.eq_false_iff.2 fun e => by have := (isDig_iff _).1 e; omega)]
          rfl
        · go_wp2
          go_round
          case rel => exact ⟨k + 1, by omega, by go_num, take_all hlt HA.out ((isDig_iff _).2 ⟨by omega, by omega⟩)⟩
          case measure => simp [intOf]; omega
    · go_wp2
      go_ret
      refine ⟨?_, rfl⟩
      have hk' : k = s.data.toList.length := by have : s.data.toList.length = s.size := by simp
                                                omega
      have ha := HA.out
      rw [hk', List.take_length] at ha
      unfold digs
      rw [ha, Bool.and_true, ← ByteArray.toList_eq]
      rfl

theorem orNoughtAt (s : ByteArray) (w : World) :
    Calls Tryz.prog 192 #[.string s] w fun e w' => e = .returned (.string ⟨(orN s.data.toList).toArray⟩) ∧ w' = w := by
  by_cases h : s.toList.isEmpty = true
  · go_enter Tryz.func192, Tryz.ntmps192
    go_wp2
    go_ret
    refine ⟨?_, rfl⟩
    unfold orN
    rw [← ByteArray.toList_eq, if_pos h]
    rfl
  · have h' : s.toList.isEmpty = false := by simpa using h
    go_enter Tryz.func192, Tryz.ntmps192
    go_wp2
    go_ret
    refine ⟨?_, rfl⟩
    unfold orN
    rw [← ByteArray.toList_eq, if_neg h, ByteArray.toList_eq]
    rfl

end Go.Proofs.YtanbgdhmfjgihaaGreatDoor

/- The small questions about one value: its kind. -/
namespace Go.Proofs.YtanbgdhmfjgihaaGreatDoor
open Go.RowKit


theorem bothAreAt (q k : Int) (b : Bool) (n : Int) (t x : ByteArray) (L : Value) (k2 : Int) (b2 : Bool) (n2 : Int) (t2 x2 : ByteArray) (L2 : Value) (w : World) :
    Calls Tryz.prog 183 #[.int .i64 q, .agg #[.int .i64 k, .bool b, .int .i64 n, .string t, .string x, L], .agg #[.int .i64 k2, .bool b2, .int .i64 n2, .string t2, .string x2, L2]] w fun e w' => e = .returned (.bool (k == q && k2 == q)) ∧ Low w.heap.size w w' := by
  have h0 : ((w.alloc (.cells #[.int .i64 k, .bool b, .int .i64 n, .string t, .string x, L] 39)).alloc (.cells #[.int .i64 k2, .bool b2, .int .i64 n2, .string t2, .string x2, L2] 39)).cell? ⟨w.heap.size, 0, none⟩ = some (.int .i64 k) := cell_of (heap_old _ (heap_new _ _ rfl)) _ rfl
  have h1 : ((w.alloc (.cells #[.int .i64 k, .bool b, .int .i64 n, .string t, .string x, L] 39)).alloc (.cells #[.int .i64 k2, .bool b2, .int .i64 n2, .string t2, .string x2, L2] 39)).cell? ⟨w.heap.size + 1, 0, none⟩ = some (.int .i64 k2) := cell_of (heap_new _ _ (by simp)) _ rfl
  by_cases h : k = q
  · subst h
    go_enter Tryz.func183, Tryz.ntmps183
    go_wp2_with fail
    go_ret
    exact ⟨by simp, low2 _ _ _⟩
  · have e : (k == q) = false := by simpa using h
    go_enter Tryz.func183, Tryz.ntmps183
    go_wp2_with fail
    go_ret
    exact ⟨by rw [e]; rfl, low2 _ _ _⟩

end Go.Proofs.YtanbgdhmfjgihaaGreatDoor

/- The small type that stands for a value's kind. -/
namespace Go.Proofs.YtanbgdhmfjgihaaGreatDoor
open Go.RowKit

/-- The number of the small type that stands for a kind. -/
def kindT (k : Int) : Nat :=
  if k = 0 then 145 else if k = 1 then 146 else if k = 2 then 147 else if k = 3 then 150 else if k = 4 then 151 else if k = 5 then 155 else
  if k = 6 then 148 else if k = 7 then 149 else if k = 8 then 152 else if k = 9 then 153 else if k = 10 then 154 else 188

theorem kindOfAt (k : Int) (b : Bool) (n : Int) (t x : ByteArray) (L : Value) (T : Nat) (hT : T = kindT k) (w : World) :
    Calls Tryz.prog 107 #[.agg #[.int .i64 k, .bool b, .int .i64 n, .string t, .string x, L]] w fun e w' => e = .returned (.iface T (.agg #[])) ∧ Low w.heap.size w w' := by
  have h0 : (w.alloc (.cells #[.int .i64 k, .bool b, .int .i64 n, .string t, .string x, L] 39)).cell? ⟨w.heap.size, 0, none⟩ = some (.int .i64 k) := cell_of (heap_new _ _ rfl) _ rfl
  subst hT
  by_cases h : 0 ≤ k ∧ k ≤ 10
  · obtain ⟨h1, h2⟩ := h
    obtain ⟨j, rfl⟩ : ∃ j : Nat, k = j := ⟨k.toNat, by omega⟩
    have hj : j ≤ 10 := by omega
    clear h1 h2
    match j, hj, h0 with
    | 0, _, h0 | 1, _, h0 | 2, _, h0 | 3, _, h0 | 4, _, h0 | 5, _, h0 | 6, _, h0 | 7, _, h0 | 8, _, h0 | 9, _, h0 | 10, _, h0 =>
      go_enter Tryz.func107, Tryz.ntmps107
      go_wp2_with fail
      go_ret
      exact ⟨rfl, low1 _ _⟩
  · have e0 : k ≠ 0 := by omega
    have e1 : k ≠ 1 := by omega
    have e2 : k ≠ 2 := by omega
    have e3 : k ≠ 3 := by omega
    have e4 : k ≠ 4 := by omega
    have e5 : k ≠ 5 := by omega
    have e6 : k ≠ 6 := by omega
    have e7 : k ≠ 7 := by omega
    have e8 : k ≠ 8 := by omega
    have e9 : k ≠ 9 := by omega
    have e10 : k ≠ 10 := by omega
    have hv : kindT k = 188 := by simp [kindT, e0, e1, e2, e3, e4, e5, e6, e7, e8, e9, e10]
    rw [hv]
    clear h hv
    go_enter Tryz.func107, Tryz.ntmps107
    go_wp2_with fail
    go_ret
    exact ⟨rfl, low1 _ _⟩
end Go.Proofs.YtanbgdhmfjgihaaGreatDoor

/- Whether a text may be an address, a name; whether a value is bare. -/
namespace Go.Proofs.YtanbgdhmfjgihaaGreatDoor
open Go.RowKit

def letterB (c : UInt8) : Bool := (decide (97 ≤ c.toNat) && decide (c.toNat ≤ 122)) || (decide (65 ≤ c.toNat) && decide (c.toNat ≤ 90)) || decide (c.toNat = 95)
def digitB (c : UInt8) : Bool := decide (48 ≤ c.toNat) && decide (c.toNat ≤ 57)
def addrC (c : UInt8) : Bool := decide (32 < c.toNat) && decide (c.toNat ≠ 60) && decide (c.toNat ≠ 62)
def addrP (s : ByteArray) : Bool := decide (0 < s.size ∧ s.size ≤ 1048576 ∧ ∀ j (h : j < s.size), addrC s[j] = true)
def nameC (j : Nat) (c : UInt8) : Bool := letterB c || (decide (j ≠ 0) && digitB c)
def nameP (s : ByteArray) : Bool := decide (0 < s.size ∧ s.size ≤ 64 ∧ ∀ j (h : j < s.size), nameC j s[j] = true)
theorem empty_iff (s : ByteArray) : s.toList.isEmpty = true ↔ s.size = 0 := by
  rw [ByteArray.toList_eq, List.isEmpty_iff_length_eq_zero]
  simp
theorem pastAll {s : ByteArray} {p : Nat → UInt8 → Bool} {k : Nat} (h : k < s.size) (ha : ∀ j (h : j < s.size), j < k → p j s[j] = true) (hk : p k s[k] = true) : ∀ j (h : j < s.size), j < k + 1 → p j s[j] = true := by
  intro j hj hlt
  by_cases e : j = k
  · subst e
    exact hk
  · exact ha j hj (by omega)


theorem letterB_of {c : UInt8} {b : Bool} (h : b = true ↔ ((97 : Int) ≤ c.toNat ∧ (c.toNat : Int) ≤ 122) ∨ ((65 : Int) ≤ c.toNat ∧ (c.toNat : Int) ≤ 90) ∨ (c.toNat : Int) = 95) : b = letterB c := by
  rw [Bool.eq_iff_iff, h]
  simp only [letterB, Bool.or_eq_true, Bool.and_eq_true, decide_eq_true_eq]
  omega
theorem letterAt (c : UInt8) (r : Bool) (hr : r = letterB c) (w : World) : Calls Tryz.prog 155 #[.int .u8 c.toNat] w fun e w' => e = .returned (.bool r) ∧ w = w' := by
  by_cases a1 : (97 : Int) ≤ c.toNat
  · by_cases a2 : (c.toNat : Int) ≤ 122
    · obtain rfl : r = true := by rw [hr]; exact (letterB_of (by simp [a1, a2])).symm
      clear hr
      go_enter Tryz.func155, Tryz.ntmps155
      go_wp2_with fail
      go_ret
      exact ⟨rfl, rfl⟩
    · obtain rfl : r = false := by rw [hr]; exact (letterB_of (by simp; omega)).symm
      clear hr
      have a3 : (65 : Int) ≤ c.toNat := by omega
      have a4 : ¬ (c.toNat : Int) ≤ 90 := by omega
      have a5 : ¬ (c.toNat : Int) = 95 := by omega
      go_enter Tryz.func155, Tryz.ntmps155
      go_wp2_with fail
      go_ret
      exact ⟨by simp [a5] <;> rfl, rfl⟩
  · by_cases a3 : (65 : Int) ≤ c.toNat
    · by_cases a4 : (c.toNat : Int) ≤ 90
      · obtain rfl : r = true := by rw [hr]; exact (letterB_of (by simp [a3, a4])).symm
        clear hr
        go_enter Tryz.func155, Tryz.ntmps155
        go_wp2_with fail
        go_ret
        exact ⟨rfl, rfl⟩
      · have hv : r = ((c.toNat : Int) == 95) := by rw [hr]; exact (letterB_of (by simp; omega)).symm
        clear hr
        go_enter Tryz.func155, Tryz.ntmps155
        go_wp2_with fail
        go_ret
        exact ⟨rfl, rfl⟩
    · have a5 : ¬ (c.toNat : Int) = 95 := by omega
      obtain rfl : r = false := by rw [hr]; exact (letterB_of (by simp; omega)).symm
      clear hr
      go_enter Tryz.func155, Tryz.ntmps155
      go_wp2_with fail
      go_ret
      exact ⟨by simp [a5] <;> rfl, rfl⟩
theorem digitAt46 (c : UInt8) (r : Bool) (hr : r = digitB c) (w : World) : Calls Tryz.prog 156 #[.int .u8 c.toNat] w fun e w' => e = .returned (.bool r) ∧ w = w' := by
  by_cases a1 : (48 : Int) ≤ c.toNat
  · have hv : r = decide ((c.toNat : Int) ≤ 57) := by rw [hr, Bool.eq_iff_iff]; simp [digitB]; omega
    clear hr
    go_enter Tryz.func156, Tryz.ntmps156
    go_wp2_with fail
    go_ret
    exact ⟨by rw [hv]; rfl, rfl⟩
  · have hv : r = false := by rw [hr, Bool.eq_false_iff]; simp [digitB]; omega
    clear hr
    subst hv
    go_enter Tryz.func156, Tryz.ntmps156
    go_wp2_with fail
    go_ret
    exact ⟨rfl, rfl⟩


theorem addr_no {s : ByteArray} {k : Nat} (h : k < s.size) (hk : addrC s[k] = false) : addrP s = false := by
  unfold addrP
  rw [decide_eq_false_iff_not]
  rintro ⟨_, _, ha⟩
  rw [ha k h] at hk
  exact absurd hk (by simp)
set_option maxHeartbeats 800000 in
theorem isAddressAt (s : ByteArray) (w : World) (hs : s.size ≤ maxLen) :
    Calls Tryz.prog 109 #[.string s] w fun e w' => e = .returned (.bool (addrP s)) ∧ w = w' := by
  unfold maxLen at hs
  by_cases h0 : s.toList.isEmpty = true
  · have hv : addrP s = false := by
      unfold addrP
      rw [decide_eq_false_iff_not]
      have := (empty_iff s).1 h0
      omega
    rw [hv]
    go_enter Tryz.func109, Tryz.ntmps109
    go_wp2_with fail
    go_ret
    exact ⟨rfl, rfl⟩
  · have h0' : s.toList.isEmpty = false := by simpa using h0
    have hpos : 0 < s.size := by have := mt (empty_iff s).2 h0; omega
    by_cases hbig : (1048576 : Int) < s.size
    · have hv : addrP s = false := by
        unfold addrP
        rw [decide_eq_false_iff_not]
        omega
      rw [hv]
      go_enter Tryz.func109, Tryz.ntmps109
      go_wp2_with fail
      go_ret
      exact ⟨rfl, rfl⟩
    · go_enter Tryz.func109, Tryz.ntmps109
      go_wp2_with fail
      go_loop [13] (fun i => ∃ k : Nat, k ≤ s.size ∧ i = .int .i64 k ∧ ∀ j (h : j < s.size), j < k → addrC s[j] = true) (fun i => s.size - (intOf i).toNat)
      case atStart => exact ⟨0, Nat.zero_le _, rfl, fun j _ h => absurd h (by omega)⟩
      case round =>
        obtain ⟨k, hk, rfl, hall⟩ := hrel
        have HA := Lib.hid hall
        clear hall
        by_cases hlt : k < s.size
        · by_cases h1 : (s[k].toNat : Int) ≤ 32
          · go_wp2_with fail
            go_ret
            exact ⟨by rw [addr_no hlt (by simp [addrC]; omega)]; rfl, rfl⟩
          · by_cases h2 : (s[k].toNat : Int) = 60
            · go_wp2_with fail
              go_ret
              exact ⟨by rw [addr_no hlt (by simp [addrC]; omega)]; rfl, rfl⟩
            · by_cases h3 : (s[k].toNat : Int) = 62
              · go_wp2_with fail
                go_ret
                exact ⟨by rw [addr_no hlt (by simp [addrC]; omega)]; rfl, rfl⟩
              · go_wp2_with fail
                go_round
                case rel => exact ⟨k + 1, by omega, by go_num, pastAll (p := fun _ => addrC) hlt HA.out (by simp [addrC]; omega)⟩
                case measure => simp [intOf]; omega
        · go_wp2_with fail
          go_ret
          have hv : addrP s = true := by
            unfold addrP
            rw [decide_eq_true_eq]
            exact ⟨hpos, by omega, fun j hj => HA.out j hj (by omega)⟩
          exact ⟨by rw [hv]; rfl, rfl⟩


theorem name_no {s : ByteArray} {k : Nat} (h : k < s.size) (hk : nameC k s[k] = false) : nameP s = false := by
  unfold nameP
  rw [decide_eq_false_iff_not]
  rintro ⟨_, _, ha⟩
  rw [ha k h] at hk
  exact absurd hk (by simp)
set_option maxHeartbeats 800000 in
theorem isNameAt (s : ByteArray) (w : World) (hs : s.size ≤ maxLen) :
    Calls Tryz.prog 110 #[.string s] w fun e w' => e = .returned (.bool (nameP s)) ∧ w = w' := by
  unfold maxLen at hs
  by_cases h0 : s.toList.isEmpty = true
  · have hv : nameP s = false := by
      unfold nameP
      rw [decide_eq_false_iff_not]
      have := (empty_iff s).1 h0
      omega
    rw [hv]
    go_enter Tryz.func110, Tryz.ntmps110
    go_wp2_with fail
    go_ret
    exact ⟨rfl, rfl⟩
  · have h0' : s.toList.isEmpty = false := by simpa using h0
    have hpos : 0 < s.size := by have := mt (empty_iff s).2 h0; omega
    by_cases hbig : (64 : Int) < s.size
    · have hv : nameP s = false := by
        unfold nameP
        rw [decide_eq_false_iff_not]
        omega
      rw [hv]
      go_enter Tryz.func110, Tryz.ntmps110
      go_wp2_with fail
      go_ret
      exact ⟨rfl, rfl⟩
    · go_enter Tryz.func110, Tryz.ntmps110
      go_wp2_with fail
      go_loop [13] (fun i => ∃ k : Nat, k ≤ s.size ∧ i = .int .i64 k ∧ ∀ j (h : j < s.size), j < k → nameC j s[j] = true) (fun i => s.size - (intOf i).toNat)
      case atStart => exact ⟨0, Nat.zero_le _, rfl, fun j _ h => absurd h (by omega)⟩
      case round =>
        obtain ⟨k, hk, rfl, hall⟩ := hrel
        have HA := Lib.hid hall
        clear hall
        by_cases hlt : k < s.size
        · by_cases h1 : letterB s[k] = true
          · have H1 := Lib.hid h1
            clear h1
            go_wp2_with (go_at_call 155; (with_reducible refine (letterAt s[k] true H1.out.symm _).mono ?_); rintro e w' ⟨rfl, rfl⟩)
            go_round
            case rel => exact ⟨k + 1, by omega, by go_num, pastAll (p := nameC) hlt HA.out (by simp [nameC, H1.out])⟩
            case measure => simp [intOf]; omega
          · have H1 : Hid (letterB s[k] = false) := Lib.hid (by simpa using h1)
            clear h1
            by_cases h2 : k = 0
            · subst h2
              go_wp2_with (go_at_call 155; (with_reducible refine (letterAt s[0] false H1.out.symm _).mono ?_); rintro e w' ⟨rfl, rfl⟩)
              go_ret
              exact ⟨by rw [name_no hlt (by simp [nameC, H1.out])]; rfl, rfl⟩
            · have h2i : ¬ (k : Int) = 0 := by omega
              by_cases h3 : digitB s[k] = true
              · have H3 := Lib.hid h3
                clear h3
                go_wp2_with (first
                  | (go_at_call 155; (with_reducible refine (letterAt s[k] false H1.out.symm _).mono ?_); rintro e w' ⟨rfl, rfl⟩)
                  | (go_at_call 156; (with_reducible refine (digitAt46 s[k] true H3.out.symm _).mono ?_); rintro e w' ⟨rfl, rfl⟩))
                go_round
                case rel => exact ⟨k + 1, by omega, by go_num, pastAll (p := nameC) hlt HA.out (by simp [nameC, H3.out, h2])⟩
                case measure => simp [intOf]; omega
              · have H3 : Hid (digitB s[k] = false) := Lib.hid (by simpa using h3)
                clear h3
                go_wp2_with (first
                  | (go_at_call 155; (with_reducible refine (letterAt s[k] false H1.out.symm _).mono ?_); rintro e w' ⟨rfl, rfl⟩)
                  | (go_at_call 156; (with_reducible refine (digitAt46 s[k] false H3.out.symm _).mono ?_); rintro e w' ⟨rfl, rfl⟩))
                go_ret
                exact ⟨by rw [name_no hlt (by simp [nameC, H1.out, H3.out])]; rfl, rfl⟩
        · go_wp2_with fail
          go_ret
          have hv : nameP s = true := by
            unfold nameP
            rw [decide_eq_true_eq]
            exact ⟨hpos, by omega, fun j hj => HA.out j hj (by omega)⟩
          exact ⟨by rw [hv]; rfl, rfl⟩
end Go.Proofs.YtanbgdhmfjgihaaGreatDoor

/- Whether a value has nothing beside its kind. -/
namespace Go.Proofs.YtanbgdhmfjgihaaGreatDoor
open Go.RowKit

def bareP (b : Bool) (n : Int) (t x : ByteArray) (len : Nat) : Bool := !b && decide (n = 0) && decide (t.size = 0) && decide (x.size = 0) && decide (len = 0)

theorem isBareAt (k : Int) (b : Bool) (n : Int) (t x : ByteArray) (p : Option Addr) (len cap : Nat) (w : World) :
    Calls Tryz.prog 112 #[.agg #[.int .i64 k, .bool b, .int .i64 n, .string t, .string x, .slice p len cap]] w fun e w' => e = .returned (.bool (bareP b n t x len)) ∧ Low w.heap.size w w' := by
  have h1 : (w.alloc (.cells #[.int .i64 k, .bool b, .int .i64 n, .string t, .string x, .slice p len cap] 39)).cell? ⟨w.heap.size, 1, none⟩ = some (.bool b) := cell_of (heap_new _ _ rfl) _ rfl
  have h2 : (w.alloc (.cells #[.int .i64 k, .bool b, .int .i64 n, .string t, .string x, .slice p len cap] 39)).cell? ⟨w.heap.size, 2, none⟩ = some (.int .i64 n) := cell_of (heap_new _ _ rfl) _ rfl
  have h3 : (w.alloc (.cells #[.int .i64 k, .bool b, .int .i64 n, .string t, .string x, .slice p len cap] 39)).cell? ⟨w.heap.size, 3, none⟩ = some (.string t) := cell_of (heap_new _ _ rfl) _ rfl
  have h4 : (w.alloc (.cells #[.int .i64 k, .bool b, .int .i64 n, .string t, .string x, .slice p len cap] 39)).cell? ⟨w.heap.size, 4, none⟩ = some (.string x) := cell_of (heap_new _ _ rfl) _ rfl
  have h5 : (w.alloc (.cells #[.int .i64 k, .bool b, .int .i64 n, .string t, .string x, .slice p len cap] 39)).cell? ⟨w.heap.size, 5, none⟩ = some (.slice p len cap) := cell_of (heap_new _ _ rfl) _ rfl
  cases b with
  | true =>
    go_enter Tryz.func112, Tryz.ntmps112
    go_wp2_with fail
    go_ret
    exact ⟨rfl, low1 _ _⟩
  | false =>
    by_cases e2 : n = 0
    · subst e2
      by_cases e3 : t.toList.isEmpty = true
      · have s3 := (empty_iff t).1 e3
        by_cases e4 : x.toList.isEmpty = true
        · have s4 := (empty_iff x).1 e4
          have hv : bareP false 0 t x len = ((len : Int) == 0) := by
            unfold bareP
            rw [s3, s4, Bool.eq_iff_iff]
            simp
          rw [hv]
          clear hv s3 s4
          go_enter Tryz.func112, Tryz.ntmps112
          go_wp2_with fail
          go_ret
          exact ⟨rfl, low1 _ _⟩
        · have s4 : ¬ x.size = 0 := mt (empty_iff x).2 e4
          have e4' : x.toList.isEmpty = false := by simpa using e4
          have hv : bareP false 0 t x len = false := by simp [bareP, s4]
          rw [hv]
          clear hv s3 s4 e4
          go_enter Tryz.func112, Tryz.ntmps112
          go_wp2_with fail
          go_ret
          exact ⟨rfl, low1 _ _⟩
      · have s3 : ¬ t.size = 0 := mt (empty_iff t).2 e3
        have e3' : t.toList.isEmpty = false := by simpa using e3
        have hv : bareP false 0 t x len = false := by simp [bareP, s3]
        rw [hv]
        clear hv s3 e3
        go_enter Tryz.func112, Tryz.ntmps112
        go_wp2_with fail
        go_ret
        exact ⟨rfl, low1 _ _⟩
    · have hv : bareP false n t x len = false := by simp [bareP, e2]
      rw [hv]
      clear hv
      go_enter Tryz.func112, Tryz.ntmps112
      go_wp2_with fail
      go_ret
      exact ⟨rfl, low1 _ _⟩
end Go.Proofs.YtanbgdhmfjgihaaGreatDoor
