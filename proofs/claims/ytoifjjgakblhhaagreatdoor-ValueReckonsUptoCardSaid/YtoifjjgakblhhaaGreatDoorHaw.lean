/- Texts of one kind, one behind the other: each says ahead of itself what it shows. -/
import Derived.Test.YtoifjjgakblhhaaGreatDoorHav
/- The quotient of two numbers of the document's: its first steps. -/
namespace Go.Proofs.YtoifjjgakblhhaaGreatDoor
open Go.RowKit

/-- The boxes of a reckoning with two numbers. -/
structure BoxS (w : World) (N1 : Bool) (u : Value) (s1 : Int) (N2 : Bool) (v : Value) (s2 : Int) (wr : World) : Prop where
  r2 : Rec wr w.heap.size N1 u s1
  r3 : Rec wr (w.heap.size + 1) N2 v s2
  r4 : Rec wr (w.heap.size + 2) false (.slice none 0 0) 0
  bel : Below w.heap.size w wr
theorem BoxS.below {w wr w2 : World} {N1 N2 : Bool} {u v : Value} {s1 s2 : Int} (h : BoxS w N1 u s1 N2 v s2 wr) (k : Below wr.heap.size wr w2) : BoxS w N1 u s1 N2 v s2 w2 :=
  ⟨h.r2.below k, h.r3.below k, h.r4.below k, below_any h.bel k (Nat.le_of_lt h.r2.lt)⟩
theorem BoxS.size {w wr : World} {N1 N2 : Bool} {u v : Value} {s1 s2 : Int} (h : BoxS w N1 u s1 N2 v s2 wr) : w.heap.size + 3 ≤ wr.heap.size := by have := h.r4.lt; omega
theorem made20 (W : World) (base : Nat) (hb : base ≤ W.heap.size) : (W.alloc (.cells (Array.replicate 20 (.int .i64 0)) 3)).ownsRow base 3 1 (.slice (some ⟨W.heap.size, 0, none⟩) 20 20) 20 (cellsOfDigs (List.replicate 20 0)) :=
  ⟨rfl, .inr ⟨W.heap.size, 20, _, rfl, hb, heap_new _ _ rfl, Nat.le_refl _, by unfold maxLen; omega, by simp, rfl⟩⟩
theorem below_alloc (W : World) (o : Obj) : Below W.heap.size W (W.alloc o) := (Below.refl _ _).alloc (Nat.le_refl _) _
theorem news_of_ints {w : World} {a : Addr} {n cap : Nat} {ds : List Nat} (h : Ints w (.slice (some a) n cap) ds) (j : Nat) (u : Value) (hj : (cellsOfDigs ds)[j]? = some u) : w.cell? (a.add j) = some u := by
  have hl : j < ds.length := by
    have := (List.getElem?_eq_some_iff.1 hj).1
    rwa [cellsOfDigs_len] at this
  obtain ⟨b, off, e, hc⟩ := h.at hl
  injection e with e
  subst e
  have e2 : (⟨b, off, none⟩ : Addr).add j = ⟨b, off + j, none⟩ := by unfold Addr.add; split <;> simp_all
  rw [e2, hc, ← hj, cellsOfDigs_get hl]
theorem one_of_digs {ds : List Nat} {u : Value} (h : u ∈ cellsOfDigs ds) : u.oneCell' = true := by
  simp [cellsOfDigs] at h
  obtain ⟨x, _, rfl⟩ := h
  rfl
theorem Ints.some {w : World} {p : Option Addr} {n cap : Nat} {ds : List Nat} (h : Ints w (.slice p n cap) ds) (hp : 0 < ds.length) : ∃ a, p = some a := by
  obtain ⟨b, off, e, _⟩ := h.at hp
  exact ⟨_, e⟩
theorem val10_cons (x : Nat) (ls : List Nat) : val10 (x :: ls) = val10 ls * 10 + x := by
  unfold val10
  show vT (ls.length + 1) _ = _
  have key : ∀ n, vT (n + 1) (dig (x :: ls)) = vT n (dig ls) * 10 + x := by
    intro n
    induction n with
    | zero => simp [vT, dig]
    | succ n ih =>
      show vT (n + 1) (dig (x :: ls)) + dig (x :: ls) (n + 1) * 10 ^ (n + 1) = (vT n (dig ls) + dig ls n * 10 ^ n) * 10 + x
      rw [ih, show dig (x :: ls) (n + 1) = dig ls n from rfl, Nat.pow_succ, Nat.add_mul, Nat.mul_assoc]
      omega
  exact key _
theorem small_cons {x : Nat} {ls : List Nat} (hx : x ≤ 9) (h : Small ls) : Small (x :: ls) := fun j => by
  cases j with
  | zero => exact hx
  | succ j => exact h j
set_option maxRecDepth 20000 in
set_option maxHeartbeats 1600000 in
theorem refSubF (u v : Value) (xs ys : List Nat) (w : World) (hu : Ints w u xs) (hv : Ints w v ys) (hx : Small xs) (hy : Small ys) (hle : val10 ys ≤ val10 xs) (lx : xs.length ≤ 1000000000) :
    Calls Tryz.prog 126 #[u, v] w fun e w' => ∃ z zs, e = .returned z ∧ w'.ownsRow w.heap.size 3 1 z zs.length (cellsOfDigs zs) ∧ Small zs ∧ Aside (val10 zs + val10 ys = val10 xs) ∧ zs.length = xs.length ∧ Below w.heap.size w w' := by
  obtain ⟨p2, cap2, ev⟩ := hv.form
  have HV := Lib.hid hv
  have HX := Lib.hid hx
  have HY := Lib.hid hy
  have HL := Lib.hid hle
  clear hv hx hy hle
  obtain ⟨m, hm⟩ : ∃ m, m = ys.length := ⟨_, rfl⟩
  rw [← hm] at ev
  subst ev
  clear hm
  rcases hu with ⟨rfl, rfl⟩ | ⟨b, off, cap, rfl, hc, hty⟩
  · go_enter Tryz.func126, Tryz.ntmps126
    go_wp2_with fail
    go_loopg [5, 6, 7] 0 (fun gg s5 s6 s7 wr => gg = 0 ∧ s5 = .slice none 0 0 ∧ s6 = .int .i64 0 ∧ s7 = .int .i64 0 ∧ wr = w)
    case atStart => exact ⟨rfl, rfl, rfl, rfl, rfl⟩
    case round =>
      obtain ⟨_, rfl, rfl, rfl, rfl⟩ := hrel
      go_wp2_with fail
      go_ret
      have h0 := HL.out
      have hv0 : val10 ys = 0 := Nat.le_zero.1 h0
      exact ⟨_, [], rfl, World.ownsRow_nil _ _ _ _, fun j => by simp [dig], by unfold Aside; rw [hv0]; rfl, rfl, Below.refl _ _⟩
  · obtain ⟨i0, hi, hz0, hz1, hz2⟩ := info_parts info3
    have HC := Lib.hid hc
    clear hc
    obtain ⟨n, hn⟩ : ∃ n, n = xs.length := ⟨_, rfl⟩
    have HN := Lib.hid hn
    rw [← hn] at lx ⊢
    clear hn
    go_enter Tryz.func126, Tryz.ntmps126
    go_wp2_with fail
    go_loopg [5, 6, 7] n (fun gg s5 s6 s7 wr => ∃ (i c : Nat) (zs : List Nat), i + gg = n ∧ s6 = .int .i64 c ∧ s7 = .int .i64 i ∧ c ≤ 1 ∧ wr.ownsRow w.heap.size 3 1 s5 i (cellsOfDigs zs) ∧ Hid (Taken xs ys i c zs) ∧ Below w.heap.size w wr)
    case atStart => exact ⟨0, 0, [], by omega, rfl, rfl, by omega, World.ownsRow_nil _ _ _ _, Lib.hid (Taken.start xs ys), Below.refl _ _⟩
    case round =>
      obtain ⟨i, c, zs, hig, rfl, rfl, hc1, hown, HA, hbel⟩ := hrel
      by_cases h1 : (i : Int) < n
      · have hx9 := HX.out i
        have hy9 := HY.out i
        have c0 := HC.out i (by have := HN.out; omega)
        have c1 : wr.cell? ⟨b, off + i, none⟩ = some (.int .i64 (dig xs i)) := (hbel.cell (p := ⟨b, off + i, none⟩) (World.block_lt_of_cell? w _ c0)).trans c0
        clear c0
        obtain ⟨x, hx⟩ : ∃ x, x = dig xs i := ⟨_, rfl⟩
        obtain ⟨y, hy⟩ : ∃ y, y = dig ys i := ⟨_, rfl⟩
        rw [← hx] at hx9 c1
        rw [← hy] at hy9
        have K2 := Lib.hid hy
        have V1 : Hid (∀ k, Ints (wr.drewN k) (.slice p2 m cap2) ys) := Lib.hid (fun k => (HV.out.below hbel).below (below_drewN (Below.refl _ _) k))
        have HS : ∀ d c' : Nat, d ≤ 9 → c' ≤ 1 → x + 10 * c' = y + c + d → Taken xs ys (i + 1) c' (zs ++ [d]) := fun d c' a b e => HA.out.step a b (by rw [← hx, ← hy]; exact e)
        have HS := Lib.hid HS
        clear hx hy
        go_wp2_with fail
        go_quiet ((go_at_call 143; exact Calls.quiet_of_same ((refAtB _ ys i y _ (V1.out _) K2).mono fun _ _ h => ⟨h.1, h.2.symm⟩)))
        have hown := ownsRow_drewN hown nq
        have hbel := below_drewN hbel nq
        generalize wr.drewN nq = wq at *
        clear c1 V1 K2
        by_cases hneg : (x : Int) - y - c < 0
        · obtain ⟨d, hd⟩ : ∃ d : Nat, d + y + c = x + 10 := ⟨x + 10 - y - c, by omega⟩
          have hd1 : (x : Int) - y - c + 10 = d := by omega
          have HD := Lib.hid (HS.out d 1 (by omega) (by omega) (by omega))
          clear HS
          go_wp2_with (at_builtin; refine wpList_append_own _ rfl _ _ 95 rfl w.heap.size 3 i0 (.int .i64 0) 1 8 Tryz.underlying95 hi hz0 hz1 hz2 rfl (by decide) _ _ _ rfl (hown.alloc _) ⟨wq.heap.size, 0, none⟩ 1 1 [.int .i64 ((d : Nat) : Int)] rfl rfl ?_ ?_ ?_ ?_ ?_ ?_)
          · intro j u hj
            match j, hj with
            | 0, hj => simp at hj; subst hj; simp [Addr.add]
          · intro u hu; simp at hu; subst hu; rfl
          · unfold maxLen; omega
          · omega
          · have := hbel.size; simp; omega
          · intro v' w1 hown' hgrow _
            have hb' : Below w.heap.size w w1 := (hbel.alloc hbel.size _).grown hgrow (by have := hbel.size; simp; omega) (fun k hk => (hown.lt k hk).1)
            have hown2 : w1.ownsRow w.heap.size 3 1 v' (i + 1) (cellsOfDigs (zs ++ [d])) := by
              unfold cellsOfDigs at hown' ⊢
              simpa using hown'
            clear hown' hgrow hown
            go_wp2_with fail
            go_roundg (gk - 1)
            case measure => omega
            case rel => exact ⟨i + 1, 1, zs ++ [d], by omega, rfl, by go_num, by omega, hown2, HD, hb'⟩
        · obtain ⟨d, hd⟩ : ∃ d : Nat, d + y + c = x := ⟨x - y - c, by omega⟩
          have hd1 : (x : Int) - y - c = d := by omega
          have HD := Lib.hid (HS.out d 0 (by omega) (by omega) (by omega))
          clear HS
          go_wp2_with (at_builtin; refine wpList_append_own _ rfl _ _ 95 rfl w.heap.size 3 i0 (.int .i64 0) 1 8 Tryz.underlying95 hi hz0 hz1 hz2 rfl (by decide) _ _ _ rfl (hown.alloc _) ⟨wq.heap.size, 0, none⟩ 1 1 [.int .i64 ((d : Nat) : Int)] rfl rfl ?_ ?_ ?_ ?_ ?_ ?_)
          · rfl
          · unfold maxLen; omega
          · omega
          · have := hbel.size; simp; omega
          · intro v' w1 hown' hgrow _
            have hb' : Below w.heap.size w w1 := (hbel.alloc hbel.size _).grown hgrow (by have := hbel.size; simp; omega) (fun k hk => (hown.lt k hk).1)
            have hown2 : w1.ownsRow w.heap.size 3 1 v' (i + 1) (cellsOfDigs (zs ++ [d])) := by
              unfold cellsOfDigs at hown' ⊢
              simpa using hown'
            clear hown' hgrow hown
            go_wp2_with fail
            go_roundg (gk - 1)
            case measure => omega
            case rel => exact ⟨i + 1, 0, zs ++ [d], by omega, rfl, by go_num, by omega, hown2, HD, hb'⟩
      · obtain rfl : i = n := by omega
        have hN := HN.out
        subst hN
        have hz := hown
        rw [← HA.out.len] at hz
        have hval : Aside (val10 zs + val10 ys = val10 xs) := HA.out.all HX.out HY.out HL.out
        have hlen := HA.out.len
        have hsmall := HA.out.small
        clear hown HC
        go_wp2_with fail
        go_ret
        exact ⟨_, rfl, zs, hz, hsmall, hval, hlen, hbel⟩

theorem owns_base {w : World} {b b' e size n : Nat} {v : Value} {xs : List Value} (h : w.ownsRow b e size v n xs) (hb : b' ≤ b) : w.ownsRow b' e size v n xs :=
  ⟨h.1, h.2.imp id fun ⟨g, cap, cur, e1, e2, r⟩ => ⟨g, cap, cur, e1, Nat.le_trans hb e2, r⟩⟩
/-- A long division, its places from t on done. -/
structure QuoO (X B n t : Nat) (ls qs : List Nat) : Prop where
  sq : Small qs
  sl : Small ls
  zero : ∀ j, j < t → dig qs j = 0
  quo : val10 qs = X / 10 ^ t / B * 10 ^ t
  rem : val10 ls = X / 10 ^ t % B
  len : ls.length + t = n
theorem QuoO.start {xs : List Nat} (hs : Small xs) {B n : Nat} (hn : n = xs.length) : QuoO (val10 xs) B n n [] (List.replicate n 0) := by
  have h0 : val10 xs / 10 ^ n = 0 := Nat.div_eq_of_lt (by rw [hn]; exact val10_lt hs)
  refine ⟨small_noughts n, fun j => by simp [dig], fun j _ => ?_, ?_, ?_, by simp⟩
  · unfold dig; rw [List.getD_eq_getElem?_getD, List.getElem?_replicate]; split <;> simp
  · rw [val_noughts, h0]; simp
  · rw [h0]; simp [val10, vT]
theorem QuoO.fin {X B n : Nat} {ls qs : List Nat} (h : QuoO X B n 0 ls qs) : val10 qs = X / B := by
  have := h.quo
  simpa using this
/-- Within a place: so often taken away. -/
structure QuoI (X B n i j : Nat) (ls qs : List Nat) : Prop where
  sq : Small qs
  sl : Small ls
  zero : ∀ k, k < i → dig qs k = 0
  at_ : dig qs i = j
  quo : val10 qs = X / 10 ^ (i + 1) / B * 10 ^ (i + 1) + j * 10 ^ i
  rem : val10 ls + j * B = X / 10 ^ (i + 1) % B * 10 + X / 10 ^ i % 10
  len : ls.length + i = n
theorem QuoO.enter {X B n i x : Nat} {ls qs : List Nat} (h : QuoO X B n (i + 1) ls qs) (hx : x = X / 10 ^ i % 10) : QuoI X B n i 0 (x :: ls) qs :=
  ⟨h.sq, small_cons (by omega) h.sl, fun k hk => h.zero k (by omega), h.zero i (by omega), by rw [h.quo]; simp, by rw [val10_cons, h.rem, hx, Nat.zero_mul, Nat.add_zero], by have := h.len; simp; omega⟩
theorem QuoI.nine {X B n i j : Nat} {ls qs : List Nat} (h : QuoI X B n i j ls qs) (hB : 0 < B) (hle : B ≤ val10 ls) : j + 1 ≤ 9 := by
  have h1 := h.rem
  have h2 : X / 10 ^ (i + 1) % B < B := Nat.mod_lt _ hB
  have h3 : X / 10 ^ i % 10 < 10 := Nat.mod_lt _ (by decide)
  generalize X / 10 ^ (i + 1) % B = r at *
  generalize X / 10 ^ i % 10 = d at *
  rcases Nat.lt_or_ge j 9 with k | k
  · omega
  · have h4 : 9 * B ≤ j * B := Nat.mul_le_mul_right _ k
    omega
theorem QuoI.step {X B n i j : Nat} {ls qs zs : List Nat} (h : QuoI X B n i j ls qs) (hB : 0 < B) (hle : B ≤ val10 ls) (hz : Small zs) (hv : val10 zs + B = val10 ls) (hl : zs.length = ls.length) (hi : i < qs.length) : QuoI X B n i (j + 1) zs (qs.set i (j + 1)) := by
  have h9 := h.nine hB hle
  have hs := val10_set qs i (j + 1) hi
  rw [h.at_] at hs
  refine ⟨small_set h.sq _ _ h9 hi, hz, fun k hk => by rw [dig_set _ _ _ _ hi, if_neg (by omega)]; exact h.zero k hk, by rw [dig_set _ _ _ _ hi, if_pos rfl], ?_, ?_, by rw [hl]; exact h.len⟩
  · have := h.quo
    omega
  · have := h.rem
    rw [Nat.add_mul, Nat.one_mul]; omega
theorem QuoI.leave {X B n i j : Nat} {ls qs : List Nat} (h : QuoI X B n i j ls qs) (hB : 0 < B) (hlt : val10 ls < B) : QuoO X B n i ls qs := by
  have e : X / 10 ^ i = X / 10 ^ (i + 1) * 10 + X / 10 ^ i % 10 := by
    rw [Nat.pow_succ, ← Nat.div_div_eq_div_mul]; omega
  obtain ⟨l1, l2⟩ := long_step (X := X / 10 ^ (i + 1)) (t := X / 10 ^ i % 10) hB
  rw [← e] at l1 l2
  have hr := h.rem
  have hj : (X / 10 ^ (i + 1) % B * 10 + X / 10 ^ i % 10) / B = j ∧ (X / 10 ^ (i + 1) % B * 10 + X / 10 ^ i % 10) % B = val10 ls := by
    rw [← hr, Nat.mul_comm j B]
    exact ⟨by rw [Nat.add_mul_div_left _ _ hB, Nat.div_eq_of_lt hlt, Nat.zero_add], by rw [Nat.add_mul_mod_self_left, Nat.mod_eq_of_lt hlt]⟩
  refine ⟨h.sq, h.sl, h.zero, ?_, by rw [l2, hj.2], h.len⟩
  rw [h.quo, l1, hj.1, Nat.add_mul, Nat.pow_succ, Nat.mul_comm (10 ^ i) 10, Nat.mul_assoc]
theorem digit_of {xs : List Nat} (hs : Small xs) (i : Nat) : dig xs i = val10 xs / 10 ^ i % 10 := by
  have := top_step hs i
  have h9 := hs i
  omega

theorem BoxS.grown {w wr w2 : World} {N1 N2 : Bool} {u v : Value} {s1 s2 : Int} {row : Option Nat} (h : BoxS w N1 u s1 N2 v s2 wr) (k : wr.grownBy w2 row) (hr : ∀ b, row = some b → w.heap.size + 3 ≤ b) : BoxS w N1 u s1 N2 v s2 w2 := by
  have hs := h.size
  have hb : Below (w.heap.size + 3) wr w2 := (Below.refl _ _).grown k hs hr
  exact ⟨(hb.block _ (by omega)).trans h.r2, (hb.block _ (by omega)).trans h.r3, (hb.block _ (by omega)).trans h.r4, h.bel.trans (hb.mono (by omega))⟩
theorem BoxS.alloc {w wr : World} {N1 N2 : Bool} {u v : Value} {s1 s2 : Int} (h : BoxS w N1 u s1 N2 v s2 wr) (o : Obj) : BoxS w N1 u s1 N2 v s2 (wr.alloc o) := h.below (below_alloc wr o)
theorem BoxS.drew {w wr : World} {N1 N2 : Bool} {u v : Value} {s1 s2 : Int} (h : BoxS w N1 u s1 N2 v s2 wr) : BoxS w N1 u s1 N2 v s2 wr.drew := ⟨h.r2, h.r3, h.r4, h.bel.drew⟩

set_option maxRecDepth 20000 in
set_option maxHeartbeats 6400000 in
theorem refQuotient (N1 N2 : Bool) (u v : Value) (d1 d2 : List Nat) (s1 s2 S : Nat) (w : World) (I1 : Ints w u d1) (I2 : Ints w v d2) (sm1 : Small d1) (sm2 : Small d2) (h1 : s1 ≤ S) (h2 : s2 ≤ S) (h3 : S = s1 ∨ S = s2) (bS : S ≤ 1000) (l1 : d1.length ≤ 1000) (l2 : d2.length ≤ 1000) (p1 : 0 < d1.length) (p2 : 0 < val10 d2) :
    Calls Tryz.prog 106 #[.agg #[.bool N1, u, .int .i64 s1], .agg #[.bool N2, v, .int .i64 s2]] w (TimPost w (N1 != N2) (val10 d1 * 10 ^ (S - s1) * 10 ^ 20 / (val10 d2 * 10 ^ (S - s2))) (20 + (S - s1 + d1.length)) 20) := by
  obtain ⟨i0, hi, hz0, hz1, hz2⟩ := info_parts info3
  have hmk : ∀ W, (Instr.makeSlice 95 (.int .i64 20) (.int .i64 20)).run Tryz.prog W = .ok (.slice (some ⟨W.heap.size, 0, none⟩) 20 20) (W.alloc (.cells (Array.replicate 20 (.int .i64 0)) 3)) := fun _ => by kernel_rfl
  obtain ⟨xs, hxs⟩ : ∃ xs, xs = List.replicate (S - s1) 0 ++ d1 := ⟨_, rfl⟩
  obtain ⟨ys, hys⟩ : ∃ ys, ys = List.replicate (S - s2) 0 ++ d2 := ⟨_, rfl⟩
  have hvx : val10 d1 * 10 ^ (S - s1) = val10 xs := by rw [hxs, val10_shift]
  have hvy : val10 d2 * 10 ^ (S - s2) = val10 ys := by rw [hys, val10_shift]
  have hlx : S - s1 + d1.length = xs.length := by rw [hxs, pad_len]
  rw [hvx, hvy, hlx]
  obtain ⟨n, hn⟩ : ∃ n, n = 20 + xs.length := ⟨_, rfl⟩
  rw [← hn]
  have hxlen : 0 < xs.length ∧ xs.length ≤ 2000 := by omega
  have hylen : ys.length ≤ 2000 := by rw [hys, pad_len]; omega
  have hyp : 0 < val10 ys := by rw [← hvy]; exact Nat.mul_pos p2 (Nat.pow_pos (by decide))
  have HXS : Hid (xs = List.replicate (S - s1) 0 ++ d1 ∧ (0 < xs.length ∧ xs.length ≤ 2000) ∧ n = 20 + xs.length) := Lib.hid ⟨hxs, hxlen, hn⟩
  have HYS : Hid (ys = List.replicate (S - s2) 0 ++ d2 ∧ ys.length ≤ 2000 ∧ 0 < val10 ys ∧ Small ys ∧ Small xs) := Lib.hid ⟨hys, hylen, hyp, by rw [hys]; exact small_pad sm2, by rw [hxs]; exact small_pad sm1⟩
  have HL1 := Lib.hid l1
  have HL2 := Lib.hid l2
  have HS3 := Lib.hid h3
  have o1 := ints_one I1
  have o2 := ints_one I2
  obtain ⟨W0, hW0⟩ : ∃ W0, W0 = ((w.alloc (.cells #[.bool N1, u, .int .i64 s1] 97)).alloc (.cells #[.bool N2, v, .int .i64 s2] 97)).alloc (.cells #[.bool false, .slice none 0 0, .int .i64 0] 97) := ⟨_, rfl⟩
  have HB0 : Hid (BoxS w N1 u s1 N2 v s2 W0) := Lib.hid ⟨by rw [hW0]; exact heap_old _ (heap_old _ (heap_new _ _ rfl)), by rw [hW0]; exact heap_old _ (heap_new _ _ (by simp)), by rw [hW0]; exact heap_new _ _ (by simp), by rw [hW0]; exact (((Below.refl _ _).alloc (Nat.le_refl _) _).alloc (by simp) _).alloc (by simp; omega) _⟩
  have HW0 := Lib.hid hW0
  have HI1 := Lib.hid I1
  have HI2 := Lib.hid I2
  clear hvx hvy hlx hxs hys hn hxlen hylen hyp sm1 sm2 I1 I2 l1 l2 h3 hW0 p1 p2
  go_enter Tryz.func106, Tryz.ntmps106
  go_upto_if 16 with fail
  go_cut [5] (fun s5 wx => s5 = .int .i64 S ∧ wx = W0)
  case first =>
    clear hmk
    by_cases hs : (s2 : Int) > s1
    · obtain rfl : S = s2 := by have := HS3.out; omega
      go_wp2_with fail
      go_meet
      case rel => exact ⟨rfl, HW0.out.symm⟩
    · obtain rfl : S = s1 := by have := HS3.out; omega
      go_wp2_with fail
      go_meet
      case rel => exact ⟨rfl, HW0.out.symm⟩
  case rest =>
    obtain ⟨rfl, rfl⟩ := hcut
    go_upto_region 4 with fail
    go_cut [6] (fun s6 wx => ∃ p cap, s6 = .slice p n cap ∧ BoxS w N1 u s1 N2 v s2 wx ∧ Ints wx (.slice p n cap) (List.replicate 20 0 ++ xs))
    case first =>
      refine wp_region_held_drew (S := BoxS w N1 u s1 N2 v s2) (by kernel_rfl) HB0.out.drew (fun hHeld => ?_)
      refine wpAnyH_take (i := 1) rfl (by kernel_rfl) (by kernel_rfl) (by kernel_rfl) (fun _ _ _ h => h) (yieldsIf_load44 (by rfl) (.tmp 2) rfl w.heap.size rfl N1 u s1 (fun _ h => h.r2)) hHeld ?_
      try simp only [Act.put, List.getElem_toArray, List.getElem_cons_succ, List.getElem_cons_zero, List.setIfInBounds_toArray, List.set_cons_zero, List.set_cons_succ]
      refine wpAnyH_take (i := 2) (v := .int .i64 S) rfl (by kernel_rfl) (by kernel_rfl) (by kernel_rfl) (fun _ _ _ h => h) (Or.inl ⟨by rfl, fun W _ => by go_simp⟩) hHeld ?_
      try simp only [Act.put, List.getElem_toArray, List.getElem_cons_succ, List.getElem_cons_zero, List.setIfInBounds_toArray, List.set_cons_zero, List.set_cons_succ]
      refine wpAnyH_ready (rs := [0, 3]) (by kernel_rfl) (by simp) ?_
      refine AllReadyH.cons rfl (fun K hK => ?_) ?_
      · go_simp
        refine hK.out _ _ (hHeld.alloc _) (fun hHeld2 => ?_)
        have OW0 := Lib.hid (made20 _ (w.heap.size + 3) hHeld.size)
        clear hK K hHeld
        have hHeld := hHeld2
        clear hHeld2
        try simp only [Act.put, List.getElem_toArray, List.getElem_cons_succ, List.getElem_cons_zero, List.setIfInBounds_toArray, List.set_cons_zero, List.set_cons_succ]
        refine wpAnyH_ready (rs := [3]) (by kernel_rfl) (by simp) ?_
        refine AllReadyH.cons rfl (fun K hK => ?_) AllReadyH.nil
        go_simp
        refine (refScaledA N1 u d1 s1 S _ (HI1.out.below hHeld.bel) h1 (by omega) (by have := HL1.out; omega) xs (Lib.hid HXS.out.1)).mono ?_
        rintro e wc ⟨x0, rfl, hx0, hbc⟩
        refine hK.out _ _ (hHeld.below hbc) (fun hHeld2 => ?_)
        have OW := Lib.hid (OW0.out.kept (below_grown hbc) (.inr (by simp [Value.ownBlock])))
        have HX := Lib.hid hx0
        have HB := Lib.hid (hHeld.below hbc)
        clear hK K hHeld hbc hx0
        have hHeld := hHeld2
        clear hHeld2
        try simp only [Act.put, List.getElem_toArray, List.getElem_cons_succ, List.getElem_cons_zero, List.setIfInBounds_toArray, List.set_cons_zero, List.set_cons_succ]
        obtain ⟨px, capx, rfl⟩ := HX.out.form
        obtain ⟨ax, rfl⟩ := HX.out.some (by have := HXS.out.2.1; omega)
        have hown := OW.out
        have hsz := HB.out.size
        have hxl := HXS.out.2.1
        refine wpAnyH_ready (rs := [4]) (by kernel_rfl) (by simp) ?_
        refine AllReadyH.cons rfl (fun K hK => ?_) AllReadyH.nil
        rw [if_pos (by rfl)]
        refine wp_append_own _ (.tmp 19) (.tmp 22) 95 rfl (w.heap.size + 3) 3 i0 (.int .i64 0) 1 8 Tryz.underlying95 hi hz0 hz1 hz2 rfl (by decide) _ 20 _ rfl hown ax xs.length capx (cellsOfDigs xs) rfl (by simp [cellsOfDigs]) (news_of_ints HX.out) (fun u hu => one_of_digs hu) (by unfold maxLen; omega) (by omega) (by omega) (fun v' wz hown' hgrow _ => ?_)
        rw [← digs_app] at hown'
        have hbz : BoxS w N1 u s1 N2 v s2 wz := HB.out.grown hgrow (fun k hk => (hown.lt k hk).1)
        have hiz := ints_of_owns hown' (pad_len 20 xs).symm
        refine hK.out _ _ hbz (fun hHeld2 => ?_)
        have HF := Lib.hid (And.intro hbz hiz)
        clear hK K hHeld2 hHeld hown hown' hgrow hbz hiz
        have hHeld := HF.out.1
        try simp only [Act.put, List.getElem_toArray, List.getElem_cons_succ, List.getElem_cons_zero, List.setIfInBounds_toArray, List.set_cons_zero, List.set_cons_succ]
        refine wpAnyH_ready (rs := [5]) (by kernel_rfl) (by simp) ?_
        refine AllReadyH.cons rfl (fun K hK => ?_) AllReadyH.nil
        go_simp
        refine hK.out _ _ hHeld (fun hHeld2 => ?_)
        clear hK K hHeld2 hHeld
        try simp only [Act.put, List.getElem_toArray, List.getElem_cons_succ, List.getElem_cons_zero, List.setIfInBounds_toArray, List.set_cons_zero, List.set_cons_succ]
        refine wpAnyH_done (by kernel_rfl) ?_ _
        obtain ⟨pf, capf, rfl⟩ := HF.out.2.form
        have HLN : Hid ((List.replicate 20 0 ++ xs).length = n) := Lib.hid (by rw [HXS.out.2.2, pad_len])
        go_wp2_with fail
        go_meet
        case rel => exact ⟨pf, capf, by rw [HLN.out], HF.out.1, by have := HF.out.2; rwa [HLN.out] at this⟩
      · refine AllReadyH.cons rfl (fun K hK => ?_) AllReadyH.nil
        go_simp
        refine (refScaledA N1 u d1 s1 S _ (HI1.out.below hHeld.bel) h1 (by omega) (by have := HL1.out; omega) xs (Lib.hid HXS.out.1)).mono ?_
        rintro e wc ⟨x0, rfl, hx0, hbc⟩
        refine hK.out _ _ (hHeld.below hbc) (fun hHeld2 => ?_)
        have HX0 := Lib.hid hx0
        clear hK K hHeld hbc hx0
        have hHeld := hHeld2
        clear hHeld2
        try simp only [Act.put, List.getElem_toArray, List.getElem_cons_succ, List.getElem_cons_zero, List.setIfInBounds_toArray, List.set_cons_zero, List.set_cons_succ]
        refine wpAnyH_ready (rs := [0]) (by kernel_rfl) (by simp) ?_
        refine AllReadyH.cons rfl (fun K hK => ?_) AllReadyH.nil
        go_simp
        refine hK.out _ _ (hHeld.alloc _) (fun hHeld2 => ?_)
        have OW := Lib.hid (made20 _ (w.heap.size + 3) hHeld.size)
        have HX := Lib.hid (HX0.out.below (below_alloc _ (.cells (Array.replicate 20 (.int .i64 0)) 3)))
        have HB := Lib.hid (hHeld.alloc (.cells (Array.replicate 20 (.int .i64 0)) 3))
        clear hK K hHeld
        have hHeld := hHeld2
        clear hHeld2
        try simp only [Act.put, List.getElem_toArray, List.getElem_cons_succ, List.getElem_cons_zero, List.setIfInBounds_toArray, List.set_cons_zero, List.set_cons_succ]
        obtain ⟨px, capx, rfl⟩ := HX.out.form
        obtain ⟨ax, rfl⟩ := HX.out.some (by have := HXS.out.2.1; omega)
        have hown := OW.out
        have hsz := HB.out.size
        have hxl := HXS.out.2.1
        refine wpAnyH_ready (rs := [4]) (by kernel_rfl) (by simp) ?_
        refine AllReadyH.cons rfl (fun K hK => ?_) AllReadyH.nil
        rw [if_pos (by rfl)]
        refine wp_append_own _ (.tmp 19) (.tmp 22) 95 rfl (w.heap.size + 3) 3 i0 (.int .i64 0) 1 8 Tryz.underlying95 hi hz0 hz1 hz2 rfl (by decide) _ 20 _ rfl hown ax xs.length capx (cellsOfDigs xs) rfl (by simp [cellsOfDigs]) (news_of_ints HX.out) (fun u hu => one_of_digs hu) (by unfold maxLen; omega) (by omega) (by omega) (fun v' wz hown' hgrow _ => ?_)
        rw [← digs_app] at hown'
        have hbz : BoxS w N1 u s1 N2 v s2 wz := HB.out.grown hgrow (fun k hk => (hown.lt k hk).1)
        have hiz := ints_of_owns hown' (pad_len 20 xs).symm
        refine hK.out _ _ hbz (fun hHeld2 => ?_)
        have HF := Lib.hid (And.intro hbz hiz)
        clear hK K hHeld2 hHeld hown hown' hgrow hbz hiz
        have hHeld := HF.out.1
        try simp only [Act.put, List.getElem_toArray, List.getElem_cons_succ, List.getElem_cons_zero, List.setIfInBounds_toArray, List.set_cons_zero, List.set_cons_succ]
        refine wpAnyH_ready (rs := [5]) (by kernel_rfl) (by simp) ?_
        refine AllReadyH.cons rfl (fun K hK => ?_) AllReadyH.nil
        go_simp
        refine hK.out _ _ hHeld (fun hHeld2 => ?_)
        clear hK K hHeld2 hHeld
        try simp only [Act.put, List.getElem_toArray, List.getElem_cons_succ, List.getElem_cons_zero, List.setIfInBounds_toArray, List.set_cons_zero, List.set_cons_succ]
        refine wpAnyH_done (by kernel_rfl) ?_ _
        obtain ⟨pf, capf, rfl⟩ := HF.out.2.form
        have HLN : Hid ((List.replicate 20 0 ++ xs).length = n) := Lib.hid (by rw [HXS.out.2.2, pad_len])
        go_wp2_with fail
        go_meet
        case rel => exact ⟨pf, capf, by rw [HLN.out], HF.out.1, by have := HF.out.2; rwa [HLN.out] at this⟩
    case rest =>
      obtain ⟨px, capx, rfl, hbx, hix⟩ := hcut
      have HB := Lib.hid hbx
      have HX := Lib.hid hix
      have r3 := hbx.r3
      clear hbx hix hmk HB0 HI1
      go_upto_region 7 with (first
        | ((with_reducible refine wpList_load44 (.tmp 3) (w.heap.size + 1) r3 ?_ ?_ ?_ ?_); rfl; rfl; rfl)
        | (go_at_call 123; (with_reducible refine (refScaledA N2 v d2 s2 S _ (HI2.out.below HB.out.bel) h2 (by omega) (by have := HL2.out; omega) ys (Lib.hid HYS.out.1)).mono ?_); rintro e wb ⟨y, rfl, hy, hbb⟩; have HQ := Lib.hid (And.intro hy hbb); clear hy hbb r3))
      obtain ⟨py, capy, rfl⟩ := HQ.out.1.form
      have HBB := Lib.hid (HB.out.below HQ.out.2)
      have HXB := Lib.hid (HX.out.below HQ.out.2)
      have HYB := Lib.hid HQ.out.1
      clear HB HX HQ HI2
      obtain ⟨ny, hny⟩ : ∃ ny, ny = ys.length := ⟨_, rfl⟩
      rw [← hny] at HYB ⊢
      have HNY := Lib.hid hny
      clear hny
      have hnb : n ≤ 2020 ∧ 0 < n := by have := HXS.out.2; omega
      have hn1 := hnb.1
      have hn2 := hnb.2
      have hsz := HBB.out.size
      go_wp2_with ((with_reducible refine wpList_make_full _ rfl (.tmp 28) (.tmp 28) 95 rfl (w.heap.size + 3) 3 i0 (.int .i64 0) 1 Tryz.underlying95 hi hz0 hz1 .i64 .i64 _ _ n rfl rfl rfl rfl ?_ ?_ ?_ ?_))
      · rw [hz2]; omega
      · unfold maxLen; omega
      · omega
      intro w1 hown hgrow
      rw [made_digs] at hown
      have hbw : Below wb.heap.size wb w1 := (Below.refl _ _).grown hgrow (Nat.le_refl _) (fun _ h => by cases h)
      have HT0 : Hid (TimS w wb.heap.size N1 u s1 N2 v s2 n (List.replicate n 0) w1) := Lib.hid ⟨HBB.out.r2.below hbw, HBB.out.r3.below hbw, HBB.out.r4.below hbw, hown, below_any HBB.out.bel hbw (Nat.le_of_lt HBB.out.r2.lt), by simp⟩
      have HBW := Lib.hid hbw
      clear hown hgrow hbw
      obtain ⟨X, hX⟩ : ∃ X, X = val10 (List.replicate 20 0 ++ xs) := ⟨_, rfl⟩
      have HXX := Lib.hid hX
      obtain ⟨B, hB⟩ : ∃ B, B = val10 ys := ⟨_, rfl⟩
      have HBV := Lib.hid hB
      have hBp : 0 < B := by rw [hB]; exact HYS.out.2.2.1
      have hsx : Small (List.replicate 20 0 ++ xs) := small_pad HYS.out.2.2.2.2
      have HSX := Lib.hid hsx
      have hst : QuoO X B n n [] (List.replicate n 0) := by rw [hX]; exact QuoO.start hsx (by rw [HXS.out.2.2, pad_len])
      have HST := Lib.hid hst
      clear hX hB hst hsx hnb
      go_wp2_with fail
      go_loopg [8, 10] n (fun gg s8 s10 wr => ∃ (lv : Value) (ls qs : List Nat) (i : Int), i + 1 = gg ∧ s8 = lv ∧ s10 = .int .i64 i ∧ i < n ∧ TimS w wb.heap.size N1 u s1 N2 v s2 n qs wr ∧ Below wb.heap.size wb wr ∧ wr.ownsRow (wb.heap.size + 1) 3 1 lv ls.length (cellsOfDigs ls) ∧ Hid (QuoO X B n gg ls qs))
      case atStart => exact ⟨_, [], _, (n : Int) - 1, by omega, rfl, rfl, by omega, HT0.out, HBW.out, World.ownsRow_nil _ _ _ _, HST.out⟩
      case round =>
        clear HT0 HBW HST
        obtain ⟨lv, ls, qs, i, hig, rfl, rfl, hin, T, hbw, hown, HQO⟩ := hrel
        have HT := Lib.hid T
        have HBW := Lib.hid hbw
        have HOWN := Lib.hid hown
        clear T hbw hown
        by_cases h0 : i ≥ 0
        · obtain ⟨k, rfl⟩ := Int.eq_ofNat_of_zero_le h0
          obtain rfl : gk = k + 1 := by omega
          have hkn : k < n := by omega
          obtain ⟨x, hx⟩ : ∃ x, x = dig (List.replicate 20 0 ++ xs) k := ⟨_, rfl⟩
          have hx9 : x ≤ 9 := by rw [hx]; exact HSX.out k
          obtain ⟨bx, offx, hpe, hcx⟩ := HXB.out.at (j := k) (by rw [pad_len]; have := HXS.out.2.2; omega)
          subst hpe
          rw [← hx] at hcx
          have cx : wr.cell? ⟨bx, offx + k, none⟩ = some (.int .i64 x) := (HBW.out.cell (p := ⟨bx, offx + k, none⟩) (World.block_lt_of_cell? wb _ hcx)).trans hcx
          have HIN : Hid (QuoI X B n k 0 (x :: ls) qs) := Lib.hid (HQO.out.enter (by rw [hx, HXX.out]; exact digit_of HSX.out k))
          have hll : ls.length ≤ 2020 := by have := HQO.out.len; omega
          have hwb : wb.heap.size < wr.heap.size := (HT.out.own.lt _ rfl).2
          have hone : ∀ W : World, wb.heap.size + 1 ≤ W.heap.size → (W.alloc (.cells #[.int .i64 x] 3)).ownsRow (wb.heap.size + 1) 3 1 (.slice (some ⟨W.heap.size, 0, none⟩) 1 1) 1 [.int .i64 x] := fun W hW => ⟨rfl, .inr ⟨W.heap.size, 1, _, rfl, hW, heap_new _ _ rfl, Nat.le_refl _, by unfold maxLen; omega, rfl, rfl⟩⟩
          have HONE := Lib.hid hone
          clear hx hcx hone HQO
          go_upto_region 11 with fail
          go_cut [8] (fun s8 wx => TimS w wb.heap.size N1 u s1 N2 v s2 n qs wx ∧ Below wb.heap.size wb wx ∧ wx.ownsRow (wb.heap.size + 1) 3 1 s8 (ls.length + 1) (cellsOfDigs (x :: ls)))
          case first =>
            have hown1 := HONE.out wr (by omega)
            have hlo := HOWN.out
            rcases hlo.2 with ⟨e, e0⟩ | ⟨gl, capl, cur, e, _⟩
            · subst e
              have hlz : ls = [] := List.length_eq_zero_iff.1 e0
              subst hlz
              clear hlo
              go_wp2_with (refine wpList_append_own_none rfl (.tmp 41) (.tmp 42) 95 rfl (wb.heap.size + 1) 3 i0 1 Tryz.underlying95 hi _ 1 _ rfl hown1 rfl ?_)
              go_meet
              case rel => exact ⟨HT.out.below (below_alloc _ _), HBW.out.trans ((below_alloc wr _).mono (by omega)), hown1⟩
            · subst e
              have hnw : ∀ j z, (cellsOfDigs ls)[j]? = some z → (wr.alloc (.cells #[.int .i64 x] 3)).cell? ((⟨gl, 0, none⟩ : Addr).add j) = some z := fun j z hj => by
                have hl : j < ls.length := by
                  have := (List.getElem?_eq_some_iff.1 hj).1
                  rwa [cellsOfDigs_len] at this
                have := (hlo.alloc (.cells #[.int .i64 x] 3)).cellAt j (by omega)
                rw [Addr.add_mid, Nat.zero_add, this]; exact hj
              have HNW := Lib.hid hnw
              clear hnw
              go_wp2_with (refine wpList_append_own _ rfl (.tmp 41) (.tmp 42) 95 rfl (wb.heap.size + 1) 3 i0 (.int .i64 0) 1 8 Tryz.underlying95 hi hz0 hz1 hz2 rfl (by decide) _ 1 _ rfl hown1 ⟨gl, 0, none⟩ ls.length capl (cellsOfDigs ls) rfl (by simp [cellsOfDigs]) HNW.out ?_ ?_ ?_ ?_ ?_)
              all_goals (try (first | (unfold maxLen; omega) | omega | (simp; omega) | (intro z hz; exact one_of_digs hz)))
              intro v' w2 hown2 hgrow _
              have ht2 : TimS w wb.heap.size N1 u s1 N2 v s2 n qs w2 := by
                have ha := HT.out.below (below_alloc wr (.cells #[.int .i64 x] 3))
                have hbq := ha.base
                have hbl : Below (wb.heap.size + 1) (wr.alloc (.cells #[.int .i64 x] 3)) w2 := (Below.refl _ _).grown hgrow (by simp; omega) (fun b hb => (hown1.lt b hb).1)
                exact ⟨(hbl.block _ (by omega)).trans ha.r2, (hbl.block _ (by omega)).trans ha.r3, (hbl.block _ (by omega)).trans ha.r4, ha.own.kept hgrow (.inr (fun e => by have := (hown1.lt wb.heap.size e.symm).1; omega)), ha.bel.trans (hbl.mono (by omega)), ha.len⟩
              have hb2 : Below wb.heap.size wb w2 := (HBW.out.trans ((below_alloc wr (.cells #[.int .i64 x] 3)).mono (by omega))).grown hgrow (by simp; omega) (fun b hb => by have := (hown1.lt b hb).1; omega)
              have hown3 : w2.ownsRow (wb.heap.size + 1) 3 1 v' (ls.length + 1) (cellsOfDigs (x :: ls)) := by have h4 := hown2; rw [Nat.add_comm 1 ls.length] at h4; exact h4
              have HR2 := Lib.hid (And.intro ht2 (And.intro hb2 hown3))
              clear hown2 hgrow hown1 hlo ht2 hb2 hown3
              go_wp2_with fail
              go_meet
              case rel => exact ⟨HR2.out.1, HR2.out.2.1, HR2.out.2.2⟩
          case rest =>
            rename_i s8v
            obtain ⟨T2, hb2, hown2⟩ := hcut
            have HT2 := Lib.hid T2
            have HB2 := Lib.hid hb2
            have HO2 := Lib.hid hown2
            clear T2 hb2 hown2 HT HBW HOWN HONE cx HXB
            go_wp2_with fail
            go_loopg [8] (val10 (x :: ls)) (fun gg s8 wq => ∃ (lw : Value) (ms rs : List Nat) (j : Nat), s8 = lw ∧ Hid (val10 ms = gg) ∧ TimS w wb.heap.size N1 u s1 N2 v s2 n rs wq ∧ Below wb.heap.size wb wq ∧ wq.ownsRow (wb.heap.size + 1) 3 1 lw ms.length (cellsOfDigs ms) ∧ Hid (QuoI X B n k j ms rs))
            case atStart => exact ⟨_, x :: ls, qs, 0, rfl, Lib.hid rfl, HT2.out, HB2.out, HO2.out, HIN.out⟩
            case round =>
              clear HT2 HB2 HO2 HIN
              obtain ⟨lw, ms, rs, j, rfl, HG, T, hbw, hown, HQI⟩ := hrel
              have HT := Lib.hid T
              have HBW := Lib.hid hbw
              have HOWN := Lib.hid hown
              have HMI := Lib.hid (ints_of_owns hown rfl)
              have HYI := Lib.hid (HYB.out.below hbw)
              clear T hbw hown
              have hml : ms.length ≤ 2020 := by have := HQI.out.len; omega
              have hyl : ys.length ≤ 2000 := HYS.out.2.1
              obtain ⟨r, hr⟩ : ∃ r, r = cmpZ (val10 ms) (val10 ys) := ⟨_, rfl⟩
              have HR := Lib.hid hr
              clear hr
              by_cases hge : B ≤ val10 ms
              · have hrn : r ≥ 0 := by rw [HR.out]; unfold cmpZ; rw [if_neg (by have := HBV.out; omega)]; split <;> omega
                have hj9 := HQI.out.nine hBp hge
                have HGE := Lib.hid hge
                clear hge
                have hTl := HT.out.len
                go_wp2_with (first
                  | (go_at_call 125; (with_reducible refine (refCompare _ _ ms ys _ HMI.out HYI.out HQI.out.sl HYS.out.2.2.2.1 (by omega) (by omega) _ HR.out).mono ?_); rintro e w' ⟨rfl, rfl⟩)
                  | (go_at_call 126; (with_reducible refine (refSubF _ _ ms ys _ HMI.out HYI.out HQI.out.sl HYS.out.2.2.2.1 (by have := HGE.out; have := HBV.out; omega) (by omega)).mono ?_); rintro e w2 ⟨lz, zs, rfl, hoz, hzs, hvz, hlz, hb2⟩
                     have HZ := Lib.hid (And.intro hoz (And.intro hzs (And.intro hvz.out (And.intro hlz hb2)))); have HTB := Lib.hid (HT.out.below hb2); have cq : w2.cell? ⟨wb.heap.size, k, none⟩ = some (.int .i64 j) := by (rw [← HQI.out.at_]; exact HTB.out.cell hkn)
                     have fq := HTB.out.free k; clear hoz hzs hvz hlz hb2))
                have hset : TimS w wb.heap.size N1 u s1 N2 v s2 n (rs.set k (j + 1)) (w2.setCell ⟨wb.heap.size, k, none⟩ (.int .i64 ((j : Int) + 1))) := by
                  have h5 := HTB.out.set k (j + 1)
                  rwa [show ((j + 1 : Nat) : Int) = (j : Int) + 1 by omega] at h5
                have hbs : Below wb.heap.size wb (w2.setCell ⟨wb.heap.size, k, none⟩ (.int .i64 ((j : Int) + 1))) := (HBW.out.trans (HZ.out.2.2.2.2.mono (Nat.le_of_lt (HT.out.own.lt _ rfl).2))).setCell (p := ⟨wb.heap.size, k, none⟩) (Nat.le_refl _) _
                have hlo := owns_base HZ.out.1 (show wb.heap.size + 1 ≤ wr.heap.size from (HT.out.own.lt _ rfl).2)
                have hos := hlo.kept (HTB.out.own.stored k (.int .i64 ((j : Int) + 1))).2 (.inr (fun e => by have := (hlo.lt wb.heap.size e).1; omega))
                have HQN : Hid (QuoI X B n k (j + 1) zs (rs.set k (j + 1))) := Lib.hid (HQI.out.step hBp HGE.out HZ.out.2.1 (by have := HZ.out.2.2.1; have := HBV.out; omega) HZ.out.2.2.2.1 (by rw [hTl]; exact hkn))
                have hlt : val10 zs < gk := by have := HG.out; have := HZ.out.2.2.1; have := HBV.out; omega
                go_roundg (val10 zs)
                case measure => exact hlt
                case rel => exact ⟨_, zs, rs.set k (j + 1), j + 1, rfl, Lib.hid rfl, hset, hbs, hos, HQN⟩
              · have hrn : ¬ r ≥ 0 := by rw [HR.out]; unfold cmpZ; rw [if_pos (by have := HBV.out; omega)]; omega
                have HQO2 : Hid (QuoO X B n k ms rs) := Lib.hid (HQI.out.leave hBp (by omega))
                clear hge HQI
                go_wp2_with (go_at_call 125; (with_reducible refine (refCompare _ _ ms ys _ HMI.out HYI.out HQO2.out.sl HYS.out.2.2.2.1 (by omega) (by omega) _ HR.out).mono ?_); rintro e w' ⟨rfl, rfl⟩)
                go_roundg k
                case measure => omega
                case rel => exact ⟨_, ms, rs, (k : Int) - 1, by omega, rfl, by go_num, by omega, HT.out, HBW.out, HOWN.out, HQO2⟩
        · obtain rfl : gk = 0 := by omega
          have r4 := HT.out.r4
          have c20 := HT.out.r2.c0
          have c30 := HT.out.r3.c0
          clear hig hin HXB HYB
          go_wp2_with ((with_reducible refine wpList_store44 (m := N1 != N2) (u := .slice (some ⟨wb.heap.size, 0, none⟩) n n) (sd := 20) (.tmp 4) (.tmp 63) (w.heap.size + 2) r4 rfl ?_ ?_ ?_ ?_ ?_); rfl; rfl; rfl; rfl; intro w5 ho p5)
          have hz := (ints_of_owns HT.out.own HT.out.len.symm).rec ho r4
          have hb5 := below_only HT.out.bel ho (by omega) (Nat.le_of_lt HT.out.r2.lt)
          have hval : val10 qs = val10 xs * 10 ^ 20 / val10 ys := by rw [HQO.out.fin, HXX.out, HBV.out, val10_shift]
          exact bodyPost_ret (v := .agg #[.bool (N1 != N2), .slice (some ⟨wb.heap.size, 0, none⟩) n n, .int .i64 20]) (results44one (p := 4) Tryz.results106 _ rfl p5) rfl ⟨_, qs, rfl, hz, HQO.out.sq, hval, by rw [HT.out.len]; exact Nat.le_refl _, hb5⟩
end Go.Proofs.YtoifjjgakblhhaaGreatDoor
