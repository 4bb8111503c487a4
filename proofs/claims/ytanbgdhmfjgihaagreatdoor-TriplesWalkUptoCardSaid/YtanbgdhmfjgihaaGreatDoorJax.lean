/- Texts of one kind, one behind the other: each says ahead of itself what it shows. -/
import Derived.Test.YtanbgdhmfjgihaaGreatDoorJav
import Derived.Test.YtanbgdhmfjgihaaGreatDoorJaw
import Derived.Laws.StructEq
import Derived.Test.YtanbgdhmfjgihaaGreatDoorJas
import Derived.Test.YtanbgdhmfjgihaaGreatDoorJaa
import Derived.Test.YtanbgdhmfjgihaaGreatDoorJat
import Derived.Test.YtanbgdhmfjgihaaGreatDoorJai
import Derived.WalkKit
import Derived.OwnWalk
import Derived.Maps.AppendAt
import Derived.Deep.LoopGhost
/- slices.BinarySearchFunc at values: a value that is there is found. -/
namespace Go.Proofs.YtanbgdhmfjgihaaGreatDoor
open Go.RowKit

/-- compareValues, of two values by what their cells say. -/
theorem cmpIs (u v : V6) (a b : Val) (q q2 : List Val) (W : World) (hG : Gd W) (hT : Tab W) (hu : Is W u a q) (hv : Is W v b q2) :
    Calls Tryz.prog 74 #[.agg #[.int .i64 u.k, .bool u.b, .int .i64 u.n, .string u.t, .string u.x, .slice u.p u.len u.cap], .agg #[.int .i64 v.k, .bool v.b, .int .i64 v.n, .string v.t, .string v.x, .slice v.p v.len v.cap]] W fun e w' => e = .returned (.int .i64 (orderI 1 a b)) ∧ Low W.heap.size W w' := by
  obtain ⟨k, b', n, t, x, p, len, cap⟩ := u
  obtain ⟨k2, b2, n2, t2, x2, p2, len2, cap2⟩ := v
  obtain ⟨e1, l1, f1, d1⟩ := hu
  obtain ⟨e2, l2, f2, d2⟩ := hv
  simp only at e1 l1 f1 d1 e2 l2 f2 d2
  subst l1 l2
  exact cmpValAt _ _ W k b' n t x q p cap k2 b2 n2 t2 x2 q2 p2 cap2 e1 e2 hG hT f1 f2 d1 d2
set_option maxHeartbeats 6400000 in
set_option maxRecDepth 20000 in
theorem searchAt (l : List Val) (g o cap m : Nat) (u : V6) (q : List Val) (w : World) (hG : Gd w) (hT : Tab w) (hl : Holds w g o l) (hr : Rise l) (hm : m < l.length) (hn : l.length < 1073741824) (hu : Is w u l[m] q) :
    Calls Tryz.prog 78 #[.slice (some ⟨g, o, none⟩) l.length cap, .agg #[.int .i64 u.k, .bool u.b, .int .i64 u.n, .string u.t, .string u.x, .slice u.p u.len u.cap], .func (.func 74) #[] #[]] w fun e w' => e = .returned (.tuple #[.int .i64 m, .bool true]) ∧ Low w.heap.size w w' := by
  obtain ⟨W0, hW0⟩ : ∃ W0, W0 = w.alloc (.cells #[.int .i64 u.k, .bool u.b, .int .i64 u.n, .string u.t, .string u.x, .slice u.p u.len u.cap] 39) := ⟨_, rfl⟩
  have S0 : Six W0 w.heap.size u.k u.b u.n u.t u.x u.p u.len u.cap := by rw [hW0]; exact six_new _ rfl
  have b0 : Low w.heap.size w W0 := by rw [hW0]; exact low1 _ _
  have HW := Lib.hid hW0
  have HL := Lib.hid hl
  have HR := Lib.hid hr
  have HU := Lib.hid hu
  have HG := Lib.hid hG
  have HT := Lib.hid hT
  have RU0 : Hid (∀ W, Low W0.heap.size W0 W → W.rangeAt w.heap.size 0 [.int .i64 u.k, .bool u.b, .int .i64 u.n, .string u.t, .string u.x, .slice u.p u.len u.cap]) := Lib.hid fun W h => range6 (S0.low h).c0 (S0.low h).c1 (S0.low h).c2 (S0.low h).c3 (S0.low h).c4 (S0.low h).c5
  have hm2 : (m : Int) < l.length := by omega
  clear hW0 hl hr hu S0 hG hT
  go_enter Tryz.func78, Tryz.ntmps78
  go_wp2_with fail
  rw [← HW.out]
  go_loopg [9, 10] l.length (fun gg s9 s10 wr => ∃ lo hi : Nat, s9 = .int .i64 lo ∧ s10 = .int .i64 hi ∧ lo ≤ m ∧ m ≤ hi ∧ hi ≤ l.length ∧ hi - lo ≤ gg ∧ Hid (Low W0.heap.size W0 wr))
  case atStart => exact ⟨0, l.length, rfl, rfl, Nat.zero_le _, by omega, Nat.le_refl _, by omega, Lib.hid (Low.refl _ _)⟩
  case round =>
    obtain ⟨lo, hi, rfl, rfl, hlo, hhi, hin, hg, hb⟩ := hrel
    by_cases hlt : lo < hi
    · have hx : (lo + hi) / 2 < l.length := by omega
      have hb0 : Low w.heap.size w wr := b0.trans (hb.out.mono b0.size)
      obtain ⟨v, q2, i2, r2⟩ := isOf (Holds.at_ l o (Holds.below l HL.out hb0.is) ((lo + hi) / 2) hx)
      have RV : Hid (∀ W, Low wr.heap.size wr W → W.rangeAt g (o + (lo + hi) / 2 * 6) [.int .i64 v.k, .bool v.b, .int .i64 v.n, .string v.t, .string v.x, .slice v.p v.len v.cap]) := Lib.hid fun W h => range_below r2 h.is
      have RU : Hid (∀ W, Low wr.heap.size wr W → W.rangeAt w.heap.size 0 [.int .i64 u.k, .bool u.b, .int .i64 u.n, .string u.t, .string u.x, .slice u.p u.len u.cap]) := Lib.hid fun W h => RU0.out W (low_any hb.out h hb.out.size)
      obtain ⟨c, hc⟩ : ∃ c, c = orderI 1 l[(lo + hi) / 2] l[m] := ⟨_, rfl⟩
      have HC : Hid (∀ W, Low wr.heap.size wr W → Calls Tryz.prog 74 #[.agg #[.int .i64 v.k, .bool v.b, .int .i64 v.n, .string v.t, .string v.x, .slice v.p v.len v.cap], .agg #[.int .i64 u.k, .bool u.b, .int .i64 u.n, .string u.t, .string u.x, .slice u.p u.len u.cap]] W fun e w' => e = .returned (.int .i64 c) ∧ Low W.heap.size W w') := Lib.hid fun W h => by
        have hw := low_any hb0 h hb0.size
        rw [hc]
        exact cmpIs v u _ _ q2 q W (HG.out.below hw.is) (HT.out.below hw.is) (i2.below h.is) (HU.out.below hw.is)
      have HZ : Hid (c < 0 ↔ (lo + hi) / 2 < m) := Lib.hid (by rw [hc]; exact HR.out.lt _ m hx hm)
      have hx3 : (((lo + hi) / 2 : Nat) : Int) < l.length := by omega
      have hlt3 : (lo : Int) < hi := by omega
      have hs1 : (lo : Int) + hi < 9223372036854775808 := by omega
      clear i2 r2 hc
      go_upto_region 5 with fail
      refine wp_region_held_drew (S := fun W => Low wr.heap.size wr W) (by kernel_rfl) (Low.refl _ _).drew (fun hHeld => ?_)
      refine wpAnyH_take (i := 0) (v := .func (.func 74) #[] #[]) rfl (by kernel_rfl) (by kernel_rfl) (by kernel_rfl) (fun _ _ _ h => h) (Or.inl ⟨by rfl, fun W _ => by go_simp⟩) hHeld ?_
      try simp only [Act.put, List.getElem_toArray, List.getElem_cons_zero, List.setIfInBounds_toArray, List.set_cons_zero, List.set_cons_succ]
      refine wpAnyH_take (i := 1) (v := .slice (some ⟨g, o, none⟩) l.length cap) rfl (by kernel_rfl) (by kernel_rfl) (by kernel_rfl) (fun _ _ _ h => h) (Or.inl ⟨by rfl, fun W _ => by go_simp⟩) hHeld ?_
      try simp only [Act.put, List.getElem_toArray, List.getElem_cons_succ, List.getElem_cons_zero, List.setIfInBounds_toArray, List.set_cons_zero, List.set_cons_succ]
      refine wpAnyH_take (i := 2) (v := .int .i64 (((lo : Int) + hi) / 2)) rfl (by kernel_rfl) (by kernel_rfl) (by kernel_rfl) (fun _ _ _ h => h) (Or.inl ⟨by rfl, fun W _ => by go_simp⟩) hHeld ?_
      try simp only [Act.put, List.getElem_toArray, List.getElem_cons_succ, List.getElem_cons_zero, List.setIfInBounds_toArray, List.set_cons_zero, List.set_cons_succ]
      refine wpAnyH_take (i := 3) (v := .pointer (some ⟨g, o + (lo + hi) / 2 * 6, none⟩)) rfl (by kernel_rfl) (by kernel_rfl) (by kernel_rfl) (fun _ _ _ h => h) (Or.inl ⟨by rfl, fun W _ => by
                have t1 : (0 : Int) ≤ ((lo : Int) + hi) / 2 := by omega
                have t2 : ((lo : Int) + hi) / 2 < l.length := by omega
                have t3 : (((lo : Int) + hi) / 2).toNat = (lo + hi) / 2 := by omega
                go_simp⟩) hHeld ?_
      try simp only [Act.put, List.getElem_toArray, List.getElem_cons_succ, List.getElem_cons_zero, List.setIfInBounds_toArray, List.set_cons_zero, List.set_cons_succ]
      refine wpAnyH_take (i := 4) rfl (by kernel_rfl) (by kernel_rfl) (by kernel_rfl) (fun _ _ _ h => h) (yieldsIf_load_mid (by rfl) 39 (.tmp 27) rfl (g) (o + (lo + hi) / 2 * 6) rfl [.int .i64 v.k, .bool v.b, .int .i64 v.n, .string v.t, .string v.x, .slice v.p v.len v.cap] _ (fun w h => RV.out _ h) Tryz.underlying39 rfl info28) hHeld ?_
      try simp only [Act.put, List.getElem_toArray, List.getElem_cons_succ, List.getElem_cons_zero, List.setIfInBounds_toArray, List.set_cons_zero, List.set_cons_succ]
      refine wpAnyH_take (i := 5) rfl (by kernel_rfl) (by kernel_rfl) (by kernel_rfl) (fun _ _ _ h => h) (yieldsIf_load_mid (by rfl) 39 (.tmp 4) rfl (w.heap.size) (0) rfl [.int .i64 u.k, .bool u.b, .int .i64 u.n, .string u.t, .string u.x, .slice u.p u.len u.cap] _ (fun w h => RU.out _ h) Tryz.underlying39 rfl info28) hHeld ?_
      try simp only [Act.put, List.getElem_toArray, List.getElem_cons_succ, List.getElem_cons_zero, List.setIfInBounds_toArray, List.set_cons_zero, List.set_cons_succ]
      refine wpAnyH_ready (rs := [6]) (by kernel_rfl) (by simp) ?_
      refine AllReadyH.cons rfl (fun K hK => ?_) AllReadyH.nil
      rw [if_pos (by rfl)]
      go_simp
      refine (HC.out _ hHeld).mono ?_
      rintro e0 w3 ⟨rfl, hb3⟩
      have hH2 := low_any hHeld hb3 hHeld.size
      clear hb3 hHeld
      refine hK.out _ _ hH2 (fun hH2 => ?_)
      clear hK K
      try simp only [Act.put, List.getElem_toArray, List.getElem_cons_succ, List.getElem_cons_zero, List.setIfInBounds_toArray, List.set_cons_zero, List.set_cons_succ]
      refine wpAnyH_take (i := 7) (v := .bool (decide (c < 0))) rfl (by kernel_rfl) (by kernel_rfl) (by kernel_rfl) (fun _ _ _ h => h) (Or.inl ⟨by rfl, fun W _ => by go_simp⟩) hH2 ?_
      try simp only [Act.put, List.getElem_toArray, List.getElem_cons_succ, List.getElem_cons_zero, List.setIfInBounds_toArray, List.set_cons_zero, List.set_cons_succ]
      refine wpAnyH_done (by kernel_rfl) ?_ _
      have hbN := low_any hb.out hH2 hb.out.size
      have HB := Lib.hid hbN
      by_cases hz : c < 0
      · have hz2 := HZ.out.1 hz
        rw [decide_eq_true hz]
        clear hH2 hbN hb0 RV RU HC HZ
        go_wp2_with fail
        go_roundg (hi - ((lo + hi) / 2 + 1))
        case measure => omega
        case rel => exact ⟨(lo + hi) / 2 + 1, hi, by rw [show (((lo + hi) / 2 + 1 : Nat) : Int) = ((lo : Int) + (hi : Int)) / 2 + 1 by omega], rfl, by omega, hhi, hin, Nat.le_refl _, HB⟩
      · have hz2 : ¬ (lo + hi) / 2 < m := fun h => hz (HZ.out.2 h)
        rw [decide_eq_false hz]
        clear hH2 hbN hb0 RV RU HC HZ
        go_wp2_with fail
        go_roundg ((lo + hi) / 2 - lo)
        case measure => omega
        case rel => exact ⟨lo, (lo + hi) / 2, rfl, by rw [show (((lo + hi) / 2 : Nat) : Int) = ((lo : Int) + (hi : Int)) / 2 by omega], hlo, by omega, by omega, Nat.le_refl _, HB⟩
    · obtain rfl : lo = m := by omega
      obtain rfl : hi = lo := by omega
      have hb0 : Low w.heap.size w wr := b0.trans (hb.out.mono b0.size)
      obtain ⟨v, q2, i2, r2⟩ := isOf (Holds.at_ l o (Holds.below l HL.out hb0.is) hi hm)
      have RV : Hid (∀ W, Low wr.heap.size wr W → W.rangeAt g (o + hi * 6) [.int .i64 v.k, .bool v.b, .int .i64 v.n, .string v.t, .string v.x, .slice v.p v.len v.cap]) := Lib.hid fun W h => range_below r2 h.is
      have RU : Hid (∀ W, Low wr.heap.size wr W → W.rangeAt w.heap.size 0 [.int .i64 u.k, .bool u.b, .int .i64 u.n, .string u.t, .string u.x, .slice u.p u.len u.cap]) := Lib.hid fun W h => RU0.out W (low_any hb.out h hb.out.size)
      have HC : Hid (∀ W, Low wr.heap.size wr W → Calls Tryz.prog 74 #[.agg #[.int .i64 v.k, .bool v.b, .int .i64 v.n, .string v.t, .string v.x, .slice v.p v.len v.cap], .agg #[.int .i64 u.k, .bool u.b, .int .i64 u.n, .string u.t, .string u.x, .slice u.p u.len u.cap]] W fun e w' => e = .returned (.int .i64 0) ∧ Low W.heap.size W w') := Lib.hid fun W h => by
        have hw := low_any hb0 h hb0.size
        have := cmpIs v u _ _ q2 q W (HG.out.below hw.is) (HT.out.below hw.is) (i2.below h.is) (HU.out.below hw.is)
        rwa [orderI_self] at this
      have HB := Lib.hid hb0
      clear i2 r2 hb0 hb
      go_upto_region 8 with fail
      refine wp_region_held_drew (S := fun W => Low wr.heap.size wr W) (by kernel_rfl) (Low.refl _ _).drew (fun hHeld => ?_)
      refine wpAnyH_take (i := 0) (v := .int .i64 hi) rfl (by kernel_rfl) (by kernel_rfl) (by kernel_rfl) (fun _ _ _ h => h) (Or.inl ⟨by rfl, fun W _ => by go_simp⟩) hHeld ?_
      try simp only [Act.put, List.getElem_toArray, List.getElem_cons_zero, List.setIfInBounds_toArray, List.set_cons_zero, List.set_cons_succ]
      refine wpAnyH_take (i := 1) (v := .int .i64 hi) rfl (by kernel_rfl) (by kernel_rfl) (by kernel_rfl) (fun _ _ _ h => h) (Or.inl ⟨by rfl, fun W _ => by go_simp⟩) hHeld ?_
      try simp only [Act.put, List.getElem_toArray, List.getElem_cons_succ, List.getElem_cons_zero, List.setIfInBounds_toArray, List.set_cons_zero, List.set_cons_succ]
      refine wpAnyH_take (i := 2) (v := .int .i64 l.length) rfl (by kernel_rfl) (by kernel_rfl) (by kernel_rfl) (fun _ _ _ h => h) (Or.inl ⟨by rfl, fun W _ => by go_simp⟩) hHeld ?_
      try simp only [Act.put, List.getElem_toArray, List.getElem_cons_succ, List.getElem_cons_zero, List.setIfInBounds_toArray, List.set_cons_zero, List.set_cons_succ]
      refine wpAnyH_take (i := 3) (v := .bool true) rfl (by kernel_rfl) (by kernel_rfl) (by kernel_rfl) (fun _ _ _ h => h) (Or.inl ⟨by rfl, fun W _ => by go_simp⟩) hHeld ?_
      try simp only [Act.put, List.getElem_toArray, List.getElem_cons_succ, List.getElem_cons_zero, List.setIfInBounds_toArray, List.set_cons_zero, List.set_cons_succ]
      refine wpAnyH_take (i := 4) (v := .bool true) rfl (by kernel_rfl) (by kernel_rfl) (by kernel_rfl) (fun _ _ _ h => h) (Or.inl ⟨by rfl, fun W _ => by go_simp⟩) hHeld ?_
      try simp only [Act.put, List.getElem_toArray, List.getElem_cons_succ, List.getElem_cons_zero, List.setIfInBounds_toArray, List.set_cons_zero, List.set_cons_succ]
      refine wpAnyH_take (i := 5) (v := .func (.func 74) #[] #[]) rfl (by kernel_rfl) (by kernel_rfl) (by kernel_rfl) (fun _ _ _ h => h) (Or.inl ⟨by rfl, fun W _ => by go_simp⟩) hHeld ?_
      try simp only [Act.put, List.getElem_toArray, List.getElem_cons_succ, List.getElem_cons_zero, List.setIfInBounds_toArray, List.set_cons_zero, List.set_cons_succ]
      refine wpAnyH_take (i := 6) (v := .slice (some ⟨g, o, none⟩) l.length cap) rfl (by kernel_rfl) (by kernel_rfl) (by kernel_rfl) (fun _ _ _ h => h) (Or.inl ⟨by rfl, fun W _ => by go_simp⟩) hHeld ?_
      try simp only [Act.put, List.getElem_toArray, List.getElem_cons_succ, List.getElem_cons_zero, List.setIfInBounds_toArray, List.set_cons_zero, List.set_cons_succ]
      refine wpAnyH_take (i := 7) (v := .int .i64 hi) rfl (by kernel_rfl) (by kernel_rfl) (by kernel_rfl) (fun _ _ _ h => h) (Or.inl ⟨by rfl, fun W _ => by go_simp⟩) hHeld ?_
      try simp only [Act.put, List.getElem_toArray, List.getElem_cons_succ, List.getElem_cons_zero, List.setIfInBounds_toArray, List.set_cons_zero, List.set_cons_succ]
      refine wpAnyH_take (i := 8) (v := .pointer (some ⟨g, o + hi * 6, none⟩)) rfl (by kernel_rfl) (by kernel_rfl) (by kernel_rfl) (fun _ _ _ h => h) (Or.inl ⟨by rfl, fun W _ => by go_simp⟩) hHeld ?_
      try simp only [Act.put, List.getElem_toArray, List.getElem_cons_succ, List.getElem_cons_zero, List.setIfInBounds_toArray, List.set_cons_zero, List.set_cons_succ]
      refine wpAnyH_take (i := 9) rfl (by kernel_rfl) (by kernel_rfl) (by kernel_rfl) (fun _ _ _ h => h) (yieldsIf_load_mid (by rfl) 39 (.tmp 43) rfl (g) (o + hi * 6) rfl [.int .i64 v.k, .bool v.b, .int .i64 v.n, .string v.t, .string v.x, .slice v.p v.len v.cap] _ (fun w h => RV.out _ h) Tryz.underlying39 rfl info28) hHeld ?_
      try simp only [Act.put, List.getElem_toArray, List.getElem_cons_succ, List.getElem_cons_zero, List.setIfInBounds_toArray, List.set_cons_zero, List.set_cons_succ]
      refine wpAnyH_take (i := 10) rfl (by kernel_rfl) (by kernel_rfl) (by kernel_rfl) (fun _ _ _ h => h) (yieldsIf_load_mid (by rfl) 39 (.tmp 4) rfl (w.heap.size) (0) rfl [.int .i64 u.k, .bool u.b, .int .i64 u.n, .string u.t, .string u.x, .slice u.p u.len u.cap] _ (fun w h => RU.out _ h) Tryz.underlying39 rfl info28) hHeld ?_
      try simp only [Act.put, List.getElem_toArray, List.getElem_cons_succ, List.getElem_cons_zero, List.setIfInBounds_toArray, List.set_cons_zero, List.set_cons_succ]
      refine wpAnyH_ready (rs := [11]) (by kernel_rfl) (by simp) ?_
      refine AllReadyH.cons rfl (fun K hK => ?_) AllReadyH.nil
      rw [if_pos (by rfl)]
      go_simp
      refine (HC.out _ hHeld).mono ?_
      rintro e0 w3 ⟨rfl, hb3⟩
      have hH2 := low_any hHeld hb3 hHeld.size
      clear hb3 hHeld
      refine hK.out _ _ hH2 (fun hH2 => ?_)
      clear hK K
      try simp only [Act.put, List.getElem_toArray, List.getElem_cons_succ, List.getElem_cons_zero, List.setIfInBounds_toArray, List.set_cons_zero, List.set_cons_succ]
      refine wpAnyH_take (i := 12) (v := .bool true) rfl (by kernel_rfl) (by kernel_rfl) (by kernel_rfl) (fun _ _ _ h => h) (Or.inl ⟨by rfl, fun W _ => by go_simp⟩) hH2 ?_
      try simp only [Act.put, List.getElem_toArray, List.getElem_cons_succ, List.getElem_cons_zero, List.setIfInBounds_toArray, List.set_cons_zero, List.set_cons_succ]
      refine wpAnyH_take (i := 13) (v := .bool true) rfl (by kernel_rfl) (by kernel_rfl) (by kernel_rfl) (fun _ _ _ h => h) (Or.inl ⟨by rfl, fun W _ => by go_simp⟩) hH2 ?_
      try simp only [Act.put, List.getElem_toArray, List.getElem_cons_succ, List.getElem_cons_zero, List.setIfInBounds_toArray, List.set_cons_zero, List.set_cons_succ]
      refine wpAnyH_take (i := 14) (v := .int .i64 hi) rfl (by kernel_rfl) (by kernel_rfl) (by kernel_rfl) (fun _ _ _ h => h) (Or.inl ⟨by rfl, fun W _ => by go_simp⟩) hH2 ?_
      try simp only [Act.put, List.getElem_toArray, List.getElem_cons_succ, List.getElem_cons_zero, List.setIfInBounds_toArray, List.set_cons_zero, List.set_cons_succ]
      refine wpAnyH_take (i := 15) (v := .bool true) rfl (by kernel_rfl) (by kernel_rfl) (by kernel_rfl) (fun _ _ _ h => h) (Or.inl ⟨by rfl, fun W _ => by go_simp⟩) hH2 ?_
      try simp only [Act.put, List.getElem_toArray, List.getElem_cons_succ, List.getElem_cons_zero, List.setIfInBounds_toArray, List.set_cons_zero, List.set_cons_succ]
      refine wpAnyH_done (by kernel_rfl) ?_ _
      go_wp2_with fail
      go_ret2
      exact ⟨rfl, low_any HB.out hH2 HB.out.size⟩
end Go.Proofs.YtanbgdhmfjgihaaGreatDoor

/- slices.Compact at rows of three numbers. -/
namespace Go.Proofs.YtanbgdhmfjgihaaGreatDoor
open Go.RowKit

deriving instance DecidableEq for VR
theorem VR.len3 (x : VR) : x.enc.length = 3 := rfl
theorem equal81 (a b c x y z : Int) (w : World) : (Op.equalIn 10000 81 (.agg #[.int .i64 a, .int .i64 b, .int .i64 c]) (.agg #[.int .i64 x, .int .i64 y, .int .i64 z])).run Tryz.prog w = .ok (a == x && b == y && c == z) w := by
  have s3 : ∀ w, (sizeOf 3).run Tryz.prog w = .ok 1 w := fun w => by kernel_rfl
  have p0 : ∀ u v t w, (part 3 #[.int .i64 u, .int .i64 v, .int .i64 t] 0).run Tryz.prog w = .ok (.int .i64 u) w := fun u v t w => by kernel_rfl
  have p1 : ∀ u v t w, (part 3 #[.int .i64 u, .int .i64 v, .int .i64 t] 1).run Tryz.prog w = .ok (.int .i64 v) w := fun u v t w => by kernel_rfl
  have p2 : ∀ u v t w, (part 3 #[.int .i64 u, .int .i64 v, .int .i64 t] 2).run Tryz.prog w = .ok (.int .i64 t) w := fun u v t w => by kernel_rfl
  have e0 : ∀ u v w, (Op.equalIn 9999 3 (.int .i64 u) (.int .i64 v)).run Tryz.prog w = .ok (u == v) w := fun u v w => by
    rw [run_equalIn_int w 9998 3 .i64 .i64 u v Tryz.underlying3]
  rw [Op.equalIn]
  by_cases h1 : a = x
  · by_cases h2 : b = y
    · by_cases h3 : c = z
      · simp [run_underlying Tryz.underlying81, Std.Legacy.Range.forIn_eq_forIn_range', Std.Legacy.Range.size, List.range', s3, p0, p1, p2, e0, Result.andThen, h1, h2, h3]
      · simp [run_underlying Tryz.underlying81, Std.Legacy.Range.forIn_eq_forIn_range', Std.Legacy.Range.size, List.range', s3, p0, p1, p2, e0, Result.andThen, h1, h2, h3]
    · simp [run_underlying Tryz.underlying81, Std.Legacy.Range.forIn_eq_forIn_range', Std.Legacy.Range.size, List.range', s3, p0, p1, e0, Result.andThen, h1, h2]
  · simp [run_underlying Tryz.underlying81, Std.Legacy.Range.forIn_eq_forIn_range', Std.Legacy.Range.size, List.range', s3, p0, e0, Result.andThen, h1]
theorem guard81 : Tryz.prog.eqGuardType Tryz.prog.depth 81 = false := by kernel_rfl
theorem guard81E (x y : Operand) (xs ys : Array Value) (w : World) : (eqGuard .eql 81 x y (.agg xs) (.agg ys)).run Tryz.prog w = .ok () w := run_eqGuard_agg w .eql 81 x y xs ys guard81
theorem guard81N (x y : Operand) (xs ys : Array Value) (w : World) : (eqGuard .neq 81 x y (.agg xs) (.agg ys)).run Tryz.prog w = .ok () w := run_eqGuard_agg w .neq 81 x y xs ys guard81
def VR.same (r s : VR) : Bool := r.a == s.a && r.b == s.b && r.c == s.c
theorem VR.same_eq (r s : VR) : r.same s = true ↔ r = s := by
  obtain ⟨a, b, c⟩ := r
  obtain ⟨x, y, z⟩ := s
  unfold VR.same
  simp [and_assoc]
theorem only_lowR {g : Nat} {x y z : World} (h : Only g x y) (k : Low y.heap.size y z) : Only g x z := h.trans (Only.of_low k)
theorem wpList_loadVR {ops : Array Oper} {rest : List Oper} {o : Oper} {a : Act} {w : World} {Q : Exit → Act → World → Prop} (x : Operand) (g off : Nat) (e : VR) (h6 : w.rangeAt g off e.enc)
    (hgd : o.guard = none) (ho : o.op = .load 81 x) (hx : a.eval x = .pointer (some ⟨g, off, none⟩))
    (h : wpList Tryz.prog ops Q rest (a.put o.dst (.agg e.enc.toArray)) w) : wpList Tryz.prog ops Q (o :: rest) a w :=
  wpList_load_mid hgd 81 x ho g off hx e.enc _ h6 Tryz.underlying81 rfl info81 h
theorem wpList_storeVR {ops : Array Oper} {rest : List Oper} {o : Oper} {a : Act} {w : World} {Q : Exit → Act → World → Prop} (x y : Operand) (g off : Nat) (e : VR) (hth : w.there g off 3)
    (hgd : o.guard = none) (ho : o.op = .store 81 x y) (hx : a.eval x = .pointer (some ⟨g, off, none⟩)) (hy : a.eval y = .agg e.enc.toArray)
    (h : wpList Tryz.prog ops Q rest (a.put o.dst undef) (w.setCells g off e.enc)) : wpList Tryz.prog ops Q (o :: rest) a w :=
  wpList_store_mid hgd 81 x y ho g off e.enc.toArray hx hy hth info81 (all_oneCell_toArray e.one) h
theorem zero81 (w : World) : (zeroValue 81).run Tryz.prog w = .ok (.agg #[.int .i64 0, .int .i64 0, .int .i64 0]) w := Tryz.zeroValue81 w
set_option maxHeartbeats 6400000 in
set_option maxRecDepth 20000 in
theorem compactR (blk off cap : Nat) (d : Array VR) (w : World) (hE : Elems VR.enc 3 w blk off d) (hblk : blk < w.heap.size) (hsz : d.size < 1099511627776) (hcap : d.size ≤ cap) :
    Calls Tryz.prog 82 #[.slice (some ⟨blk, off, none⟩) d.size cap] w fun e w' => ∃ (dk : Array VR), e = .returned (.slice (some ⟨blk, off, none⟩) dk.size cap) ∧ dk.toList = Go.Lib.compactUpTo d d.size ∧ Elems VR.enc 3 w' blk off dk ∧ Only blk w w' := by
  have all : (∀ j, j < d.size → Go.Lib.keeps d j = true) → d.toList = Go.Lib.compactUpTo d d.size := fun h => by
    rw [Go.Lib.compactUpTo_all d d.size h, Go.Lib.range_map_get]
  have ALL := Lib.hid all
  have HE := Lib.hid hE
  clear all hE
  by_cases h2 : d.size < 2
  · go_enter Tryz.func82, Tryz.ntmps82
    go_wp2_with fail
    go_ret
    exact ⟨d, rfl, ALL.out fun j hj => Go.Lib.keeps_lt_one _ j (by omega), HE.out, Only.refl _ _⟩
  · go_enter Tryz.func82, Tryz.ntmps82
    go_wp2_with fail
    go_loopg [3] d.size (fun gg s5 wr => ∃ i : Nat, s5 = .int .i64 ((i : Int) + 1) ∧ i + 1 ≤ d.size ∧ d.size - (i + 1) ≤ gg ∧ Low w.heap.size w wr ∧ Hid (∀ j, j < i + 1 → Go.Lib.keeps d j = true))
    case atStart => exact ⟨0, rfl, by omega, by omega, Low.refl _ _, Lib.hid (Go.Lib.keeps_lt_one _)⟩
    case round =>
      obtain ⟨i, rfl, hi, hgg, bw, hall⟩ := hrel
      by_cases hlt : i + 1 < d.size
      · have E := HE.out.low hblk bw
        obtain ⟨ea, hea⟩ : ∃ x, x = d[i + 1]! := ⟨_, rfl⟩
        obtain ⟨eb, heb⟩ : ∃ x, x = d[i]! := ⟨_, rfl⟩
        have ra := (E (i + 1) hlt).1
        have rb := (E i (by omega)).1
        rw [← hea] at ra
        rw [← heb] at rb
        have RA : Hid (∀ W, Low wr.heap.size wr W → W.rangeAt blk (off + (i + 1) * 3) ea.enc) := Lib.hid fun W h => range_below ra h.is
        have RB : Hid (∀ W, Low wr.heap.size wr W → W.rangeAt blk (off + i * 3) eb.enc) := Lib.hid fun W h => range_below rb h.is
        obtain ⟨r, hr⟩ : ∃ r, r = ea.same eb := ⟨_, rfl⟩
        have HQ : Hid (∀ W, (Op.equalIn 10000 81 (.agg ea.enc.toArray) (.agg eb.enc.toArray)).run Tryz.prog W = .ok r W) := Lib.hid fun W => by rw [hr]; exact equal81 _ _ _ _ _ _ W
        have KR : Hid (r = true ↔ d[i + 1]! = d[i]!) := Lib.hid (by rw [← hea, ← heb, hr]; exact VR.same_eq ea eb)
        clear E ra rb hea heb hr
        have hlti : (i : Int) + 1 < d.size := by omega
        have t1 : ((i : Int) + 1).toNat = i + 1 := by omega
        have t2 : ¬ (i : Int) + 1 < 0 := by omega
        have t3 : IntKind.i64.wrap (i : Int) = i := IntWalk.i64_in _ (by omega)
        have t4 : (i : Int) < d.size := by omega
        go_upto_region 6 with fail
        refine wp_region_held_drew (S := fun W => Low wr.heap.size wr W) (by kernel_rfl) (Low.refl _ _).drew (fun hHeld => ?_)
        refine wpAnyH_take (i := 0) (v := .slice (some ⟨blk, off, none⟩) d.size cap) rfl (by kernel_rfl) (by kernel_rfl) (by kernel_rfl) (fun _ _ _ h => h) (Or.inl ⟨by rfl, fun W _ => by go_simp⟩) hHeld ?_
        try simp only [Act.put, List.getElem_toArray, List.getElem_cons_zero, List.setIfInBounds_toArray, List.set_cons_zero, List.set_cons_succ]
        refine wpAnyH_take (i := 1) (v := .int .i64 ((i : Int) + 1)) rfl (by kernel_rfl) (by kernel_rfl) (by kernel_rfl) (fun _ _ _ h => h) (Or.inl ⟨by rfl, fun W _ => by go_simp⟩) hHeld ?_
        try simp only [Act.put, List.getElem_toArray, List.getElem_cons_succ, List.getElem_cons_zero, List.setIfInBounds_toArray, List.set_cons_zero, List.set_cons_succ]
        refine wpAnyH_take (i := 2) (v := .pointer (some ⟨blk, off + (i + 1) * 3, none⟩)) rfl (by kernel_rfl) (by kernel_rfl) (by kernel_rfl) (fun _ _ _ h => h) (Or.inl ⟨by rfl, fun W _ => by go_simp⟩) hHeld ?_
        try simp only [Act.put, List.getElem_toArray, List.getElem_cons_succ, List.getElem_cons_zero, List.setIfInBounds_toArray, List.set_cons_zero, List.set_cons_succ]
        refine wpAnyH_take (i := 3) rfl (by kernel_rfl) (by kernel_rfl) (by kernel_rfl) (fun _ _ _ h => h) (yieldsIf_load_mid (by rfl) 81 (.tmp 18) rfl blk (off + (i + 1) * 3) rfl ea.enc _ (fun w h => RA.out w h) Tryz.underlying81 rfl info81) hHeld ?_
        try simp only [Act.put, List.getElem_toArray, List.getElem_cons_succ, List.getElem_cons_zero, List.setIfInBounds_toArray, List.set_cons_zero, List.set_cons_succ]
        refine wpAnyH_take (i := 4) (v := .slice (some ⟨blk, off, none⟩) d.size cap) rfl (by kernel_rfl) (by kernel_rfl) (by kernel_rfl) (fun _ _ _ h => h) (Or.inl ⟨by rfl, fun W _ => by go_simp⟩) hHeld ?_
        try simp only [Act.put, List.getElem_toArray, List.getElem_cons_succ, List.getElem_cons_zero, List.setIfInBounds_toArray, List.set_cons_zero, List.set_cons_succ]
        refine wpAnyH_take (i := 5) (v := .int .i64 ((i : Int) + 1)) rfl (by kernel_rfl) (by kernel_rfl) (by kernel_rfl) (fun _ _ _ h => h) (Or.inl ⟨by rfl, fun W _ => by go_simp⟩) hHeld ?_
        try simp only [Act.put, List.getElem_toArray, List.getElem_cons_succ, List.getElem_cons_zero, List.setIfInBounds_toArray, List.set_cons_zero, List.set_cons_succ]
        refine wpAnyH_take (i := 6) (v := .int .i64 i) rfl (by kernel_rfl) (by kernel_rfl) (by kernel_rfl) (fun _ _ _ h => h) (Or.inl ⟨by rfl, fun W _ => by go_simp⟩) hHeld ?_
        try simp only [Act.put, List.getElem_toArray, List.getElem_cons_succ, List.getElem_cons_zero, List.setIfInBounds_toArray, List.set_cons_zero, List.set_cons_succ]
        refine wpAnyH_take (i := 7) (v := .pointer (some ⟨blk, off + i * 3, none⟩)) rfl (by kernel_rfl) (by kernel_rfl) (by kernel_rfl) (fun _ _ _ h => h) (Or.inl ⟨by rfl, fun W _ => by go_simp⟩) hHeld ?_
        try simp only [Act.put, List.getElem_toArray, List.getElem_cons_succ, List.getElem_cons_zero, List.setIfInBounds_toArray, List.set_cons_zero, List.set_cons_succ]
        refine wpAnyH_take (i := 8) rfl (by kernel_rfl) (by kernel_rfl) (by kernel_rfl) (fun _ _ _ h => h) (yieldsIf_load_mid (by rfl) 81 (.tmp 23) rfl blk (off + i * 3) rfl eb.enc _ (fun w h => RB.out w h) Tryz.underlying81 rfl info81) hHeld ?_
        try simp only [Act.put, List.getElem_toArray, List.getElem_cons_succ, List.getElem_cons_zero, List.setIfInBounds_toArray, List.set_cons_zero, List.set_cons_succ]
        refine wpAnyH_take (i := 9) (v := .bool r) rfl (by kernel_rfl) (by kernel_rfl) (by kernel_rfl) (fun _ _ _ h => h) (Or.inl ⟨by rfl, fun W _ => by have g81 := guard81E; have q81 := HQ.out W; go_simp⟩) hHeld ?_
        try simp only [Act.put, List.getElem_toArray, List.getElem_cons_succ, List.getElem_cons_zero, List.setIfInBounds_toArray, List.set_cons_zero, List.set_cons_succ]
        refine wpAnyH_done (by kernel_rfl) ?_ _
        replace bw := bw.trans (hHeld.mono bw.size)
        cases r with
        | false =>
            go_wp2_with fail
            go_roundg (d.size - (i + 1 + 1))
            case measure => omega
            case rel =>
              refine ⟨i + 1, by go_num, by omega, Nat.le_refl _, bw, Lib.hid fun j hj => ?_⟩
              by_cases e : j = i + 1
              · subst e
                exact Go.Lib.keeps_pos (fun h => absurd (KR.out.2 h) (by decide))
              · exact hall.out j (by omega)
        | true =>
            have hst := Go.Lib.CompInv.start (d := d) (k0 := i + 1) hall.out (Go.Lib.keeps_neg (by omega) (KR.out.1 rfl))
            have HST := Lib.hid hst
            clear hst KR
            have hcap3 : (i : Int) + 1 ≤ cap := by omega
            have hle3 : (i : Int) + 1 ≤ d.size := by omega
            have E3 := HE.out.low hblk bw
            have bo : Only blk w wr.drew := Only.of_low bw
            generalize wr.drew = w3 at *
            go_wp2_with fail
            go_loopg [3, 5] d.size (fun gg s5 s7 wr => ∃ (kk c : Nat) (dk : Array VR), s5 = .int .i64 kk ∧ s7 = .int .i64 ((c : Int) + 1) ∧ i + 1 + (c + 1) ≤ d.size ∧ d.size - (i + 1 + (c + 1)) ≤ gg ∧ Only blk w wr ∧ dk.size = d.size ∧ Hid (Elems VR.enc 3 wr blk off dk) ∧ Hid (Go.Lib.CompInv d (i + 1 + (c + 1)) kk dk))
            case atStart => exact ⟨i + 1, 0, d, by go_num, rfl, by omega, by omega, bo, rfl, Lib.hid E3, HST⟩
            case round =>
              clear E3 bo bw hall
              obtain ⟨kk, c, dk, rfl, rfl, hle, hgg2, bo, hds, hE, hI⟩ := hrel
              have hkk := hI.out.lt
              by_cases hlt2 : i + 1 + (c + 1) < d.size
              · obtain ⟨ec, hec⟩ : ∃ x, x = dk[i + 1 + (c + 1)]! := ⟨_, rfl⟩
                obtain ⟨ed, hed⟩ : ∃ x, x = dk[i + 1 + c]! := ⟨_, rfl⟩
                have ra := (hE.out (i + 1 + (c + 1)) (by omega)).1
                have rb := (hE.out (i + 1 + c) (by omega)).1
                rw [← hec, show off + (i + 1 + (c + 1)) * 3 = off + (i + 1) * 3 + (c + 1) * 3 by omega] at ra
                rw [← hed, show off + (i + 1 + c) * 3 = off + (i + 1) * 3 + c * 3 by omega] at rb
                have RA : Hid (∀ W, Low wr.heap.size wr W → W.rangeAt blk (off + (i + 1) * 3 + (c + 1) * 3) ec.enc) := Lib.hid fun W h => range_below ra h.is
                have RB : Hid (∀ W, Low wr.heap.size wr W → W.rangeAt blk (off + (i + 1) * 3 + c * 3) ed.enc) := Lib.hid fun W h => range_below rb h.is
                obtain ⟨r, hr⟩ : ∃ r, r = ec.same ed := ⟨_, rfl⟩
                have HQ : Hid (∀ W, (Op.equalIn 10000 81 (.agg ec.enc.toArray) (.agg ed.enc.toArray)).run Tryz.prog W = .ok r W) := Lib.hid fun W => by rw [hr]; exact equal81 _ _ _ _ _ _ W
                have hv1 := hI.out.high (i + 1 + (c + 1)) (by omega)
                have hv2 := hI.out.high (i + 1 + c) (by omega)
                rw [← hec] at hv1
                rw [← hed] at hv2
                have KR : Hid (r = true ↔ d[i + 1 + (c + 1)]! = d[i + 1 + c]!) := Lib.hid (by rw [← hv1, ← hv2, hr]; exact VR.same_eq ec ed)
                have HV1 := Lib.hid hv1
                have hblk2 : blk < wr.heap.size := Nat.lt_of_lt_of_le hblk bo.size
                clear ra rb hec hed hr hv1 hv2
                have hlti2 : (c : Int) + 1 < (d.size - (i + 1) : Nat) := by omega
                have t5 : ((c : Int) + 1).toNat = c + 1 := by omega
                have t6 : ¬ (c : Int) + 1 < 0 := by omega
                have t7 : IntKind.i64.wrap (c : Int) = c := IntWalk.i64_in _ (by omega)
                have t8 : (c : Int) < (d.size - (i + 1) : Nat) := by omega
                go_upto_region 11 with fail
                refine wp_region_held_drew (S := fun W => Low wr.heap.size wr W) (by kernel_rfl) (Low.refl _ _).drew (fun hHeld => ?_)
                refine wpAnyH_take (i := 0) (v := .slice (some ⟨blk, off + (i + 1) * 3, none⟩) (d.size - (i + 1)) (cap - (i + 1))) rfl (by kernel_rfl) (by kernel_rfl) (by kernel_rfl) (fun _ _ _ h => h) (Or.inl ⟨by rfl, fun W _ => by go_simp⟩) hHeld ?_
                try simp only [Act.put, List.getElem_toArray, List.getElem_cons_zero, List.setIfInBounds_toArray, List.set_cons_zero, List.set_cons_succ]
                refine wpAnyH_take (i := 1) (v := .int .i64 ((c : Int) + 1)) rfl (by kernel_rfl) (by kernel_rfl) (by kernel_rfl) (fun _ _ _ h => h) (Or.inl ⟨by rfl, fun W _ => by go_simp⟩) hHeld ?_
                try simp only [Act.put, List.getElem_toArray, List.getElem_cons_succ, List.getElem_cons_zero, List.setIfInBounds_toArray, List.set_cons_zero, List.set_cons_succ]
                refine wpAnyH_take (i := 2) (v := .pointer (some ⟨blk, off + (i + 1) * 3 + (c + 1) * 3, none⟩)) rfl (by kernel_rfl) (by kernel_rfl) (by kernel_rfl) (fun _ _ _ h => h) (Or.inl ⟨by rfl, fun W _ => by go_simp⟩) hHeld ?_
                try simp only [Act.put, List.getElem_toArray, List.getElem_cons_succ, List.getElem_cons_zero, List.setIfInBounds_toArray, List.set_cons_zero, List.set_cons_succ]
                refine wpAnyH_take (i := 3) rfl (by kernel_rfl) (by kernel_rfl) (by kernel_rfl) (fun _ _ _ h => h) (yieldsIf_load_mid (by rfl) 81 (.tmp 37) rfl blk (off + (i + 1) * 3 + (c + 1) * 3) rfl ec.enc _ (fun w h => RA.out w h) Tryz.underlying81 rfl info81) hHeld ?_
                try simp only [Act.put, List.getElem_toArray, List.getElem_cons_succ, List.getElem_cons_zero, List.setIfInBounds_toArray, List.set_cons_zero, List.set_cons_succ]
                refine wpAnyH_take (i := 4) (v := .slice (some ⟨blk, off + (i + 1) * 3, none⟩) (d.size - (i + 1)) (cap - (i + 1))) rfl (by kernel_rfl) (by kernel_rfl) (by kernel_rfl) (fun _ _ _ h => h) (Or.inl ⟨by rfl, fun W _ => by go_simp⟩) hHeld ?_
                try simp only [Act.put, List.getElem_toArray, List.getElem_cons_succ, List.getElem_cons_zero, List.setIfInBounds_toArray, List.set_cons_zero, List.set_cons_succ]
                refine wpAnyH_take (i := 5) (v := .int .i64 ((c : Int) + 1)) rfl (by kernel_rfl) (by kernel_rfl) (by kernel_rfl) (fun _ _ _ h => h) (Or.inl ⟨by rfl, fun W _ => by go_simp⟩) hHeld ?_
                try simp only [Act.put, List.getElem_toArray, List.getElem_cons_succ, List.getElem_cons_zero, List.setIfInBounds_toArray, List.set_cons_zero, List.set_cons_succ]
                refine wpAnyH_take (i := 6) (v := .int .i64 c) rfl (by kernel_rfl) (by kernel_rfl) (by kernel_rfl) (fun _ _ _ h => h) (Or.inl ⟨by rfl, fun W _ => by go_simp⟩) hHeld ?_
                try simp only [Act.put, List.getElem_toArray, List.getElem_cons_succ, List.getElem_cons_zero, List.setIfInBounds_toArray, List.set_cons_zero, List.set_cons_succ]
                refine wpAnyH_take (i := 7) (v := .pointer (some ⟨blk, off + (i + 1) * 3 + c * 3, none⟩)) rfl (by kernel_rfl) (by kernel_rfl) (by kernel_rfl) (fun _ _ _ h => h) (Or.inl ⟨by rfl, fun W _ => by go_simp⟩) hHeld ?_
                try simp only [Act.put, List.getElem_toArray, List.getElem_cons_succ, List.getElem_cons_zero, List.setIfInBounds_toArray, List.set_cons_zero, List.set_cons_succ]
                refine wpAnyH_take (i := 8) rfl (by kernel_rfl) (by kernel_rfl) (by kernel_rfl) (fun _ _ _ h => h) (yieldsIf_load_mid (by rfl) 81 (.tmp 42) rfl blk (off + (i + 1) * 3 + c * 3) rfl ed.enc _ (fun w h => RB.out w h) Tryz.underlying81 rfl info81) hHeld ?_
                try simp only [Act.put, List.getElem_toArray, List.getElem_cons_succ, List.getElem_cons_zero, List.setIfInBounds_toArray, List.set_cons_zero, List.set_cons_succ]
                refine wpAnyH_take (i := 9) (v := .bool (!r)) rfl (by kernel_rfl) (by kernel_rfl) (by kernel_rfl) (fun _ _ _ h => h) (Or.inl ⟨by rfl, fun W _ => by have g81 := guard81N; have q81 := HQ.out W; go_simp⟩) hHeld ?_
                try simp only [Act.put, List.getElem_toArray, List.getElem_cons_succ, List.getElem_cons_zero, List.setIfInBounds_toArray, List.set_cons_zero, List.set_cons_succ]
                refine wpAnyH_done (by kernel_rfl) ?_ _
                cases r with
                | true =>
                  go_wp2_with fail
                  go_roundg (d.size - (i + 1 + (c + 1 + 1)))
                  case measure => omega
                  case rel => exact ⟨kk, c + 1, dk, rfl, by go_num, by omega, Nat.le_refl _, only_lowR bo hHeld, hds, Lib.hid (hE.out.low hblk2 hHeld), Lib.hid (hI.out.skip (Go.Lib.keeps_neg (by omega) (KR.out.1 (by first | rfl | trivial))))⟩
                | false =>
                  have E3 := hE.out.low hblk2 hHeld
                  have rc := RA.out _ hHeld
                  have hth := (E3 kk (by omega)).2
                  have E4 := E3.set VR.len3 kk (by omega) ec
                  have bo2 := (only_lowR bo hHeld).trans (only_setCells blk ec.enc (off + kk * 3) wr.drew)
                  have I4 := hI.out.keep hlt2 (Go.Lib.keeps_pos (fun h => absurd (KR.out.2 h) (by decide)))
                  rw [← HV1.out] at I4
                  have hkk3 : (kk : Int) < d.size := by omega
                  have HE4 := Lib.hid E4
                  have HI4 := Lib.hid I4
                  clear E4 I4 E3 hE hI bo HV1 KR RB HQ
                  generalize wr.drew = w3 at *
                  go_wp2_with (first
                    | ((with_reducible refine wpList_loadVR (.tmp 49) blk (off + (i + 1) * 3 + (c + 1) * 3) ec rc ?_ ?_ ?_ ?_); rfl; rfl; rfl)
                    | ((with_reducible refine wpList_storeVR (.tmp 51) (.tmp 50) blk (off + kk * 3) ec hth ?_ ?_ ?_ ?_ ?_); rfl; rfl; rfl; rfl; clear hth rc; generalize w3.setCells blk (off + kk * 3) ec.enc = w4 at *))
                  go_roundg (d.size - (i + 1 + (c + 1 + 1)))
                  case measure => omega
                  case rel => exact ⟨kk + 1, c + 1, dk.setIfInBounds kk ec, by go_num, by go_num, by omega, Nat.le_refl _, bo2, by simpa using hds, HE4, HI4⟩
              · have hend : i + 1 + (c + 1) = d.size := by omega
                have hnl : ¬ (c : Int) + 1 < (d.size - (i + 1) : Nat) := by omega
                have hth := hE.out.there (by decide) kk (by omega)
                rw [hds] at hth
                have hcl : ∀ ty, (Builtin.clear_ #[71] ty #[.slice (some ⟨blk, off + kk * 3, none⟩) (d.size - kk) (cap - kk)]).run Tryz.prog wr = .ok (.tuple #[]) (wr.setCells blk (off + kk * 3) (Builtin.zeroCells #[.int .i64 0, .int .i64 0, .int .i64 0] (d.size - kk)).toList) := fun ty =>
                  run_clear_row Tryz.prog wr 71 81 ty _ Tryz.underlying71 zero81 (by
                    intro v hv
                    simp only [Builtin.zeroCells, Array.toList_map, List.mem_map, Array.toList_range, List.mem_range] at hv
                    obtain ⟨q, _, rfl⟩ := hv
                    have hq : q % 3 < 3 := Nat.mod_lt _ (by decide)
                    show (#[Value.int .i64 0, .int .i64 0, .int .i64 0][q % 3]!).oneCell' = true
                    generalize q % 3 = z at hq
                    match z, hq with
                    | 0, _ | 1, _ | 2, _ => rfl) blk (off + kk * 3) (cap - kk) (by omega) hth
                have E4 := hE.out.tail VR.len3 kk (by omega) (Builtin.zeroCells #[.int .i64 0, .int .i64 0, .int .i64 0] (d.size - kk)).toList
                have bo2 := bo.trans (only_setCells blk (Builtin.zeroCells #[.int .i64 0, .int .i64 0, .int .i64 0] (d.size - kk)).toList (off + kk * 3) wr)
                have hsz2 : (dk.take kk).size = kk := by simp; omega
                have hres : (dk.take kk).toList = Go.Lib.compactUpTo d d.size := by
                  have hI' := hI.out
                  rw [hend] at hI'
                  refine List.ext_getElem (by simp [hI'.len]; omega) fun j h1 h2 => ?_
                  have hj : j < kk := by rw [← hI'.len]; exact h2
                  have := hI'.low j hj
                  rw [List.getElem?_eq_getElem h2] at this
                  rw [Option.some.inj this, Array.getElem_toList, getElem!_pos dk j (by omega)]
                  simp
                have HF := Lib.hid (And.intro hres E4)
                have hkc : kk ≤ cap := by omega
                have hkd : kk ≤ d.size := by omega
                have hkc3 : (kk : Int) ≤ cap := by omega
                have hkd3 : (kk : Int) ≤ d.size := by omega
                clear hres E4 hE hI hth bo
                generalize (Builtin.zeroCells #[.int .i64 0, .int .i64 0, .int .i64 0] (d.size - kk)).toList = zs at *
                go_wp2_with fail
                go_ret
                exact ⟨dk.take kk, by rw [hsz2]; rfl, HF.out.1, HF.out.2, bo2⟩
      · have hend : i + 1 = d.size := by omega
        have hn : ¬ (i : Int) + 1 < d.size := by omega
        go_wp2_with fail
        go_ret
        exact ⟨d, rfl, ALL.out fun j hj => hall.out j (by omega), HE.out.low hblk bw, Only.of_low bw⟩
end Go.Proofs.YtanbgdhmfjgihaaGreatDoor

/- A list of values copied: none of it lies where the old one lay. -/
namespace Go.Proofs.YtanbgdhmfjgihaaGreatDoor
open Go.RowKit

/-- What a round keeps. -/
structure Acc (w : World) (l : List Val) (A : Value) (wr : World) : Prop where
  own : ∃ xs, wr.ownsRow w.heap.size 39 6 A l.length xs ∧ CellsF wr (fun g => w.heap.size ≤ g ∧ g < wr.heap.size ∧ A.ownBlock ≠ some g) xs l
  bel : Below w.heap.size w wr
theorem own_below {w w' : World} {base : Nat} {e : TypeId} {size : Nat} {v : Value} {n : Nat} {xs : List Value} (h : w.ownsRow base e size v n xs) (b : Below w.heap.size w w') : w'.ownsRow base e size v n xs := by
  refine ⟨h.1, ?_⟩
  rcases h.2 with h0 | ⟨g, cap, cur, e1, h1, h2, h3⟩
  · exact .inl h0
  · exact .inr ⟨g, cap, cur, e1, h1, (b.block g (lt_of_heap h2)).trans h2, h3⟩
theorem info28b : (Tryz.prog.info? 39).map (fun i => (i.zero, i.size, i.bytes)) = some (some (.agg #[.int .i64 0, .bool false, .int .i64 0, .string ⟨#[]⟩, .string ⟨#[]⟩, .slice none 0 0]), 6, 80) := by kernel_rfl
theorem cell_six_new (w : World) (a b c d e f : Value) (t : TypeId) : ∀ j u, [a, b, c, d, e, f][j]? = some u → (w.alloc (.cells #[a, b, c, d, e, f] t)).cell? ((⟨w.heap.size, 0, none⟩ : Addr).add j) = some u := by
  intro j u hj
  rw [Addr.add_mid, Nat.zero_add]
  exact cell_of (heap_new w _ rfl) j (by simpa using hj)
end Go.Proofs.YtanbgdhmfjgihaaGreatDoor

/- The copies that the document's own text makes of values. -/
namespace Go.Proofs.YtanbgdhmfjgihaaGreatDoor
open Go.RowKit

end Go.Proofs.YtanbgdhmfjgihaaGreatDoor
