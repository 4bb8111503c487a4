/- The sum of a list of decimals. -/
import Derived.Test.YtabgilmehehbjaaDoorC0m
namespace Go.Proofs.YtabgilmehehbjaaDoor
open Go.RowKit

/-- The sum of the first decimals. -/
def sumTo (S : Nat → ByteArray) : Nat → Int
  | 0 => 0
  | i + 1 => sumTo S i + dval (S i).data.toList
theorem sumTo_le (S : Nat → ByteArray) (n : Nat) (h : ∀ i, i < n → chk (S i).data.toList = true) : ∀ i, i ≤ n → (sumTo S i).natAbs ≤ i * 10 ^ 94
  | 0, _ => by simp [sumTo]
  | i + 1, hi => by
    have h1 := sumTo_le S n h i (by omega)
    have h2 := dval_lt (h i (by omega))
    have h3 := Int.natAbs_add_le (sumTo S i) (dval (S i).data.toList)
    rw [Nat.add_mul, Nat.one_mul]
    show (sumTo S i + dval (S i).data.toList).natAbs ≤ _
    omega
theorem sumRoom (i : Nat) (h : i + 1 ≤ 9223372036854775808) : i * 10 ^ 94 + 10 ^ 94 ≤ BASE ^ 16 := by
  have h1 : (i + 1) * 10 ^ 94 ≤ 9223372036854775808 * 10 ^ 94 := Nat.mul_le_mul_right _ h
  rw [Nat.add_mul, Nat.one_mul] at h1
  rw [show BASE ^ 16 = 10 ^ 144 from base_pow 16]
  exact Nat.le_trans h1 (by decide)

theorem sumPlus (S : Nat → ByteArray) (n j : Nat) (h : ∀ i, i < n → chk (S i).data.toList = true) (hj : j < n) (hn : n ≤ 9223372036854775807) (c d : Array Value) (m : Bool) (f g : Nat → Nat) (W : World)
    (h1 : IsNum c m f) (e1 : sv m (wval f) = sumTo S j) (h2 : IsNum d (dsign (S j).data.toList) g) (e2 : wval g = damt (S j).data.toList) :
    Calls Tryd.prog 48 #[.agg c, .agg d] W fun e w' => ∃ c' r k, e = .returned (.agg c') ∧ IsNum c' r k ∧ Aside (sv r (wval k) = sumTo S (j + 1)) ∧ Below W.heap.size W w' := by
  have b1 := sumTo_le S n h j (by omega)
  have b2 := (chk_dec _ (h j hj)).2.1
  have b3 := sumRoom j (by omega)
  rw [← e1, natAbs_sv] at b1
  rw [← e2] at b2
  refine (plusNum c d _ _ f g W h1 h2 (by omega)).mono ?_
  rintro e w' ⟨c', r, k, rfl, hr, hsv, hb⟩
  exact ⟨c', r, k, rfl, hr, by unfold Aside; rw [hsv, e1, e2]; rfl, hb⟩

set_option maxRecDepth 20000 in
set_option maxHeartbeats 1600000 in
theorem sumYes (b off n cap : Nat) (S : Nat → ByteArray) (w : World) (hG : Gd w) (hS : Strs w b off n S) (hn : n ≤ 9223372036854775807) (hz : ∀ i, i < n → (S i).size < 4294967281) (hk : ∀ i, i < n → chk (S i).data.toList = true) (x : ByteArray) (k : Int)
    (hv : said (txt (sumTo S n)) = .tuple #[.string x, .int .i64 k]) :
    Calls Tryd.prog 32 #[.slice (some ⟨b, off, none⟩) n cap] w fun e w' => e = .returned (.tuple #[.string x, .int .i64 k]) ∧ Below w.heap.size w w' := by
  have l0 := lies_zero w rfl
  have b0 := (Below.refl w.heap.size w).alloc (Nat.le_refl _) (.cells #[.bool false, .int .u32 0, .int .u32 0, .int .u32 0, .int .u32 0, .int .u32 0, .int .u32 0, .int .u32 0, .int .u32 0, .int .u32 0, .int .u32 0, .int .u32 0, .int .u32 0, .int .u32 0, .int .u32 0, .int .u32 0, .int .u32 0] 59)
  have HZ := Lib.hid hz
  have HK := Lib.hid hk
  have HV := Lib.hid hv
  clear hz hk hv
  go_enter Tryd.func32, Tryd.ntmps32
  go_wp2_with fail
  go_loopg [11] n (fun gg s11 wr => ∃ (i : Nat) (c : Array Value) (m : Bool) (f : Nat → Nat), i + gg = n ∧ s11 = .int .i64 i ∧ Lies wr w.heap.size c m f ∧ Aside (sv m (wval f) = sumTo S i) ∧ Below w.heap.size w wr)
  case atStart => exact ⟨0, _, _, _, by omega, rfl, l0, by unfold Aside; rw [show wval (fun _ => 0) = 0 by simp [wval, vN]]; rfl, b0⟩
  case round =>
    clear l0 b0
    obtain ⟨j, c, m, f, hig, rfl, hl, hsm, hbel⟩ := hrel
    have HM := Lib.hid hsm
    clear hsm
    have gW := hG.below hbel
    by_cases hlt : (j : Int) < n
    · have hj : j < n := by omega
      have c1 : wr.cell? ⟨b, off + j, none⟩ = some (.string (S j)) := (hS.below hbel) j hj
      have HP := Lib.hid (fun (d : Array Value) (g : Nat → Nat) (W : World) (h2 : IsNum d (dsign (S j).data.toList) g) (e2 : wval g = damt (S j).data.toList) => sumPlus S n j HK.out hj hn c d m f g W hl.num HM.out h2 e2)
      have HC := Lib.hid (fun (W : World) (hW : Gd W) => parseDec (S j) W hW (HZ.out j hj) (HK.out j hj))
      generalize S j = s at *
      have hsz : w.heap.size ≤ wr.heap.size := hbel.size
      go_wp2_with (first
        | (go_at_call 55; (with_reducible refine (HC.out _ gW).mono ?_); rintro e w1 ⟨d, g, rfl, hd, hx, hb⟩; have HX := Lib.hid hx; clear hx; have l1 := (hl.below hb).alloc (.cells #[.bool false, .int .u32 0, .int .u32 0, .int .u32 0, .int .u32 0, .int .u32 0, .int .u32 0, .int .u32 0, .int .u32 0, .int .u32 0, .int .u32 0, .int .u32 0, .int .u32 0, .int .u32 0, .int .u32 0, .int .u32 0, .int .u32 0] 59); have l2 := lies_zero w1 rfl; have hlt1 := (hl.below hb).lt; have b1 := (below_any hbel hb hsz).alloc (Nat.le_of_lt hlt1) (.cells #[.bool false, .int .u32 0, .int .u32 0, .int .u32 0, .int .u32 0, .int .u32 0, .int .u32 0, .int .u32 0, .int .u32 0, .int .u32 0, .int .u32 0, .int .u32 0, .int .u32 0, .int .u32 0, .int .u32 0, .int .u32 0, .int .u32 0] 59))
        | ((with_reducible refine wpList_storeN (.tmp 7) (.tmp 18) w1.heap.size l2 hd ?_ ?_ ?_ ?_ ?_); rfl; rfl; rfl; rfl; intro w2 ho p2; have p1 := l1.only ho (Nat.ne_of_lt hlt1); have b2 := below_only b1 ho (Nat.le_of_lt hlt1) (Nat.le_of_lt l1.lt))
        | ((with_reducible refine wpList_loadN (.tmp 4) w.heap.size p1 ?_ ?_ ?_ ?_); rfl; rfl; rfl)
        | ((with_reducible refine wpList_loadN (.tmp 7) w1.heap.size p2 ?_ ?_ ?_ ?_); rfl; rfl; rfl)
        | (go_at_call 48; (with_reducible refine (HP.out d g _ hd HX.out).mono ?_); rintro e w4 ⟨c', r, h, rfl, hr, hsv, hb4⟩; have q1 := p1.below hb4; have b4 := below_any b2 hb4 (Nat.le_of_lt p1.lt))
        | ((with_reducible refine wpList_storeN (.tmp 4) (.tmp 24) w.heap.size q1 hr ?_ ?_ ?_ ?_ ?_); rfl; rfl; rfl; rfl; intro w5 ho5 q5; have b5 := below_only b4 ho5 (Nat.le_refl _) (Nat.le_of_lt q1.lt)))
      go_roundg (gk - 1)
      case measure => omega
      case rel => exact ⟨j + 1, c', r, h, by omega, by go_num, q5, hsv, b5⟩
    · obtain rfl : j = n := by omega
      have HT := Lib.hid (fun (W : World) => textNum c m f (sumTo S j) W hl.num HM.out x k HV.out)
      go_wp2_with (first
        | ((with_reducible refine wpList_loadN (.tmp 4) w.heap.size hl ?_ ?_ ?_ ?_); rfl; rfl; rfl)
        | (go_at_call 57; (with_reducible refine (HT.out _).mono ?_); rintro e w5 ⟨rfl, hb6⟩; have hb7 := below_any hbel hb6 hbel.size))
      go_ret2
      exact ⟨rfl, hb7⟩
end Go.Proofs.YtabgilmehehbjaaDoor
