/- split: a text's sign and digits. -/
import Derived.Test.YtoifjjgakblhhaaDoorS2m
import Derived.BigGuardPart
namespace Go.Proofs.YtoifjjgakblhhaaDoor
open Go.RowKit

/-- The library's own variable MaxLen holds some number. -/
def Gd (w : World) : Prop := ∃ m, w.cell? ⟨1, 0, none⟩ = some (.int .i64 m)
theorem Gd.below {w w' : World} (h : Gd w) (k : Below w.heap.size w w') : Gd w' := by
  obtain ⟨m, hm⟩ := h
  exact ⟨m, (k.cell (p := ⟨1, 0, none⟩) (World.block_lt_of_cell? w _ hm)).trans hm⟩
theorem Gd.alloc {w : World} (h : Gd w) (o : Obj) : Gd (w.alloc o) := h.below ((Below.refl _ _).alloc (Nat.le_refl _) _)

theorem cutAt (r X Y : ByteArray) (b : Bool) (w : World) (hG : Gd w) (hs : r.size < 4294967281) (HX : Hid (X = bs (Lib.cut r.data.toList [46]).1)) (HY : Hid (Y = bs (Lib.cut r.data.toList [46]).2.1)) (HB : Hid (b = (Lib.cut r.data.toList [46]).2.2)) :
    Calls Tryd.prog 58 #[.string r, .string ⟨#[46]⟩] w fun e w' => e = .returned (.tuple #[.string X, .string Y, .bool b]) ∧ Below w.heap.size w w' := by
  obtain ⟨m, hm⟩ := hG
  refine (Tryd.strings_Cut r ⟨#[46]⟩ m w hs hm).mono ?_
  rintro e w' ⟨rfl, n, rfl⟩
  exact ⟨by rw [HX.out, HY.out, HB.out], below_drewN (Below.refl _ _) n⟩

theorem isDigitsB (s : ByteArray) (d : Bool) (w : World) (hs : s.size ≤ maxLen) (H : Hid (d = digs s.data.toList)) :
    Calls Tryd.prog 59 #[.string s] w fun e w' => e = .returned (.bool d) ∧ w = w' :=
  (isDigitsAt s w hs).mono fun _ _ ⟨h, k⟩ => ⟨by rw [h, H.out], k.symm⟩
theorem prefB (s p : ByteArray) (d : Bool) (w : World) (H : Hid (d = Lib.hasPrefix s.data.toList p.data.toList)) :
    Calls Tryd.prog 57 #[.string s, .string p] w fun e w' => e = .returned (.bool d) ∧ w = w' :=
  (Tryd.strings_HasPrefix s p w).mono fun _ _ ⟨h, k⟩ => ⟨by rw [h, H.out], k.symm⟩

set_option maxHeartbeats 800000 in
theorem splitNegA (s r X Y : ByteArray) (dX dY b : Bool) (w : World) (hG : Gd w) (hs : s.size < 4294967281) (hX : X.size ≤ maxLen) (hY : Y.size ≤ maxLen) (h1 : 1 ≤ s.size)
    (P1 : Hid (true = Lib.hasPrefix s.data.toList (ByteArray.mk #[45]).data.toList)) (hr : r = s.extract 1 s.size)
    (HX : Hid (X = bs (Lib.cut r.data.toList [46]).1)) (HY : Hid (Y = bs (Lib.cut r.data.toList [46]).2.1)) (HB : Hid (b = (Lib.cut r.data.toList [46]).2.2))
    (DX : Hid (dX = digs X.data.toList)) (DY : Hid (dY = digs Y.data.toList)) (hok : dX = true ∧ b = false) :
    Calls Tryd.prog 52 #[.string s] w fun e w' => e = .returned (.tuple #[.bool true, .string X, .string Y, .bool true]) ∧ Below w.heap.size w w' := by
  subst hr
  obtain ⟨rfl, rfl⟩ := hok
  go_enter Tryd.func52, Tryd.ntmps52
  go_wp2_with (first
    | (go_at_call 57; (with_reducible refine (prefB _ _ _ _ P1).mono ?_); rintro e w' ⟨rfl, rfl⟩)
    | (go_at_call 58; (with_reducible refine (cutAt _ X Y _ _ hG ?_ HX HY HB).mono ?_); (simp; omega); rintro e w1 ⟨rfl, hb⟩)
    | (go_at_call 58; (with_reducible refine (cutAt _ X Y _ _ hG hs HX HY HB).mono ?_); rintro e w1 ⟨rfl, hb⟩)
    | (go_at_call 59; (with_reducible refine (isDigitsB X _ _ hX DX).mono ?_); rintro e w' ⟨rfl, rfl⟩)
    | (go_at_call 59; (with_reducible refine (isDigitsB Y _ _ hY DY).mono ?_); rintro e w' ⟨rfl, rfl⟩))
  exact bodyPost_ret (v := .tuple #[.bool true, .string X, .string Y, .bool true]) (by simp [results, Tryd.results52, go_sem]) rfl ⟨rfl, hb⟩

set_option maxHeartbeats 800000 in
theorem splitNegB (s r X Y : ByteArray) (dX dY b : Bool) (w : World) (hG : Gd w) (hs : s.size < 4294967281) (hX : X.size ≤ maxLen) (hY : Y.size ≤ maxLen) (h1 : 1 ≤ s.size)
    (P1 : Hid (true = Lib.hasPrefix s.data.toList (ByteArray.mk #[45]).data.toList)) (hr : r = s.extract 1 s.size)
    (HX : Hid (X = bs (Lib.cut r.data.toList [46]).1)) (HY : Hid (Y = bs (Lib.cut r.data.toList [46]).2.1)) (HB : Hid (b = (Lib.cut r.data.toList [46]).2.2))
    (DX : Hid (dX = digs X.data.toList)) (DY : Hid (dY = digs Y.data.toList)) (hok : dX = true ∧ b = true ∧ dY = true) :
    Calls Tryd.prog 52 #[.string s] w fun e w' => e = .returned (.tuple #[.bool true, .string X, .string Y, .bool true]) ∧ Below w.heap.size w w' := by
  subst hr
  obtain ⟨rfl, rfl, rfl⟩ := hok
  go_enter Tryd.func52, Tryd.ntmps52
  go_wp2_with (first
    | (go_at_call 57; (with_reducible refine (prefB _ _ _ _ P1).mono ?_); rintro e w' ⟨rfl, rfl⟩)
    | (go_at_call 58; (with_reducible refine (cutAt _ X Y _ _ hG ?_ HX HY HB).mono ?_); (simp; omega); rintro e w1 ⟨rfl, hb⟩)
    | (go_at_call 58; (with_reducible refine (cutAt _ X Y _ _ hG hs HX HY HB).mono ?_); rintro e w1 ⟨rfl, hb⟩)
    | (go_at_call 59; (with_reducible refine (isDigitsB X _ _ hX DX).mono ?_); rintro e w' ⟨rfl, rfl⟩)
    | (go_at_call 59; (with_reducible refine (isDigitsB Y _ _ hY DY).mono ?_); rintro e w' ⟨rfl, rfl⟩))
  exact bodyPost_ret (v := .tuple #[.bool true, .string X, .string Y, .bool true]) (by simp [results, Tryd.results52, go_sem]) rfl ⟨rfl, hb⟩

set_option maxHeartbeats 800000 in
theorem splitNegC (s r X Y : ByteArray) (dX dY b : Bool) (w : World) (hG : Gd w) (hs : s.size < 4294967281) (hX : X.size ≤ maxLen) (hY : Y.size ≤ maxLen) (h1 : 1 ≤ s.size)
    (P1 : Hid (true = Lib.hasPrefix s.data.toList (ByteArray.mk #[45]).data.toList)) (hr : r = s.extract 1 s.size)
    (HX : Hid (X = bs (Lib.cut r.data.toList [46]).1)) (HY : Hid (Y = bs (Lib.cut r.data.toList [46]).2.1)) (HB : Hid (b = (Lib.cut r.data.toList [46]).2.2))
    (DX : Hid (dX = digs X.data.toList)) (DY : Hid (dY = digs Y.data.toList)) (hok : dX = false) :
    Calls Tryd.prog 52 #[.string s] w fun e w' => e = .returned (.tuple #[.bool false, .string ⟨#[]⟩, .string ⟨#[]⟩, .bool false]) ∧ Below w.heap.size w w' := by
  subst hr
  obtain rfl := hok
  go_enter Tryd.func52, Tryd.ntmps52
  go_wp2_with (first
    | (go_at_call 57; (with_reducible refine (prefB _ _ _ _ P1).mono ?_); rintro e w' ⟨rfl, rfl⟩)
    | (go_at_call 58; (with_reducible refine (cutAt _ X Y _ _ hG ?_ HX HY HB).mono ?_); (simp; omega); rintro e w1 ⟨rfl, hb⟩)
    | (go_at_call 58; (with_reducible refine (cutAt _ X Y _ _ hG hs HX HY HB).mono ?_); rintro e w1 ⟨rfl, hb⟩)
    | (go_at_call 59; (with_reducible refine (isDigitsB X _ _ hX DX).mono ?_); rintro e w' ⟨rfl, rfl⟩)
    | (go_at_call 59; (with_reducible refine (isDigitsB Y _ _ hY DY).mono ?_); rintro e w' ⟨rfl, rfl⟩))
  exact bodyPost_ret (v := .tuple #[.bool false, .string ⟨#[]⟩, .string ⟨#[]⟩, .bool false]) (by simp [results, Tryd.results52, go_sem]) rfl ⟨rfl, hb⟩

set_option maxHeartbeats 800000 in
theorem splitNegD (s r X Y : ByteArray) (dX dY b : Bool) (w : World) (hG : Gd w) (hs : s.size < 4294967281) (hX : X.size ≤ maxLen) (hY : Y.size ≤ maxLen) (h1 : 1 ≤ s.size)
    (P1 : Hid (true = Lib.hasPrefix s.data.toList (ByteArray.mk #[45]).data.toList)) (hr : r = s.extract 1 s.size)
    (HX : Hid (X = bs (Lib.cut r.data.toList [46]).1)) (HY : Hid (Y = bs (Lib.cut r.data.toList [46]).2.1)) (HB : Hid (b = (Lib.cut r.data.toList [46]).2.2))
    (DX : Hid (dX = digs X.data.toList)) (DY : Hid (dY = digs Y.data.toList)) (hok : dX = true ∧ b = true ∧ dY = false) :
    Calls Tryd.prog 52 #[.string s] w fun e w' => e = .returned (.tuple #[.bool false, .string ⟨#[]⟩, .string ⟨#[]⟩, .bool false]) ∧ Below w.heap.size w w' := by
  subst hr
  obtain ⟨rfl, rfl, rfl⟩ := hok
  go_enter Tryd.func52, Tryd.ntmps52
  go_wp2_with (first
    | (go_at_call 57; (with_reducible refine (prefB _ _ _ _ P1).mono ?_); rintro e w' ⟨rfl, rfl⟩)
    | (go_at_call 58; (with_reducible refine (cutAt _ X Y _ _ hG ?_ HX HY HB).mono ?_); (simp; omega); rintro e w1 ⟨rfl, hb⟩)
    | (go_at_call 58; (with_reducible refine (cutAt _ X Y _ _ hG hs HX HY HB).mono ?_); rintro e w1 ⟨rfl, hb⟩)
    | (go_at_call 59; (with_reducible refine (isDigitsB X _ _ hX DX).mono ?_); rintro e w' ⟨rfl, rfl⟩)
    | (go_at_call 59; (with_reducible refine (isDigitsB Y _ _ hY DY).mono ?_); rintro e w' ⟨rfl, rfl⟩))
  exact bodyPost_ret (v := .tuple #[.bool false, .string ⟨#[]⟩, .string ⟨#[]⟩, .bool false]) (by simp [results, Tryd.results52, go_sem]) rfl ⟨rfl, hb⟩

set_option maxHeartbeats 800000 in
theorem splitPlusA (s r X Y : ByteArray) (dX dY b : Bool) (w : World) (hG : Gd w) (hs : s.size < 4294967281) (hX : X.size ≤ maxLen) (hY : Y.size ≤ maxLen) (h1 : 1 ≤ s.size)
    (P1 : Hid (false = Lib.hasPrefix s.data.toList (ByteArray.mk #[45]).data.toList)) (P2 : Hid (true = Lib.hasPrefix s.data.toList (ByteArray.mk #[43]).data.toList)) (hr : r = s.extract 1 s.size)
    (HX : Hid (X = bs (Lib.cut r.data.toList [46]).1)) (HY : Hid (Y = bs (Lib.cut r.data.toList [46]).2.1)) (HB : Hid (b = (Lib.cut r.data.toList [46]).2.2))
    (DX : Hid (dX = digs X.data.toList)) (DY : Hid (dY = digs Y.data.toList)) (hok : dX = true ∧ b = false) :
    Calls Tryd.prog 52 #[.string s] w fun e w' => e = .returned (.tuple #[.bool false, .string X, .string Y, .bool true]) ∧ Below w.heap.size w w' := by
  subst hr
  obtain ⟨rfl, rfl⟩ := hok
  go_enter Tryd.func52, Tryd.ntmps52
  go_wp2_with (first
    | (go_at_call 57; (with_reducible refine (prefB _ _ _ _ P1).mono ?_); rintro e w' ⟨rfl, rfl⟩)
    | (go_at_call 57; (with_reducible refine (prefB _ _ _ _ P2).mono ?_); rintro e w' ⟨rfl, rfl⟩)
    | (go_at_call 58; (with_reducible refine (cutAt _ X Y _ _ hG ?_ HX HY HB).mono ?_); (simp; omega); rintro e w1 ⟨rfl, hb⟩)
    | (go_at_call 58; (with_reducible refine (cutAt _ X Y _ _ hG hs HX HY HB).mono ?_); rintro e w1 ⟨rfl, hb⟩)
    | (go_at_call 59; (with_reducible refine (isDigitsB X _ _ hX DX).mono ?_); rintro e w' ⟨rfl, rfl⟩)
    | (go_at_call 59; (with_reducible refine (isDigitsB Y _ _ hY DY).mono ?_); rintro e w' ⟨rfl, rfl⟩))
  exact bodyPost_ret (v := .tuple #[.bool false, .string X, .string Y, .bool true]) (by simp [results, Tryd.results52, go_sem]) rfl ⟨rfl, hb⟩

set_option maxHeartbeats 800000 in
theorem splitPlusB (s r X Y : ByteArray) (dX dY b : Bool) (w : World) (hG : Gd w) (hs : s.size < 4294967281) (hX : X.size ≤ maxLen) (hY : Y.size ≤ maxLen) (h1 : 1 ≤ s.size)
    (P1 : Hid (false = Lib.hasPrefix s.data.toList (ByteArray.mk #[45]).data.toList)) (P2 : Hid (true = Lib.hasPrefix s.data.toList (ByteArray.mk #[43]).data.toList)) (hr : r = s.extract 1 s.size)
    (HX : Hid (X = bs (Lib.cut r.data.toList [46]).1)) (HY : Hid (Y = bs (Lib.cut r.data.toList [46]).2.1)) (HB : Hid (b = (Lib.cut r.data.toList [46]).2.2))
    (DX : Hid (dX = digs X.data.toList)) (DY : Hid (dY = digs Y.data.toList)) (hok : dX = true ∧ b = true ∧ dY = true) :
    Calls Tryd.prog 52 #[.string s] w fun e w' => e = .returned (.tuple #[.bool false, .string X, .string Y, .bool true]) ∧ Below w.heap.size w w' := by
  subst hr
  obtain ⟨rfl, rfl, rfl⟩ := hok
  go_enter Tryd.func52, Tryd.ntmps52
  go_wp2_with (first
    | (go_at_call 57; (with_reducible refine (prefB _ _ _ _ P1).mono ?_); rintro e w' ⟨rfl, rfl⟩)
    | (go_at_call 57; (with_reducible refine (prefB _ _ _ _ P2).mono ?_); rintro e w' ⟨rfl, rfl⟩)
    | (go_at_call 58; (with_reducible refine (cutAt _ X Y _ _ hG ?_ HX HY HB).mono ?_); (simp; omega); rintro e w1 ⟨rfl, hb⟩)
    | (go_at_call 58; (with_reducible refine (cutAt _ X Y _ _ hG hs HX HY HB).mono ?_); rintro e w1 ⟨rfl, hb⟩)
    | (go_at_call 59; (with_reducible refine (isDigitsB X _ _ hX DX).mono ?_); rintro e w' ⟨rfl, rfl⟩)
    | (go_at_call 59; (with_reducible refine (isDigitsB Y _ _ hY DY).mono ?_); rintro e w' ⟨rfl, rfl⟩))
  exact bodyPost_ret (v := .tuple #[.bool false, .string X, .string Y, .bool true]) (by simp [results, Tryd.results52, go_sem]) rfl ⟨rfl, hb⟩

set_option maxHeartbeats 800000 in
theorem splitPlusC (s r X Y : ByteArray) (dX dY b : Bool) (w : World) (hG : Gd w) (hs : s.size < 4294967281) (hX : X.size ≤ maxLen) (hY : Y.size ≤ maxLen) (h1 : 1 ≤ s.size)
    (P1 : Hid (false = Lib.hasPrefix s.data.toList (ByteArray.mk #[45]).data.toList)) (P2 : Hid (true = Lib.hasPrefix s.data.toList (ByteArray.mk #[43]).data.toList)) (hr : r = s.extract 1 s.size)
    (HX : Hid (X = bs (Lib.cut r.data.toList [46]).1)) (HY : Hid (Y = bs (Lib.cut r.data.toList [46]).2.1)) (HB : Hid (b = (Lib.cut r.data.toList [46]).2.2))
    (DX : Hid (dX = digs X.data.toList)) (DY : Hid (dY = digs Y.data.toList)) (hok : dX = false) :
    Calls Tryd.prog 52 #[.string s] w fun e w' => e = .returned (.tuple #[.bool false, .string ⟨#[]⟩, .string ⟨#[]⟩, .bool false]) ∧ Below w.heap.size w w' := by
  subst hr
  obtain rfl := hok
  go_enter Tryd.func52, Tryd.ntmps52
  go_wp2_with (first
    | (go_at_call 57; (with_reducible refine (prefB _ _ _ _ P1).mono ?_); rintro e w' ⟨rfl, rfl⟩)
    | (go_at_call 57; (with_reducible refine (prefB _ _ _ _ P2).mono ?_); rintro e w' ⟨rfl, rfl⟩)
    | (go_at_call 58; (with_reducible refine (cutAt _ X Y _ _ hG ?_ HX HY HB).mono ?_); (simp; omega); rintro e w1 ⟨rfl, hb⟩)
    | (go_at_call 58; (with_reducible refine (cutAt _ X Y _ _ hG hs HX HY HB).mono ?_); rintro e w1 ⟨rfl, hb⟩)
    | (go_at_call 59; (with_reducible refine (isDigitsB X _ _ hX DX).mono ?_); rintro e w' ⟨rfl, rfl⟩)
    | (go_at_call 59; (with_reducible refine (isDigitsB Y _ _ hY DY).mono ?_); rintro e w' ⟨rfl, rfl⟩))
  exact bodyPost_ret (v := .tuple #[.bool false, .string ⟨#[]⟩, .string ⟨#[]⟩, .bool false]) (by simp [results, Tryd.results52, go_sem]) rfl ⟨rfl, hb⟩

set_option maxHeartbeats 800000 in
theorem splitPlusD (s r X Y : ByteArray) (dX dY b : Bool) (w : World) (hG : Gd w) (hs : s.size < 4294967281) (hX : X.size ≤ maxLen) (hY : Y.size ≤ maxLen) (h1 : 1 ≤ s.size)
    (P1 : Hid (false = Lib.hasPrefix s.data.toList (ByteArray.mk #[45]).data.toList)) (P2 : Hid (true = Lib.hasPrefix s.data.toList (ByteArray.mk #[43]).data.toList)) (hr : r = s.extract 1 s.size)
    (HX : Hid (X = bs (Lib.cut r.data.toList [46]).1)) (HY : Hid (Y = bs (Lib.cut r.data.toList [46]).2.1)) (HB : Hid (b = (Lib.cut r.data.toList [46]).2.2))
    (DX : Hid (dX = digs X.data.toList)) (DY : Hid (dY = digs Y.data.toList)) (hok : dX = true ∧ b = true ∧ dY = false) :
    Calls Tryd.prog 52 #[.string s] w fun e w' => e = .returned (.tuple #[.bool false, .string ⟨#[]⟩, .string ⟨#[]⟩, .bool false]) ∧ Below w.heap.size w w' := by
  subst hr
  obtain ⟨rfl, rfl, rfl⟩ := hok
  go_enter Tryd.func52, Tryd.ntmps52
  go_wp2_with (first
    | (go_at_call 57; (with_reducible refine (prefB _ _ _ _ P1).mono ?_); rintro e w' ⟨rfl, rfl⟩)
    | (go_at_call 57; (with_reducible refine (prefB _ _ _ _ P2).mono ?_); rintro e w' ⟨rfl, rfl⟩)
    | (go_at_call 58; (with_reducible refine (cutAt _ X Y _ _ hG ?_ HX HY HB).mono ?_); (simp; omega); rintro e w1 ⟨rfl, hb⟩)
    | (go_at_call 58; (with_reducible refine (cutAt _ X Y _ _ hG hs HX HY HB).mono ?_); rintro e w1 ⟨rfl, hb⟩)
    | (go_at_call 59; (with_reducible refine (isDigitsB X _ _ hX DX).mono ?_); rintro e w' ⟨rfl, rfl⟩)
    | (go_at_call 59; (with_reducible refine (isDigitsB Y _ _ hY DY).mono ?_); rintro e w' ⟨rfl, rfl⟩))
  exact bodyPost_ret (v := .tuple #[.bool false, .string ⟨#[]⟩, .string ⟨#[]⟩, .bool false]) (by simp [results, Tryd.results52, go_sem]) rfl ⟨rfl, hb⟩

set_option maxHeartbeats 800000 in
theorem splitNoneA (s r X Y : ByteArray) (dX dY b : Bool) (w : World) (hG : Gd w) (hs : s.size < 4294967281) (hX : X.size ≤ maxLen) (hY : Y.size ≤ maxLen) 
    (P1 : Hid (false = Lib.hasPrefix s.data.toList (ByteArray.mk #[45]).data.toList)) (P2 : Hid (false = Lib.hasPrefix s.data.toList (ByteArray.mk #[43]).data.toList)) (hr : r = s)
    (HX : Hid (X = bs (Lib.cut r.data.toList [46]).1)) (HY : Hid (Y = bs (Lib.cut r.data.toList [46]).2.1)) (HB : Hid (b = (Lib.cut r.data.toList [46]).2.2))
    (DX : Hid (dX = digs X.data.toList)) (DY : Hid (dY = digs Y.data.toList)) (hok : dX = true ∧ b = false) :
    Calls Tryd.prog 52 #[.string s] w fun e w' => e = .returned (.tuple #[.bool false, .string X, .string Y, .bool true]) ∧ Below w.heap.size w w' := by
  subst hr
  obtain ⟨rfl, rfl⟩ := hok
  go_enter Tryd.func52, Tryd.ntmps52
  go_wp2_with (first
    | (go_at_call 57; (with_reducible refine (prefB _ _ _ _ P1).mono ?_); rintro e w' ⟨rfl, rfl⟩)
    | (go_at_call 57; (with_reducible refine (prefB _ _ _ _ P2).mono ?_); rintro e w' ⟨rfl, rfl⟩)
    | (go_at_call 58; (with_reducible refine (cutAt _ X Y _ _ hG ?_ HX HY HB).mono ?_); (simp; omega); rintro e w1 ⟨rfl, hb⟩)
    | (go_at_call 58; (with_reducible refine (cutAt _ X Y _ _ hG hs HX HY HB).mono ?_); rintro e w1 ⟨rfl, hb⟩)
    | (go_at_call 59; (with_reducible refine (isDigitsB X _ _ hX DX).mono ?_); rintro e w' ⟨rfl, rfl⟩)
    | (go_at_call 59; (with_reducible refine (isDigitsB Y _ _ hY DY).mono ?_); rintro e w' ⟨rfl, rfl⟩))
  exact bodyPost_ret (v := .tuple #[.bool false, .string X, .string Y, .bool true]) (by simp [results, Tryd.results52, go_sem]) rfl ⟨rfl, hb⟩

set_option maxHeartbeats 800000 in
theorem splitNoneB (s r X Y : ByteArray) (dX dY b : Bool) (w : World) (hG : Gd w) (hs : s.size < 4294967281) (hX : X.size ≤ maxLen) (hY : Y.size ≤ maxLen) 
    (P1 : Hid (false = Lib.hasPrefix s.data.toList (ByteArray.mk #[45]).data.toList)) (P2 : Hid (false = Lib.hasPrefix s.data.toList (ByteArray.mk #[43]).data.toList)) (hr : r = s)
    (HX : Hid (X = bs (Lib.cut r.data.toList [46]).1)) (HY : Hid (Y = bs (Lib.cut r.data.toList [46]).2.1)) (HB : Hid (b = (Lib.cut r.data.toList [46]).2.2))
    (DX : Hid (dX = digs X.data.toList)) (DY : Hid (dY = digs Y.data.toList)) (hok : dX = true ∧ b = true ∧ dY = true) :
    Calls Tryd.prog 52 #[.string s] w fun e w' => e = .returned (.tuple #[.bool false, .string X, .string Y, .bool true]) ∧ Below w.heap.size w w' := by
  subst hr
  obtain ⟨rfl, rfl, rfl⟩ := hok
  go_enter Tryd.func52, Tryd.ntmps52
  go_wp2_with (first
    | (go_at_call 57; (with_reducible refine (prefB _ _ _ _ P1).mono ?_); rintro e w' ⟨rfl, rfl⟩)
    | (go_at_call 57; (with_reducible refine (prefB _ _ _ _ P2).mono ?_); rintro e w' ⟨rfl, rfl⟩)
    | (go_at_call 58; (with_reducible refine (cutAt _ X Y _ _ hG ?_ HX HY HB).mono ?_); (simp; omega); rintro e w1 ⟨rfl, hb⟩)
    | (go_at_call 58; (with_reducible refine (cutAt _ X Y _ _ hG hs HX HY HB).mono ?_); rintro e w1 ⟨rfl, hb⟩)
    | (go_at_call 59; (with_reducible refine (isDigitsB X _ _ hX DX).mono ?_); rintro e w' ⟨rfl, rfl⟩)
    | (go_at_call 59; (with_reducible refine (isDigitsB Y _ _ hY DY).mono ?_); rintro e w' ⟨rfl, rfl⟩))
  exact bodyPost_ret (v := .tuple #[.bool false, .string X, .string Y, .bool true]) (by simp [results, Tryd.results52, go_sem]) rfl ⟨rfl, hb⟩

set_option maxHeartbeats 800000 in
theorem splitNoneC (s r X Y : ByteArray) (dX dY b : Bool) (w : World) (hG : Gd w) (hs : s.size < 4294967281) (hX : X.size ≤ maxLen) (hY : Y.size ≤ maxLen) 
    (P1 : Hid (false = Lib.hasPrefix s.data.toList (ByteArray.mk #[45]).data.toList)) (P2 : Hid (false = Lib.hasPrefix s.data.toList (ByteArray.mk #[43]).data.toList)) (hr : r = s)
    (HX : Hid (X = bs (Lib.cut r.data.toList [46]).1)) (HY : Hid (Y = bs (Lib.cut r.data.toList [46]).2.1)) (HB : Hid (b = (Lib.cut r.data.toList [46]).2.2))
    (DX : Hid (dX = digs X.data.toList)) (DY : Hid (dY = digs Y.data.toList)) (hok : dX = false) :
    Calls Tryd.prog 52 #[.string s] w fun e w' => e = .returned (.tuple #[.bool false, .string ⟨#[]⟩, .string ⟨#[]⟩, .bool false]) ∧ Below w.heap.size w w' := by
  subst hr
  obtain rfl := hok
  go_enter Tryd.func52, Tryd.ntmps52
  go_wp2_with (first
    | (go_at_call 57; (with_reducible refine (prefB _ _ _ _ P1).mono ?_); rintro e w' ⟨rfl, rfl⟩)
    | (go_at_call 57; (with_reducible refine (prefB _ _ _ _ P2).mono ?_); rintro e w' ⟨rfl, rfl⟩)
    | (go_at_call 58; (with_reducible refine (cutAt _ X Y _ _ hG ?_ HX HY HB).mono ?_); (simp; omega); rintro e w1 ⟨rfl, hb⟩)
    | (go_at_call 58; (with_reducible refine (cutAt _ X Y _ _ hG hs HX HY HB).mono ?_); rintro e w1 ⟨rfl, hb⟩)
    | (go_at_call 59; (with_reducible refine (isDigitsB X _ _ hX DX).mono ?_); rintro e w' ⟨rfl, rfl⟩)
    | (go_at_call 59; (with_reducible refine (isDigitsB Y _ _ hY DY).mono ?_); rintro e w' ⟨rfl, rfl⟩))
  exact bodyPost_ret (v := .tuple #[.bool false, .string ⟨#[]⟩, .string ⟨#[]⟩, .bool false]) (by simp [results, Tryd.results52, go_sem]) rfl ⟨rfl, hb⟩

set_option maxHeartbeats 800000 in
theorem splitNoneD (s r X Y : ByteArray) (dX dY b : Bool) (w : World) (hG : Gd w) (hs : s.size < 4294967281) (hX : X.size ≤ maxLen) (hY : Y.size ≤ maxLen) 
    (P1 : Hid (false = Lib.hasPrefix s.data.toList (ByteArray.mk #[45]).data.toList)) (P2 : Hid (false = Lib.hasPrefix s.data.toList (ByteArray.mk #[43]).data.toList)) (hr : r = s)
    (HX : Hid (X = bs (Lib.cut r.data.toList [46]).1)) (HY : Hid (Y = bs (Lib.cut r.data.toList [46]).2.1)) (HB : Hid (b = (Lib.cut r.data.toList [46]).2.2))
    (DX : Hid (dX = digs X.data.toList)) (DY : Hid (dY = digs Y.data.toList)) (hok : dX = true ∧ b = true ∧ dY = false) :
    Calls Tryd.prog 52 #[.string s] w fun e w' => e = .returned (.tuple #[.bool false, .string ⟨#[]⟩, .string ⟨#[]⟩, .bool false]) ∧ Below w.heap.size w w' := by
  subst hr
  obtain ⟨rfl, rfl, rfl⟩ := hok
  go_enter Tryd.func52, Tryd.ntmps52
  go_wp2_with (first
    | (go_at_call 57; (with_reducible refine (prefB _ _ _ _ P1).mono ?_); rintro e w' ⟨rfl, rfl⟩)
    | (go_at_call 57; (with_reducible refine (prefB _ _ _ _ P2).mono ?_); rintro e w' ⟨rfl, rfl⟩)
    | (go_at_call 58; (with_reducible refine (cutAt _ X Y _ _ hG ?_ HX HY HB).mono ?_); (simp; omega); rintro e w1 ⟨rfl, hb⟩)
    | (go_at_call 58; (with_reducible refine (cutAt _ X Y _ _ hG hs HX HY HB).mono ?_); rintro e w1 ⟨rfl, hb⟩)
    | (go_at_call 59; (with_reducible refine (isDigitsB X _ _ hX DX).mono ?_); rintro e w' ⟨rfl, rfl⟩)
    | (go_at_call 59; (with_reducible refine (isDigitsB Y _ _ hY DY).mono ?_); rintro e w' ⟨rfl, rfl⟩))
  exact bodyPost_ret (v := .tuple #[.bool false, .string ⟨#[]⟩, .string ⟨#[]⟩, .bool false]) (by simp [results, Tryd.results52, go_sem]) rfl ⟨rfl, hb⟩

end Go.Proofs.YtoifjjgakblhhaaDoor
