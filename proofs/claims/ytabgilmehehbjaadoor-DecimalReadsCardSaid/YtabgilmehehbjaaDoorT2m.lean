/- ToInt: where the whole number may be, and where it may not. -/
import Derived.Test.YtabgilmehehbjaaDoorC0m
import Derived.Test.YtabgilmehehbjaaDoorShelf2
import Derived.Lib.AtoiErrMem
namespace Go.Proofs.YtabgilmehehbjaaDoor
open Go.RowKit

/-- The library's variable ErrRange holds an error. -/
def Er (w : World) : Prop := ∃ te pe, w.cell? ⟨1, 0, none⟩ = some (.iface te pe)
theorem Er.below {w w' : World} (h : Er w) (k : Below w.heap.size w w') : Er w' := by
  obtain ⟨te, pe, hm⟩ := h
  exact ⟨te, pe, (k.cell (p := ⟨1, 0, none⟩) (World.block_lt_of_cell? w _ hm)).trans hm⟩

theorem sufB (s X : ByteArray) (d : Bool) (w : World) (hs : s.size < 4294967281) (HX : Hid (X = bs (Lib.trimSuffix s.data.toList [46, 48]))) (HD : Hid (d = Lib.hasSuffix s.data.toList [46, 48])) :
    Calls Tryd.prog 39 #[.string s, .string ⟨#[46, 48]⟩] w fun e w' => e = .returned (.tuple #[.string X, .bool d]) ∧ w = w' :=
  (Tryd.strings_CutSuffix s ⟨#[46, 48]⟩ w (by omega)).mono fun _ _ ⟨h, k⟩ => ⟨by rw [h, HX.out, HD.out], k.symm⟩

theorem parseOk (X : ByteArray) (v : Int) (w : World) (hs : X.size < 4294967281) (hp : Lib.parseIntB 64 X.data.toList = .ok v) :
    Calls Tryd.prog 40 #[.string X, .int .i64 10, .int .i64 64] w fun e w' => e = .returned (.tuple #[.int .i64 v, .nilIface]) ∧ Below w.heap.size w w' :=
  (Tryd.strconv_ParseInt_10_at64_ok X (by omega) v hp w).mono fun _ _ ⟨h, k⟩ => ⟨h, by
    rcases k with rfl | ⟨t, rfl⟩
    · exact Below.refl _ _
    · exact Lib.bytesWorld_below w 5 t⟩
theorem parseBig (X : ByteArray) (w : World) (hE : Er w) (hs : X.size < 4294967281) (hp : Lib.parseIntB 64 X.data.toList = .range) :
    Calls Tryd.prog 40 #[.string X, .int .i64 10, .int .i64 64] w fun e w' => ∃ z N, e = .returned (.tuple #[.int .i64 z, .iface 103 (.pointer (some ⟨N, 0, none⟩))]) ∧ Below w.heap.size w w' := by
  obtain ⟨te, pe, he⟩ := hE
  refine (Tryd.strconv_ParseInt_10_at64_range X (by omega) hp _ w he (.inr ⟨te, pe, rfl⟩)).mono ?_
  rintro e w' ⟨N, rfl, _, _, hb⟩
  exact ⟨_, N, rfl, hb⟩

theorem toIntOk (s X : ByteArray) (v : Int) (w : World) (hG : Gd w) (hs : s.size < 4294967281) (hk : chk s.data.toList = true) (hsf : Lib.hasSuffix s.data.toList [46, 48] = true) (hX : X = bs (Lib.trimSuffix s.data.toList [46, 48])) (hXs : X.size < 4294967281)
    (hp : Lib.parseIntB 64 X.data.toList = .ok v) :
    Calls Tryd.prog 13 #[.string s] w fun e w' => e = .returned (.tuple #[.int .i64 v, .bool true]) ∧ Below w.heap.size w w' := by
  have KC : Hid (true = chk s.data.toList) := Lib.hid hk.symm
  have HX := Lib.hid hX
  have HD : Hid (true = Lib.hasSuffix s.data.toList [46, 48]) := Lib.hid hsf.symm
  have HP := Lib.hid hp
  clear hk hX hsf hp
  go_enter Tryd.func13, Tryd.ntmps13
  go_wp2_with (first
    | (go_at_call 15; (with_reducible refine (checkB s _ _ hG hs KC).mono ?_); rintro e w1 ⟨rfl, hb1⟩)
    | (go_at_call 39; (with_reducible refine (sufB s X _ _ hs HX HD).mono ?_); rintro e w' ⟨rfl, rfl⟩)
    | (go_at_call 40; (with_reducible refine (parseOk X v _ hXs HP.out).mono ?_); rintro e w2 ⟨rfl, hb2⟩; have hb3 := below_any hb1 hb2 hb1.size))
  go_ret2
  exact ⟨rfl, hb3⟩

theorem toIntBig (s X : ByteArray) (w : World) (hG : Gd w) (hE : Er w) (hs : s.size < 4294967281) (hk : chk s.data.toList = true) (hsf : Lib.hasSuffix s.data.toList [46, 48] = true) (hX : X = bs (Lib.trimSuffix s.data.toList [46, 48])) (hXs : X.size < 4294967281)
    (hp : Lib.parseIntB 64 X.data.toList = .range) :
    Calls Tryd.prog 13 #[.string s] w fun e w' => e = .returned (.tuple #[.int .i64 0, .bool false]) ∧ Below w.heap.size w w' := by
  have KC : Hid (true = chk s.data.toList) := Lib.hid hk.symm
  have HX := Lib.hid hX
  have HD : Hid (true = Lib.hasSuffix s.data.toList [46, 48]) := Lib.hid hsf.symm
  have HP := Lib.hid hp
  clear hk hX hsf hp
  go_enter Tryd.func13, Tryd.ntmps13
  go_wp2_with (first
    | (go_at_call 15; (with_reducible refine (checkB s _ _ hG hs KC).mono ?_); rintro e w1 ⟨rfl, hb1⟩; have e1 := hE.below hb1)
    | (go_at_call 39; (with_reducible refine (sufB s X _ _ hs HX HD).mono ?_); rintro e w' ⟨rfl, rfl⟩)
    | (go_at_call 40; (with_reducible refine (parseBig X _ e1 hXs HP.out).mono ?_); rintro e w2 ⟨z, N, rfl, hb2⟩; have hb3 := below_any hb1 hb2 hb1.size))
  go_ret2
  exact ⟨rfl, hb3⟩
end Go.Proofs.YtabgilmehehbjaaDoor
