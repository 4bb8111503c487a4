/- Texts of one kind, one behind the other: each says ahead of itself what it shows. -/
import Derived.Test.YteclpnfckjfibaaGreatDoorDaa
import Derived.BigGuardPart
import Derived.Laws.StructEq
import Derived.Deep.RegionHeld3
import Derived.Deep.RegionWith
import Derived.Deep.WholeRow
import Derived.Laws.IdiomStrings
import Derived.WalkMore
import Derived.Deep.LoopGhost
import Derived.OwnWalk
namespace Go.Proofs.YteclpnfckjfibaaGreatDoor
open Go.RowKit
set_option maxHeartbeats 12800000
set_option maxRecDepth 20000
def Gd (w:World):Prop:=∃ m,w.cell? ⟨0,0,none⟩=some (.int .i64 m)
theorem Gd.below {w w':World} (h:Gd w) (k:Below w.heap.size w w'):Gd w':=by
 obtain ⟨m,hm⟩:=h
 exact ⟨m,(k.cell (p:=⟨0,0,none⟩) (World.block_lt_of_cell? w _ hm)).trans hm⟩
theorem Gd.alloc {w:World} (h:Gd w) (o:Obj):Gd (w.alloc o):=h.below ((Below.refl _ _).alloc (Nat.le_refl _) _)
theorem zeg (r X Y:ByteArray) (b:Bool) (w:World) (hG:Gd w) (hs:r.size < 4294967281) (HX:Hid (X=bs (Lib.cut r.data.toList [46]).1)) (HY:Hid (Y=bs (Lib.cut r.data.toList [46]).2.1)) (HB:Hid (b=(Lib.cut r.data.toList [46]).2.2)):
 Calls Tryz.prog 250 #[.string r,.string ⟨#[46]⟩] w fun e w'=>e=.returned (.tuple #[.string X,.string Y,.bool b])∧Low w.heap.size w w':=by
 obtain ⟨m,hm⟩:=hG
 refine (Tryz.strings_Cut r ⟨#[46]⟩ m w hs hm).mono ?_
 rintro e w' ⟨rfl,n,rfl⟩
 exact ⟨by rw [HX.out,HY.out,HB.out],zey (Low.refl _ _) n⟩
theorem zbd (s:ByteArray) (d:Bool) (w:World) (hs:s.size≤maxLen) (H:Hid (d=digs s.data.toList)):
 Calls Tryz.prog 251 #[.string s] w fun e w'=>e=.returned (.bool d)∧w=w':=
 (zva s w hs).mono fun _ _ ⟨h,k⟩=>⟨by rw [h,H.out],k.symm⟩
theorem ze1 (s p:ByteArray) (d:Bool) (w:World) (H:Hid (d=Lib.hasPrefix s.data.toList p.data.toList)):
 Calls Tryz.prog 249 #[.string s,.string p] w fun e w'=>e=.returned (.bool d)∧w=w':=
 (Tryz.strings_HasPrefix s p w).mono fun _ _ ⟨h,k⟩=>⟨by rw [h,H.out],k.symm⟩
theorem zxc (s r X Y:ByteArray) (dX dY b:Bool) (w:World) (hG:Gd w) (hs:s.size < 4294967281) (hX:X.size≤maxLen) (hY:Y.size≤maxLen) (h1:1≤s.size)
 (P1:Hid (true=Lib.hasPrefix s.data.toList (ByteArray.mk #[45]).data.toList)) (hr:r=s.extract 1 s.size)
 (HX:Hid (X=bs (Lib.cut r.data.toList [46]).1)) (HY:Hid (Y=bs (Lib.cut r.data.toList [46]).2.1)) (HB:Hid (b=(Lib.cut r.data.toList [46]).2.2))
 (DX:Hid (dX=digs X.data.toList)) (_:Hid (dY=digs Y.data.toList)) (hok:dX=true∧b=false):
 Calls Tryz.prog 221 #[.string s] w fun e w'=>e=.returned (.tuple #[.bool true,.string X,.string Y,.bool true])∧Low w.heap.size w w':=by
 subst hr
 obtain ⟨rfl,rfl⟩:=hok
 go_enter Tryz.func221,Tryz.ntmps221
 go_wp2_with (first
  |(go_at_call 249;(with_reducible refine (ze1 _ _ _ _ P1).mono ?_);rintro e w' ⟨rfl,rfl⟩)
  |(go_at_call 250;(with_reducible refine (zeg _ X Y _ _ hG ?_ HX HY HB).mono ?_);(simp;omega);rintro e w1 ⟨rfl,hb⟩)
  |(go_at_call 250;(with_reducible refine (zeg _ X Y _ _ hG hs HX HY HB).mono ?_);rintro e w1 ⟨rfl,hb⟩)
  |(go_at_call 251;(with_reducible refine (zbd X _ _ hX DX).mono ?_);rintro e w' ⟨rfl,rfl⟩)
  |(go_at_call 251;(with_reducible refine (zbd Y _ _ hY DY).mono ?_);rintro e w' ⟨rfl,rfl⟩))
 exact bodyPost_ret (v:=.tuple #[.bool true,.string X,.string Y,.bool true]) (by simp [results,Tryz.results221,go_sem]) rfl ⟨rfl,hb⟩
theorem zxd (s r X Y:ByteArray) (dX dY b:Bool) (w:World) (hG:Gd w) (hs:s.size < 4294967281) (hX:X.size≤maxLen) (hY:Y.size≤maxLen) (h1:1≤s.size)
 (P1:Hid (true=Lib.hasPrefix s.data.toList (ByteArray.mk #[45]).data.toList)) (hr:r=s.extract 1 s.size)
 (HX:Hid (X=bs (Lib.cut r.data.toList [46]).1)) (HY:Hid (Y=bs (Lib.cut r.data.toList [46]).2.1)) (HB:Hid (b=(Lib.cut r.data.toList [46]).2.2))
 (DX:Hid (dX=digs X.data.toList)) (DY:Hid (dY=digs Y.data.toList)) (hok:dX=true∧b=true∧dY=true):
 Calls Tryz.prog 221 #[.string s] w fun e w'=>e=.returned (.tuple #[.bool true,.string X,.string Y,.bool true])∧Low w.heap.size w w':=by
 subst hr
 obtain ⟨rfl,rfl,rfl⟩:=hok
 go_enter Tryz.func221,Tryz.ntmps221
 go_wp2_with (first
  |(go_at_call 249;(with_reducible refine (ze1 _ _ _ _ P1).mono ?_);rintro e w' ⟨rfl,rfl⟩)
  |(go_at_call 250;(with_reducible refine (zeg _ X Y _ _ hG ?_ HX HY HB).mono ?_);(simp;omega);rintro e w1 ⟨rfl,hb⟩)
  |(go_at_call 250;(with_reducible refine (zeg _ X Y _ _ hG hs HX HY HB).mono ?_);rintro e w1 ⟨rfl,hb⟩)
  |(go_at_call 251;(with_reducible refine (zbd X _ _ hX DX).mono ?_);rintro e w' ⟨rfl,rfl⟩)
  |(go_at_call 251;(with_reducible refine (zbd Y _ _ hY DY).mono ?_);rintro e w' ⟨rfl,rfl⟩))
 exact bodyPost_ret (v:=.tuple #[.bool true,.string X,.string Y,.bool true]) (by simp [results,Tryz.results221,go_sem]) rfl ⟨rfl,hb⟩
theorem zxe (s r X Y:ByteArray) (dX dY b:Bool) (w:World) (hG:Gd w) (hs:s.size < 4294967281) (hX:X.size≤maxLen) (hY:Y.size≤maxLen) (h1:1≤s.size)
 (P1:Hid (true=Lib.hasPrefix s.data.toList (ByteArray.mk #[45]).data.toList)) (hr:r=s.extract 1 s.size)
 (HX:Hid (X=bs (Lib.cut r.data.toList [46]).1)) (HY:Hid (Y=bs (Lib.cut r.data.toList [46]).2.1)) (HB:Hid (b=(Lib.cut r.data.toList [46]).2.2))
 (DX:Hid (dX=digs X.data.toList)) (_:Hid (dY=digs Y.data.toList)) (hok:dX=false):
 Calls Tryz.prog 221 #[.string s] w fun e w'=>e=.returned (.tuple #[.bool false,.string ⟨#[]⟩,.string ⟨#[]⟩,.bool false])∧Low w.heap.size w w':=by
 subst hr
 obtain rfl:=hok
 go_enter Tryz.func221,Tryz.ntmps221
 go_wp2_with (first
  |(go_at_call 249;(with_reducible refine (ze1 _ _ _ _ P1).mono ?_);rintro e w' ⟨rfl,rfl⟩)
  |(go_at_call 250;(with_reducible refine (zeg _ X Y _ _ hG ?_ HX HY HB).mono ?_);(simp;omega);rintro e w1 ⟨rfl,hb⟩)
  |(go_at_call 250;(with_reducible refine (zeg _ X Y _ _ hG hs HX HY HB).mono ?_);rintro e w1 ⟨rfl,hb⟩)
  |(go_at_call 251;(with_reducible refine (zbd X _ _ hX DX).mono ?_);rintro e w' ⟨rfl,rfl⟩)
  |(go_at_call 251;(with_reducible refine (zbd Y _ _ hY DY).mono ?_);rintro e w' ⟨rfl,rfl⟩))
 exact bodyPost_ret (v:=.tuple #[.bool false,.string ⟨#[]⟩,.string ⟨#[]⟩,.bool false]) (by simp [results,Tryz.results221,go_sem]) rfl ⟨rfl,hb⟩
theorem zxf (s r X Y:ByteArray) (dX dY b:Bool) (w:World) (hG:Gd w) (hs:s.size < 4294967281) (hX:X.size≤maxLen) (hY:Y.size≤maxLen) (h1:1≤s.size)
 (P1:Hid (true=Lib.hasPrefix s.data.toList (ByteArray.mk #[45]).data.toList)) (hr:r=s.extract 1 s.size)
 (HX:Hid (X=bs (Lib.cut r.data.toList [46]).1)) (HY:Hid (Y=bs (Lib.cut r.data.toList [46]).2.1)) (HB:Hid (b=(Lib.cut r.data.toList [46]).2.2))
 (DX:Hid (dX=digs X.data.toList)) (DY:Hid (dY=digs Y.data.toList)) (hok:dX=true∧b=true∧dY=false):
 Calls Tryz.prog 221 #[.string s] w fun e w'=>e=.returned (.tuple #[.bool false,.string ⟨#[]⟩,.string ⟨#[]⟩,.bool false])∧Low w.heap.size w w':=by
 subst hr
 obtain ⟨rfl,rfl,rfl⟩:=hok
 go_enter Tryz.func221,Tryz.ntmps221
 go_wp2_with (first
  |(go_at_call 249;(with_reducible refine (ze1 _ _ _ _ P1).mono ?_);rintro e w' ⟨rfl,rfl⟩)
  |(go_at_call 250;(with_reducible refine (zeg _ X Y _ _ hG ?_ HX HY HB).mono ?_);(simp;omega);rintro e w1 ⟨rfl,hb⟩)
  |(go_at_call 250;(with_reducible refine (zeg _ X Y _ _ hG hs HX HY HB).mono ?_);rintro e w1 ⟨rfl,hb⟩)
  |(go_at_call 251;(with_reducible refine (zbd X _ _ hX DX).mono ?_);rintro e w' ⟨rfl,rfl⟩)
  |(go_at_call 251;(with_reducible refine (zbd Y _ _ hY DY).mono ?_);rintro e w' ⟨rfl,rfl⟩))
 exact bodyPost_ret (v:=.tuple #[.bool false,.string ⟨#[]⟩,.string ⟨#[]⟩,.bool false]) (by simp [results,Tryz.results221,go_sem]) rfl ⟨rfl,hb⟩
theorem zvc (s r X Y:ByteArray) (dX dY b:Bool) (w:World) (hG:Gd w) (hs:s.size < 4294967281) (hX:X.size≤maxLen) (hY:Y.size≤maxLen) (h1:1≤s.size)
 (P1:Hid (false=Lib.hasPrefix s.data.toList (ByteArray.mk #[45]).data.toList)) (P2:Hid (true=Lib.hasPrefix s.data.toList (ByteArray.mk #[43]).data.toList)) (hr:r=s.extract 1 s.size)
 (HX:Hid (X=bs (Lib.cut r.data.toList [46]).1)) (HY:Hid (Y=bs (Lib.cut r.data.toList [46]).2.1)) (HB:Hid (b=(Lib.cut r.data.toList [46]).2.2))
 (DX:Hid (dX=digs X.data.toList)) (_:Hid (dY=digs Y.data.toList)) (hok:dX=true∧b=false):
 Calls Tryz.prog 221 #[.string s] w fun e w'=>e=.returned (.tuple #[.bool false,.string X,.string Y,.bool true])∧Low w.heap.size w w':=by
 subst hr
 obtain ⟨rfl,rfl⟩:=hok
 go_enter Tryz.func221,Tryz.ntmps221
 go_wp2_with (first
  |(go_at_call 249;(with_reducible refine (ze1 _ _ _ _ P1).mono ?_);rintro e w' ⟨rfl,rfl⟩)
  |(go_at_call 249;(with_reducible refine (ze1 _ _ _ _ P2).mono ?_);rintro e w' ⟨rfl,rfl⟩)
  |(go_at_call 250;(with_reducible refine (zeg _ X Y _ _ hG ?_ HX HY HB).mono ?_);(simp;omega);rintro e w1 ⟨rfl,hb⟩)
  |(go_at_call 250;(with_reducible refine (zeg _ X Y _ _ hG hs HX HY HB).mono ?_);rintro e w1 ⟨rfl,hb⟩)
  |(go_at_call 251;(with_reducible refine (zbd X _ _ hX DX).mono ?_);rintro e w' ⟨rfl,rfl⟩)
  |(go_at_call 251;(with_reducible refine (zbd Y _ _ hY DY).mono ?_);rintro e w' ⟨rfl,rfl⟩))
 exact bodyPost_ret (v:=.tuple #[.bool false,.string X,.string Y,.bool true]) (by simp [results,Tryz.results221,go_sem]) rfl ⟨rfl,hb⟩
theorem zvd (s r X Y:ByteArray) (dX dY b:Bool) (w:World) (hG:Gd w) (hs:s.size < 4294967281) (hX:X.size≤maxLen) (hY:Y.size≤maxLen) (h1:1≤s.size)
 (P1:Hid (false=Lib.hasPrefix s.data.toList (ByteArray.mk #[45]).data.toList)) (P2:Hid (true=Lib.hasPrefix s.data.toList (ByteArray.mk #[43]).data.toList)) (hr:r=s.extract 1 s.size)
 (HX:Hid (X=bs (Lib.cut r.data.toList [46]).1)) (HY:Hid (Y=bs (Lib.cut r.data.toList [46]).2.1)) (HB:Hid (b=(Lib.cut r.data.toList [46]).2.2))
 (DX:Hid (dX=digs X.data.toList)) (DY:Hid (dY=digs Y.data.toList)) (hok:dX=true∧b=true∧dY=true):
 Calls Tryz.prog 221 #[.string s] w fun e w'=>e=.returned (.tuple #[.bool false,.string X,.string Y,.bool true])∧Low w.heap.size w w':=by
 subst hr
 obtain ⟨rfl,rfl,rfl⟩:=hok
 go_enter Tryz.func221,Tryz.ntmps221
 go_wp2_with (first
  |(go_at_call 249;(with_reducible refine (ze1 _ _ _ _ P1).mono ?_);rintro e w' ⟨rfl,rfl⟩)
  |(go_at_call 249;(with_reducible refine (ze1 _ _ _ _ P2).mono ?_);rintro e w' ⟨rfl,rfl⟩)
  |(go_at_call 250;(with_reducible refine (zeg _ X Y _ _ hG ?_ HX HY HB).mono ?_);(simp;omega);rintro e w1 ⟨rfl,hb⟩)
  |(go_at_call 250;(with_reducible refine (zeg _ X Y _ _ hG hs HX HY HB).mono ?_);rintro e w1 ⟨rfl,hb⟩)
  |(go_at_call 251;(with_reducible refine (zbd X _ _ hX DX).mono ?_);rintro e w' ⟨rfl,rfl⟩)
  |(go_at_call 251;(with_reducible refine (zbd Y _ _ hY DY).mono ?_);rintro e w' ⟨rfl,rfl⟩))
 exact bodyPost_ret (v:=.tuple #[.bool false,.string X,.string Y,.bool true]) (by simp [results,Tryz.results221,go_sem]) rfl ⟨rfl,hb⟩
theorem zve (s r X Y:ByteArray) (dX dY b:Bool) (w:World) (hG:Gd w) (hs:s.size < 4294967281) (hX:X.size≤maxLen) (hY:Y.size≤maxLen) (h1:1≤s.size)
 (P1:Hid (false=Lib.hasPrefix s.data.toList (ByteArray.mk #[45]).data.toList)) (P2:Hid (true=Lib.hasPrefix s.data.toList (ByteArray.mk #[43]).data.toList)) (hr:r=s.extract 1 s.size)
 (HX:Hid (X=bs (Lib.cut r.data.toList [46]).1)) (HY:Hid (Y=bs (Lib.cut r.data.toList [46]).2.1)) (HB:Hid (b=(Lib.cut r.data.toList [46]).2.2))
 (DX:Hid (dX=digs X.data.toList)) (_:Hid (dY=digs Y.data.toList)) (hok:dX=false):
 Calls Tryz.prog 221 #[.string s] w fun e w'=>e=.returned (.tuple #[.bool false,.string ⟨#[]⟩,.string ⟨#[]⟩,.bool false])∧Low w.heap.size w w':=by
 subst hr
 obtain rfl:=hok
 go_enter Tryz.func221,Tryz.ntmps221
 go_wp2_with (first
  |(go_at_call 249;(with_reducible refine (ze1 _ _ _ _ P1).mono ?_);rintro e w' ⟨rfl,rfl⟩)
  |(go_at_call 249;(with_reducible refine (ze1 _ _ _ _ P2).mono ?_);rintro e w' ⟨rfl,rfl⟩)
  |(go_at_call 250;(with_reducible refine (zeg _ X Y _ _ hG ?_ HX HY HB).mono ?_);(simp;omega);rintro e w1 ⟨rfl,hb⟩)
  |(go_at_call 250;(with_reducible refine (zeg _ X Y _ _ hG hs HX HY HB).mono ?_);rintro e w1 ⟨rfl,hb⟩)
  |(go_at_call 251;(with_reducible refine (zbd X _ _ hX DX).mono ?_);rintro e w' ⟨rfl,rfl⟩)
  |(go_at_call 251;(with_reducible refine (zbd Y _ _ hY DY).mono ?_);rintro e w' ⟨rfl,rfl⟩))
 exact bodyPost_ret (v:=.tuple #[.bool false,.string ⟨#[]⟩,.string ⟨#[]⟩,.bool false]) (by simp [results,Tryz.results221,go_sem]) rfl ⟨rfl,hb⟩
theorem zvf (s r X Y:ByteArray) (dX dY b:Bool) (w:World) (hG:Gd w) (hs:s.size < 4294967281) (hX:X.size≤maxLen) (hY:Y.size≤maxLen) (h1:1≤s.size)
 (P1:Hid (false=Lib.hasPrefix s.data.toList (ByteArray.mk #[45]).data.toList)) (P2:Hid (true=Lib.hasPrefix s.data.toList (ByteArray.mk #[43]).data.toList)) (hr:r=s.extract 1 s.size)
 (HX:Hid (X=bs (Lib.cut r.data.toList [46]).1)) (HY:Hid (Y=bs (Lib.cut r.data.toList [46]).2.1)) (HB:Hid (b=(Lib.cut r.data.toList [46]).2.2))
 (DX:Hid (dX=digs X.data.toList)) (DY:Hid (dY=digs Y.data.toList)) (hok:dX=true∧b=true∧dY=false):
 Calls Tryz.prog 221 #[.string s] w fun e w'=>e=.returned (.tuple #[.bool false,.string ⟨#[]⟩,.string ⟨#[]⟩,.bool false])∧Low w.heap.size w w':=by
 subst hr
 obtain ⟨rfl,rfl,rfl⟩:=hok
 go_enter Tryz.func221,Tryz.ntmps221
 go_wp2_with (first
  |(go_at_call 249;(with_reducible refine (ze1 _ _ _ _ P1).mono ?_);rintro e w' ⟨rfl,rfl⟩)
  |(go_at_call 249;(with_reducible refine (ze1 _ _ _ _ P2).mono ?_);rintro e w' ⟨rfl,rfl⟩)
  |(go_at_call 250;(with_reducible refine (zeg _ X Y _ _ hG ?_ HX HY HB).mono ?_);(simp;omega);rintro e w1 ⟨rfl,hb⟩)
  |(go_at_call 250;(with_reducible refine (zeg _ X Y _ _ hG hs HX HY HB).mono ?_);rintro e w1 ⟨rfl,hb⟩)
  |(go_at_call 251;(with_reducible refine (zbd X _ _ hX DX).mono ?_);rintro e w' ⟨rfl,rfl⟩)
  |(go_at_call 251;(with_reducible refine (zbd Y _ _ hY DY).mono ?_);rintro e w' ⟨rfl,rfl⟩))
 exact bodyPost_ret (v:=.tuple #[.bool false,.string ⟨#[]⟩,.string ⟨#[]⟩,.bool false]) (by simp [results,Tryz.results221,go_sem]) rfl ⟨rfl,hb⟩
theorem zou (s r X Y:ByteArray) (dX dY b:Bool) (w:World) (hG:Gd w) (hs:s.size < 4294967281) (hX:X.size≤maxLen) (hY:Y.size≤maxLen)
 (P1:Hid (false=Lib.hasPrefix s.data.toList (ByteArray.mk #[45]).data.toList)) (P2:Hid (false=Lib.hasPrefix s.data.toList (ByteArray.mk #[43]).data.toList)) (hr:r=s)
 (HX:Hid (X=bs (Lib.cut r.data.toList [46]).1)) (HY:Hid (Y=bs (Lib.cut r.data.toList [46]).2.1)) (HB:Hid (b=(Lib.cut r.data.toList [46]).2.2))
 (DX:Hid (dX=digs X.data.toList)) (_:Hid (dY=digs Y.data.toList)) (hok:dX=true∧b=false):
 Calls Tryz.prog 221 #[.string s] w fun e w'=>e=.returned (.tuple #[.bool false,.string X,.string Y,.bool true])∧Low w.heap.size w w':=by
 subst hr
 obtain ⟨rfl,rfl⟩:=hok
 go_enter Tryz.func221,Tryz.ntmps221
 go_wp2_with (first
  |(go_at_call 249;(with_reducible refine (ze1 _ _ _ _ P1).mono ?_);rintro e w' ⟨rfl,rfl⟩)
  |(go_at_call 249;(with_reducible refine (ze1 _ _ _ _ P2).mono ?_);rintro e w' ⟨rfl,rfl⟩)
  |(go_at_call 250;(with_reducible refine (zeg _ X Y _ _ hG ?_ HX HY HB).mono ?_);(simp;omega);rintro e w1 ⟨rfl,hb⟩)
  |(go_at_call 250;(with_reducible refine (zeg _ X Y _ _ hG hs HX HY HB).mono ?_);rintro e w1 ⟨rfl,hb⟩)
  |(go_at_call 251;(with_reducible refine (zbd X _ _ hX DX).mono ?_);rintro e w' ⟨rfl,rfl⟩)
  |(go_at_call 251;(with_reducible refine (zbd Y _ _ hY DY).mono ?_);rintro e w' ⟨rfl,rfl⟩))
 exact bodyPost_ret (v:=.tuple #[.bool false,.string X,.string Y,.bool true]) (by simp [results,Tryz.results221,go_sem]) rfl ⟨rfl,hb⟩
theorem zov (s r X Y:ByteArray) (dX dY b:Bool) (w:World) (hG:Gd w) (hs:s.size < 4294967281) (hX:X.size≤maxLen) (hY:Y.size≤maxLen)
 (P1:Hid (false=Lib.hasPrefix s.data.toList (ByteArray.mk #[45]).data.toList)) (P2:Hid (false=Lib.hasPrefix s.data.toList (ByteArray.mk #[43]).data.toList)) (hr:r=s)
 (HX:Hid (X=bs (Lib.cut r.data.toList [46]).1)) (HY:Hid (Y=bs (Lib.cut r.data.toList [46]).2.1)) (HB:Hid (b=(Lib.cut r.data.toList [46]).2.2))
 (DX:Hid (dX=digs X.data.toList)) (DY:Hid (dY=digs Y.data.toList)) (hok:dX=true∧b=true∧dY=true):
 Calls Tryz.prog 221 #[.string s] w fun e w'=>e=.returned (.tuple #[.bool false,.string X,.string Y,.bool true])∧Low w.heap.size w w':=by
 subst hr
 obtain ⟨rfl,rfl,rfl⟩:=hok
 go_enter Tryz.func221,Tryz.ntmps221
 go_wp2_with (first
  |(go_at_call 249;(with_reducible refine (ze1 _ _ _ _ P1).mono ?_);rintro e w' ⟨rfl,rfl⟩)
  |(go_at_call 249;(with_reducible refine (ze1 _ _ _ _ P2).mono ?_);rintro e w' ⟨rfl,rfl⟩)
  |(go_at_call 250;(with_reducible refine (zeg _ X Y _ _ hG ?_ HX HY HB).mono ?_);(simp;omega);rintro e w1 ⟨rfl,hb⟩)
  |(go_at_call 250;(with_reducible refine (zeg _ X Y _ _ hG hs HX HY HB).mono ?_);rintro e w1 ⟨rfl,hb⟩)
  |(go_at_call 251;(with_reducible refine (zbd X _ _ hX DX).mono ?_);rintro e w' ⟨rfl,rfl⟩)
  |(go_at_call 251;(with_reducible refine (zbd Y _ _ hY DY).mono ?_);rintro e w' ⟨rfl,rfl⟩))
 exact bodyPost_ret (v:=.tuple #[.bool false,.string X,.string Y,.bool true]) (by simp [results,Tryz.results221,go_sem]) rfl ⟨rfl,hb⟩
theorem zow (s r X Y:ByteArray) (dX dY b:Bool) (w:World) (hG:Gd w) (hs:s.size < 4294967281) (hX:X.size≤maxLen) (hY:Y.size≤maxLen)
 (P1:Hid (false=Lib.hasPrefix s.data.toList (ByteArray.mk #[45]).data.toList)) (P2:Hid (false=Lib.hasPrefix s.data.toList (ByteArray.mk #[43]).data.toList)) (hr:r=s)
 (HX:Hid (X=bs (Lib.cut r.data.toList [46]).1)) (HY:Hid (Y=bs (Lib.cut r.data.toList [46]).2.1)) (HB:Hid (b=(Lib.cut r.data.toList [46]).2.2))
 (DX:Hid (dX=digs X.data.toList)) (_:Hid (dY=digs Y.data.toList)) (hok:dX=false):
 Calls Tryz.prog 221 #[.string s] w fun e w'=>e=.returned (.tuple #[.bool false,.string ⟨#[]⟩,.string ⟨#[]⟩,.bool false])∧Low w.heap.size w w':=by
 subst hr
 obtain rfl:=hok
 go_enter Tryz.func221,Tryz.ntmps221
 go_wp2_with (first
  |(go_at_call 249;(with_reducible refine (ze1 _ _ _ _ P1).mono ?_);rintro e w' ⟨rfl,rfl⟩)
  |(go_at_call 249;(with_reducible refine (ze1 _ _ _ _ P2).mono ?_);rintro e w' ⟨rfl,rfl⟩)
  |(go_at_call 250;(with_reducible refine (zeg _ X Y _ _ hG ?_ HX HY HB).mono ?_);(simp;omega);rintro e w1 ⟨rfl,hb⟩)
  |(go_at_call 250;(with_reducible refine (zeg _ X Y _ _ hG hs HX HY HB).mono ?_);rintro e w1 ⟨rfl,hb⟩)
  |(go_at_call 251;(with_reducible refine (zbd X _ _ hX DX).mono ?_);rintro e w' ⟨rfl,rfl⟩)
  |(go_at_call 251;(with_reducible refine (zbd Y _ _ hY DY).mono ?_);rintro e w' ⟨rfl,rfl⟩))
 exact bodyPost_ret (v:=.tuple #[.bool false,.string ⟨#[]⟩,.string ⟨#[]⟩,.bool false]) (by simp [results,Tryz.results221,go_sem]) rfl ⟨rfl,hb⟩
theorem zox (s r X Y:ByteArray) (dX dY b:Bool) (w:World) (hG:Gd w) (hs:s.size < 4294967281) (hX:X.size≤maxLen) (hY:Y.size≤maxLen)
 (P1:Hid (false=Lib.hasPrefix s.data.toList (ByteArray.mk #[45]).data.toList)) (P2:Hid (false=Lib.hasPrefix s.data.toList (ByteArray.mk #[43]).data.toList)) (hr:r=s)
 (HX:Hid (X=bs (Lib.cut r.data.toList [46]).1)) (HY:Hid (Y=bs (Lib.cut r.data.toList [46]).2.1)) (HB:Hid (b=(Lib.cut r.data.toList [46]).2.2))
 (DX:Hid (dX=digs X.data.toList)) (DY:Hid (dY=digs Y.data.toList)) (hok:dX=true∧b=true∧dY=false):
 Calls Tryz.prog 221 #[.string s] w fun e w'=>e=.returned (.tuple #[.bool false,.string ⟨#[]⟩,.string ⟨#[]⟩,.bool false])∧Low w.heap.size w w':=by
 subst hr
 obtain ⟨rfl,rfl,rfl⟩:=hok
 go_enter Tryz.func221,Tryz.ntmps221
 go_wp2_with (first
  |(go_at_call 249;(with_reducible refine (ze1 _ _ _ _ P1).mono ?_);rintro e w' ⟨rfl,rfl⟩)
  |(go_at_call 249;(with_reducible refine (ze1 _ _ _ _ P2).mono ?_);rintro e w' ⟨rfl,rfl⟩)
  |(go_at_call 250;(with_reducible refine (zeg _ X Y _ _ hG ?_ HX HY HB).mono ?_);(simp;omega);rintro e w1 ⟨rfl,hb⟩)
  |(go_at_call 250;(with_reducible refine (zeg _ X Y _ _ hG hs HX HY HB).mono ?_);rintro e w1 ⟨rfl,hb⟩)
  |(go_at_call 251;(with_reducible refine (zbd X _ _ hX DX).mono ?_);rintro e w' ⟨rfl,rfl⟩)
  |(go_at_call 251;(with_reducible refine (zbd Y _ _ hY DY).mono ?_);rintro e w' ⟨rfl,rfl⟩))
 exact bodyPost_ret (v:=.tuple #[.bool false,.string ⟨#[]⟩,.string ⟨#[]⟩,.bool false]) (by simp [results,Tryz.results221,go_sem]) rfl ⟨rfl,hb⟩
def z3l:Option (Bool × List UInt8 × List UInt8)→Value
 | none=>.tuple #[.bool false,.string ⟨#[]⟩,.string ⟨#[]⟩,.bool false]
 | some (n,a,b)=>.tuple #[.bool n,.string (bs a),.string (bs b),.bool true]
theorem zxg (l:List UInt8):(Lib.cut l [46]).1.length≤l.length∧(Lib.cut l [46]).2.1.length≤l.length:=by
 unfold Lib.cut
 split
 ·exact ⟨by simp;omega,by simp⟩
 ·exact ⟨Nat.le_refl _,by simp⟩
theorem zp2 (l:List UInt8):(sgn l).2.length≤l.length:=by
 cases l with
 | nil=>simp [sgn]
 | cons c r=>
   by_cases h:c=45
   ·simp [sgn,h]
   ·by_cases h':c=43
    ·simp [sgn,h']
    ·simp [sgn,h,h']
theorem zsp (s:ByteArray) (w:World) (hG:Gd w) (hs:s.size < 4294967281):
 Calls Tryz.prog 221 #[.string s] w fun e w'=>e=.returned (z3l (zdf s.data.toList))∧Low w.heap.size w w':=by
 obtain ⟨l,hl⟩:∃ l,l=s.data.toList:=⟨_,rfl⟩
 have hsl:l.length=s.size:=by rw [hl];simp
 have hs':s=bs l:=zd4 (by rw [← hl])
 obtain ⟨r,hr⟩:∃ r,r=(sgn l).2:=⟨_,rfl⟩
 have hrl:r.length≤l.length:=by rw [hr];exact zp2 l
 have hcl:=zxg r
 obtain ⟨a,ha⟩:∃ a,a=(Lib.cut r [46]).1:=⟨_,rfl⟩
 obtain ⟨y,hy⟩:∃ y,y=(Lib.cut r [46]).2.1:=⟨_,rfl⟩
 obtain ⟨b,hb⟩:∃ b,b=(Lib.cut r [46]).2.2:=⟨_,rfl⟩
 rw [← ha,← hy] at hcl
 have hX:(bs a).size≤maxLen:=by unfold maxLen;simp [ByteArray.size];omega
 have hY:(bs y).size≤maxLen:=by unfold maxLen;simp [ByteArray.size];omega
 have HX:∀ R:ByteArray,R.data.toList=r→Hid (bs a=bs (Lib.cut R.data.toList [46]).1):=fun R h=>Lib.hid (by rw [h,ha])
 have HY:∀ R:ByteArray,R.data.toList=r→Hid (bs y=bs (Lib.cut R.data.toList [46]).2.1):=fun R h=>Lib.hid (by rw [h,hy])
 have HB:∀ R:ByteArray,R.data.toList=r→Hid (b=(Lib.cut R.data.toList [46]).2.2):=fun R h=>Lib.hid (by rw [h,hb])
 have DX:Hid (digs a=digs (bs a).data.toList):=Lib.hid rfl
 have DY:Hid (digs y=digs (bs y).data.toList):=Lib.hid rfl
 have hspec:zdf s.data.toList=if digs a && (!b || digs y) then some ((sgn l).1,a,y) else none:=by
  unfold zdf
  simp only [← hl,← hr,← ha,← hy,← hb]
 rw [hspec]
 clear hspec
 have key:∀ n:Bool,(sgn l).1=n→
  (digs a=true∧b=false→Calls Tryz.prog 221 #[.string s] w fun e w'=>e=.returned (.tuple #[.bool n,.string (bs a),.string (bs y),.bool true])∧Low w.heap.size w w')→
  (digs a=true∧b=true∧digs y=true→Calls Tryz.prog 221 #[.string s] w fun e w'=>e=.returned (.tuple #[.bool n,.string (bs a),.string (bs y),.bool true])∧Low w.heap.size w w')→
  (digs a=false→Calls Tryz.prog 221 #[.string s] w fun e w'=>e=.returned (.tuple #[.bool false,.string ⟨#[]⟩,.string ⟨#[]⟩,.bool false])∧Low w.heap.size w w')→
  (digs a=true∧b=true∧digs y=false→Calls Tryz.prog 221 #[.string s] w fun e w'=>e=.returned (.tuple #[.bool false,.string ⟨#[]⟩,.string ⟨#[]⟩,.bool false])∧Low w.heap.size w w')→
  Calls Tryz.prog 221 #[.string s] w fun e w'=>e=.returned (z3l (if digs a && (!b || digs y) then some ((sgn l).1,a,y) else none))∧Low w.heap.size w w':=by
  intro n hn kA kB kC kD
  rw [hn]
  cases h1:digs a
  ·exact kC h1
  ·cases h2:b
   ·exact kA ⟨h1,h2⟩
   ·cases h3:digs y
    ·exact kD ⟨h1,h2,h3⟩
    ·exact kB ⟨h1,h2,h3⟩
 have hex:∀ c t,l=c::t→(s.extract 1 s.size).data.toList=t:=by
  intro c t e
  rw [Lib.extract_to_end,← hl,e]
  rfl
 cases l with
 | nil=>
   have e1:(sgn [])=(false,[]):=rfl
   rw [e1] at hr
   have hrr:s.data.toList=r:=by rw [hr,← hl]
   have P1:Hid (false=Lib.hasPrefix s.data.toList (ByteArray.mk #[45]).data.toList):=Lib.hid (by rw [← hl];rfl)
   have P2:Hid (false=Lib.hasPrefix s.data.toList (ByteArray.mk #[43]).data.toList):=Lib.hid (by rw [← hl];rfl)
   refine key false rfl ?_ ?_ ?_ ?_
   ·exact zou s s _ _ _ _ _ w hG hs hX hY P1 P2 rfl (HX _ hrr) (HY _ hrr) (HB _ hrr) DX DY
   ·exact zov s s _ _ _ _ _ w hG hs hX hY P1 P2 rfl (HX _ hrr) (HY _ hrr) (HB _ hrr) DX DY
   ·exact zow s s _ _ _ _ _ w hG hs hX hY P1 P2 rfl (HX _ hrr) (HY _ hrr) (HB _ hrr) DX DY
   ·exact zox s s _ _ _ _ _ w hG hs hX hY P1 P2 rfl (HX _ hrr) (HY _ hrr) (HB _ hrr) DX DY
 | cons c t=>
   have hsz:1≤s.size:=by rw [← hsl];simp
   by_cases h45:c=45
   ·subst h45
    have e1:sgn (45::t)=(true,t):=by simp [sgn]
    have hrr:(s.extract 1 s.size).data.toList=r:=by rw [hr,e1];exact hex _ _ rfl
    have P1:Hid (true=Lib.hasPrefix s.data.toList (ByteArray.mk #[45]).data.toList):=Lib.hid (by rw [← hl];simp [Lib.hasPrefix])
    refine key true (by rw [e1]) ?_ ?_ ?_ ?_
    ·exact zxc s _ _ _ _ _ _ w hG hs hX hY hsz P1 rfl (HX _ hrr) (HY _ hrr) (HB _ hrr) DX DY
    ·exact zxd s _ _ _ _ _ _ w hG hs hX hY hsz P1 rfl (HX _ hrr) (HY _ hrr) (HB _ hrr) DX DY
    ·exact zxe s _ _ _ _ _ _ w hG hs hX hY hsz P1 rfl (HX _ hrr) (HY _ hrr) (HB _ hrr) DX DY
    ·exact zxf s _ _ _ _ _ _ w hG hs hX hY hsz P1 rfl (HX _ hrr) (HY _ hrr) (HB _ hrr) DX DY
   ·have P1:Hid (false=Lib.hasPrefix s.data.toList (ByteArray.mk #[45]).data.toList):=Lib.hid (by rw [← hl];simp [Lib.hasPrefix,List.isPrefixOf,beq_eq_false_iff_ne.2 (fun e:(45:UInt8)=c=>h45 e.symm)])
    by_cases h43:c=43
    ·subst h43
     have e1:sgn (43::t)=(false,t):=by simp [sgn]
     have hrr:(s.extract 1 s.size).data.toList=r:=by rw [hr,e1];exact hex _ _ rfl
     have P2:Hid (true=Lib.hasPrefix s.data.toList (ByteArray.mk #[43]).data.toList):=Lib.hid (by rw [← hl];simp [Lib.hasPrefix])
     refine key false (by rw [e1]) ?_ ?_ ?_ ?_
     ·exact zvc s _ _ _ _ _ _ w hG hs hX hY hsz P1 P2 rfl (HX _ hrr) (HY _ hrr) (HB _ hrr) DX DY
     ·exact zvd s _ _ _ _ _ _ w hG hs hX hY hsz P1 P2 rfl (HX _ hrr) (HY _ hrr) (HB _ hrr) DX DY
     ·exact zve s _ _ _ _ _ _ w hG hs hX hY hsz P1 P2 rfl (HX _ hrr) (HY _ hrr) (HB _ hrr) DX DY
     ·exact zvf s _ _ _ _ _ _ w hG hs hX hY hsz P1 P2 rfl (HX _ hrr) (HY _ hrr) (HB _ hrr) DX DY
    ·have e1:sgn (c::t)=(false,c::t):=by simp [sgn,h45,h43]
     have hrr:s.data.toList=r:=by rw [hr,e1,← hl]
     have P2:Hid (false=Lib.hasPrefix s.data.toList (ByteArray.mk #[43]).data.toList):=Lib.hid (by rw [← hl];simp [Lib.hasPrefix,List.isPrefixOf,beq_eq_false_iff_ne.2 (fun e:(43:UInt8)=c=>h43 e.symm)])
     refine key false (by rw [e1]) ?_ ?_ ?_ ?_
     ·exact zou s s _ _ _ _ _ w hG hs hX hY P1 P2 rfl (HX _ hrr) (HY _ hrr) (HB _ hrr) DX DY
     ·exact zov s s _ _ _ _ _ w hG hs hX hY P1 P2 rfl (HX _ hrr) (HY _ hrr) (HB _ hrr) DX DY
     ·exact zow s s _ _ _ _ _ w hG hs hX hY P1 P2 rfl (HX _ hrr) (HY _ hrr) (HB _ hrr) DX DY
     ·exact zox s s _ _ _ _ _ w hG hs hX hY P1 P2 rfl (HX _ hrr) (HY _ hrr) (HB _ hrr) DX DY
def z01:Option (Option (List UInt8))→Value
 | none=>.tuple #[.string ⟨#[]⟩,.int .i64 6]
 | some r=>said r
theorem z02 (s:ByteArray) (w:World) (hG:Gd w) (hs:s.size < 4294967281) (h:zdf s.data.toList=none):
 Calls Tryz.prog 192 #[.string s] w fun e w'=>e=.returned (.tuple #[.string ⟨#[]⟩,.int .i64 6])∧Low w.heap.size w w':=by
 have hc:∀ W,Gd W→Calls Tryz.prog 221 #[.string s] W fun e w'=>e=.returned (.tuple #[.bool false,.string ⟨#[]⟩,.string ⟨#[]⟩,.bool false])∧Low W.heap.size W w':=fun W hW=>by
  have:=zsp s W hW hs
  rwa [h] at this
 have HC:=Lib.hid hc
 clear hc
 go_enter Tryz.func192,Tryz.ntmps192
 go_wp2_with (go_at_call 221;(with_reducible refine (HC.out _ hG).mono ?_);rintro e w1 ⟨rfl,hb⟩)
 go_ret2
 exact ⟨rfl,hb⟩
theorem z03 (s:ByteArray) (w:World) (hG:Gd w) (hs:s.size < 4294967281) (n:Bool) (a b:List UInt8) (h:zdf s.data.toList=some (n,a,b)) (hA:(bs a).size≤maxLen) (hB:(bs b).size≤maxLen) (t:ByteArray) (k:Int)
 (hv:said (wr n a b)=.tuple #[.string t,.int .i64 k]):
 Calls Tryz.prog 192 #[.string s] w fun e w'=>e=.returned (.tuple #[.string t,.int .i64 k])∧Low w.heap.size w w':=by
 obtain ⟨A,hA'⟩:∃ A,A=bs a:=⟨_,rfl⟩
 obtain ⟨B,hB'⟩:∃ B,B=bs b:=⟨_,rfl⟩
 have hc:∀ W,Gd W→Calls Tryz.prog 221 #[.string s] W fun e w'=>e=.returned (.tuple #[.bool n,.string A,.string B,.bool true])∧Low W.heap.size W w':=fun W hW=>by
  have:=zsp s W hW hs
  rw [h] at this
  rw [hA',hB']
  exact this
 have hw:∀ W,Calls Tryz.prog 222 #[.bool n,.string A,.string B] W fun e w'=>e=.returned (.tuple #[.string t,.int .i64 k])∧W=w':=fun W=>by
  have:=writeAt n A B W (by rw [hA'];exact hA) (by rw [hB'];exact hB)
  rw [hA',hB'] at this
  rw [show said (wr n (bs a).data.toList (bs b).data.toList)=.tuple #[.string t,.int .i64 k] from hv] at this
  rw [hA',hB']
  exact this
 have HC:=Lib.hid hc
 have HW:=Lib.hid hw
 clear hc hw hv h hA' hB'
 go_enter Tryz.func192,Tryz.ntmps192
 go_wp2_with (first
  |(go_at_call 221;(with_reducible refine (HC.out _ hG).mono ?_);rintro e w1 ⟨rfl,hb⟩)
  |(go_at_call 222;(with_reducible refine (HW.out _).mono ?_);rintro e w' ⟨rfl,rfl⟩))
 go_ret2
 exact ⟨rfl,hb⟩
theorem zna (r:Option (List UInt8)):∃ (t:ByteArray) (k:Int),said r=.tuple #[.string t,.int .i64 k]:=by
 cases r with
 | none=>exact ⟨_,_,rfl⟩
 | some t=>exact ⟨_,_,rfl⟩
theorem readAt (s:ByteArray) (w:World) (hG:Gd w) (hs:s.size < 4294967281):
 Calls Tryz.prog 192 #[.string s] w fun e w'=>e=.returned (z01 (zln s.data.toList))∧Low w.heap.size w w':=by
 unfold zln
 cases h:zdf s.data.toList with
 | none=>exact z02 s w hG hs h
 | some x=>
   obtain ⟨n,a,b⟩:=x
   have h':=h
   unfold zdf at h'
   have hl:s.data.toList.length=s.size:=by simp
   have h1:=zp2 s.data.toList
   have h2:=zxg (sgn s.data.toList).2
   simp only at h'
   split at h'
   ·simp only [Option.some.injEq,Prod.mk.injEq] at h'
    obtain ⟨_,rfl,rfl⟩:=h'
    obtain ⟨t,k,hv⟩:=zna (wr n (Lib.cut (sgn s.data.toList).2 [46]).1 (Lib.cut (sgn s.data.toList).2 [46]).2.1)
    have:=z03 s w hG hs _ _ _ h (by unfold maxLen;simp [ByteArray.size];omega) (by unfold maxLen;simp [ByteArray.size];omega) t k hv
    simp only [Option.map_some,z01]
    rw [hv]
    exact this
   ·cases h'
theorem zoy (r:Option (Option (List UInt8))):∃ (t:ByteArray) (k:Int),z01 r=.tuple #[.string t,.int .i64 k]∧(k=0↔∃ l,r=some (some l))∧∀ l,r=some (some l)→t=bs l:=by
 match r with
 | none=>exact ⟨_,_,rfl,⟨fun h=>(by cases h),fun ⟨l,h⟩=>(by cases h)⟩,fun l h=>(by cases h)⟩
 | some none=>exact ⟨_,_,rfl,⟨fun h=>(by cases h),fun ⟨l,h⟩=>(by cases h)⟩,fun l h=>(by cases h)⟩
 | some (some t)=>exact ⟨_,_,rfl,⟨fun _=>⟨t,rfl⟩,fun _=>rfl⟩,fun l h=>by cases h;rfl⟩
theorem zp3 (s:ByteArray) (w:World) (hG:Gd w) (hs:s.size < 4294967281):
 Calls Tryz.prog 157 #[.string s] w fun e w'=>e=.returned (.bool (chk s.data.toList))∧Low w.heap.size w w':=by
 obtain ⟨t,k,hv,hk,ht⟩:=zoy (zln s.data.toList)
 have hc:∀ W,Gd W→Calls Tryz.prog 192 #[.string s] W fun e w'=>e=.returned (.tuple #[.string t,.int .i64 k])∧Low W.heap.size W w':=fun W hW=>by
  have:=readAt s W hW hs
  rwa [hv] at this
 have HC:=Lib.hid hc
 clear hc hv
 by_cases h:chk s.data.toList=true
 ·have hr:zln s.data.toList=some (some s.data.toList):=by simpa [chk] using h
  obtain rfl:k=0:=hk.2 ⟨_,hr⟩
  obtain rfl:t=s:=by rw [ht _ hr]
  rw [h]
  have HH:=Lib.hid h
  clear h hr hk ht
  go_enter Tryz.func157,Tryz.ntmps157
  go_wp2_with (go_at_call 192;(with_reducible refine (HC.out _ hG).mono ?_);rintro e w1 ⟨rfl,hb⟩)
  go_ret
  exact ⟨rfl,hb⟩
 ·have hf:chk s.data.toList=false:=by simpa using h
  rw [hf]
  by_cases h0:k=0
  ·subst h0
   obtain ⟨l,hl⟩:=hk.1 rfl
   have hne:¬ t=s:=by
    rw [ht _ hl]
    intro e
    apply h
    unfold chk
    rw [hl,← e]
    simp
   have e2:(t.toList == s.toList)=false:=beq_eq_false_iff_ne.2 (fun e=>hne (zd4 (by rw [← ByteArray.toList_eq,← ByteArray.toList_eq];exact e)))
   clear h hf hk ht hl hne
   go_enter Tryz.func157,Tryz.ntmps157
   go_wp2_with (go_at_call 192;(with_reducible refine (HC.out _ hG).mono ?_);rintro e w1 ⟨rfl,hb⟩)
   go_ret
   exact ⟨rfl,hb⟩
  ·have e0:(k == 0)=false:=by simpa using h0
   clear h hf hk ht
   go_enter Tryz.func157,Tryz.ntmps157
   go_wp2_with (go_at_call 192;(with_reducible refine (HC.out _ hG).mono ?_);rintro e w1 ⟨rfl,hb⟩)
   go_ret
   exact ⟨rfl,hb⟩
def ten (e:Nat):Nat:=10 ^ e
theorem powTen (e:Int) (w:World) (h0:0≤e) (h9:e≤8):
 Calls Tryz.prog 301 #[.int .i64 e] w fun r w'=>r=.returned (.int .u32 (ten e.toNat))∧Low w.heap.size w w':=by
 have he:e=0∨e=1∨e=2∨e=3∨e=4∨e=5∨e=6∨e=7∨e=8:=by omega
 rcases he with rfl | rfl | rfl | rfl | rfl | rfl | rfl | rfl | rfl
 all_goals
  go_enter Tryz.func301,Tryz.ntmps301
  go_wp2
  go_ret
  exact ⟨by simp [ten],(Low.refl _ _).alloc (Nat.le_refl _) _⟩
def zxh (b o:Nat) (v:Value) (w:World):Prop:=w.cell? ⟨b,o,none⟩=some v∧w.frozen? ⟨b,o,none⟩=false∧b < w.heap.size
theorem zxh.below {b o:Nat} {v:Value} {w w':World} (h:zxh b o v w) (k:Below w.heap.size w w'):zxh b o v w':=
 ⟨(k.cell (p:=⟨b,o,none⟩) h.2.2).trans h.1,(k.frozen (p:=⟨b,o,none⟩) h.2.2).trans h.2.1,Nat.lt_of_lt_of_le h.2.2 k.size⟩
theorem powTenT (t e:Int) (w:World) (h0:0≤e) (h9:e≤8) (H:Hid (t=ten e.toNat)):
 Calls Tryz.prog 301 #[.int .i64 e] w fun r w'=>r=.returned (.int .u32 t)∧Low w.heap.size w w':=by
 rw [H.out];exact powTen e w h0 h9
theorem putAt (b:Nat) (c:Array Value) (n:Bool) (f:Nat→Nat) (p d:Int) (w:World) (hb:w.heap[b]?=some (.cells c 280)) (hc:zcv c n f)
 (hp0:0≤p) (hp:p≤143) (hd0:48≤d) (hd:d≤57) (hroom:(f (p / 9).toNat:Int)+(d - 48)*ten (p % 9).toNat < 1000000000):
 Calls Tryz.prog 299 #[.pointer (some ⟨b,0,none⟩),.int .i64 p,.int .u8 d] w fun e w'=>e=.returned (.tuple #[])∧Only b w w'∧
  ∃ c',w'.heap[b]?=some (.cells c' 280)∧zcv c' n (upd f (p / 9).toNat (f (p / 9).toNat+(d - 48).toNat*ten (p % 9).toNat)):=by
 have hsz:=zaa hb
 have hj:(p / 9).toNat < 16:=by omega
 have hp9:p / 9 < 16:=by omega
 have hp8:0≤p / 9:=by omega
 have hx:w.cell? ⟨b,1+(p / 9).toNat,none⟩=some (.int .u32 (f (p / 9).toNat)):=zad hb _ (hc.word _ hj)
 have hf:w.frozen? ⟨b,1+(p / 9).toNat,none⟩=false:=zdl hb _
 have hlt:f (p / 9).toNat < 1000000000:=hc.lt _ hj
 have m0:0≤p % 9:=by omega
 have m8:p % 9≤8:=by omega
 obtain ⟨x,hx'⟩:∃ x:Int,x=f (p / 9).toNat:=⟨_,rfl⟩
 have hx0:0≤x:=by omega
 have hx9:x < 1000000000:=by omega
 rw [← hx'] at hx
 obtain ⟨t,ht⟩:∃ t:Int,t=ten (p % 9).toNat:=⟨_,rfl⟩
 rw [← hx',← ht] at hroom
 have ht1:1≤t:=by rw [ht];unfold ten;have:=Nat.pow_pos (n:=(p % 9).toNat) (show 0 < 10 by omega);omega
 obtain ⟨y,hy⟩:∃ y:Int,y=(d - 48)*t:=⟨_,rfl⟩
 have hy0:0≤y:=by rw [hy];exact Int.mul_nonneg (by omega) (by omega)
 rw [← hy] at hroom
 have HT:=Lib.hid ht
 have HX:=Lib.hid hx'
 clear ht hx'
 have e5:IntKind.u8.wrap (d - 48)=d - 48:=IntWalk.u8_in _ (by omega)
 have e6:IntKind.u32.wrap (d - 48)=d - 48:=IntWalk.u32_in _ (by omega)
 have e7:IntKind.u32.wrap y=y:=IntWalk.u32_in _ (by omega)
 have e8:IntKind.u32.wrap (x+y)=x+y:=IntWalk.u32_in _ (by omega)
 have e3:IntKind.i64.wrap (p / 9)=p / 9:=IntWalk.i64_in _ (by omega)
 have e1:p.tdiv 9=p / 9:=Int.tdiv_eq_ediv_of_nonneg hp0
 have e2:p.tmod 9=p % 9:=Int.tmod_eq_emod_of_nonneg hp0
 have e4:(d - 48)*t=y:=hy.symm
 have HY:=Lib.hid hy
 clear hy
 go_enter Tryz.func299,Tryz.ntmps299
 go_wp2_with fail
 go_region_with (go_at_call 301;refine (powTenT t (p % 9) _ m0 m8 HT).mono ?_;rintro e w' ⟨rfl,hbel⟩;have hx2:=(hbel.cell (p:=⟨b,1+(p / 9).toNat,none⟩) hsz).trans hx;have hf2:=(hbel.frozen (p:=⟨b,1+(p / 9).toNat,none⟩) hsz).trans hf)
 all_goals
  go_wp2
  go_end0
  have hv:x+y=((f (p / 9).toNat+(d - 48).toNat*ten (p % 9).toNat:Nat):Int):=by
   rw [HX.out,HY.out,HT.out,Int.natCast_add,Int.natCast_mul,Int.toNat_of_nonneg (by omega)]
  have hw1:w'.heap[b]?=some (.cells c 280):=(hbel.block b hsz).trans hb
  refine ⟨rfl,((Only.refl b w).drew.trans (Only.of_low (b:=b) hbel)).setCell _ _ _,_,zb8 hw1 _ _,?_⟩
  have hval:f (p / 9).toNat+(d - 48).toNat*ten (p % 9).toNat < BASE:=by unfold BASE;omega
  rw [hv]
  exact hc.set hj hval
theorem zp4 (j:Nat):BASE ^ j=10 ^ (9*j):=by
 rw [Nat.pow_mul];rfl
theorem zt9 (j:Nat):0 < BASE ^ j:=Nat.pow_pos (by decide)
theorem limb_N (f:Nat→Nat) (hf:zfl f) (j:Nat):∀ n,j < n→n≤16→vN n f / BASE ^ j % BASE=f j:=by
 intro n
 induction n with
 | zero=>intro h;omega
 | succ n ih=>
   intro h hn
   by_cases e:j=n
   ·subst e
    have:=vN_lt f hf j (by omega)
    simp only [vN]
    rw [Nat.add_mul_div_right _ _ (zt9 j),Nat.div_eq_of_lt this,Nat.zero_add,Nat.mod_eq_of_lt (hf j (by omega))]
   ·have hlt:j < n:=by omega
    rw [← ih hlt (by omega)]
    simp only [vN]
    obtain ⟨d,rfl⟩:∃ d,n=j+1+d:=⟨n - (j+1),by omega⟩
    have e:f (j+1+d)*BASE ^ (j+1+d)=(f (j+1+d)*BASE ^ d*BASE)*BASE ^ j:=by
     rw [Nat.pow_add,Nat.pow_succ]
     generalize BASE ^ d=x
     generalize BASE ^ j=y
     ac_rfl
    rw [e,Nat.add_mul_div_right _ _ (zt9 j),Nat.add_mul_mod_self_right]
theorem z04 (f:Nat→Nat) (hf:zfl f) (j:Nat) (hj:j < 16):f j=wval f / BASE ^ j % BASE:=(limb_N f hf j 16 hj (Nat.le_refl _)).symm
theorem vN_updv (f:Nat→Nat) (j v:Nat):∀ n,j < n→vN n (upd f j v)+f j*BASE ^ j=vN n f+v*BASE ^ j:=by
 intro n
 induction n with
 | zero=>intro h;omega
 | succ n ih=>
   intro h
   by_cases e:j=n
   ·subst e
    simp only [vN,zpx,vN_upd _ _ _ _ (Nat.le_refl _)];omega
   ·have:=ih (by omega)
    simp only [vN,zf2 f v (show n≠j by omega)];omega
theorem zua (f:Nat→Nat) (j v:Nat) (hj:j < 16):wval (upd f j v)+f j*BASE ^ j=wval f+v*BASE ^ j:=vN_updv f j v 16 hj
theorem room (f:Nat→Nat) (hf:zfl f) (M p:Nat) (hp:p < 144) (h:wval f=M*10 ^ (p+1)):f (p / 9)+9*10 ^ (p % 9) < BASE:=by
 rw [z04 f hf (p / 9) (by omega),zp4,h]
 have e:10 ^ (p+1)=10 ^ (p % 9+1)*10 ^ (9*(p / 9)):=by rw [← Nat.pow_add];congr 1;omega
 rw [e,← Nat.mul_assoc,Nat.mul_div_cancel _ (Nat.pow_pos (by omega))]
 obtain ⟨r,hr⟩:∃ r,r=p % 9:=⟨_,rfl⟩
 rw [← hr]
 have hr9:r≤8:=by omega
 have eb:BASE=10 ^ (r+1)*10 ^ (8 - r):=by rw [← Nat.pow_add,show r+1+(8 - r)=9 by omega];rfl
 rw [Nat.mul_comm M,eb,Nat.mul_mod_mul_left]
 have h1:M % 10 ^ (8 - r) < 10 ^ (8 - r):=Nat.mod_lt _ (Nat.pow_pos (by omega))
 have h2:10 ^ (r+1)*(M % 10 ^ (8 - r)+1)≤10 ^ (r+1)*10 ^ (8 - r):=Nat.mul_le_mul_left _ h1
 rw [Nat.mul_add,Nat.mul_one,Nat.pow_succ] at h2
 have h3:0 < 10 ^ r:=Nat.pow_pos (by omega)
 rw [Nat.pow_succ]
 omega
theorem put_val (f:Nat→Nat) (p d:Nat) (hp:p < 144):wval (upd f (p / 9) (f (p / 9)+d*10 ^ (p % 9)))=wval f+d*10 ^ p:=by
 have:=zua f (p / 9) (f (p / 9)+d*10 ^ (p % 9)) (by omega)
 have e:d*10 ^ (p % 9)*BASE ^ (p / 9)=d*10 ^ p:=by
  rw [zp4,Nat.mul_assoc,← Nat.pow_add];congr 2;omega
 rw [Nat.add_mul,e] at this
 omega
theorem zxi (g:Nat) (c:Array Value) (n:Bool) (f:Nat→Nat) (M q x:Nat) (p d:Int) (w:World) (hl:Lies w g c n f) (hpq:p=q) (hp:q≤143) (hd0:d=48+x) (hd:x≤9) (hv:wval f=M*10 ^ (q+1)):
 Calls Tryz.prog 299 #[.pointer (some ⟨g,0,none⟩),.int .i64 p,.int .u8 d] w fun e w'=>e=.returned (.tuple #[])∧Only g w w'∧
  ∃ c' f',Lies w' g c' n f'∧wval f'=(M*10+x)*10 ^ q:=by
 subst hpq hd0
 have hx:((48:Int)+x - 48).toNat=x:=by omega
 have e1:((q:Int) / 9).toNat=q / 9:=by omega
 have e2:((q:Int) % 9).toNat=q % 9:=by omega
 have hr:=room f hl.num.lt M q (by omega) hv
 have hroom:(f ((q:Int) / 9).toNat:Int)+((48:Int)+x - 48)*ten ((q:Int) % 9).toNat < 1000000000:=by
  rw [e1,e2]
  unfold ten
  have h1:x*10 ^ (q % 9)≤9*10 ^ (q % 9):=Nat.mul_le_mul_right _ (by omega)
  have h2:((48:Int)+x - 48)*((10 ^ (q % 9):Nat):Int)=((x*10 ^ (q % 9):Nat):Int):=by
   rw [Int.natCast_mul];congr 1;omega
  rw [h2]
  unfold BASE at hr
  omega
 refine (putAt g c n f q _ w hl.heap hl.num (by omega) (by omega) (by omega) (by omega) hroom).mono ?_
 rintro e w' ⟨rfl,ho,c',hh,hn⟩
 refine ⟨rfl,ho,c',_,lies_mk hh hn,?_⟩
 rw [e1,e2,hx]
 unfold ten
 rw [put_val f q _ (by omega),hv,Nat.add_mul,Nat.pow_succ]
 congr 1
 ac_rfl
theorem zub (l:List UInt8) (k:Nat) (h:k < l.length):valD (l.take (k+1))=valD (l.take k)*10+(l[k].toNat - 48):=by
 rw [List.take_succ_eq_append_getElem h,zc0]
 simp [valD]
theorem zlp (A:ByteArray) (k:Nat) (h:k < A.size):A[k]=A.data.toList[k]'(by simpa using h):=by
 simp [ByteArray.getElem_eq_getElem_data]
theorem zuc (A:ByteArray) (hA:A.data.toList.all za8=true) (k:Nat) (h:k < A.size):48≤A[k].toNat∧A[k].toNat≤57:=by
 rw [zlp A k h]
 exact zos (List.all_eq_true.1 hA _ (List.getElem_mem _))
theorem z05 (s A B:ByteArray) (n:Bool) (w:World) (hG:Gd w) (hs:s.size < 4294967281) (h:chk s.data.toList=true) (hsp:zdf s.data.toList=some (n,A.data.toList,B.data.toList))
 (hA:A.data.toList.all za8=true) (hB:B.data.toList.all za8=true) (lA:A.size≤40) (lB:B.size≤20):
 Calls Tryz.prog 292 #[.string s] w fun e w'=>∃ c f,e=.returned (.tuple #[.agg c,.bool true])∧zcv c n f∧wval f=zjc A.data.toList B.data.toList∧Low w.heap.size w w':=by
 have hc:∀ W,Gd W→Calls Tryz.prog 157 #[.string s] W fun e w'=>e=.returned (.bool true)∧Low W.heap.size W w':=fun W hW=>by
  have:=zp3 s W hW hs
  rwa [h] at this
 have hc2:∀ W,Gd W→Calls Tryz.prog 221 #[.string s] W fun e w'=>e=.returned (.tuple #[.bool n,.string A,.string B,.bool true])∧Low W.heap.size W w':=fun W hW=>by
  have:=zsp s W hW hs
  rw [hsp] at this
  exact this
 have HC:=Lib.hid hc
 have HS:=Lib.hid hc2
 clear hc h hc2 hsp
 have l0:=zf4 w rfl
 have g0:=hG.alloc (.cells #[.bool false,.int .u32 0,.int .u32 0,.int .u32 0,.int .u32 0,.int .u32 0,.int .u32 0,.int .u32 0,.int .u32 0,.int .u32 0,.int .u32 0,.int .u32 0,.int .u32 0,.int .u32 0,.int .u32 0,.int .u32 0,.int .u32 0] 280)
 have b0:=(Low.refl w.heap.size w).alloc (Nat.le_refl _) (.cells #[.bool false,.int .u32 0,.int .u32 0,.int .u32 0,.int .u32 0,.int .u32 0,.int .u32 0,.int .u32 0,.int .u32 0,.int .u32 0,.int .u32 0,.int .u32 0,.int .u32 0,.int .u32 0,.int .u32 0,.int .u32 0,.int .u32 0] 280)
 go_enter Tryz.func292,Tryz.ntmps292
 go_wp2_with (first
  |(go_at_call 157;(with_reducible refine (HC.out _ g0).mono ?_);rintro e w1 ⟨rfl,hb⟩;have l1:=l0.below hb.is;have b1:=zak b0 hb (Nat.le_of_lt l0.lt);have g1:=g0.below hb.is)
  |(go_at_call 221;(with_reducible refine (HS.out _ g1).mono ?_);rintro e w2 ⟨rfl,hb2⟩;have l2:=l1.below hb2.is;have b2:=zak b1 hb2 (Nat.le_of_lt l1.lt)))
 have l3:=zxa w2 n rfl
 have k3:=l2.alloc (.cells #[.bool n,.int .u32 0,.int .u32 0,.int .u32 0,.int .u32 0,.int .u32 0,.int .u32 0,.int .u32 0,.int .u32 0,.int .u32 0,.int .u32 0,.int .u32 0,.int .u32 0,.int .u32 0,.int .u32 0,.int .u32 0,.int .u32 0] 280)
 have b3:=b2.alloc (Nat.le_of_lt l2.lt) (.cells #[.bool n,.int .u32 0,.int .u32 0,.int .u32 0,.int .u32 0,.int .u32 0,.int .u32 0,.int .u32 0,.int .u32 0,.int .u32 0,.int .u32 0,.int .u32 0,.int .u32 0,.int .u32 0,.int .u32 0,.int .u32 0,.int .u32 0] 280)
 have hne:w.heap.size≠w2.heap.size:=Nat.ne_of_lt l2.lt
 have hle:w.heap.size≤w2.heap.size:=Nat.le_of_lt l2.lt
 go_loopw [26] (fun i wr=>∃ (k:Nat) (c:Array Value) (f:Nat→Nat),k≤A.size∧i=.int .i64 k∧Lies wr w2.heap.size c n f∧Lies wr w.heap.size zma false (fun _=>0)∧Low w.heap.size w wr∧wval f=valD (A.data.toList.take k)*10 ^ (54+A.size - k)) (fun i _=>A.size - (intOf i).toNat)
 case atStart=>
  exact ⟨0,_,_,Nat.zero_le _,rfl,l3,k3,b3,by simp [valD,wval,vN]⟩
 case round=>
  obtain ⟨k,c,f,hk,rfl,hl,hz,hbel,hv⟩:=hrel
  have HV:=Lib.hid hv
  clear hv
  by_cases hlt:k < A.size
  ·have hd:=zuc A hA k hlt
   obtain ⟨x,hx⟩:∃ x,A[k].toNat=48+x:=⟨A[k].toNat - 48,by omega⟩
   have hx1:(A[k].toNat:Int)=48+x:=by omega
   have hx9:x≤9:=by omega
   have hd2:(A[k].toNat:Int)≤57:=by omega
   obtain ⟨q,hq⟩:∃ q,q=54+A.size - (k+1):=⟨_,rfl⟩
   have hq1:q≤143:=by omega
   have hnew:valD (A.data.toList.take (k+1))*10 ^ (54+A.size - (k+1))=(valD (A.data.toList.take k)*10+x)*10 ^ q:=by
    rw [zub _ k (by simpa using hlt),← hq,← zlp A k hlt]
    congr 2
    omega
   have hold:wval f=valD (A.data.toList.take k)*10 ^ (q+1):=by rw [HV.out];congr 2;omega
   have HQ:=Lib.hid hq
   have HN:=Lib.hid hnew
   have HO:=Lib.hid hold
   have HX:=Lib.hid hx1
   clear hd hx hq hnew hold hx1
   go_wp2_with (go_at_call 299;(with_reducible refine (zxi _ _ _ _ (valD (A.data.toList.take k)) q x _ _ _ hl ?_ hq1 HX.out hx9 HO.out).mono ?_);(have:=HQ.out;omega);rintro e w3 ⟨rfl,ho,c',f',hl',hv'⟩;have HV':=Lib.hid hv';clear hv')
   go_roundw
   case rel=>exact ⟨k+1,c',f',by omega,by go_num,hl',hz.only ho hne,zd3 hbel ho hle (Nat.le_of_lt hz.lt),by rw [HN.out];exact HV'.out⟩
   case measure=>simp [intOf];omega
  ·obtain rfl:k=A.size:=by omega
   have hv0:wval f=valD A.data.toList*10 ^ 54:=by
    have:=HV.out
    rw [List.take_of_length_le (by simp),show 54+A.size - A.size=54 by omega] at this
    exact this
   have HV0:=Lib.hid hv0
   clear hv0
   go_wp2_with fail
   obtain ⟨wo,rfl⟩:∃ wo:World,wo=wr:=⟨_,rfl⟩
   go_loopw [42] (fun i wr=>∃ (k:Nat) (c:Array Value) (f:Nat→Nat),k≤B.size∧i=.int .i64 k∧Lies wr w2.heap.size c n f∧Lies wr w.heap.size zma false (fun _=>0)∧Low w.heap.size w wr∧wval f=(valD A.data.toList*10 ^ k+valD (B.data.toList.take k))*10 ^ (54 - k)) (fun i _=>B.size - (intOf i).toNat)
   case atStart=>exact ⟨0,c,f,Nat.zero_le _,rfl,hl,hz,hbel,by rw [HV0.out];simp [valD]⟩
   case round=>
    clear hl hz hbel HV HV0
    obtain ⟨k,c,f,hk,rfl,hl,hz,hbel,hv⟩:=hrel
    have HV:=Lib.hid hv
    clear hv
    by_cases hlt:k < B.size
    ·have hd:=zuc B hB k hlt
     obtain ⟨x,hx⟩:∃ x,B[k].toNat=48+x:=⟨B[k].toNat - 48,by omega⟩
     have hx1:(B[k].toNat:Int)=48+x:=by omega
     have hx9:x≤9:=by omega
     have hd2:(B[k].toNat:Int)≤57:=by omega
     obtain ⟨q,hq⟩:∃ q,q=54 - (k+1):=⟨_,rfl⟩
     have hq1:q≤143:=by omega
     have hnew:(valD A.data.toList*10 ^ (k+1)+valD (B.data.toList.take (k+1)))*10 ^ (54 - (k+1))=((valD A.data.toList*10 ^ k+valD (B.data.toList.take k))*10+x)*10 ^ q:=by
      rw [zub _ k (by simpa using hlt),← hq,← zlp B k hlt,Nat.pow_succ]
      congr 1
      have:B[k].toNat - 48=x:=by omega
      rw [this,Nat.add_mul,Nat.mul_assoc]
      omega
     have hold:wval f=(valD A.data.toList*10 ^ k+valD (B.data.toList.take k))*10 ^ (q+1):=by rw [HV.out];congr 2;omega
     have HQ:=Lib.hid hq
     have HN:=Lib.hid hnew
     have HO:=Lib.hid hold
     have HX:=Lib.hid hx1
     clear hd hx hq hnew hold hx1
     go_wp2_with (go_at_call 299;(with_reducible refine (zxi _ _ _ _ (valD A.data.toList*10 ^ k+valD (B.data.toList.take k)) q x _ _ _ hl ?_ hq1 HX.out hx9 HO.out).mono ?_);(have:=HQ.out;omega);rintro e w3 ⟨rfl,ho,c',f',hl',hv'⟩;have HV':=Lib.hid hv';clear hv')
     go_roundw
     case rel=>exact ⟨k+1,c',f',by omega,by go_num,hl',hz.only ho hne,zd3 hbel ho hle (Nat.le_of_lt hz.lt),by rw [HN.out];exact HV'.out⟩
     case measure=>simp [intOf];omega
    ·obtain rfl:k=B.size:=by omega
     have hv0:wval f=zjc A.data.toList B.data.toList:=by
      have:=HV.out
      rw [List.take_of_length_le (by simp)] at this
      rw [this]
      unfold zjc
      rw [Nat.add_mul,Nat.mul_assoc,← Nat.pow_add]
      have e:B.data.toList.length=B.size:=by simp
      rw [e]
      congr 3
      omega
     have HV0:=Lib.hid hv0
     clear hv0
     go_wp2_with (first
      |((with_reducible refine zf3 (.tmp 8) w2.heap.size (by assumption) ?_ ?_ ?_ ?_);rfl;rfl;rfl)
      |((with_reducible refine zdm (.tmp 2) (.tmp 52) w.heap.size (by assumption) hl.num ?_ ?_ ?_ ?_ ?_);rfl;rfl;rfl;rfl;intro w5 ho5 m5;have b5:=zd3 hbel ho5 (Nat.le_refl _) (Nat.le_of_lt hz.lt)))
     exact bodyPost_ret (v:=.tuple #[.agg c,.bool true]) (zm9 (p:=2) (q:=3) Tryz.results292 _ (.bool true) rfl rfl m5) rfl ⟨c,f,rfl,hl.num,HV0.out,b5⟩
theorem zud (s:ByteArray) (w:World) (hG:Gd w) (hs:s.size < 4294967281) (h:chk s.data.toList=true):
 Calls Tryz.prog 292 #[.string s] w fun e w'=>∃ c f,e=.returned (.tuple #[.agg c,.bool true])∧zcv c (zef s.data.toList) f∧wval f=damt s.data.toList∧Low w.heap.size w w':=by
 obtain ⟨n,a,b,hsp,ha,hb,la,lb,_,_⟩:=zm8 _ h
 have e1:zef s.data.toList=n:=by unfold zef;rw [hsp];rfl
 have e2:damt s.data.toList=zjc a b:=by unfold damt;rw [hsp];rfl
 rw [e1,e2]
 exact z05 s (bs a) (bs b) n w hG hs h hsp ha hb (by simpa [ByteArray.size] using la) (by simpa [ByteArray.size] using lb)
theorem bothYes (s t:ByteArray) (w:World) (hG:Gd w) (hs:s.size < 4294967281) (ht:t.size < 4294967281) (h:chk s.data.toList=true) (h2:chk t.data.toList=true):
 Calls Tryz.prog 282 #[.string s,.string t] w fun e w'=>∃ c d f g,e=.returned (.tuple #[.agg c,.agg d,.bool true])∧zcv c (zef s.data.toList) f∧wval f=damt s.data.toList∧
  zcv d (zef t.data.toList) g∧wval g=damt t.data.toList∧Low w.heap.size w w':=by
 have hc:∀ W,Gd W→Calls Tryz.prog 292 #[.string s] W fun e w'=>∃ c f,e=.returned (.tuple #[.agg c,.bool true])∧zcv c (zef s.data.toList) f∧wval f=damt s.data.toList∧Low W.heap.size W w':=fun W hW=>zud s W hW hs h
 have hc2:∀ W,Gd W→Calls Tryz.prog 292 #[.string t] W fun e w'=>∃ c f,e=.returned (.tuple #[.agg c,.bool true])∧zcv c (zef t.data.toList) f∧wval f=damt t.data.toList∧Low W.heap.size W w':=fun W hW=>zud t W hW ht h2
 have HC:=Lib.hid hc
 have HC2:=Lib.hid hc2
 generalize zef s.data.toList=sn at*
 generalize damt s.data.toList=sx at*
 generalize zef t.data.toList=tn at*
 generalize damt t.data.toList=tx at*
 clear hc hc2 h h2 hs ht
 have l1:Lies ((w.alloc (.cells #[.bool false,.int .u32 0,.int .u32 0,.int .u32 0,.int .u32 0,.int .u32 0,.int .u32 0,.int .u32 0,.int .u32 0,.int .u32 0,.int .u32 0,.int .u32 0,.int .u32 0,.int .u32 0,.int .u32 0,.int .u32 0,.int .u32 0] 280)).alloc (.cells #[.bool false,.int .u32 0,.int .u32 0,.int .u32 0,.int .u32 0,.int .u32 0,.int .u32 0,.int .u32 0,.int .u32 0,.int .u32 0,.int .u32 0,.int .u32 0,.int .u32 0,.int .u32 0,.int .u32 0,.int .u32 0,.int .u32 0] 280)) w.heap.size zma false (fun _=>0):=(zf4 _ rfl).alloc _
 have l2:Lies ((w.alloc (.cells #[.bool false,.int .u32 0,.int .u32 0,.int .u32 0,.int .u32 0,.int .u32 0,.int .u32 0,.int .u32 0,.int .u32 0,.int .u32 0,.int .u32 0,.int .u32 0,.int .u32 0,.int .u32 0,.int .u32 0,.int .u32 0,.int .u32 0] 280)).alloc (.cells #[.bool false,.int .u32 0,.int .u32 0,.int .u32 0,.int .u32 0,.int .u32 0,.int .u32 0,.int .u32 0,.int .u32 0,.int .u32 0,.int .u32 0,.int .u32 0,.int .u32 0,.int .u32 0,.int .u32 0,.int .u32 0,.int .u32 0] 280)) (w.heap.size+1) zma false (fun _=>0):=zf4 _ (by simp)
 have g0:=(hG.alloc (.cells #[.bool false,.int .u32 0,.int .u32 0,.int .u32 0,.int .u32 0,.int .u32 0,.int .u32 0,.int .u32 0,.int .u32 0,.int .u32 0,.int .u32 0,.int .u32 0,.int .u32 0,.int .u32 0,.int .u32 0,.int .u32 0,.int .u32 0] 280)).alloc (.cells #[.bool false,.int .u32 0,.int .u32 0,.int .u32 0,.int .u32 0,.int .u32 0,.int .u32 0,.int .u32 0,.int .u32 0,.int .u32 0,.int .u32 0,.int .u32 0,.int .u32 0,.int .u32 0,.int .u32 0,.int .u32 0,.int .u32 0] 280)
 have hb0:=((Low.refl w.heap.size w).alloc (Nat.le_refl _) (.cells #[.bool false,.int .u32 0,.int .u32 0,.int .u32 0,.int .u32 0,.int .u32 0,.int .u32 0,.int .u32 0,.int .u32 0,.int .u32 0,.int .u32 0,.int .u32 0,.int .u32 0,.int .u32 0,.int .u32 0,.int .u32 0,.int .u32 0] 280)).alloc (by simp) (.cells #[.bool false,.int .u32 0,.int .u32 0,.int .u32 0,.int .u32 0,.int .u32 0,.int .u32 0,.int .u32 0,.int .u32 0,.int .u32 0,.int .u32 0,.int .u32 0,.int .u32 0,.int .u32 0,.int .u32 0,.int .u32 0,.int .u32 0] 280)
 go_enter Tryz.func282,Tryz.ntmps282
 go_wp2_with (first
  |(go_at_call 292;(with_reducible refine (HC.out _ g0).mono ?_);rintro e w1 ⟨c,f,rfl,hn,hv,hb⟩;have HV:=Lib.hid hv;clear hv;have q1:=l1.below hb.is;have q2:=l2.below hb.is;have g1:=g0.below hb.is;have hb1:=zak hb0 hb (Nat.le_of_lt l1.lt))
  |((with_reducible refine zdm (.tmp 4) (.tmp 10) w.heap.size (by assumption) hn ?_ ?_ ?_ ?_ ?_);rfl;rfl;rfl;rfl;intro w2 ho p1;have p2:=q2.only ho (by omega);have hb2:=zd3 hb1 ho (Nat.le_refl _) (Nat.le_of_lt q1.lt);have g2:Gd w2:=hG.below hb2.is)
  |(go_at_call 292;(with_reducible refine (HC2.out _ g2).mono ?_);rintro e w3 ⟨d,g,rfl,hnd,hvd,hb⟩;have HVD:=Lib.hid hvd;clear hvd;have r1:=p1.below hb.is;have r2:=p2.below hb.is;have hb3:=zak hb2 hb (Nat.le_of_lt p1.lt))
  |((with_reducible refine zdm (.tmp 5) (.tmp 19) (w.heap.size+1) (by assumption) hnd ?_ ?_ ?_ ?_ ?_);rfl;rfl;rfl;rfl;intro w4 ho4 m2;have m1:=r1.only ho4 (by omega);have hb4:=zd3 hb3 ho4 (by omega) (Nat.le_of_lt r1.lt)))
 refine wp_region_held_drew (S:=fun w'=>Lies w' w.heap.size c sn f∧Lies w' (w.heap.size+1) d tn g∧Low w.heap.size w w') (by kernel_rfl) ⟨m1,m2,hb4.drew⟩ (fun hHeld=>?_)
 refine tk (i:=0) rfl (ziu (by rfl) (.tmp 4) rfl w.heap.size rfl c sn f (fun _ h=>h.1)) hHeld ?_
 try simp only [Act.put,List.setIfInBounds_toArray,List.set_cons_zero,List.set_cons_succ]
 refine tk (i:=1) rfl (ziu (by rfl) (.tmp 5) rfl (w.heap.size+1) rfl d tn g (fun _ h=>h.2.1)) hHeld ?_
 try simp only [Act.put,List.setIfInBounds_toArray,List.set_cons_zero,List.set_cons_succ]
 obtain ⟨u1,u2,u3⟩:=hHeld
 refine tr 2 rfl (fun K hK=>?_)
 rw [if_pos (by rfl)]
 refine zqx (.tmp 4) (.tmp 25) rfl w.heap.size rfl rfl u1 hn (fun w5 ho5 x1=>?_)
 refine hK.out _ _ ⟨x1,u2.only ho5 (by omega),zd3 u3 ho5 (Nat.le_refl _) (Nat.le_of_lt u1.lt)⟩ (fun hHeld=>?_)
 clear hK K u1 u2 u3 x1 ho5
 try simp only [Act.put,List.setIfInBounds_toArray]
 obtain ⟨u1,u2,u3⟩:=hHeld
 refine tr 3 rfl (fun K hK=>?_)
 rw [if_pos (by rfl)]
 refine zqx (.tmp 5) (.tmp 26) rfl (w.heap.size+1) rfl rfl u2 hnd (fun w6 ho6 x2=>?_)
 refine hK.out _ _ ⟨u1.only ho6 (by omega),x2,zd3 u3 ho6 (by omega) (Nat.le_of_lt u1.lt)⟩ (fun hHeld=>?_)
 clear hK K u1 u2 u3 x2 ho6
 try simp only [Act.put]
 obtain ⟨u1,u2,u3⟩:=hHeld
 refine tr 4 rfl (fun K hK=>?_)
 go_simp
 refine hK.out _ _ ⟨u1,u2,u3⟩ (fun hHeld=>?_)
 clear hK K hHeld
 try simp only [Act.put,List.setIfInBounds_toArray,List.set_cons_zero,List.set_cons_succ]
 refine wpAnyH_done (by kernel_rfl) ?_ _
 go_wp2_with fail
 exact bodyPost_ret (v:=.tuple #[.agg c,.agg d,.bool true]) (zmp (p:=4) (p2:=5) (q:=6) Tryz.results282 _ (.bool true) rfl rfl rfl u1 u2) rfl ⟨c,d,f,g,rfl,hn,HV.out,hnd,HVD.out,u3⟩
structure zue (N m t R:Nat) (qs:List UInt8):Prop where
 len:qs.length=t
 dig:qs.all za8=true
 eq:valD qs*m+R=N / 10 ^ (164 - t)
 lt:R < m
theorem zue.zero {N m:Nat} (hN:N < 10 ^ 164) (hm:0 < m):zue N m 0 0 []:=
 ⟨rfl,rfl,by rw [Nat.sub_zero,Nat.div_eq_of_lt hN];simp [valD],hm⟩
theorem zue.done {N m R:Nat} {qs:List UInt8} (H:zue N m 164 R qs):qs=zf5 (N / m) 0 164:=by
 have e:=H.eq
 rw [Nat.sub_self,Nat.pow_zero,Nat.div_one] at e
 have hq:N / m=valD qs:=by
  rw [← e]
  have:=H.lt
  rw [Nat.mul_comm,Nat.mul_add_div (by omega),Nat.div_eq_of_lt this,Nat.add_zero]
 have hl:=ziz qs H.dig
 rw [H.len] at hl
 refine zej _ _ H.dig (zez _ _ _) (by rw [H.len,zid]) ?_
 rw [ze0,Nat.pow_zero,Nat.div_one,hq,Nat.mod_eq_of_lt hl]
theorem zt8.done {f h:Nat→Nat} {d c:Nat} (H:zt8 f d h c 16) (hs:wval f*10+d < BASE ^ 16):wval h=wval f*10+d:=by
 have s:=H.sum
 have hc:c=0:=by
  by_cases e:c=0
  ·exact e
  ·have:1*BASE ^ 16≤c*BASE ^ 16:=Nat.mul_le_mul_right _ (by omega)
   unfold wval at hs;omega
 subst hc
 unfold wval at *;omega
theorem zf0:(Tryz.prog.info? 5).map (fun i=>(i.zero,i.size,i.bytes))=some (some (.int .u8 0),1,1):=by kernel_rfl
def vals (l:List UInt8):List Value:=l.map fun b=>.int .u8 (b.toNat:Int)
theorem cmpFT (c d:Array Value) (f g:Nat→Nat) (w:World) (hc:zcv c false f) (hd:zcv d true g):
 Calls Tryz.prog 283 #[.agg c,.agg d] w fun e w'=>e=.returned (.int .i64 1)∧Low w.heap.size w w':=by
 have h0:((w.alloc (.cells c 280)).alloc (.cells d 280)).cell? ⟨w.heap.size,0,none⟩=some (.bool false):=zad (zaq _ (zaf _ _ rfl)) _ hc.neg
 have h1:((w.alloc (.cells c 280)).alloc (.cells d 280)).cell? ⟨w.heap.size+1,0,none⟩=some (.bool true):=zad (zaf _ _ (by simp)) _ hd.neg
 go_enter Tryz.func283,Tryz.ntmps283
 go_wp2_with fail
 go_ret
 exact ⟨rfl,((Low.refl _ _).alloc (Nat.le_refl _) _).alloc (by simp) _⟩
theorem cmpFF (c d:Array Value) (f g:Nat→Nat) (w:World) (hc:zcv c false f) (hd:zcv d false g):
 Calls Tryz.prog 283 #[.agg c,.agg d] w fun e w'=>e=.returned (.int .i64 (cmpI (wval f) (wval g)))∧Low w.heap.size w w':=by
 have h0:((w.alloc (.cells c 280)).alloc (.cells d 280)).cell? ⟨w.heap.size,0,none⟩=some (.bool false):=zad (zaq _ (zaf _ _ rfl)) _ hc.neg
 have h1:((w.alloc (.cells c 280)).alloc (.cells d 280)).cell? ⟨w.heap.size+1,0,none⟩=some (.bool false):=zad (zaf _ _ (by simp)) _ hd.neg
 have b1:((w.alloc (.cells c 280)).alloc (.cells d 280)).heap[w.heap.size]?=some (.cells c 280):=zaq _ (zaf _ _ rfl)
 have b2:((w.alloc (.cells c 280)).alloc (.cells d 280)).heap[w.heap.size+1]?=some (.cells d 280):=zaf _ _ (by simp)
 have hb:Low w.heap.size w ((w.alloc (.cells c 280)).alloc (.cells d 280)):=((Low.refl _ _).alloc (Nat.le_refl _) _).alloc (by simp) _
 have hs:w.heap.size≤((w.alloc (.cells c 280)).alloc (.cells d 280)).heap.size:=by simp;omega
 have B1:=Lib.hid b1
 have B2:=Lib.hid b2
 clear b1 b2
 go_enter Tryz.func283,Tryz.ntmps283
 go_wp2_with (first
  |((with_reducible refine zcz w.heap.size c ?_ ?_ (.tmp 2) ?_ ?_ ?_ ?_);exact B1.out;exact hc.size;rfl;rfl;rfl)
  |((with_reducible refine zcz (w.heap.size+1) d ?_ ?_ (.tmp 3) ?_ ?_ ?_ ?_);exact B2.out;exact hd.size;rfl;rfl;rfl)
  |(go_at_call 293;(with_reducible refine (z3i c d _ _ _ _ hc hd _).mono ?_);rintro e w' ⟨rfl,hbel⟩))
 go_ret
 exact ⟨rfl,zak hb hbel hs⟩
theorem cmpTF (c d:Array Value) (f g:Nat→Nat) (w:World) (hc:zcv c true f) (hd:zcv d false g):
 Calls Tryz.prog 283 #[.agg c,.agg d] w fun e w'=>e=.returned (.int .i64 (-1))∧Low w.heap.size w w':=by
 have h0:((w.alloc (.cells c 280)).alloc (.cells d 280)).cell? ⟨w.heap.size,0,none⟩=some (.bool true):=zad (zaq _ (zaf _ _ rfl)) _ hc.neg
 have h1:((w.alloc (.cells c 280)).alloc (.cells d 280)).cell? ⟨w.heap.size+1,0,none⟩=some (.bool false):=zad (zaf _ _ (by simp)) _ hd.neg
 go_enter Tryz.func283,Tryz.ntmps283
 go_wp2_with fail
 go_ret
 exact ⟨rfl,((Low.refl _ _).alloc (Nat.le_refl _) _).alloc (by simp) _⟩
theorem cmpTT (c d:Array Value) (f g:Nat→Nat) (w:World) (hc:zcv c true f) (hd:zcv d true g):
 Calls Tryz.prog 283 #[.agg c,.agg d] w fun e w'=>e=.returned (.int .i64 (cmpI (wval g) (wval f)))∧Low w.heap.size w w':=by
 have h0:((w.alloc (.cells c 280)).alloc (.cells d 280)).cell? ⟨w.heap.size,0,none⟩=some (.bool true):=zad (zaq _ (zaf _ _ rfl)) _ hc.neg
 have h1:((w.alloc (.cells c 280)).alloc (.cells d 280)).cell? ⟨w.heap.size+1,0,none⟩=some (.bool true):=zad (zaf _ _ (by simp)) _ hd.neg
 have b1:((w.alloc (.cells c 280)).alloc (.cells d 280)).heap[w.heap.size]?=some (.cells c 280):=zaq _ (zaf _ _ rfl)
 have b2:((w.alloc (.cells c 280)).alloc (.cells d 280)).heap[w.heap.size+1]?=some (.cells d 280):=zaf _ _ (by simp)
 have hb:Low w.heap.size w ((w.alloc (.cells c 280)).alloc (.cells d 280)):=((Low.refl _ _).alloc (Nat.le_refl _) _).alloc (by simp) _
 have hs:w.heap.size≤((w.alloc (.cells c 280)).alloc (.cells d 280)).heap.size:=by simp;omega
 have B1:=Lib.hid b1
 have B2:=Lib.hid b2
 clear b1 b2
 go_enter Tryz.func283,Tryz.ntmps283
 go_wp2_with (first
  |((with_reducible refine zcz w.heap.size c ?_ ?_ (.tmp 2) ?_ ?_ ?_ ?_);exact B1.out;exact hc.size;rfl;rfl;rfl)
  |((with_reducible refine zcz (w.heap.size+1) d ?_ ?_ (.tmp 3) ?_ ?_ ?_ ?_);exact B2.out;exact hd.size;rfl;rfl;rfl)
  |(go_at_call 293;(with_reducible refine (z3i d c _ _ _ _ hd hc _).mono ?_);rintro e w' ⟨rfl,hbel⟩))
 go_ret
 exact ⟨rfl,zak hb hbel hs⟩
theorem cmpS_ff (x y:Nat):cmpS false x false y=cmpI x y:=by simp [cmpS]
theorem cmpS_ft (x y:Nat):cmpS false x true y=1:=by simp [cmpS]
theorem cmpS_tf (x y:Nat):cmpS true x false y=-1:=by simp [cmpS]
theorem cmpS_tt (x y:Nat):cmpS true x true y=cmpI y x:=by simp [cmpS]
theorem cmpNum (c d:Array Value) (n m:Bool) (f g:Nat→Nat) (w:World) (hc:zcv c n f) (hd:zcv d m g):
 Calls Tryz.prog 283 #[.agg c,.agg d] w fun e w'=>e=.returned (.int .i64 (cmpS n (wval f) m (wval g)))∧Low w.heap.size w w':=by
 cases n <;> cases m
 ·rw [cmpS_ff];exact cmpFF c d f g w hc hd
 ·rw [cmpS_ft];exact cmpFT c d f g w hc hd
 ·rw [cmpS_tf];exact cmpTF c d f g w hc hd
 ·rw [cmpS_tt];exact cmpTT c d f g w hc hd
def cmpZ (x y:Int):Int:=if x < y then -1 else if y < x then 1 else 0
theorem ze2 (x y:Int):cmpZ y x=-cmpZ x y:=by unfold cmpZ;split <;> split <;> (try split) <;> omega
theorem z06 (l r:List UInt8) (h:chk l=true) (h2:chk r=true):cmpS (zef l) (damt l) (zef r) (damt r)=cmpZ (dval l) (dval r):=by
 have a:=(zw9 l h).2.2.2.1
 have b:=(zw9 r h2).2.2.2.1
 unfold dval sv cmpS cmpZ cmpI
 generalize damt l=x at*
 generalize damt r=y at*
 cases h3:zef l <;> cases h4:zef r <;> simp only [h3,h4,Bool.false_eq_true,if_false,if_true,Bool.not_true,Bool.not_false,Bool.and_true,Bool.and_false,Bool.and_self,Int.ofNat_lt,Int.neg_lt_neg_iff] at*
 ·have:=b trivial
  rw [if_neg (by omega),if_pos (by omega)]
 ·have:=a trivial
  rw [if_pos (by omega)]
theorem cmpYes (s t:ByteArray) (w:World) (hG:Gd w) (hs:s.size < 4294967281) (ht:t.size < 4294967281) (h:chk s.data.toList=true) (h2:chk t.data.toList=true):
 Calls Tryz.prog 273 #[.string s,.string t] w fun e w'=>e=.returned (.int .i64 (cmpZ (dval s.data.toList) (dval t.data.toList)))∧Low w.heap.size w w':=by
 have hc:∀ W,Gd W→Calls Tryz.prog 282 #[.string s,.string t] W fun e w'=>∃ c d f g,e=.returned (.tuple #[.agg c,.agg d,.bool true])∧zcv c (zef s.data.toList) f∧wval f=damt s.data.toList∧
  zcv d (zef t.data.toList) g∧wval g=damt t.data.toList∧Low W.heap.size W w':=fun W hW=>bothYes s t W hW hs ht h h2
 have HC:=Lib.hid hc
 obtain ⟨r,hr⟩:∃ r,r=cmpZ (dval s.data.toList) (dval t.data.toList):=⟨_,rfl⟩
 have hcm:∀ (c d:Array Value) (f g:Nat→Nat) W,zcv c (zef s.data.toList) f→wval f=damt s.data.toList→zcv d (zef t.data.toList) g→wval g=damt t.data.toList→Calls Tryz.prog 283 #[.agg c,.agg d] W fun e w'=>e=.returned (.int .i64 r)∧Low W.heap.size W w':=fun c d f g W hc e1 hd e2=>by
  have:=cmpNum c d _ _ f g W hc hd
  rwa [e1,e2,z06 _ _ h h2,← hr] at this
 have HCM:=Lib.hid hcm
 rw [← hr]
 clear hc hcm h h2 hs ht hr
 go_enter Tryz.func273,Tryz.ntmps273
 go_wp2_with (first
  |(go_at_call 282;(with_reducible refine (HC.out _ hG).mono ?_);rintro e w1 ⟨c,d,f,g,rfl,hn,hx,hm,hy,hb⟩;have HX:=Lib.hid hx;have HY:=Lib.hid hy;clear hx hy;have l1:Lies ((w1.alloc (.cells #[.bool false,.int .u32 0,.int .u32 0,.int .u32 0,.int .u32 0,.int .u32 0,.int .u32 0,.int .u32 0,.int .u32 0,.int .u32 0,.int .u32 0,.int .u32 0,.int .u32 0,.int .u32 0,.int .u32 0,.int .u32 0,.int .u32 0] 280)).alloc (.cells #[.bool false,.int .u32 0,.int .u32 0,.int .u32 0,.int .u32 0,.int .u32 0,.int .u32 0,.int .u32 0,.int .u32 0,.int .u32 0,.int .u32 0,.int .u32 0,.int .u32 0,.int .u32 0,.int .u32 0,.int .u32 0,.int .u32 0] 280)) w1.heap.size zma false (fun _=>0):=(zf4 _ rfl).alloc _;have l2:Lies ((w1.alloc (.cells #[.bool false,.int .u32 0,.int .u32 0,.int .u32 0,.int .u32 0,.int .u32 0,.int .u32 0,.int .u32 0,.int .u32 0,.int .u32 0,.int .u32 0,.int .u32 0,.int .u32 0,.int .u32 0,.int .u32 0,.int .u32 0,.int .u32 0] 280)).alloc (.cells #[.bool false,.int .u32 0,.int .u32 0,.int .u32 0,.int .u32 0,.int .u32 0,.int .u32 0,.int .u32 0,.int .u32 0,.int .u32 0,.int .u32 0,.int .u32 0,.int .u32 0,.int .u32 0,.int .u32 0,.int .u32 0,.int .u32 0] 280)) (w1.heap.size+1) zma false (fun _=>0):=zf4 _ (by simp);have hb1:Low w.heap.size w ((w1.alloc (.cells #[.bool false,.int .u32 0,.int .u32 0,.int .u32 0,.int .u32 0,.int .u32 0,.int .u32 0,.int .u32 0,.int .u32 0,.int .u32 0,.int .u32 0,.int .u32 0,.int .u32 0,.int .u32 0,.int .u32 0,.int .u32 0,.int .u32 0] 280)).alloc (.cells #[.bool false,.int .u32 0,.int .u32 0,.int .u32 0,.int .u32 0,.int .u32 0,.int .u32 0,.int .u32 0,.int .u32 0,.int .u32 0,.int .u32 0,.int .u32 0,.int .u32 0,.int .u32 0,.int .u32 0,.int .u32 0,.int .u32 0] 280)):=(hb.alloc hb.size _).alloc (by have:=hb.size;simp;omega) _;have hsz:=hb.size)
  |((with_reducible refine zdm (.tmp 5) (.tmp 12) w1.heap.size (by assumption) hn ?_ ?_ ?_ ?_ ?_);rfl;rfl;rfl;rfl;intro w2 ho p1;have p2:=l2.only ho (by omega);have hb2:=zd3 hb1 ho hsz (Nat.le_of_lt (Nat.lt_of_le_of_lt hsz l1.lt)))
  |((with_reducible refine zdm (.tmp 6) (.tmp 13) (w1.heap.size+1) (by assumption) hm ?_ ?_ ?_ ?_ ?_);rfl;rfl;rfl;rfl;intro w3 ho3 q2;have q1:=p1.only ho3 (by omega);have hb3:=zd3 hb2 ho3 (by omega) (Nat.le_of_lt (Nat.lt_of_le_of_lt hsz p1.lt)))
  |((with_reducible refine zf3 (.tmp 5) w1.heap.size (by assumption) ?_ ?_ ?_ ?_);rfl;rfl;rfl)
  |((with_reducible refine zf3 (.tmp 6) (w1.heap.size+1) (by assumption) ?_ ?_ ?_ ?_);rfl;rfl;rfl)
  |(go_at_call 283;(with_reducible refine (HCM.out c d f g _ hn HX.out hm HY.out).mono ?_);rintro e w4 ⟨rfl,hb4⟩;have hb5:=zak hb3 hb4 hb3.size))
 go_ret
 exact ⟨rfl,hb5⟩
def Mid (f:Nat→Nat):Prop:=∀ j,j < 3∨11≤j→j < 16→f j=0
theorem z3m (f:Nat→Nat) (h:Mid f):vN 3 f=0:=by
 simp only [vN,h 0 (by omega) (by omega),h 1 (by omega) (by omega),h 2 (by omega) (by omega)]
 simp
theorem z3n (f:Nat→Nat) (h:Mid f):vN 11 f=wval f:=by
 have:=zt7 f (fun _=>0) 11 16 (by omega) (fun j a b=>h j (by omega) b)
 have e:∀ n,vN n (fun _=>0)=0:=by intro n;induction n with
  | zero=>rfl
  | succ n ih=>simp [vN,ih]
 rw [e,e] at this
 unfold wval;omega
structure znb (f g p:Nat→Nat) (i:Nat):Prop where
 val:wval p*BASE ^ 6=vN i f*wval g
 words:zfl p
 high:∀ j,i+5≤j→j < 16→p j=0
structure zxj (f g p:Nat→Nat) (i j cr:Nat):Prop where
 val:wval p*BASE ^ 6+cr*BASE ^ (i+j)=vN i f*wval g+f i*BASE ^ i*vN j g
 words:zfl p
 high:∀ k,i+5≤k→k < 16→p k=0
 carry:cr < BASE
theorem zxk:wval (fun _=>0)=0:=by
 have e:∀ n,vN n (fun _=>0)=0:=by intro n;induction n with
  | zero=>rfl
  | succ n ih=>simp [vN,ih]
 exact e 16
theorem znb.zero {f g:Nat→Nat} (hf:Mid f):znb f g (fun _=>0) 3:=
 ⟨by rw [z3m f hf,zxk,Nat.zero_mul,Nat.zero_mul],fun _ _=>by decide,fun _ _ _=>rfl⟩
theorem znb.inner {f g p:Nat→Nat} {i:Nat} (H:znb f g p i) (hg:Mid g):zxj f g p i 3 0:=
 ⟨by rw [z3m g hg,H.val,Nat.zero_mul,Nat.mul_zero],H.words,H.high,by decide⟩
theorem zxj.outer {f g p:Nat→Nat} {i cr:Nat} (H:zxj f g p i 11 cr) (hg:Mid g) (hi:i < 11):znb f g (upd p (i+5) cr) (i+1):=by
 refine ⟨?_,H.words.upd H.carry,?_⟩
 ·have hu:=zua p (i+5) cr (by omega)
  rw [H.high (i+5) (by omega) (by omega),Nat.zero_mul,Nat.add_zero] at hu
  have hv:=H.val
  rw [z3n g hg] at hv
  have e6:BASE ^ (i+11)=BASE ^ (i+5)*BASE ^ 6:=by rw [← Nat.pow_add]
  rw [hu,Nat.add_mul,Nat.mul_assoc,← e6,hv]
  simp only [vN,Nat.add_mul]
 ·intro k hk hk2
  rw [zf2 _ _ (by omega)]
  exact H.high k (by omega) hk2
theorem znb.done {f g p:Nat→Nat} (H:znb f g p 11) (hf:Mid f):wval p*10 ^ 54=wval f*wval g:=by
 have:=H.val
 rw [z3n f hf,zp4] at this
 exact this
theorem Lies.drewN {w:World} {g:Nat} {c:Array Value} {n:Bool} {f:Nat→Nat} (h:Lies w g c n f) (k:Nat):Lies (w.drewN k) g c n f:=h
def Tab (w:World):Prop:=Lib.TabIs Tryz.prog w "internal/strconv.uint64pow10" .u64 Lib.pow10Tab
theorem zxl {P:Program} {w w':World} {name:String} {cs:Array Value} (h:w.var? P name=some cs) (k:Below w.heap.size w w'):w'.var? P name=some cs:=by
 unfold World.var? at*
 cases hg:P.globalNamed name with
 | none=>rw [hg] at h;cases h
 | some g=>
   rw [hg] at h
   simp only [Option.bind_some] at h ⊢
   have hlt:g < w.heap.size:=by
    by_cases e:g < w.heap.size
    ·exact e
    ·rw [Array.getElem?_eq_none (by omega)] at h;cases h
   rw [k.block g hlt];exact h
theorem Tab.below {w w':World} (h:Tab w) (k:Below w.heap.size w w'):Tab w':=by
 exact zxl h k
theorem ofIntAt (n:Int) (h0:-9223372036854775808≤n) (h1:n≤9223372036854775807) (w:World) (hT:Tab w) (X:ByteArray) (hX:X=bs (Lib.itoa n)) (hs:X.size≤20):
 Calls Tryz.prog 284 #[.int .i64 n] w fun e w'=>e=.returned (.string (X++⟨#[46,48]⟩))∧Low w.heap.size w w':=by
 have hc:∀ W,Tab W→Calls Tryz.prog 294 #[.int .i64 n,.int .i64 10] W fun e w'=>e=.returned (.string X)∧Low W.heap.size W w':=fun W hW=>by
  refine (Tryz.strconv_FormatInt_10 n h0 h1 W hW).mono ?_
  rintro e w' ⟨rfl,k,os,rfl⟩
  refine ⟨by rw [hX],?_⟩
  exact (zey (Low.refl _ _) k).trans ⟨⟨rfl,rfl,rfl,by simp [Sort.grow],fun i hi=>by simp only [Sort.grow];rw [Array.getElem?_append_left (by exact hi)]⟩,Nat.le_refl _⟩
 have HC:=Lib.hid hc
 clear hc hX
 go_enter Tryz.func284,Tryz.ntmps284
 go_wp2_with (go_at_call 294;(with_reducible refine (HC.out _ hT).mono ?_);rintro e w1 ⟨rfl,hb⟩)
 go_ret
 exact ⟨rfl,hb⟩
end Go.Proofs.YteclpnfckjfibaaGreatDoor
