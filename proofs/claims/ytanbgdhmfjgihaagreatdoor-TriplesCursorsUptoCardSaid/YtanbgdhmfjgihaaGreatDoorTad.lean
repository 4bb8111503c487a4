/- Texts of one kind, one behind the other: each says ahead of itself what it shows. -/
import Derived.Test.YtanbgdhmfjgihaaGreatDoorTac
import Derived.BigGuardPart
import Derived.Laws.StructEq
namespace Go.Proofs.YtanbgdhmfjgihaaGreatDoor
open Go.RowKit
set_option maxHeartbeats 12800000
set_option maxRecDepth 20000
def Gd (w:World):Prop:=∃ m,w.cell? ⟨0,0,none⟩=some (.int .i64 m)
theorem Gd.below {w w':World} (h:Gd w) (k:Below w.heap.size w w'):Gd w':=by
 obtain ⟨m,hm⟩:=h
 exact ⟨m,(k.cell (p:=⟨0,0,none⟩) (World.block_lt_of_cell? w _ hm)).trans hm⟩
theorem Gd.alloc {w:World} (h:Gd w) (o:Obj):Gd (w.alloc o):=h.below ((Below.refl _ _).alloc (Nat.le_refl _) _)
theorem zc4 (r X Y:ByteArray) (b:Bool) (w:World) (hG:Gd w) (hs:r.size < 4294967281) (HX:Hid (X=bs (Lib.cut r.data.toList [46]).1)) (HY:Hid (Y=bs (Lib.cut r.data.toList [46]).2.1)) (HB:Hid (b=(Lib.cut r.data.toList [46]).2.2)):
 Calls Tryz.prog 188 #[.string r,.string ⟨#[46]⟩] w fun e w'=>e=.returned (.tuple #[.string X,.string Y,.bool b])∧Low w.heap.size w w':=by
 obtain ⟨m,hm⟩:=hG
 refine (Tryz.strings_Cut r ⟨#[46]⟩ m w hs hm).mono ?_
 rintro e w' ⟨rfl,n,rfl⟩
 exact ⟨by rw [HX.out,HY.out,HB.out],zbx (Low.refl _ _) n⟩
theorem za3 (s:ByteArray) (d:Bool) (w:World) (hs:s.size≤maxLen) (H:Hid (d=digs s.data.toList)):
 Calls Tryz.prog 189 #[.string s] w fun e w'=>e=.returned (.bool d)∧w=w':=
 (zr4 s w hs).mono fun _ _ ⟨h,k⟩=>⟨by rw [h,H.out],k.symm⟩
theorem zdl (s p:ByteArray) (d:Bool) (w:World) (H:Hid (d=Lib.hasPrefix s.data.toList p.data.toList)):
 Calls Tryz.prog 187 #[.string s,.string p] w fun e w'=>e=.returned (.bool d)∧w=w':=
 (Tryz.strings_HasPrefix s p w).mono fun _ _ ⟨h,k⟩=>⟨by rw [h,H.out],k.symm⟩
theorem ztd (s r X Y:ByteArray) (dX dY b:Bool) (w:World) (hG:Gd w) (hs:s.size < 4294967281) (hX:X.size≤maxLen) (hY:Y.size≤maxLen) (h1:1≤s.size)
 (P1:Hid (true=Lib.hasPrefix s.data.toList (ByteArray.mk #[45]).data.toList)) (hr:r=s.extract 1 s.size)
 (HX:Hid (X=bs (Lib.cut r.data.toList [46]).1)) (HY:Hid (Y=bs (Lib.cut r.data.toList [46]).2.1)) (HB:Hid (b=(Lib.cut r.data.toList [46]).2.2))
 (DX:Hid (dX=digs X.data.toList)) (_:Hid (dY=digs Y.data.toList)) (hok:dX=true∧b=false):
 Calls Tryz.prog 178 #[.string s] w fun e w'=>e=.returned (.tuple #[.bool true,.string X,.string Y,.bool true])∧Low w.heap.size w w':=by
 subst hr
 obtain ⟨rfl,rfl⟩:=hok
 go_enter Tryz.func178,Tryz.ntmps178
 go_wp2_with (first
  |(go_at_call 187;(with_reducible refine (zdl _ _ _ _ P1).mono ?_);rintro e w' ⟨rfl,rfl⟩)
  |(go_at_call 188;(with_reducible refine (zc4 _ X Y _ _ hG ?_ HX HY HB).mono ?_);(simp;omega);rintro e w1 ⟨rfl,hb⟩)
  |(go_at_call 188;(with_reducible refine (zc4 _ X Y _ _ hG hs HX HY HB).mono ?_);rintro e w1 ⟨rfl,hb⟩)
  |(go_at_call 189;(with_reducible refine (za3 X _ _ hX DX).mono ?_);rintro e w' ⟨rfl,rfl⟩)
  |(go_at_call 189;(with_reducible refine (za3 Y _ _ hY DY).mono ?_);rintro e w' ⟨rfl,rfl⟩))
 exact bodyPost_ret (v:=.tuple #[.bool true,.string X,.string Y,.bool true]) (by simp [results,Tryz.results178,go_sem]) rfl ⟨rfl,hb⟩
theorem zte (s r X Y:ByteArray) (dX dY b:Bool) (w:World) (hG:Gd w) (hs:s.size < 4294967281) (hX:X.size≤maxLen) (hY:Y.size≤maxLen) (h1:1≤s.size)
 (P1:Hid (true=Lib.hasPrefix s.data.toList (ByteArray.mk #[45]).data.toList)) (hr:r=s.extract 1 s.size)
 (HX:Hid (X=bs (Lib.cut r.data.toList [46]).1)) (HY:Hid (Y=bs (Lib.cut r.data.toList [46]).2.1)) (HB:Hid (b=(Lib.cut r.data.toList [46]).2.2))
 (DX:Hid (dX=digs X.data.toList)) (DY:Hid (dY=digs Y.data.toList)) (hok:dX=true∧b=true∧dY=true):
 Calls Tryz.prog 178 #[.string s] w fun e w'=>e=.returned (.tuple #[.bool true,.string X,.string Y,.bool true])∧Low w.heap.size w w':=by
 subst hr
 obtain ⟨rfl,rfl,rfl⟩:=hok
 go_enter Tryz.func178,Tryz.ntmps178
 go_wp2_with (first
  |(go_at_call 187;(with_reducible refine (zdl _ _ _ _ P1).mono ?_);rintro e w' ⟨rfl,rfl⟩)
  |(go_at_call 188;(with_reducible refine (zc4 _ X Y _ _ hG ?_ HX HY HB).mono ?_);(simp;omega);rintro e w1 ⟨rfl,hb⟩)
  |(go_at_call 188;(with_reducible refine (zc4 _ X Y _ _ hG hs HX HY HB).mono ?_);rintro e w1 ⟨rfl,hb⟩)
  |(go_at_call 189;(with_reducible refine (za3 X _ _ hX DX).mono ?_);rintro e w' ⟨rfl,rfl⟩)
  |(go_at_call 189;(with_reducible refine (za3 Y _ _ hY DY).mono ?_);rintro e w' ⟨rfl,rfl⟩))
 exact bodyPost_ret (v:=.tuple #[.bool true,.string X,.string Y,.bool true]) (by simp [results,Tryz.results178,go_sem]) rfl ⟨rfl,hb⟩
theorem ztf (s r X Y:ByteArray) (dX dY b:Bool) (w:World) (hG:Gd w) (hs:s.size < 4294967281) (hX:X.size≤maxLen) (hY:Y.size≤maxLen) (h1:1≤s.size)
 (P1:Hid (true=Lib.hasPrefix s.data.toList (ByteArray.mk #[45]).data.toList)) (hr:r=s.extract 1 s.size)
 (HX:Hid (X=bs (Lib.cut r.data.toList [46]).1)) (HY:Hid (Y=bs (Lib.cut r.data.toList [46]).2.1)) (HB:Hid (b=(Lib.cut r.data.toList [46]).2.2))
 (DX:Hid (dX=digs X.data.toList)) (_:Hid (dY=digs Y.data.toList)) (hok:dX=false):
 Calls Tryz.prog 178 #[.string s] w fun e w'=>e=.returned (.tuple #[.bool false,.string ⟨#[]⟩,.string ⟨#[]⟩,.bool false])∧Low w.heap.size w w':=by
 subst hr
 obtain rfl:=hok
 go_enter Tryz.func178,Tryz.ntmps178
 go_wp2_with (first
  |(go_at_call 187;(with_reducible refine (zdl _ _ _ _ P1).mono ?_);rintro e w' ⟨rfl,rfl⟩)
  |(go_at_call 188;(with_reducible refine (zc4 _ X Y _ _ hG ?_ HX HY HB).mono ?_);(simp;omega);rintro e w1 ⟨rfl,hb⟩)
  |(go_at_call 188;(with_reducible refine (zc4 _ X Y _ _ hG hs HX HY HB).mono ?_);rintro e w1 ⟨rfl,hb⟩)
  |(go_at_call 189;(with_reducible refine (za3 X _ _ hX DX).mono ?_);rintro e w' ⟨rfl,rfl⟩)
  |(go_at_call 189;(with_reducible refine (za3 Y _ _ hY DY).mono ?_);rintro e w' ⟨rfl,rfl⟩))
 exact bodyPost_ret (v:=.tuple #[.bool false,.string ⟨#[]⟩,.string ⟨#[]⟩,.bool false]) (by simp [results,Tryz.results178,go_sem]) rfl ⟨rfl,hb⟩
theorem ztg (s r X Y:ByteArray) (dX dY b:Bool) (w:World) (hG:Gd w) (hs:s.size < 4294967281) (hX:X.size≤maxLen) (hY:Y.size≤maxLen) (h1:1≤s.size)
 (P1:Hid (true=Lib.hasPrefix s.data.toList (ByteArray.mk #[45]).data.toList)) (hr:r=s.extract 1 s.size)
 (HX:Hid (X=bs (Lib.cut r.data.toList [46]).1)) (HY:Hid (Y=bs (Lib.cut r.data.toList [46]).2.1)) (HB:Hid (b=(Lib.cut r.data.toList [46]).2.2))
 (DX:Hid (dX=digs X.data.toList)) (DY:Hid (dY=digs Y.data.toList)) (hok:dX=true∧b=true∧dY=false):
 Calls Tryz.prog 178 #[.string s] w fun e w'=>e=.returned (.tuple #[.bool false,.string ⟨#[]⟩,.string ⟨#[]⟩,.bool false])∧Low w.heap.size w w':=by
 subst hr
 obtain ⟨rfl,rfl,rfl⟩:=hok
 go_enter Tryz.func178,Tryz.ntmps178
 go_wp2_with (first
  |(go_at_call 187;(with_reducible refine (zdl _ _ _ _ P1).mono ?_);rintro e w' ⟨rfl,rfl⟩)
  |(go_at_call 188;(with_reducible refine (zc4 _ X Y _ _ hG ?_ HX HY HB).mono ?_);(simp;omega);rintro e w1 ⟨rfl,hb⟩)
  |(go_at_call 188;(with_reducible refine (zc4 _ X Y _ _ hG hs HX HY HB).mono ?_);rintro e w1 ⟨rfl,hb⟩)
  |(go_at_call 189;(with_reducible refine (za3 X _ _ hX DX).mono ?_);rintro e w' ⟨rfl,rfl⟩)
  |(go_at_call 189;(with_reducible refine (za3 Y _ _ hY DY).mono ?_);rintro e w' ⟨rfl,rfl⟩))
 exact bodyPost_ret (v:=.tuple #[.bool false,.string ⟨#[]⟩,.string ⟨#[]⟩,.bool false]) (by simp [results,Tryz.results178,go_sem]) rfl ⟨rfl,hb⟩
theorem zr6 (s r X Y:ByteArray) (dX dY b:Bool) (w:World) (hG:Gd w) (hs:s.size < 4294967281) (hX:X.size≤maxLen) (hY:Y.size≤maxLen) (h1:1≤s.size)
 (P1:Hid (false=Lib.hasPrefix s.data.toList (ByteArray.mk #[45]).data.toList)) (P2:Hid (true=Lib.hasPrefix s.data.toList (ByteArray.mk #[43]).data.toList)) (hr:r=s.extract 1 s.size)
 (HX:Hid (X=bs (Lib.cut r.data.toList [46]).1)) (HY:Hid (Y=bs (Lib.cut r.data.toList [46]).2.1)) (HB:Hid (b=(Lib.cut r.data.toList [46]).2.2))
 (DX:Hid (dX=digs X.data.toList)) (_:Hid (dY=digs Y.data.toList)) (hok:dX=true∧b=false):
 Calls Tryz.prog 178 #[.string s] w fun e w'=>e=.returned (.tuple #[.bool false,.string X,.string Y,.bool true])∧Low w.heap.size w w':=by
 subst hr
 obtain ⟨rfl,rfl⟩:=hok
 go_enter Tryz.func178,Tryz.ntmps178
 go_wp2_with (first
  |(go_at_call 187;(with_reducible refine (zdl _ _ _ _ P1).mono ?_);rintro e w' ⟨rfl,rfl⟩)
  |(go_at_call 187;(with_reducible refine (zdl _ _ _ _ P2).mono ?_);rintro e w' ⟨rfl,rfl⟩)
  |(go_at_call 188;(with_reducible refine (zc4 _ X Y _ _ hG ?_ HX HY HB).mono ?_);(simp;omega);rintro e w1 ⟨rfl,hb⟩)
  |(go_at_call 188;(with_reducible refine (zc4 _ X Y _ _ hG hs HX HY HB).mono ?_);rintro e w1 ⟨rfl,hb⟩)
  |(go_at_call 189;(with_reducible refine (za3 X _ _ hX DX).mono ?_);rintro e w' ⟨rfl,rfl⟩)
  |(go_at_call 189;(with_reducible refine (za3 Y _ _ hY DY).mono ?_);rintro e w' ⟨rfl,rfl⟩))
 exact bodyPost_ret (v:=.tuple #[.bool false,.string X,.string Y,.bool true]) (by simp [results,Tryz.results178,go_sem]) rfl ⟨rfl,hb⟩
theorem zr7 (s r X Y:ByteArray) (dX dY b:Bool) (w:World) (hG:Gd w) (hs:s.size < 4294967281) (hX:X.size≤maxLen) (hY:Y.size≤maxLen) (h1:1≤s.size)
 (P1:Hid (false=Lib.hasPrefix s.data.toList (ByteArray.mk #[45]).data.toList)) (P2:Hid (true=Lib.hasPrefix s.data.toList (ByteArray.mk #[43]).data.toList)) (hr:r=s.extract 1 s.size)
 (HX:Hid (X=bs (Lib.cut r.data.toList [46]).1)) (HY:Hid (Y=bs (Lib.cut r.data.toList [46]).2.1)) (HB:Hid (b=(Lib.cut r.data.toList [46]).2.2))
 (DX:Hid (dX=digs X.data.toList)) (DY:Hid (dY=digs Y.data.toList)) (hok:dX=true∧b=true∧dY=true):
 Calls Tryz.prog 178 #[.string s] w fun e w'=>e=.returned (.tuple #[.bool false,.string X,.string Y,.bool true])∧Low w.heap.size w w':=by
 subst hr
 obtain ⟨rfl,rfl,rfl⟩:=hok
 go_enter Tryz.func178,Tryz.ntmps178
 go_wp2_with (first
  |(go_at_call 187;(with_reducible refine (zdl _ _ _ _ P1).mono ?_);rintro e w' ⟨rfl,rfl⟩)
  |(go_at_call 187;(with_reducible refine (zdl _ _ _ _ P2).mono ?_);rintro e w' ⟨rfl,rfl⟩)
  |(go_at_call 188;(with_reducible refine (zc4 _ X Y _ _ hG ?_ HX HY HB).mono ?_);(simp;omega);rintro e w1 ⟨rfl,hb⟩)
  |(go_at_call 188;(with_reducible refine (zc4 _ X Y _ _ hG hs HX HY HB).mono ?_);rintro e w1 ⟨rfl,hb⟩)
  |(go_at_call 189;(with_reducible refine (za3 X _ _ hX DX).mono ?_);rintro e w' ⟨rfl,rfl⟩)
  |(go_at_call 189;(with_reducible refine (za3 Y _ _ hY DY).mono ?_);rintro e w' ⟨rfl,rfl⟩))
 exact bodyPost_ret (v:=.tuple #[.bool false,.string X,.string Y,.bool true]) (by simp [results,Tryz.results178,go_sem]) rfl ⟨rfl,hb⟩
theorem zr8 (s r X Y:ByteArray) (dX dY b:Bool) (w:World) (hG:Gd w) (hs:s.size < 4294967281) (hX:X.size≤maxLen) (hY:Y.size≤maxLen) (h1:1≤s.size)
 (P1:Hid (false=Lib.hasPrefix s.data.toList (ByteArray.mk #[45]).data.toList)) (P2:Hid (true=Lib.hasPrefix s.data.toList (ByteArray.mk #[43]).data.toList)) (hr:r=s.extract 1 s.size)
 (HX:Hid (X=bs (Lib.cut r.data.toList [46]).1)) (HY:Hid (Y=bs (Lib.cut r.data.toList [46]).2.1)) (HB:Hid (b=(Lib.cut r.data.toList [46]).2.2))
 (DX:Hid (dX=digs X.data.toList)) (_:Hid (dY=digs Y.data.toList)) (hok:dX=false):
 Calls Tryz.prog 178 #[.string s] w fun e w'=>e=.returned (.tuple #[.bool false,.string ⟨#[]⟩,.string ⟨#[]⟩,.bool false])∧Low w.heap.size w w':=by
 subst hr
 obtain rfl:=hok
 go_enter Tryz.func178,Tryz.ntmps178
 go_wp2_with (first
  |(go_at_call 187;(with_reducible refine (zdl _ _ _ _ P1).mono ?_);rintro e w' ⟨rfl,rfl⟩)
  |(go_at_call 187;(with_reducible refine (zdl _ _ _ _ P2).mono ?_);rintro e w' ⟨rfl,rfl⟩)
  |(go_at_call 188;(with_reducible refine (zc4 _ X Y _ _ hG ?_ HX HY HB).mono ?_);(simp;omega);rintro e w1 ⟨rfl,hb⟩)
  |(go_at_call 188;(with_reducible refine (zc4 _ X Y _ _ hG hs HX HY HB).mono ?_);rintro e w1 ⟨rfl,hb⟩)
  |(go_at_call 189;(with_reducible refine (za3 X _ _ hX DX).mono ?_);rintro e w' ⟨rfl,rfl⟩)
  |(go_at_call 189;(with_reducible refine (za3 Y _ _ hY DY).mono ?_);rintro e w' ⟨rfl,rfl⟩))
 exact bodyPost_ret (v:=.tuple #[.bool false,.string ⟨#[]⟩,.string ⟨#[]⟩,.bool false]) (by simp [results,Tryz.results178,go_sem]) rfl ⟨rfl,hb⟩
theorem zr9 (s r X Y:ByteArray) (dX dY b:Bool) (w:World) (hG:Gd w) (hs:s.size < 4294967281) (hX:X.size≤maxLen) (hY:Y.size≤maxLen) (h1:1≤s.size)
 (P1:Hid (false=Lib.hasPrefix s.data.toList (ByteArray.mk #[45]).data.toList)) (P2:Hid (true=Lib.hasPrefix s.data.toList (ByteArray.mk #[43]).data.toList)) (hr:r=s.extract 1 s.size)
 (HX:Hid (X=bs (Lib.cut r.data.toList [46]).1)) (HY:Hid (Y=bs (Lib.cut r.data.toList [46]).2.1)) (HB:Hid (b=(Lib.cut r.data.toList [46]).2.2))
 (DX:Hid (dX=digs X.data.toList)) (DY:Hid (dY=digs Y.data.toList)) (hok:dX=true∧b=true∧dY=false):
 Calls Tryz.prog 178 #[.string s] w fun e w'=>e=.returned (.tuple #[.bool false,.string ⟨#[]⟩,.string ⟨#[]⟩,.bool false])∧Low w.heap.size w w':=by
 subst hr
 obtain ⟨rfl,rfl,rfl⟩:=hok
 go_enter Tryz.func178,Tryz.ntmps178
 go_wp2_with (first
  |(go_at_call 187;(with_reducible refine (zdl _ _ _ _ P1).mono ?_);rintro e w' ⟨rfl,rfl⟩)
  |(go_at_call 187;(with_reducible refine (zdl _ _ _ _ P2).mono ?_);rintro e w' ⟨rfl,rfl⟩)
  |(go_at_call 188;(with_reducible refine (zc4 _ X Y _ _ hG ?_ HX HY HB).mono ?_);(simp;omega);rintro e w1 ⟨rfl,hb⟩)
  |(go_at_call 188;(with_reducible refine (zc4 _ X Y _ _ hG hs HX HY HB).mono ?_);rintro e w1 ⟨rfl,hb⟩)
  |(go_at_call 189;(with_reducible refine (za3 X _ _ hX DX).mono ?_);rintro e w' ⟨rfl,rfl⟩)
  |(go_at_call 189;(with_reducible refine (za3 Y _ _ hY DY).mono ?_);rintro e w' ⟨rfl,rfl⟩))
 exact bodyPost_ret (v:=.tuple #[.bool false,.string ⟨#[]⟩,.string ⟨#[]⟩,.bool false]) (by simp [results,Tryz.results178,go_sem]) rfl ⟨rfl,hb⟩
theorem zlo (s r X Y:ByteArray) (dX dY b:Bool) (w:World) (hG:Gd w) (hs:s.size < 4294967281) (hX:X.size≤maxLen) (hY:Y.size≤maxLen)
 (P1:Hid (false=Lib.hasPrefix s.data.toList (ByteArray.mk #[45]).data.toList)) (P2:Hid (false=Lib.hasPrefix s.data.toList (ByteArray.mk #[43]).data.toList)) (hr:r=s)
 (HX:Hid (X=bs (Lib.cut r.data.toList [46]).1)) (HY:Hid (Y=bs (Lib.cut r.data.toList [46]).2.1)) (HB:Hid (b=(Lib.cut r.data.toList [46]).2.2))
 (DX:Hid (dX=digs X.data.toList)) (_:Hid (dY=digs Y.data.toList)) (hok:dX=true∧b=false):
 Calls Tryz.prog 178 #[.string s] w fun e w'=>e=.returned (.tuple #[.bool false,.string X,.string Y,.bool true])∧Low w.heap.size w w':=by
 subst hr
 obtain ⟨rfl,rfl⟩:=hok
 go_enter Tryz.func178,Tryz.ntmps178
 go_wp2_with (first
  |(go_at_call 187;(with_reducible refine (zdl _ _ _ _ P1).mono ?_);rintro e w' ⟨rfl,rfl⟩)
  |(go_at_call 187;(with_reducible refine (zdl _ _ _ _ P2).mono ?_);rintro e w' ⟨rfl,rfl⟩)
  |(go_at_call 188;(with_reducible refine (zc4 _ X Y _ _ hG ?_ HX HY HB).mono ?_);(simp;omega);rintro e w1 ⟨rfl,hb⟩)
  |(go_at_call 188;(with_reducible refine (zc4 _ X Y _ _ hG hs HX HY HB).mono ?_);rintro e w1 ⟨rfl,hb⟩)
  |(go_at_call 189;(with_reducible refine (za3 X _ _ hX DX).mono ?_);rintro e w' ⟨rfl,rfl⟩)
  |(go_at_call 189;(with_reducible refine (za3 Y _ _ hY DY).mono ?_);rintro e w' ⟨rfl,rfl⟩))
 exact bodyPost_ret (v:=.tuple #[.bool false,.string X,.string Y,.bool true]) (by simp [results,Tryz.results178,go_sem]) rfl ⟨rfl,hb⟩
theorem zlp (s r X Y:ByteArray) (dX dY b:Bool) (w:World) (hG:Gd w) (hs:s.size < 4294967281) (hX:X.size≤maxLen) (hY:Y.size≤maxLen)
 (P1:Hid (false=Lib.hasPrefix s.data.toList (ByteArray.mk #[45]).data.toList)) (P2:Hid (false=Lib.hasPrefix s.data.toList (ByteArray.mk #[43]).data.toList)) (hr:r=s)
 (HX:Hid (X=bs (Lib.cut r.data.toList [46]).1)) (HY:Hid (Y=bs (Lib.cut r.data.toList [46]).2.1)) (HB:Hid (b=(Lib.cut r.data.toList [46]).2.2))
 (DX:Hid (dX=digs X.data.toList)) (DY:Hid (dY=digs Y.data.toList)) (hok:dX=true∧b=true∧dY=true):
 Calls Tryz.prog 178 #[.string s] w fun e w'=>e=.returned (.tuple #[.bool false,.string X,.string Y,.bool true])∧Low w.heap.size w w':=by
 subst hr
 obtain ⟨rfl,rfl,rfl⟩:=hok
 go_enter Tryz.func178,Tryz.ntmps178
 go_wp2_with (first
  |(go_at_call 187;(with_reducible refine (zdl _ _ _ _ P1).mono ?_);rintro e w' ⟨rfl,rfl⟩)
  |(go_at_call 187;(with_reducible refine (zdl _ _ _ _ P2).mono ?_);rintro e w' ⟨rfl,rfl⟩)
  |(go_at_call 188;(with_reducible refine (zc4 _ X Y _ _ hG ?_ HX HY HB).mono ?_);(simp;omega);rintro e w1 ⟨rfl,hb⟩)
  |(go_at_call 188;(with_reducible refine (zc4 _ X Y _ _ hG hs HX HY HB).mono ?_);rintro e w1 ⟨rfl,hb⟩)
  |(go_at_call 189;(with_reducible refine (za3 X _ _ hX DX).mono ?_);rintro e w' ⟨rfl,rfl⟩)
  |(go_at_call 189;(with_reducible refine (za3 Y _ _ hY DY).mono ?_);rintro e w' ⟨rfl,rfl⟩))
 exact bodyPost_ret (v:=.tuple #[.bool false,.string X,.string Y,.bool true]) (by simp [results,Tryz.results178,go_sem]) rfl ⟨rfl,hb⟩
theorem zlq (s r X Y:ByteArray) (dX dY b:Bool) (w:World) (hG:Gd w) (hs:s.size < 4294967281) (hX:X.size≤maxLen) (hY:Y.size≤maxLen)
 (P1:Hid (false=Lib.hasPrefix s.data.toList (ByteArray.mk #[45]).data.toList)) (P2:Hid (false=Lib.hasPrefix s.data.toList (ByteArray.mk #[43]).data.toList)) (hr:r=s)
 (HX:Hid (X=bs (Lib.cut r.data.toList [46]).1)) (HY:Hid (Y=bs (Lib.cut r.data.toList [46]).2.1)) (HB:Hid (b=(Lib.cut r.data.toList [46]).2.2))
 (DX:Hid (dX=digs X.data.toList)) (_:Hid (dY=digs Y.data.toList)) (hok:dX=false):
 Calls Tryz.prog 178 #[.string s] w fun e w'=>e=.returned (.tuple #[.bool false,.string ⟨#[]⟩,.string ⟨#[]⟩,.bool false])∧Low w.heap.size w w':=by
 subst hr
 obtain rfl:=hok
 go_enter Tryz.func178,Tryz.ntmps178
 go_wp2_with (first
  |(go_at_call 187;(with_reducible refine (zdl _ _ _ _ P1).mono ?_);rintro e w' ⟨rfl,rfl⟩)
  |(go_at_call 187;(with_reducible refine (zdl _ _ _ _ P2).mono ?_);rintro e w' ⟨rfl,rfl⟩)
  |(go_at_call 188;(with_reducible refine (zc4 _ X Y _ _ hG ?_ HX HY HB).mono ?_);(simp;omega);rintro e w1 ⟨rfl,hb⟩)
  |(go_at_call 188;(with_reducible refine (zc4 _ X Y _ _ hG hs HX HY HB).mono ?_);rintro e w1 ⟨rfl,hb⟩)
  |(go_at_call 189;(with_reducible refine (za3 X _ _ hX DX).mono ?_);rintro e w' ⟨rfl,rfl⟩)
  |(go_at_call 189;(with_reducible refine (za3 Y _ _ hY DY).mono ?_);rintro e w' ⟨rfl,rfl⟩))
 exact bodyPost_ret (v:=.tuple #[.bool false,.string ⟨#[]⟩,.string ⟨#[]⟩,.bool false]) (by simp [results,Tryz.results178,go_sem]) rfl ⟨rfl,hb⟩
theorem zlr (s r X Y:ByteArray) (dX dY b:Bool) (w:World) (hG:Gd w) (hs:s.size < 4294967281) (hX:X.size≤maxLen) (hY:Y.size≤maxLen)
 (P1:Hid (false=Lib.hasPrefix s.data.toList (ByteArray.mk #[45]).data.toList)) (P2:Hid (false=Lib.hasPrefix s.data.toList (ByteArray.mk #[43]).data.toList)) (hr:r=s)
 (HX:Hid (X=bs (Lib.cut r.data.toList [46]).1)) (HY:Hid (Y=bs (Lib.cut r.data.toList [46]).2.1)) (HB:Hid (b=(Lib.cut r.data.toList [46]).2.2))
 (DX:Hid (dX=digs X.data.toList)) (DY:Hid (dY=digs Y.data.toList)) (hok:dX=true∧b=true∧dY=false):
 Calls Tryz.prog 178 #[.string s] w fun e w'=>e=.returned (.tuple #[.bool false,.string ⟨#[]⟩,.string ⟨#[]⟩,.bool false])∧Low w.heap.size w w':=by
 subst hr
 obtain ⟨rfl,rfl,rfl⟩:=hok
 go_enter Tryz.func178,Tryz.ntmps178
 go_wp2_with (first
  |(go_at_call 187;(with_reducible refine (zdl _ _ _ _ P1).mono ?_);rintro e w' ⟨rfl,rfl⟩)
  |(go_at_call 187;(with_reducible refine (zdl _ _ _ _ P2).mono ?_);rintro e w' ⟨rfl,rfl⟩)
  |(go_at_call 188;(with_reducible refine (zc4 _ X Y _ _ hG ?_ HX HY HB).mono ?_);(simp;omega);rintro e w1 ⟨rfl,hb⟩)
  |(go_at_call 188;(with_reducible refine (zc4 _ X Y _ _ hG hs HX HY HB).mono ?_);rintro e w1 ⟨rfl,hb⟩)
  |(go_at_call 189;(with_reducible refine (za3 X _ _ hX DX).mono ?_);rintro e w' ⟨rfl,rfl⟩)
  |(go_at_call 189;(with_reducible refine (za3 Y _ _ hY DY).mono ?_);rintro e w' ⟨rfl,rfl⟩))
 exact bodyPost_ret (v:=.tuple #[.bool false,.string ⟨#[]⟩,.string ⟨#[]⟩,.bool false]) (by simp [results,Tryz.results178,go_sem]) rfl ⟨rfl,hb⟩
def zxu:Option (Bool × List UInt8 × List UInt8)→Value
 | none=>.tuple #[.bool false,.string ⟨#[]⟩,.string ⟨#[]⟩,.bool false]
 | some (n,a,b)=>.tuple #[.bool n,.string (bs a),.string (bs b),.bool true]
theorem zth (l:List UInt8):(Lib.cut l [46]).1.length≤l.length∧(Lib.cut l [46]).2.1.length≤l.length:=by
 unfold Lib.cut
 split
 ·exact ⟨by simp;omega,by simp⟩
 ·exact ⟨Nat.le_refl _,by simp⟩
theorem zmo (l:List UInt8):(sgn l).2.length≤l.length:=by
 cases l with
 | nil=>simp [sgn]
 | cons c r=>
   by_cases h:c=45
   ·simp [sgn,h]
   ·by_cases h':c=43
    ·simp [sgn,h']
    ·simp [sgn,h,h']
theorem zpk (s:ByteArray) (w:World) (hG:Gd w) (hs:s.size < 4294967281):
 Calls Tryz.prog 178 #[.string s] w fun e w'=>e=.returned (zxu (zcg s.data.toList))∧Low w.heap.size w w':=by
 obtain ⟨l,hl⟩:∃ l,l=s.data.toList:=⟨_,rfl⟩
 have hsl:l.length=s.size:=by rw [hl];simp
 have hs':s=bs l:=zbs (by rw [← hl])
 obtain ⟨r,hr⟩:∃ r,r=(sgn l).2:=⟨_,rfl⟩
 have hrl:r.length≤l.length:=by rw [hr];exact zmo l
 have hcl:=zth r
 obtain ⟨a,ha⟩:∃ a,a=(Lib.cut r [46]).1:=⟨_,rfl⟩
 obtain ⟨y,hy⟩:∃ y,y=(Lib.cut r [46]).2.1:=⟨_,rfl⟩
 obtain ⟨b,hb⟩:∃ b,b=(Lib.cut r [46]).2.2:=⟨_,rfl⟩
 rw [← ha,← hy] at hcl
 have hX:(bs a).size≤maxLen:=by unfold maxLen;simp [ByteArray.size];omega
 have hY:(bs y).size≤maxLen:=by unfold maxLen;simp [ByteArray.size];omega
 have HX:∀ R:ByteArray,R.data.toList=r→Hid (bs a=bs (Lib.cut R.data.toList [46]).1):=fun R h=>Lib.hid (by rw [h,ha])
 have HY:∀ R:ByteArray,R.data.toList=r→Hid (bs y=bs (Lib.cut R.data.toList [46]).2.1):=fun R h=>Lib.hid (by rw [h,hy])
 have HB:∀ R:ByteArray,R.data.toList=r→Hid (b=(Lib.cut R.data.toList [46]).2.2):=fun R h=>Lib.hid (by rw [h,hb])
 have DX:Hid (digs a=digs (bs a).data.toList):=Lib.hid rfl
 have DY:Hid (digs y=digs (bs y).data.toList):=Lib.hid rfl
 have hspec:zcg s.data.toList=if digs a && (!b || digs y) then some ((sgn l).1,a,y) else none:=by
  unfold zcg
  simp only [← hl,← hr,← ha,← hy,← hb]
 rw [hspec]
 clear hspec
 have key:∀ n:Bool,(sgn l).1=n→
  (digs a=true∧b=false→Calls Tryz.prog 178 #[.string s] w fun e w'=>e=.returned (.tuple #[.bool n,.string (bs a),.string (bs y),.bool true])∧Low w.heap.size w w')→
  (digs a=true∧b=true∧digs y=true→Calls Tryz.prog 178 #[.string s] w fun e w'=>e=.returned (.tuple #[.bool n,.string (bs a),.string (bs y),.bool true])∧Low w.heap.size w w')→
  (digs a=false→Calls Tryz.prog 178 #[.string s] w fun e w'=>e=.returned (.tuple #[.bool false,.string ⟨#[]⟩,.string ⟨#[]⟩,.bool false])∧Low w.heap.size w w')→
  (digs a=true∧b=true∧digs y=false→Calls Tryz.prog 178 #[.string s] w fun e w'=>e=.returned (.tuple #[.bool false,.string ⟨#[]⟩,.string ⟨#[]⟩,.bool false])∧Low w.heap.size w w')→
  Calls Tryz.prog 178 #[.string s] w fun e w'=>e=.returned (zxu (if digs a && (!b || digs y) then some ((sgn l).1,a,y) else none))∧Low w.heap.size w w':=by
  intro n hn kA kB kC kD
  rw [hn]
  cases h1:digs a
  ·exact kC h1
  ·cases h2:b
   ·exact kA ⟨h1,h2⟩
   ·cases h3:digs y
    ·exact kD ⟨h1,h2,h3⟩
    ·exact kB ⟨h1,h2,h3⟩
 have hex:∀ c t,l=c::t→(s.extract 1 s.size).data.toList=t:=by
  intro c t e
  rw [Lib.extract_to_end,← hl,e]
  rfl
 cases l with
 | nil=>
   have e1:(sgn [])=(false,[]):=rfl
   rw [e1] at hr
   have hrr:s.data.toList=r:=by rw [hr,← hl]
   have P1:Hid (false=Lib.hasPrefix s.data.toList (ByteArray.mk #[45]).data.toList):=Lib.hid (by rw [← hl];rfl)
   have P2:Hid (false=Lib.hasPrefix s.data.toList (ByteArray.mk #[43]).data.toList):=Lib.hid (by rw [← hl];rfl)
   refine key false rfl ?_ ?_ ?_ ?_
   ·exact zlo s s _ _ _ _ _ w hG hs hX hY P1 P2 rfl (HX _ hrr) (HY _ hrr) (HB _ hrr) DX DY
   ·exact zlp s s _ _ _ _ _ w hG hs hX hY P1 P2 rfl (HX _ hrr) (HY _ hrr) (HB _ hrr) DX DY
   ·exact zlq s s _ _ _ _ _ w hG hs hX hY P1 P2 rfl (HX _ hrr) (HY _ hrr) (HB _ hrr) DX DY
   ·exact zlr s s _ _ _ _ _ w hG hs hX hY P1 P2 rfl (HX _ hrr) (HY _ hrr) (HB _ hrr) DX DY
 | cons c t=>
   have hsz:1≤s.size:=by rw [← hsl];simp
   by_cases h45:c=45
   ·subst h45
    have e1:sgn (45::t)=(true,t):=by simp [sgn]
    have hrr:(s.extract 1 s.size).data.toList=r:=by rw [hr,e1];exact hex _ _ rfl
    have P1:Hid (true=Lib.hasPrefix s.data.toList (ByteArray.mk #[45]).data.toList):=Lib.hid (by rw [← hl];simp [Lib.hasPrefix])
    refine key true (by rw [e1]) ?_ ?_ ?_ ?_
    ·exact ztd s _ _ _ _ _ _ w hG hs hX hY hsz P1 rfl (HX _ hrr) (HY _ hrr) (HB _ hrr) DX DY
    ·exact zte s _ _ _ _ _ _ w hG hs hX hY hsz P1 rfl (HX _ hrr) (HY _ hrr) (HB _ hrr) DX DY
    ·exact ztf s _ _ _ _ _ _ w hG hs hX hY hsz P1 rfl (HX _ hrr) (HY _ hrr) (HB _ hrr) DX DY
    ·exact ztg s _ _ _ _ _ _ w hG hs hX hY hsz P1 rfl (HX _ hrr) (HY _ hrr) (HB _ hrr) DX DY
   ·have P1:Hid (false=Lib.hasPrefix s.data.toList (ByteArray.mk #[45]).data.toList):=Lib.hid (by rw [← hl];simp [Lib.hasPrefix,List.isPrefixOf,beq_eq_false_iff_ne.2 (fun e:(45:UInt8)=c=>h45 e.symm)])
    by_cases h43:c=43
    ·subst h43
     have e1:sgn (43::t)=(false,t):=by simp [sgn]
     have hrr:(s.extract 1 s.size).data.toList=r:=by rw [hr,e1];exact hex _ _ rfl
     have P2:Hid (true=Lib.hasPrefix s.data.toList (ByteArray.mk #[43]).data.toList):=Lib.hid (by rw [← hl];simp [Lib.hasPrefix])
     refine key false (by rw [e1]) ?_ ?_ ?_ ?_
     ·exact zr6 s _ _ _ _ _ _ w hG hs hX hY hsz P1 P2 rfl (HX _ hrr) (HY _ hrr) (HB _ hrr) DX DY
     ·exact zr7 s _ _ _ _ _ _ w hG hs hX hY hsz P1 P2 rfl (HX _ hrr) (HY _ hrr) (HB _ hrr) DX DY
     ·exact zr8 s _ _ _ _ _ _ w hG hs hX hY hsz P1 P2 rfl (HX _ hrr) (HY _ hrr) (HB _ hrr) DX DY
     ·exact zr9 s _ _ _ _ _ _ w hG hs hX hY hsz P1 P2 rfl (HX _ hrr) (HY _ hrr) (HB _ hrr) DX DY
    ·have e1:sgn (c::t)=(false,c::t):=by simp [sgn,h45,h43]
     have hrr:s.data.toList=r:=by rw [hr,e1,← hl]
     have P2:Hid (false=Lib.hasPrefix s.data.toList (ByteArray.mk #[43]).data.toList):=Lib.hid (by rw [← hl];simp [Lib.hasPrefix,List.isPrefixOf,beq_eq_false_iff_ne.2 (fun e:(43:UInt8)=c=>h43 e.symm)])
     refine key false (by rw [e1]) ?_ ?_ ?_ ?_
     ·exact zlo s s _ _ _ _ _ w hG hs hX hY P1 P2 rfl (HX _ hrr) (HY _ hrr) (HB _ hrr) DX DY
     ·exact zlp s s _ _ _ _ _ w hG hs hX hY P1 P2 rfl (HX _ hrr) (HY _ hrr) (HB _ hrr) DX DY
     ·exact zlq s s _ _ _ _ _ w hG hs hX hY P1 P2 rfl (HX _ hrr) (HY _ hrr) (HB _ hrr) DX DY
     ·exact zlr s s _ _ _ _ _ w hG hs hX hY P1 P2 rfl (HX _ hrr) (HY _ hrr) (HB _ hrr) DX DY
def zv3:Option (Option (List UInt8))→Value
 | none=>.tuple #[.string ⟨#[]⟩,.int .i64 6]
 | some r=>said r
theorem zv4 (s:ByteArray) (w:World) (hG:Gd w) (hs:s.size < 4294967281) (h:zcg s.data.toList=none):
 Calls Tryz.prog 154 #[.string s] w fun e w'=>e=.returned (.tuple #[.string ⟨#[]⟩,.int .i64 6])∧Low w.heap.size w w':=by
 have hc:∀ W,Gd W→Calls Tryz.prog 178 #[.string s] W fun e w'=>e=.returned (.tuple #[.bool false,.string ⟨#[]⟩,.string ⟨#[]⟩,.bool false])∧Low W.heap.size W w':=fun W hW=>by
  have:=zpk s W hW hs
  rwa [h] at this
 have HC:=Lib.hid hc
 clear hc
 go_enter Tryz.func154,Tryz.ntmps154
 go_wp2_with (go_at_call 178;(with_reducible refine (HC.out _ hG).mono ?_);rintro e w1 ⟨rfl,hb⟩)
 go_ret2
 exact ⟨rfl,hb⟩
theorem zv5 (s:ByteArray) (w:World) (hG:Gd w) (hs:s.size < 4294967281) (n:Bool) (a b:List UInt8) (h:zcg s.data.toList=some (n,a,b)) (hA:(bs a).size≤maxLen) (hB:(bs b).size≤maxLen) (t:ByteArray) (k:Int)
 (hv:said (wr n a b)=.tuple #[.string t,.int .i64 k]):
 Calls Tryz.prog 154 #[.string s] w fun e w'=>e=.returned (.tuple #[.string t,.int .i64 k])∧Low w.heap.size w w':=by
 obtain ⟨A,hA'⟩:∃ A,A=bs a:=⟨_,rfl⟩
 obtain ⟨B,hB'⟩:∃ B,B=bs b:=⟨_,rfl⟩
 have hc:∀ W,Gd W→Calls Tryz.prog 178 #[.string s] W fun e w'=>e=.returned (.tuple #[.bool n,.string A,.string B,.bool true])∧Low W.heap.size W w':=fun W hW=>by
  have:=zpk s W hW hs
  rw [h] at this
  rw [hA',hB']
  exact this
 have hw:∀ W,Calls Tryz.prog 179 #[.bool n,.string A,.string B] W fun e w'=>e=.returned (.tuple #[.string t,.int .i64 k])∧W=w':=fun W=>by
  have:=writeAt n A B W (by rw [hA'];exact hA) (by rw [hB'];exact hB)
  rw [hA',hB'] at this
  rw [show said (wr n (bs a).data.toList (bs b).data.toList)=.tuple #[.string t,.int .i64 k] from hv] at this
  rw [hA',hB']
  exact this
 have HC:=Lib.hid hc
 have HW:=Lib.hid hw
 clear hc hw hv h hA' hB'
 go_enter Tryz.func154,Tryz.ntmps154
 go_wp2_with (first
  |(go_at_call 178;(with_reducible refine (HC.out _ hG).mono ?_);rintro e w1 ⟨rfl,hb⟩)
  |(go_at_call 179;(with_reducible refine (HW.out _).mono ?_);rintro e w' ⟨rfl,rfl⟩))
 go_ret2
 exact ⟨rfl,hb⟩
theorem zkc (r:Option (List UInt8)):∃ (t:ByteArray) (k:Int),said r=.tuple #[.string t,.int .i64 k]:=by
 cases r with
 | none=>exact ⟨_,_,rfl⟩
 | some t=>exact ⟨_,_,rfl⟩
theorem readAt (s:ByteArray) (w:World) (hG:Gd w) (hs:s.size < 4294967281):
 Calls Tryz.prog 154 #[.string s] w fun e w'=>e=.returned (zv3 (zhk s.data.toList))∧Low w.heap.size w w':=by
 unfold zhk
 cases h:zcg s.data.toList with
 | none=>exact zv4 s w hG hs h
 | some x=>
   obtain ⟨n,a,b⟩:=x
   have h':=h
   unfold zcg at h'
   have hl:s.data.toList.length=s.size:=by simp
   have h1:=zmo s.data.toList
   have h2:=zth (sgn s.data.toList).2
   simp only at h'
   split at h'
   ·simp only [Option.some.injEq,Prod.mk.injEq] at h'
    obtain ⟨_,rfl,rfl⟩:=h'
    obtain ⟨t,k,hv⟩:=zkc (wr n (Lib.cut (sgn s.data.toList).2 [46]).1 (Lib.cut (sgn s.data.toList).2 [46]).2.1)
    have:=zv5 s w hG hs _ _ _ h (by unfold maxLen;simp [ByteArray.size];omega) (by unfold maxLen;simp [ByteArray.size];omega) t k hv
    simp only [Option.map_some,zv3]
    rw [hv]
    exact this
   ·cases h'
theorem zls (r:Option (Option (List UInt8))):∃ (t:ByteArray) (k:Int),zv3 r=.tuple #[.string t,.int .i64 k]∧(k=0↔∃ l,r=some (some l))∧∀ l,r=some (some l)→t=bs l:=by
 match r with
 | none=>exact ⟨_,_,rfl,⟨fun h=>(by cases h),fun ⟨l,h⟩=>(by cases h)⟩,fun l h=>(by cases h)⟩
 | some none=>exact ⟨_,_,rfl,⟨fun h=>(by cases h),fun ⟨l,h⟩=>(by cases h)⟩,fun l h=>(by cases h)⟩
 | some (some t)=>exact ⟨_,_,rfl,⟨fun _=>⟨t,rfl⟩,fun _=>rfl⟩,fun l h=>by cases h;rfl⟩
theorem zmp (s:ByteArray) (w:World) (hG:Gd w) (hs:s.size < 4294967281):
 Calls Tryz.prog 108 #[.string s] w fun e w'=>e=.returned (.bool (chk s.data.toList))∧Low w.heap.size w w':=by
 obtain ⟨t,k,hv,hk,ht⟩:=zls (zhk s.data.toList)
 have hc:∀ W,Gd W→Calls Tryz.prog 154 #[.string s] W fun e w'=>e=.returned (.tuple #[.string t,.int .i64 k])∧Low W.heap.size W w':=fun W hW=>by
  have:=readAt s W hW hs
  rwa [hv] at this
 have HC:=Lib.hid hc
 clear hc hv
 by_cases h:chk s.data.toList=true
 ·have hr:zhk s.data.toList=some (some s.data.toList):=by simpa [chk] using h
  obtain rfl:k=0:=hk.2 ⟨_,hr⟩
  obtain rfl:t=s:=by rw [ht _ hr]
  rw [h]
  have HH:=Lib.hid h
  clear h hr hk ht
  go_enter Tryz.func108,Tryz.ntmps108
  go_wp2_with (go_at_call 154;(with_reducible refine (HC.out _ hG).mono ?_);rintro e w1 ⟨rfl,hb⟩)
  go_ret
  exact ⟨rfl,hb⟩
 ·have hf:chk s.data.toList=false:=by simpa using h
  rw [hf]
  by_cases h0:k=0
  ·subst h0
   obtain ⟨l,hl⟩:=hk.1 rfl
   have hne:¬ t=s:=by
    rw [ht _ hl]
    intro e
    apply h
    unfold chk
    rw [hl,← e]
    simp
   have e2:(t.toList == s.toList)=false:=beq_eq_false_iff_ne.2 (fun e=>hne (zbs (by rw [← ByteArray.toList_eq,← ByteArray.toList_eq];exact e)))
   clear h hf hk ht hl hne
   go_enter Tryz.func108,Tryz.ntmps108
   go_wp2_with (go_at_call 154;(with_reducible refine (HC.out _ hG).mono ?_);rintro e w1 ⟨rfl,hb⟩)
   go_ret
   exact ⟨rfl,hb⟩
  ·have e0:(k == 0)=false:=by simpa using h0
   clear h hf hk ht
   go_enter Tryz.func108,Tryz.ntmps108
   go_wp2_with (go_at_call 154;(with_reducible refine (HC.out _ hG).mono ?_);rintro e w1 ⟨rfl,hb⟩)
   go_ret
   exact ⟨rfl,hb⟩
end Go.Proofs.YtanbgdhmfjgihaaGreatDoor
