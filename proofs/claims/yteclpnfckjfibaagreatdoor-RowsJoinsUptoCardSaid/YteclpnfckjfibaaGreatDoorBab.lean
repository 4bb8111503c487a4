/- Texts of one kind, one behind the other: each says ahead of itself what it shows. -/
import Derived.Test.YteclpnfckjfibaaGreatDoorBaa
import Derived.Deep.RegionWith
import Derived.BigGuardPart
import Derived.Laws.StructEq
import Derived.Deep.RegionHeld3
import Derived.Deep.WholeRow
import Derived.Laws.IdiomStrings
/- S2 -/
namespace Go.Proofs.YteclpnfckjfibaaGreatDoor
open Go.RowKit
abbrev bs (l:List UInt8):ByteArray:=⟨l.toArray⟩
theorem trimL (s A:ByteArray) (H:Hid (A=bs (Lib.trimLeftB s.data.toList 48))) (w:World):
 Calls Tryz.prog 252 #[.string s,.string ⟨#[48]⟩] w fun e w'=>e=.returned (.string A)∧w=w':=
 (Tryz.strings_TrimLeft_one s 48 (by decide) w).mono fun _ _ ⟨h,k⟩=>⟨by rw [h,H.out],k.symm⟩
theorem trimR (s A:ByteArray) (H:Hid (A=bs (Lib.trimRightB s.data.toList 48))) (w:World) (hs:s.size≤maxLen):
 Calls Tryz.prog 253 #[.string s,.string ⟨#[48]⟩] w fun e w'=>e=.returned (.string A)∧w=w':=
 (Tryz.strings_TrimRight_one s 48 (by decide) w (by unfold maxLen at hs;omega)).mono fun _ _ ⟨h,k⟩=>⟨by rw [h,H.out],k.symm⟩
theorem zn2 (s A:ByteArray) (H:Hid (A=bs (orN s.data.toList))) (w:World):
 Calls Tryz.prog 254 #[.string s] w fun e w'=>e=.returned (.string A)∧w=w':=
 (zsj s w).mono fun _ _ ⟨h,k⟩=>⟨by rw [h,H.out],k.symm⟩
theorem zie (l:List UInt8) (n:Nat) (h:l.length≤n) (hn:1≤n):(bs (orN l)).size≤n:=by
 unfold orN bs
 split <;> simp [ByteArray.size] <;> omega
theorem zdq {a b:ByteArray} (h:a.data.toList=b.data.toList):a=b:=by
 obtain ⟨a⟩:=a;obtain ⟨b⟩:=b
 simp only [ByteArray.mk.injEq]
 exact Array.toList_inj.1 h
set_option maxHeartbeats 800000 in
theorem zw9 (neg:Bool) (x y A B:ByteArray) (w:World) (hx:x.size≤maxLen) (hy:y.size≤maxLen) (HA:Hid (A=bs (Lib.trimLeftB x.data.toList 48))) (HB:Hid (B=bs (Lib.trimRightB y.data.toList 48)))
 (hA:A.size≤40) (hB:B.size≤20) (hn:neg=false):
 Calls Tryz.prog 222 #[.bool neg,.string x,.string y] w fun e w'=>e=.returned (.tuple #[.string (bs ( orN A.data.toList++46::orN B.data.toList)),.int .i64 0])∧w=w':=by
 subst hn
 obtain ⟨C,hC⟩:∃ C,C=bs (orN A.data.toList):=⟨_,rfl⟩
 obtain ⟨D,hD⟩:∃ D,D=bs (orN B.data.toList):=⟨_,rfl⟩
 have hCs:C.size≤40:=by rw [hC];exact zie _ _ (by simpa using hA) (by omega)
 have hDs:D.size≤20:=by rw [hD];exact zie _ _ (by simpa using hB) (by omega)
 have HC:=Lib.hid hC
 have HD:=Lib.hid hD
 clear hC hD
 go_enter Tryz.func222,Tryz.ntmps222
 go_wp2_with (first
  |(go_at_call 252;(with_reducible refine (trimL x A HA _).mono ?_);rintro e w' ⟨rfl,rfl⟩)
  |(go_at_call 253;(with_reducible refine (trimR y B HB _ hy).mono ?_);rintro e w' ⟨rfl,rfl⟩)
  |(go_at_call 254;(with_reducible refine (zn2 A C HC _).mono ?_);rintro e w' ⟨rfl,rfl⟩)
  |(go_at_call 254;(with_reducible refine (zn2 B D HD _).mono ?_);rintro e w' ⟨rfl,rfl⟩))
 go_ret2
 refine ⟨?_,rfl⟩
 have e:(({ data:=#[] }:ByteArray)++C++{ data:=#[46] }++D:ByteArray)=bs ( orN A.data.toList++46::orN B.data.toList):=by
  apply zdq
  rw [HC.out,HD.out]
  simp
 exact congrArg (fun z=>Ending.returned (.tuple #[.string z,.int .i64 0])) e
set_option maxHeartbeats 800000 in
theorem zxa (neg:Bool) (x y A B:ByteArray) (w:World) (hx:x.size≤maxLen) (hy:y.size≤maxLen) (HA:Hid (A=bs (Lib.trimLeftB x.data.toList 48))) (HB:Hid (B=bs (Lib.trimRightB y.data.toList 48)))
 (hA:A.size≤40) (hB:B.size≤20) (hn:neg=true) (hne:(A++B).toList.isEmpty=false):
 Calls Tryz.prog 222 #[.bool neg,.string x,.string y] w fun e w'=>e=.returned (.tuple #[.string (bs (45::orN A.data.toList++46::orN B.data.toList)),.int .i64 0])∧w=w':=by
 subst hn
 obtain ⟨C,hC⟩:∃ C,C=bs (orN A.data.toList):=⟨_,rfl⟩
 obtain ⟨D,hD⟩:∃ D,D=bs (orN B.data.toList):=⟨_,rfl⟩
 have hCs:C.size≤40:=by rw [hC];exact zie _ _ (by simpa using hA) (by omega)
 have hDs:D.size≤20:=by rw [hD];exact zie _ _ (by simpa using hB) (by omega)
 have HC:=Lib.hid hC
 have HD:=Lib.hid hD
 clear hC hD
 go_enter Tryz.func222,Tryz.ntmps222
 go_wp2_with (first
  |(go_at_call 252;(with_reducible refine (trimL x A HA _).mono ?_);rintro e w' ⟨rfl,rfl⟩)
  |(go_at_call 253;(with_reducible refine (trimR y B HB _ hy).mono ?_);rintro e w' ⟨rfl,rfl⟩)
  |(go_at_call 254;(with_reducible refine (zn2 A C HC _).mono ?_);rintro e w' ⟨rfl,rfl⟩)
  |(go_at_call 254;(with_reducible refine (zn2 B D HD _).mono ?_);rintro e w' ⟨rfl,rfl⟩))
 go_ret2
 refine ⟨?_,rfl⟩
 have e:(({ data:=#[45] }:ByteArray)++C++{ data:=#[46] }++D:ByteArray)=bs (45::orN A.data.toList++46::orN B.data.toList):=by
  apply zdq
  rw [HC.out,HD.out]
  simp
 exact congrArg (fun z=>Ending.returned (.tuple #[.string z,.int .i64 0])) e
set_option maxHeartbeats 800000 in
theorem zxb (x y:ByteArray) (w:World) (hx:x.size≤maxLen) (hy:y.size≤maxLen) (HA:Hid (ByteArray.mk #[]=bs (Lib.trimLeftB x.data.toList 48))) (HB:Hid (ByteArray.mk #[]=bs (Lib.trimRightB y.data.toList 48))):
 Calls Tryz.prog 222 #[.bool true,.string x,.string y] w fun e w'=>e=.returned (.tuple #[.string (bs [48,46,48]),.int .i64 0])∧w=w':=by
 have HC:Hid (bs [48]=bs (orN (ByteArray.mk #[]).data.toList)):=Lib.hid rfl
 have hne:(({ data:=#[] }:ByteArray)++{ data:=#[] }).toList.isEmpty=true:=by rw [ByteArray.toList_eq];rfl
 go_enter Tryz.func222,Tryz.ntmps222
 go_wp2_with (first
  |(go_at_call 252;(with_reducible refine (trimL x _ HA _).mono ?_);rintro e w' ⟨rfl,rfl⟩)
  |(go_at_call 253;(with_reducible refine (trimR y _ HB _ hy).mono ?_);rintro e w' ⟨rfl,rfl⟩)
  |(go_at_call 254;(with_reducible refine (zn2 _ _ HC _).mono ?_);rintro e w' ⟨rfl,rfl⟩))
 go_ret2
 exact ⟨rfl,rfl⟩
set_option maxHeartbeats 800000 in
theorem zxc (neg:Bool) (x y A B:ByteArray) (w:World) (hx:x.size≤maxLen) (hy:y.size≤maxLen) (HA:Hid (A=bs (Lib.trimLeftB x.data.toList 48))) (HB:Hid (B=bs (Lib.trimRightB y.data.toList 48)))
 (h:40 < A.size∨20 < B.size):
 Calls Tryz.prog 222 #[.bool neg,.string x,.string y] w fun e w'=>e=.returned (.tuple #[.string (bs []),.int .i64 2])∧w=w':=by
 by_cases h1:(40:Int) < A.size
 ·clear h
  go_enter Tryz.func222,Tryz.ntmps222
  go_wp2_with (first
   |(go_at_call 252;(with_reducible refine (trimL x A HA _).mono ?_);rintro e w' ⟨rfl,rfl⟩)
   |(go_at_call 253;(with_reducible refine (trimR y B HB _ hy).mono ?_);rintro e w' ⟨rfl,rfl⟩))
  go_ret2
  exact ⟨rfl,rfl⟩
 ·have h2:(20:Int) < B.size:=by omega
  clear h
  go_enter Tryz.func222,Tryz.ntmps222
  go_wp2_with (first
   |(go_at_call 252;(with_reducible refine (trimL x A HA _).mono ?_);rintro e w' ⟨rfl,rfl⟩)
   |(go_at_call 253;(with_reducible refine (trimR y B HB _ hy).mono ?_);rintro e w' ⟨rfl,rfl⟩))
  go_ret2
  exact ⟨rfl,rfl⟩
def said (r:Option (List UInt8)):Value:=match r with
 | some t=>.tuple #[.string (bs t),.int .i64 0]
 | none=>.tuple #[.string (bs []),.int .i64 2]
theorem writeAt (neg:Bool) (x y:ByteArray) (w:World) (hx:x.size≤maxLen) (hy:y.size≤maxLen):
 Calls Tryz.prog 222 #[.bool neg,.string x,.string y] w fun e w'=>e=.returned (said (wr neg x.data.toList y.data.toList))∧w=w':=by
 obtain ⟨A,hA⟩:∃ A,A=bs (Lib.trimLeftB x.data.toList 48):=⟨_,rfl⟩
 obtain ⟨B,hB⟩:∃ B,B=bs (Lib.trimRightB y.data.toList 48):=⟨_,rfl⟩
 have lA:(Lib.trimLeftB x.data.toList 48).length=A.size:=by rw [hA];simp [ByteArray.size]
 have lB:(Lib.trimRightB y.data.toList 48).length=B.size:=by rw [hB];simp [ByteArray.size]
 have tA:Lib.trimLeftB x.data.toList 48=A.data.toList:=by rw [hA]
 have tB:Lib.trimRightB y.data.toList 48=B.data.toList:=by rw [hB]
 have HA:=Lib.hid hA
 have HB:=Lib.hid hB
 unfold wr
 simp only [lA,lB]
 by_cases h:40 < A.size∨20 < B.size
 ·rw [if_pos h]
  exact zxc neg x y A B w hx hy HA HB h
 ·rw [if_neg h,tA,tB]
  cases neg
  ·exact zw9 false x y A B w hx hy HA HB (by omega) (by omega) rfl
  ·by_cases hn:(A.data.toList++B.data.toList).isEmpty=true
   ·have e1:A.data.toList=[]:=by simp at hn;simpa using hn.1
    have e2:B.data.toList=[]:=by simp at hn;simpa using hn.2
    have f1:A=ByteArray.mk #[]:=zdq (by rw [e1])
    have f2:B=ByteArray.mk #[]:=zdq (by rw [e2])
    subst f1 f2
    exact zxb x y w hx hy HA HB
   ·have hn':(A.data.toList++B.data.toList).isEmpty=false:=by simpa using hn
    rw [hn']
    exact zxa true x y A B w hx hy HA HB (by omega) (by omega) rfl (by rw [ByteArray.toList_eq];simpa using hn')
end Go.Proofs.YteclpnfckjfibaaGreatDoor

/- S3 -/
namespace Go.Proofs.YteclpnfckjfibaaGreatDoor
open Go.RowKit
def Gd (w:World):Prop:=∃ m,w.cell? ⟨0,0,none⟩=some (.int .i64 m)
theorem Gd.below {w w':World} (h:Gd w) (k:Below w.heap.size w w'):Gd w':=by
 obtain ⟨m,hm⟩:=h
 exact ⟨m,(k.cell (p:=⟨0,0,none⟩) (World.block_lt_of_cell? w _ hm)).trans hm⟩
theorem Gd.alloc {w:World} (h:Gd w) (o:Obj):Gd (w.alloc o):=h.below ((Below.refl _ _).alloc (Nat.le_refl _) _)
theorem zdw (r X Y:ByteArray) (b:Bool) (w:World) (hG:Gd w) (hs:r.size < 4294967281) (HX:Hid (X=bs (Lib.cut r.data.toList [46]).1)) (HY:Hid (Y=bs (Lib.cut r.data.toList [46]).2.1)) (HB:Hid (b=(Lib.cut r.data.toList [46]).2.2)):
 Calls Tryz.prog 250 #[.string r,.string ⟨#[46]⟩] w fun e w'=>e=.returned (.tuple #[.string X,.string Y,.bool b])∧Low w.heap.size w w':=by
 obtain ⟨m,hm⟩:=hG
 refine (Tryz.strings_Cut r ⟨#[46]⟩ m w hs hm).mono ?_
 rintro e w' ⟨rfl,n,rfl⟩
 exact ⟨by rw [HX.out,HY.out,HB.out],zt1 (Low.refl _ _) n⟩
theorem zbf (s:ByteArray) (d:Bool) (w:World) (hs:s.size≤maxLen) (H:Hid (d=digs s.data.toList)):
 Calls Tryz.prog 251 #[.string s] w fun e w'=>e=.returned (.bool d)∧w=w':=
 (zsi s w hs).mono fun _ _ ⟨h,k⟩=>⟨by rw [h,H.out],k.symm⟩
theorem zeh (s p:ByteArray) (d:Bool) (w:World) (H:Hid (d=Lib.hasPrefix s.data.toList p.data.toList)):
 Calls Tryz.prog 249 #[.string s,.string p] w fun e w'=>e=.returned (.bool d)∧w=w':=
 (Tryz.strings_HasPrefix s p w).mono fun _ _ ⟨h,k⟩=>⟨by rw [h,H.out],k.symm⟩
set_option maxHeartbeats 800000 in
theorem zt8 (s r X Y:ByteArray) (dX dY b:Bool) (w:World) (hG:Gd w) (hs:s.size < 4294967281) (hX:X.size≤maxLen) (hY:Y.size≤maxLen) (h1:1≤s.size)
 (P1:Hid (true=Lib.hasPrefix s.data.toList (ByteArray.mk #[45]).data.toList)) (hr:r=s.extract 1 s.size)
 (HX:Hid (X=bs (Lib.cut r.data.toList [46]).1)) (HY:Hid (Y=bs (Lib.cut r.data.toList [46]).2.1)) (HB:Hid (b=(Lib.cut r.data.toList [46]).2.2))
 (DX:Hid (dX=digs X.data.toList)) (DY:Hid (dY=digs Y.data.toList)) (hok:dX=true∧b=false):
 Calls Tryz.prog 221 #[.string s] w fun e w'=>e=.returned (.tuple #[.bool true,.string X,.string Y,.bool true])∧Low w.heap.size w w':=by
 subst hr
 obtain ⟨rfl,rfl⟩:=hok
 go_enter Tryz.func221,Tryz.ntmps221
 go_wp2_with (first
  |(go_at_call 249;(with_reducible refine (zeh _ _ _ _ P1).mono ?_);rintro e w' ⟨rfl,rfl⟩)
  |(go_at_call 250;(with_reducible refine (zdw _ X Y _ _ hG ?_ HX HY HB).mono ?_);(simp;omega);rintro e w1 ⟨rfl,hb⟩)
  |(go_at_call 250;(with_reducible refine (zdw _ X Y _ _ hG hs HX HY HB).mono ?_);rintro e w1 ⟨rfl,hb⟩)
  |(go_at_call 251;(with_reducible refine (zbf X _ _ hX DX).mono ?_);rintro e w' ⟨rfl,rfl⟩)
  |(go_at_call 251;(with_reducible refine (zbf Y _ _ hY DY).mono ?_);rintro e w' ⟨rfl,rfl⟩))
 exact bodyPost_ret (v:=.tuple #[.bool true,.string X,.string Y,.bool true]) (by simp [results,Tryz.results221,go_sem]) rfl ⟨rfl,hb⟩
set_option maxHeartbeats 800000 in
theorem zt9 (s r X Y:ByteArray) (dX dY b:Bool) (w:World) (hG:Gd w) (hs:s.size < 4294967281) (hX:X.size≤maxLen) (hY:Y.size≤maxLen) (h1:1≤s.size)
 (P1:Hid (true=Lib.hasPrefix s.data.toList (ByteArray.mk #[45]).data.toList)) (hr:r=s.extract 1 s.size)
 (HX:Hid (X=bs (Lib.cut r.data.toList [46]).1)) (HY:Hid (Y=bs (Lib.cut r.data.toList [46]).2.1)) (HB:Hid (b=(Lib.cut r.data.toList [46]).2.2))
 (DX:Hid (dX=digs X.data.toList)) (DY:Hid (dY=digs Y.data.toList)) (hok:dX=true∧b=true∧dY=true):
 Calls Tryz.prog 221 #[.string s] w fun e w'=>e=.returned (.tuple #[.bool true,.string X,.string Y,.bool true])∧Low w.heap.size w w':=by
 subst hr
 obtain ⟨rfl,rfl,rfl⟩:=hok
 go_enter Tryz.func221,Tryz.ntmps221
 go_wp2_with (first
  |(go_at_call 249;(with_reducible refine (zeh _ _ _ _ P1).mono ?_);rintro e w' ⟨rfl,rfl⟩)
  |(go_at_call 250;(with_reducible refine (zdw _ X Y _ _ hG ?_ HX HY HB).mono ?_);(simp;omega);rintro e w1 ⟨rfl,hb⟩)
  |(go_at_call 250;(with_reducible refine (zdw _ X Y _ _ hG hs HX HY HB).mono ?_);rintro e w1 ⟨rfl,hb⟩)
  |(go_at_call 251;(with_reducible refine (zbf X _ _ hX DX).mono ?_);rintro e w' ⟨rfl,rfl⟩)
  |(go_at_call 251;(with_reducible refine (zbf Y _ _ hY DY).mono ?_);rintro e w' ⟨rfl,rfl⟩))
 exact bodyPost_ret (v:=.tuple #[.bool true,.string X,.string Y,.bool true]) (by simp [results,Tryz.results221,go_sem]) rfl ⟨rfl,hb⟩
set_option maxHeartbeats 800000 in
theorem zua (s r X Y:ByteArray) (dX dY b:Bool) (w:World) (hG:Gd w) (hs:s.size < 4294967281) (hX:X.size≤maxLen) (hY:Y.size≤maxLen) (h1:1≤s.size)
 (P1:Hid (true=Lib.hasPrefix s.data.toList (ByteArray.mk #[45]).data.toList)) (hr:r=s.extract 1 s.size)
 (HX:Hid (X=bs (Lib.cut r.data.toList [46]).1)) (HY:Hid (Y=bs (Lib.cut r.data.toList [46]).2.1)) (HB:Hid (b=(Lib.cut r.data.toList [46]).2.2))
 (DX:Hid (dX=digs X.data.toList)) (DY:Hid (dY=digs Y.data.toList)) (hok:dX=false):
 Calls Tryz.prog 221 #[.string s] w fun e w'=>e=.returned (.tuple #[.bool false,.string ⟨#[]⟩,.string ⟨#[]⟩,.bool false])∧Low w.heap.size w w':=by
 subst hr
 obtain rfl:=hok
 go_enter Tryz.func221,Tryz.ntmps221
 go_wp2_with (first
  |(go_at_call 249;(with_reducible refine (zeh _ _ _ _ P1).mono ?_);rintro e w' ⟨rfl,rfl⟩)
  |(go_at_call 250;(with_reducible refine (zdw _ X Y _ _ hG ?_ HX HY HB).mono ?_);(simp;omega);rintro e w1 ⟨rfl,hb⟩)
  |(go_at_call 250;(with_reducible refine (zdw _ X Y _ _ hG hs HX HY HB).mono ?_);rintro e w1 ⟨rfl,hb⟩)
  |(go_at_call 251;(with_reducible refine (zbf X _ _ hX DX).mono ?_);rintro e w' ⟨rfl,rfl⟩)
  |(go_at_call 251;(with_reducible refine (zbf Y _ _ hY DY).mono ?_);rintro e w' ⟨rfl,rfl⟩))
 exact bodyPost_ret (v:=.tuple #[.bool false,.string ⟨#[]⟩,.string ⟨#[]⟩,.bool false]) (by simp [results,Tryz.results221,go_sem]) rfl ⟨rfl,hb⟩
set_option maxHeartbeats 800000 in
theorem zub (s r X Y:ByteArray) (dX dY b:Bool) (w:World) (hG:Gd w) (hs:s.size < 4294967281) (hX:X.size≤maxLen) (hY:Y.size≤maxLen) (h1:1≤s.size)
 (P1:Hid (true=Lib.hasPrefix s.data.toList (ByteArray.mk #[45]).data.toList)) (hr:r=s.extract 1 s.size)
 (HX:Hid (X=bs (Lib.cut r.data.toList [46]).1)) (HY:Hid (Y=bs (Lib.cut r.data.toList [46]).2.1)) (HB:Hid (b=(Lib.cut r.data.toList [46]).2.2))
 (DX:Hid (dX=digs X.data.toList)) (DY:Hid (dY=digs Y.data.toList)) (hok:dX=true∧b=true∧dY=false):
 Calls Tryz.prog 221 #[.string s] w fun e w'=>e=.returned (.tuple #[.bool false,.string ⟨#[]⟩,.string ⟨#[]⟩,.bool false])∧Low w.heap.size w w':=by
 subst hr
 obtain ⟨rfl,rfl,rfl⟩:=hok
 go_enter Tryz.func221,Tryz.ntmps221
 go_wp2_with (first
  |(go_at_call 249;(with_reducible refine (zeh _ _ _ _ P1).mono ?_);rintro e w' ⟨rfl,rfl⟩)
  |(go_at_call 250;(with_reducible refine (zdw _ X Y _ _ hG ?_ HX HY HB).mono ?_);(simp;omega);rintro e w1 ⟨rfl,hb⟩)
  |(go_at_call 250;(with_reducible refine (zdw _ X Y _ _ hG hs HX HY HB).mono ?_);rintro e w1 ⟨rfl,hb⟩)
  |(go_at_call 251;(with_reducible refine (zbf X _ _ hX DX).mono ?_);rintro e w' ⟨rfl,rfl⟩)
  |(go_at_call 251;(with_reducible refine (zbf Y _ _ hY DY).mono ?_);rintro e w' ⟨rfl,rfl⟩))
 exact bodyPost_ret (v:=.tuple #[.bool false,.string ⟨#[]⟩,.string ⟨#[]⟩,.bool false]) (by simp [results,Tryz.results221,go_sem]) rfl ⟨rfl,hb⟩
set_option maxHeartbeats 800000 in
theorem zsk (s r X Y:ByteArray) (dX dY b:Bool) (w:World) (hG:Gd w) (hs:s.size < 4294967281) (hX:X.size≤maxLen) (hY:Y.size≤maxLen) (h1:1≤s.size)
 (P1:Hid (false=Lib.hasPrefix s.data.toList (ByteArray.mk #[45]).data.toList)) (P2:Hid (true=Lib.hasPrefix s.data.toList (ByteArray.mk #[43]).data.toList)) (hr:r=s.extract 1 s.size)
 (HX:Hid (X=bs (Lib.cut r.data.toList [46]).1)) (HY:Hid (Y=bs (Lib.cut r.data.toList [46]).2.1)) (HB:Hid (b=(Lib.cut r.data.toList [46]).2.2))
 (DX:Hid (dX=digs X.data.toList)) (DY:Hid (dY=digs Y.data.toList)) (hok:dX=true∧b=false):
 Calls Tryz.prog 221 #[.string s] w fun e w'=>e=.returned (.tuple #[.bool false,.string X,.string Y,.bool true])∧Low w.heap.size w w':=by
 subst hr
 obtain ⟨rfl,rfl⟩:=hok
 go_enter Tryz.func221,Tryz.ntmps221
 go_wp2_with (first
  |(go_at_call 249;(with_reducible refine (zeh _ _ _ _ P1).mono ?_);rintro e w' ⟨rfl,rfl⟩)
  |(go_at_call 249;(with_reducible refine (zeh _ _ _ _ P2).mono ?_);rintro e w' ⟨rfl,rfl⟩)
  |(go_at_call 250;(with_reducible refine (zdw _ X Y _ _ hG ?_ HX HY HB).mono ?_);(simp;omega);rintro e w1 ⟨rfl,hb⟩)
  |(go_at_call 250;(with_reducible refine (zdw _ X Y _ _ hG hs HX HY HB).mono ?_);rintro e w1 ⟨rfl,hb⟩)
  |(go_at_call 251;(with_reducible refine (zbf X _ _ hX DX).mono ?_);rintro e w' ⟨rfl,rfl⟩)
  |(go_at_call 251;(with_reducible refine (zbf Y _ _ hY DY).mono ?_);rintro e w' ⟨rfl,rfl⟩))
 exact bodyPost_ret (v:=.tuple #[.bool false,.string X,.string Y,.bool true]) (by simp [results,Tryz.results221,go_sem]) rfl ⟨rfl,hb⟩
set_option maxHeartbeats 800000 in
theorem zsl (s r X Y:ByteArray) (dX dY b:Bool) (w:World) (hG:Gd w) (hs:s.size < 4294967281) (hX:X.size≤maxLen) (hY:Y.size≤maxLen) (h1:1≤s.size)
 (P1:Hid (false=Lib.hasPrefix s.data.toList (ByteArray.mk #[45]).data.toList)) (P2:Hid (true=Lib.hasPrefix s.data.toList (ByteArray.mk #[43]).data.toList)) (hr:r=s.extract 1 s.size)
 (HX:Hid (X=bs (Lib.cut r.data.toList [46]).1)) (HY:Hid (Y=bs (Lib.cut r.data.toList [46]).2.1)) (HB:Hid (b=(Lib.cut r.data.toList [46]).2.2))
 (DX:Hid (dX=digs X.data.toList)) (DY:Hid (dY=digs Y.data.toList)) (hok:dX=true∧b=true∧dY=true):
 Calls Tryz.prog 221 #[.string s] w fun e w'=>e=.returned (.tuple #[.bool false,.string X,.string Y,.bool true])∧Low w.heap.size w w':=by
 subst hr
 obtain ⟨rfl,rfl,rfl⟩:=hok
 go_enter Tryz.func221,Tryz.ntmps221
 go_wp2_with (first
  |(go_at_call 249;(with_reducible refine (zeh _ _ _ _ P1).mono ?_);rintro e w' ⟨rfl,rfl⟩)
  |(go_at_call 249;(with_reducible refine (zeh _ _ _ _ P2).mono ?_);rintro e w' ⟨rfl,rfl⟩)
  |(go_at_call 250;(with_reducible refine (zdw _ X Y _ _ hG ?_ HX HY HB).mono ?_);(simp;omega);rintro e w1 ⟨rfl,hb⟩)
  |(go_at_call 250;(with_reducible refine (zdw _ X Y _ _ hG hs HX HY HB).mono ?_);rintro e w1 ⟨rfl,hb⟩)
  |(go_at_call 251;(with_reducible refine (zbf X _ _ hX DX).mono ?_);rintro e w' ⟨rfl,rfl⟩)
  |(go_at_call 251;(with_reducible refine (zbf Y _ _ hY DY).mono ?_);rintro e w' ⟨rfl,rfl⟩))
 exact bodyPost_ret (v:=.tuple #[.bool false,.string X,.string Y,.bool true]) (by simp [results,Tryz.results221,go_sem]) rfl ⟨rfl,hb⟩
set_option maxHeartbeats 800000 in
theorem zsm (s r X Y:ByteArray) (dX dY b:Bool) (w:World) (hG:Gd w) (hs:s.size < 4294967281) (hX:X.size≤maxLen) (hY:Y.size≤maxLen) (h1:1≤s.size)
 (P1:Hid (false=Lib.hasPrefix s.data.toList (ByteArray.mk #[45]).data.toList)) (P2:Hid (true=Lib.hasPrefix s.data.toList (ByteArray.mk #[43]).data.toList)) (hr:r=s.extract 1 s.size)
 (HX:Hid (X=bs (Lib.cut r.data.toList [46]).1)) (HY:Hid (Y=bs (Lib.cut r.data.toList [46]).2.1)) (HB:Hid (b=(Lib.cut r.data.toList [46]).2.2))
 (DX:Hid (dX=digs X.data.toList)) (DY:Hid (dY=digs Y.data.toList)) (hok:dX=false):
 Calls Tryz.prog 221 #[.string s] w fun e w'=>e=.returned (.tuple #[.bool false,.string ⟨#[]⟩,.string ⟨#[]⟩,.bool false])∧Low w.heap.size w w':=by
 subst hr
 obtain rfl:=hok
 go_enter Tryz.func221,Tryz.ntmps221
 go_wp2_with (first
  |(go_at_call 249;(with_reducible refine (zeh _ _ _ _ P1).mono ?_);rintro e w' ⟨rfl,rfl⟩)
  |(go_at_call 249;(with_reducible refine (zeh _ _ _ _ P2).mono ?_);rintro e w' ⟨rfl,rfl⟩)
  |(go_at_call 250;(with_reducible refine (zdw _ X Y _ _ hG ?_ HX HY HB).mono ?_);(simp;omega);rintro e w1 ⟨rfl,hb⟩)
  |(go_at_call 250;(with_reducible refine (zdw _ X Y _ _ hG hs HX HY HB).mono ?_);rintro e w1 ⟨rfl,hb⟩)
  |(go_at_call 251;(with_reducible refine (zbf X _ _ hX DX).mono ?_);rintro e w' ⟨rfl,rfl⟩)
  |(go_at_call 251;(with_reducible refine (zbf Y _ _ hY DY).mono ?_);rintro e w' ⟨rfl,rfl⟩))
 exact bodyPost_ret (v:=.tuple #[.bool false,.string ⟨#[]⟩,.string ⟨#[]⟩,.bool false]) (by simp [results,Tryz.results221,go_sem]) rfl ⟨rfl,hb⟩
set_option maxHeartbeats 800000 in
theorem zsn (s r X Y:ByteArray) (dX dY b:Bool) (w:World) (hG:Gd w) (hs:s.size < 4294967281) (hX:X.size≤maxLen) (hY:Y.size≤maxLen) (h1:1≤s.size)
 (P1:Hid (false=Lib.hasPrefix s.data.toList (ByteArray.mk #[45]).data.toList)) (P2:Hid (true=Lib.hasPrefix s.data.toList (ByteArray.mk #[43]).data.toList)) (hr:r=s.extract 1 s.size)
 (HX:Hid (X=bs (Lib.cut r.data.toList [46]).1)) (HY:Hid (Y=bs (Lib.cut r.data.toList [46]).2.1)) (HB:Hid (b=(Lib.cut r.data.toList [46]).2.2))
 (DX:Hid (dX=digs X.data.toList)) (DY:Hid (dY=digs Y.data.toList)) (hok:dX=true∧b=true∧dY=false):
 Calls Tryz.prog 221 #[.string s] w fun e w'=>e=.returned (.tuple #[.bool false,.string ⟨#[]⟩,.string ⟨#[]⟩,.bool false])∧Low w.heap.size w w':=by
 subst hr
 obtain ⟨rfl,rfl,rfl⟩:=hok
 go_enter Tryz.func221,Tryz.ntmps221
 go_wp2_with (first
  |(go_at_call 249;(with_reducible refine (zeh _ _ _ _ P1).mono ?_);rintro e w' ⟨rfl,rfl⟩)
  |(go_at_call 249;(with_reducible refine (zeh _ _ _ _ P2).mono ?_);rintro e w' ⟨rfl,rfl⟩)
  |(go_at_call 250;(with_reducible refine (zdw _ X Y _ _ hG ?_ HX HY HB).mono ?_);(simp;omega);rintro e w1 ⟨rfl,hb⟩)
  |(go_at_call 250;(with_reducible refine (zdw _ X Y _ _ hG hs HX HY HB).mono ?_);rintro e w1 ⟨rfl,hb⟩)
  |(go_at_call 251;(with_reducible refine (zbf X _ _ hX DX).mono ?_);rintro e w' ⟨rfl,rfl⟩)
  |(go_at_call 251;(with_reducible refine (zbf Y _ _ hY DY).mono ?_);rintro e w' ⟨rfl,rfl⟩))
 exact bodyPost_ret (v:=.tuple #[.bool false,.string ⟨#[]⟩,.string ⟨#[]⟩,.bool false]) (by simp [results,Tryz.results221,go_sem]) rfl ⟨rfl,hb⟩
set_option maxHeartbeats 800000 in
theorem zl5 (s r X Y:ByteArray) (dX dY b:Bool) (w:World) (hG:Gd w) (hs:s.size < 4294967281) (hX:X.size≤maxLen) (hY:Y.size≤maxLen)
 (P1:Hid (false=Lib.hasPrefix s.data.toList (ByteArray.mk #[45]).data.toList)) (P2:Hid (false=Lib.hasPrefix s.data.toList (ByteArray.mk #[43]).data.toList)) (hr:r=s)
 (HX:Hid (X=bs (Lib.cut r.data.toList [46]).1)) (HY:Hid (Y=bs (Lib.cut r.data.toList [46]).2.1)) (HB:Hid (b=(Lib.cut r.data.toList [46]).2.2))
 (DX:Hid (dX=digs X.data.toList)) (DY:Hid (dY=digs Y.data.toList)) (hok:dX=true∧b=false):
 Calls Tryz.prog 221 #[.string s] w fun e w'=>e=.returned (.tuple #[.bool false,.string X,.string Y,.bool true])∧Low w.heap.size w w':=by
 subst hr
 obtain ⟨rfl,rfl⟩:=hok
 go_enter Tryz.func221,Tryz.ntmps221
 go_wp2_with (first
  |(go_at_call 249;(with_reducible refine (zeh _ _ _ _ P1).mono ?_);rintro e w' ⟨rfl,rfl⟩)
  |(go_at_call 249;(with_reducible refine (zeh _ _ _ _ P2).mono ?_);rintro e w' ⟨rfl,rfl⟩)
  |(go_at_call 250;(with_reducible refine (zdw _ X Y _ _ hG ?_ HX HY HB).mono ?_);(simp;omega);rintro e w1 ⟨rfl,hb⟩)
  |(go_at_call 250;(with_reducible refine (zdw _ X Y _ _ hG hs HX HY HB).mono ?_);rintro e w1 ⟨rfl,hb⟩)
  |(go_at_call 251;(with_reducible refine (zbf X _ _ hX DX).mono ?_);rintro e w' ⟨rfl,rfl⟩)
  |(go_at_call 251;(with_reducible refine (zbf Y _ _ hY DY).mono ?_);rintro e w' ⟨rfl,rfl⟩))
 exact bodyPost_ret (v:=.tuple #[.bool false,.string X,.string Y,.bool true]) (by simp [results,Tryz.results221,go_sem]) rfl ⟨rfl,hb⟩
set_option maxHeartbeats 800000 in
theorem zl6 (s r X Y:ByteArray) (dX dY b:Bool) (w:World) (hG:Gd w) (hs:s.size < 4294967281) (hX:X.size≤maxLen) (hY:Y.size≤maxLen)
 (P1:Hid (false=Lib.hasPrefix s.data.toList (ByteArray.mk #[45]).data.toList)) (P2:Hid (false=Lib.hasPrefix s.data.toList (ByteArray.mk #[43]).data.toList)) (hr:r=s)
 (HX:Hid (X=bs (Lib.cut r.data.toList [46]).1)) (HY:Hid (Y=bs (Lib.cut r.data.toList [46]).2.1)) (HB:Hid (b=(Lib.cut r.data.toList [46]).2.2))
 (DX:Hid (dX=digs X.data.toList)) (DY:Hid (dY=digs Y.data.toList)) (hok:dX=true∧b=true∧dY=true):
 Calls Tryz.prog 221 #[.string s] w fun e w'=>e=.returned (.tuple #[.bool false,.string X,.string Y,.bool true])∧Low w.heap.size w w':=by
 subst hr
 obtain ⟨rfl,rfl,rfl⟩:=hok
 go_enter Tryz.func221,Tryz.ntmps221
 go_wp2_with (first
  |(go_at_call 249;(with_reducible refine (zeh _ _ _ _ P1).mono ?_);rintro e w' ⟨rfl,rfl⟩)
  |(go_at_call 249;(with_reducible refine (zeh _ _ _ _ P2).mono ?_);rintro e w' ⟨rfl,rfl⟩)
  |(go_at_call 250;(with_reducible refine (zdw _ X Y _ _ hG ?_ HX HY HB).mono ?_);(simp;omega);rintro e w1 ⟨rfl,hb⟩)
  |(go_at_call 250;(with_reducible refine (zdw _ X Y _ _ hG hs HX HY HB).mono ?_);rintro e w1 ⟨rfl,hb⟩)
  |(go_at_call 251;(with_reducible refine (zbf X _ _ hX DX).mono ?_);rintro e w' ⟨rfl,rfl⟩)
  |(go_at_call 251;(with_reducible refine (zbf Y _ _ hY DY).mono ?_);rintro e w' ⟨rfl,rfl⟩))
 exact bodyPost_ret (v:=.tuple #[.bool false,.string X,.string Y,.bool true]) (by simp [results,Tryz.results221,go_sem]) rfl ⟨rfl,hb⟩
set_option maxHeartbeats 800000 in
theorem zl7 (s r X Y:ByteArray) (dX dY b:Bool) (w:World) (hG:Gd w) (hs:s.size < 4294967281) (hX:X.size≤maxLen) (hY:Y.size≤maxLen)
 (P1:Hid (false=Lib.hasPrefix s.data.toList (ByteArray.mk #[45]).data.toList)) (P2:Hid (false=Lib.hasPrefix s.data.toList (ByteArray.mk #[43]).data.toList)) (hr:r=s)
 (HX:Hid (X=bs (Lib.cut r.data.toList [46]).1)) (HY:Hid (Y=bs (Lib.cut r.data.toList [46]).2.1)) (HB:Hid (b=(Lib.cut r.data.toList [46]).2.2))
 (DX:Hid (dX=digs X.data.toList)) (DY:Hid (dY=digs Y.data.toList)) (hok:dX=false):
 Calls Tryz.prog 221 #[.string s] w fun e w'=>e=.returned (.tuple #[.bool false,.string ⟨#[]⟩,.string ⟨#[]⟩,.bool false])∧Low w.heap.size w w':=by
 subst hr
 obtain rfl:=hok
 go_enter Tryz.func221,Tryz.ntmps221
 go_wp2_with (first
  |(go_at_call 249;(with_reducible refine (zeh _ _ _ _ P1).mono ?_);rintro e w' ⟨rfl,rfl⟩)
  |(go_at_call 249;(with_reducible refine (zeh _ _ _ _ P2).mono ?_);rintro e w' ⟨rfl,rfl⟩)
  |(go_at_call 250;(with_reducible refine (zdw _ X Y _ _ hG ?_ HX HY HB).mono ?_);(simp;omega);rintro e w1 ⟨rfl,hb⟩)
  |(go_at_call 250;(with_reducible refine (zdw _ X Y _ _ hG hs HX HY HB).mono ?_);rintro e w1 ⟨rfl,hb⟩)
  |(go_at_call 251;(with_reducible refine (zbf X _ _ hX DX).mono ?_);rintro e w' ⟨rfl,rfl⟩)
  |(go_at_call 251;(with_reducible refine (zbf Y _ _ hY DY).mono ?_);rintro e w' ⟨rfl,rfl⟩))
 exact bodyPost_ret (v:=.tuple #[.bool false,.string ⟨#[]⟩,.string ⟨#[]⟩,.bool false]) (by simp [results,Tryz.results221,go_sem]) rfl ⟨rfl,hb⟩
set_option maxHeartbeats 800000 in
theorem zl8 (s r X Y:ByteArray) (dX dY b:Bool) (w:World) (hG:Gd w) (hs:s.size < 4294967281) (hX:X.size≤maxLen) (hY:Y.size≤maxLen)
 (P1:Hid (false=Lib.hasPrefix s.data.toList (ByteArray.mk #[45]).data.toList)) (P2:Hid (false=Lib.hasPrefix s.data.toList (ByteArray.mk #[43]).data.toList)) (hr:r=s)
 (HX:Hid (X=bs (Lib.cut r.data.toList [46]).1)) (HY:Hid (Y=bs (Lib.cut r.data.toList [46]).2.1)) (HB:Hid (b=(Lib.cut r.data.toList [46]).2.2))
 (DX:Hid (dX=digs X.data.toList)) (DY:Hid (dY=digs Y.data.toList)) (hok:dX=true∧b=true∧dY=false):
 Calls Tryz.prog 221 #[.string s] w fun e w'=>e=.returned (.tuple #[.bool false,.string ⟨#[]⟩,.string ⟨#[]⟩,.bool false])∧Low w.heap.size w w':=by
 subst hr
 obtain ⟨rfl,rfl,rfl⟩:=hok
 go_enter Tryz.func221,Tryz.ntmps221
 go_wp2_with (first
  |(go_at_call 249;(with_reducible refine (zeh _ _ _ _ P1).mono ?_);rintro e w' ⟨rfl,rfl⟩)
  |(go_at_call 249;(with_reducible refine (zeh _ _ _ _ P2).mono ?_);rintro e w' ⟨rfl,rfl⟩)
  |(go_at_call 250;(with_reducible refine (zdw _ X Y _ _ hG ?_ HX HY HB).mono ?_);(simp;omega);rintro e w1 ⟨rfl,hb⟩)
  |(go_at_call 250;(with_reducible refine (zdw _ X Y _ _ hG hs HX HY HB).mono ?_);rintro e w1 ⟨rfl,hb⟩)
  |(go_at_call 251;(with_reducible refine (zbf X _ _ hX DX).mono ?_);rintro e w' ⟨rfl,rfl⟩)
  |(go_at_call 251;(with_reducible refine (zbf Y _ _ hY DY).mono ?_);rintro e w' ⟨rfl,rfl⟩))
 exact bodyPost_ret (v:=.tuple #[.bool false,.string ⟨#[]⟩,.string ⟨#[]⟩,.bool false]) (by simp [results,Tryz.results221,go_sem]) rfl ⟨rfl,hb⟩
end Go.Proofs.YteclpnfckjfibaaGreatDoor

/- S4 -/
namespace Go.Proofs.YteclpnfckjfibaaGreatDoor
open Go.RowKit
def zzi:Option (Bool × List UInt8 × List UInt8)→Value
 | none=>.tuple #[.bool false,.string ⟨#[]⟩,.string ⟨#[]⟩,.bool false]
 | some (n,a,b)=>.tuple #[.bool n,.string (bs a),.string (bs b),.bool true]
theorem zuc (l:List UInt8):(Lib.cut l [46]).1.length≤l.length∧(Lib.cut l [46]).2.1.length≤l.length:=by
 unfold Lib.cut
 split
 ·exact ⟨by simp;omega,by simp⟩
 ·exact ⟨Nat.le_refl _,by simp⟩
theorem zm1 (l:List UInt8):(sgn l).2.length≤l.length:=by
 cases l with
 | nil=>simp [sgn]
 | cons c r=>
   by_cases h:c=45
   ·simp [sgn,h]
   ·by_cases h':c=43
    ·simp [sgn,h']
    ·simp [sgn,h,h']
theorem zud (s:ByteArray) (w:World) (hG:Gd w) (hs:s.size < 4294967281):
 Calls Tryz.prog 221 #[.string s] w fun e w'=>e=.returned (zzi (zd0 s.data.toList))∧Low w.heap.size w w':=by
 obtain ⟨l,hl⟩:∃ l,l=s.data.toList:=⟨_,rfl⟩
 have hsl:l.length=s.size:=by rw [hl];simp
 have hs':s=bs l:=zdq (by rw [← hl])
 obtain ⟨r,hr⟩:∃ r,r=(sgn l).2:=⟨_,rfl⟩
 have hrl:r.length≤l.length:=by rw [hr];exact zm1 l
 have hcl:=zuc r
 obtain ⟨a,ha⟩:∃ a,a=(Lib.cut r [46]).1:=⟨_,rfl⟩
 obtain ⟨y,hy⟩:∃ y,y=(Lib.cut r [46]).2.1:=⟨_,rfl⟩
 obtain ⟨b,hb⟩:∃ b,b=(Lib.cut r [46]).2.2:=⟨_,rfl⟩
 rw [← ha,← hy] at hcl
 have hX:(bs a).size≤maxLen:=by unfold maxLen;simp [ByteArray.size];omega
 have hY:(bs y).size≤maxLen:=by unfold maxLen;simp [ByteArray.size];omega
 have HX:∀ R:ByteArray,R.data.toList=r→Hid (bs a=bs (Lib.cut R.data.toList [46]).1):=fun R h=>Lib.hid (by rw [h,ha])
 have HY:∀ R:ByteArray,R.data.toList=r→Hid (bs y=bs (Lib.cut R.data.toList [46]).2.1):=fun R h=>Lib.hid (by rw [h,hy])
 have HB:∀ R:ByteArray,R.data.toList=r→Hid (b=(Lib.cut R.data.toList [46]).2.2):=fun R h=>Lib.hid (by rw [h,hb])
 have DX:Hid (digs a=digs (bs a).data.toList):=Lib.hid rfl
 have DY:Hid (digs y=digs (bs y).data.toList):=Lib.hid rfl
 have hspec:zd0 s.data.toList=if digs a && (!b || digs y) then some ((sgn l).1,a,y) else none:=by
  unfold zd0
  simp only [← hl,← hr,← ha,← hy,← hb]
 rw [hspec]
 clear hspec
 have key:∀ n:Bool,(sgn l).1=n→
  (digs a=true∧b=false→Calls Tryz.prog 221 #[.string s] w fun e w'=>e=.returned (.tuple #[.bool n,.string (bs a),.string (bs y),.bool true])∧Low w.heap.size w w')→
  (digs a=true∧b=true∧digs y=true→Calls Tryz.prog 221 #[.string s] w fun e w'=>e=.returned (.tuple #[.bool n,.string (bs a),.string (bs y),.bool true])∧Low w.heap.size w w')→
  (digs a=false→Calls Tryz.prog 221 #[.string s] w fun e w'=>e=.returned (.tuple #[.bool false,.string ⟨#[]⟩,.string ⟨#[]⟩,.bool false])∧Low w.heap.size w w')→
  (digs a=true∧b=true∧digs y=false→Calls Tryz.prog 221 #[.string s] w fun e w'=>e=.returned (.tuple #[.bool false,.string ⟨#[]⟩,.string ⟨#[]⟩,.bool false])∧Low w.heap.size w w')→
  Calls Tryz.prog 221 #[.string s] w fun e w'=>e=.returned (zzi (if digs a && (!b || digs y) then some ((sgn l).1,a,y) else none))∧Low w.heap.size w w':=by
  intro n hn kA kB kC kD
  rw [hn]
  cases h1:digs a
  ·exact kC h1
  ·cases h2:b
   ·exact kA ⟨h1,h2⟩
   ·cases h3:digs y
    ·exact kD ⟨h1,h2,h3⟩
    ·exact kB ⟨h1,h2,h3⟩
 have hex:∀ c t,l=c::t→(s.extract 1 s.size).data.toList=t:=by
  intro c t e
  rw [Lib.extract_to_end,← hl,e]
  rfl
 cases l with
 | nil=>
   have e1:(sgn [])=(false,[]):=rfl
   rw [e1] at hr
   have hrr:s.data.toList=r:=by rw [hr,← hl]
   have P1:Hid (false=Lib.hasPrefix s.data.toList (ByteArray.mk #[45]).data.toList):=Lib.hid (by rw [← hl];rfl)
   have P2:Hid (false=Lib.hasPrefix s.data.toList (ByteArray.mk #[43]).data.toList):=Lib.hid (by rw [← hl];rfl)
   refine key false rfl ?_ ?_ ?_ ?_
   ·exact zl5 s s _ _ _ _ _ w hG hs hX hY P1 P2 rfl (HX _ hrr) (HY _ hrr) (HB _ hrr) DX DY
   ·exact zl6 s s _ _ _ _ _ w hG hs hX hY P1 P2 rfl (HX _ hrr) (HY _ hrr) (HB _ hrr) DX DY
   ·exact zl7 s s _ _ _ _ _ w hG hs hX hY P1 P2 rfl (HX _ hrr) (HY _ hrr) (HB _ hrr) DX DY
   ·exact zl8 s s _ _ _ _ _ w hG hs hX hY P1 P2 rfl (HX _ hrr) (HY _ hrr) (HB _ hrr) DX DY
 | cons c t=>
   have hsz:1≤s.size:=by rw [← hsl];simp
   by_cases h45:c=45
   ·subst h45
    have e1:sgn (45::t)=(true,t):=by simp [sgn]
    have hrr:(s.extract 1 s.size).data.toList=r:=by rw [hr,e1];exact hex _ _ rfl
    have P1:Hid (true=Lib.hasPrefix s.data.toList (ByteArray.mk #[45]).data.toList):=Lib.hid (by rw [← hl];simp [Lib.hasPrefix])
    refine key true (by rw [e1]) ?_ ?_ ?_ ?_
    ·exact zt8 s _ _ _ _ _ _ w hG hs hX hY hsz P1 rfl (HX _ hrr) (HY _ hrr) (HB _ hrr) DX DY
    ·exact zt9 s _ _ _ _ _ _ w hG hs hX hY hsz P1 rfl (HX _ hrr) (HY _ hrr) (HB _ hrr) DX DY
    ·exact zua s _ _ _ _ _ _ w hG hs hX hY hsz P1 rfl (HX _ hrr) (HY _ hrr) (HB _ hrr) DX DY
    ·exact zub s _ _ _ _ _ _ w hG hs hX hY hsz P1 rfl (HX _ hrr) (HY _ hrr) (HB _ hrr) DX DY
   ·have P1:Hid (false=Lib.hasPrefix s.data.toList (ByteArray.mk #[45]).data.toList):=Lib.hid (by rw [← hl];simp [Lib.hasPrefix,List.isPrefixOf,beq_eq_false_iff_ne.2 (fun e:(45:UInt8)=c=>h45 e.symm)])
    by_cases h43:c=43
    ·subst h43
     have e1:sgn (43::t)=(false,t):=by simp [sgn]
     have hrr:(s.extract 1 s.size).data.toList=r:=by rw [hr,e1];exact hex _ _ rfl
     have P2:Hid (true=Lib.hasPrefix s.data.toList (ByteArray.mk #[43]).data.toList):=Lib.hid (by rw [← hl];simp [Lib.hasPrefix])
     refine key false (by rw [e1]) ?_ ?_ ?_ ?_
     ·exact zsk s _ _ _ _ _ _ w hG hs hX hY hsz P1 P2 rfl (HX _ hrr) (HY _ hrr) (HB _ hrr) DX DY
     ·exact zsl s _ _ _ _ _ _ w hG hs hX hY hsz P1 P2 rfl (HX _ hrr) (HY _ hrr) (HB _ hrr) DX DY
     ·exact zsm s _ _ _ _ _ _ w hG hs hX hY hsz P1 P2 rfl (HX _ hrr) (HY _ hrr) (HB _ hrr) DX DY
     ·exact zsn s _ _ _ _ _ _ w hG hs hX hY hsz P1 P2 rfl (HX _ hrr) (HY _ hrr) (HB _ hrr) DX DY
    ·have e1:sgn (c::t)=(false,c::t):=by simp [sgn,h45,h43]
     have hrr:s.data.toList=r:=by rw [hr,e1,← hl]
     have P2:Hid (false=Lib.hasPrefix s.data.toList (ByteArray.mk #[43]).data.toList):=Lib.hid (by rw [← hl];simp [Lib.hasPrefix,List.isPrefixOf,beq_eq_false_iff_ne.2 (fun e:(43:UInt8)=c=>h43 e.symm)])
     refine key false (by rw [e1]) ?_ ?_ ?_ ?_
     ·exact zl5 s s _ _ _ _ _ w hG hs hX hY P1 P2 rfl (HX _ hrr) (HY _ hrr) (HB _ hrr) DX DY
     ·exact zl6 s s _ _ _ _ _ w hG hs hX hY P1 P2 rfl (HX _ hrr) (HY _ hrr) (HB _ hrr) DX DY
     ·exact zl7 s s _ _ _ _ _ w hG hs hX hY P1 P2 rfl (HX _ hrr) (HY _ hrr) (HB _ hrr) DX DY
     ·exact zl8 s s _ _ _ _ _ w hG hs hX hY P1 P2 rfl (HX _ hrr) (HY _ hrr) (HB _ hrr) DX DY
def zxd:Option (Option (List UInt8))→Value
 | none=>.tuple #[.string ⟨#[]⟩,.int .i64 6]
 | some r=>said r
set_option maxHeartbeats 800000 in
theorem zxe (s:ByteArray) (w:World) (hG:Gd w) (hs:s.size < 4294967281) (h:zd0 s.data.toList=none):
 Calls Tryz.prog 192 #[.string s] w fun e w'=>e=.returned (.tuple #[.string ⟨#[]⟩,.int .i64 6])∧Low w.heap.size w w':=by
 have hc:∀ W,Gd W→Calls Tryz.prog 221 #[.string s] W fun e w'=>e=.returned (.tuple #[.bool false,.string ⟨#[]⟩,.string ⟨#[]⟩,.bool false])∧Low W.heap.size W w':=fun W hW=>by
  have:=zud s W hW hs
  rwa [h] at this
 have HC:=Lib.hid hc
 clear hc
 go_enter Tryz.func192,Tryz.ntmps192
 go_wp2_with (go_at_call 221;(with_reducible refine (HC.out _ hG).mono ?_);rintro e w1 ⟨rfl,hb⟩)
 go_ret2
 exact ⟨rfl,hb⟩
set_option maxHeartbeats 800000 in
theorem zxf (s:ByteArray) (w:World) (hG:Gd w) (hs:s.size < 4294967281) (n:Bool) (a b:List UInt8) (h:zd0 s.data.toList=some (n,a,b)) (hA:(bs a).size≤maxLen) (hB:(bs b).size≤maxLen) (t:ByteArray) (k:Int)
 (hv:said (wr n a b)=.tuple #[.string t,.int .i64 k]):
 Calls Tryz.prog 192 #[.string s] w fun e w'=>e=.returned (.tuple #[.string t,.int .i64 k])∧Low w.heap.size w w':=by
 obtain ⟨A,hA'⟩:∃ A,A=bs a:=⟨_,rfl⟩
 obtain ⟨B,hB'⟩:∃ B,B=bs b:=⟨_,rfl⟩
 have hc:∀ W,Gd W→Calls Tryz.prog 221 #[.string s] W fun e w'=>e=.returned (.tuple #[.bool n,.string A,.string B,.bool true])∧Low W.heap.size W w':=fun W hW=>by
  have:=zud s W hW hs
  rw [h] at this
  rw [hA',hB']
  exact this
 have hw:∀ W,Calls Tryz.prog 222 #[.bool n,.string A,.string B] W fun e w'=>e=.returned (.tuple #[.string t,.int .i64 k])∧W=w':=fun W=>by
  have:=writeAt n A B W (by rw [hA'];exact hA) (by rw [hB'];exact hB)
  rw [hA',hB'] at this
  rw [show said (wr n (bs a).data.toList (bs b).data.toList)=.tuple #[.string t,.int .i64 k] from hv] at this
  rw [hA',hB']
  exact this
 have HC:=Lib.hid hc
 have HW:=Lib.hid hw
 clear hc hw hv h hA' hB'
 go_enter Tryz.func192,Tryz.ntmps192
 go_wp2_with (first
  |(go_at_call 221;(with_reducible refine (HC.out _ hG).mono ?_);rintro e w1 ⟨rfl,hb⟩)
  |(go_at_call 222;(with_reducible refine (HW.out _).mono ?_);rintro e w' ⟨rfl,rfl⟩))
 go_ret2
 exact ⟨rfl,hb⟩
theorem ziv (r:Option (List UInt8)):∃ (t:ByteArray) (k:Int),said r=.tuple #[.string t,.int .i64 k]:=by
 cases r with
 | none=>exact ⟨_,_,rfl⟩
 | some t=>exact ⟨_,_,rfl⟩
theorem readAt (s:ByteArray) (w:World) (hG:Gd w) (hs:s.size < 4294967281):
 Calls Tryz.prog 192 #[.string s] w fun e w'=>e=.returned (zxd (zib s.data.toList))∧Low w.heap.size w w':=by
 unfold zib
 cases h:zd0 s.data.toList with
 | none=>exact zxe s w hG hs h
 | some x=>
   obtain ⟨n,a,b⟩:=x
   have h':=h
   unfold zd0 at h'
   have hl:s.data.toList.length=s.size:=by simp
   have h1:=zm1 s.data.toList
   have h2:=zuc (sgn s.data.toList).2
   simp only at h'
   split at h'
   ·simp only [Option.some.injEq,Prod.mk.injEq] at h'
    obtain ⟨_,rfl,rfl⟩:=h'
    obtain ⟨t,k,hv⟩:=ziv (wr n (Lib.cut (sgn s.data.toList).2 [46]).1 (Lib.cut (sgn s.data.toList).2 [46]).2.1)
    have:=zxf s w hG hs _ _ _ h (by unfold maxLen;simp [ByteArray.size];omega) (by unfold maxLen;simp [ByteArray.size];omega) t k hv
    simp only [Option.map_some,zxd]
    rw [hv]
    exact this
   ·cases h'
theorem zl9 (r:Option (Option (List UInt8))):∃ (t:ByteArray) (k:Int),zxd r=.tuple #[.string t,.int .i64 k]∧(k=0↔∃ l,r=some (some l))∧∀ l,r=some (some l)→t=bs l:=by
 match r with
 | none=>exact ⟨_,_,rfl,⟨fun h=>(by cases h),fun ⟨l,h⟩=>(by cases h)⟩,fun l h=>(by cases h)⟩
 | some none=>exact ⟨_,_,rfl,⟨fun h=>(by cases h),fun ⟨l,h⟩=>(by cases h)⟩,fun l h=>(by cases h)⟩
 | some (some t)=>exact ⟨_,_,rfl,⟨fun _=>⟨t,rfl⟩,fun _=>rfl⟩,fun l h=>by cases h;rfl⟩
set_option maxHeartbeats 800000 in
theorem checkAt (s:ByteArray) (w:World) (hG:Gd w) (hs:s.size < 4294967281):
 Calls Tryz.prog 157 #[.string s] w fun e w'=>e=.returned (.bool (chk s.data.toList))∧Low w.heap.size w w':=by
 obtain ⟨t,k,hv,hk,ht⟩:=zl9 (zib s.data.toList)
 have hc:∀ W,Gd W→Calls Tryz.prog 192 #[.string s] W fun e w'=>e=.returned (.tuple #[.string t,.int .i64 k])∧Low W.heap.size W w':=fun W hW=>by
  have:=readAt s W hW hs
  rwa [hv] at this
 have HC:=Lib.hid hc
 clear hc hv
 by_cases h:chk s.data.toList=true
 ·have hr:zib s.data.toList=some (some s.data.toList):=by simpa [chk] using h
  obtain rfl:k=0:=hk.2 ⟨_,hr⟩
  obtain rfl:t=s:=by rw [ht _ hr]
  rw [h]
  have HH:=Lib.hid h
  clear h hr hk ht
  go_enter Tryz.func157,Tryz.ntmps157
  go_wp2_with (go_at_call 192;(with_reducible refine (HC.out _ hG).mono ?_);rintro e w1 ⟨rfl,hb⟩)
  go_ret
  exact ⟨rfl,hb⟩
 ·have hf:chk s.data.toList=false:=by simpa using h
  rw [hf]
  by_cases h0:k=0
  ·subst h0
   obtain ⟨l,hl⟩:=hk.1 rfl
   have hne:¬ t=s:=by
    rw [ht _ hl]
    intro e
    apply h
    unfold chk
    rw [hl,← e]
    simp
   have e2:(t.toList == s.toList)=false:=beq_eq_false_iff_ne.2 (fun e=>hne (zdq (by rw [← ByteArray.toList_eq,← ByteArray.toList_eq];exact e)))
   clear h hf hk ht hl hne
   go_enter Tryz.func157,Tryz.ntmps157
   go_wp2_with (go_at_call 192;(with_reducible refine (HC.out _ hG).mono ?_);rintro e w1 ⟨rfl,hb⟩)
   go_ret
   exact ⟨rfl,hb⟩
  ·have e0:(k == 0)=false:=by simpa using h0
   clear h hf hk ht
   go_enter Tryz.func157,Tryz.ntmps157
   go_wp2_with (go_at_call 192;(with_reducible refine (HC.out _ hG).mono ?_);rintro e w1 ⟨rfl,hb⟩)
   go_ret
   exact ⟨rfl,hb⟩
end Go.Proofs.YteclpnfckjfibaaGreatDoor

/- A3 -/
namespace Go.Proofs.YteclpnfckjfibaaGreatDoor
open Go.RowKit
def ten (e:Nat):Nat:=10 ^ e
def zue (b o:Nat) (v:Value) (w:World):Prop:=w.cell? ⟨b,o,none⟩=some v∧w.frozen? ⟨b,o,none⟩=false∧b < w.heap.size
theorem zue.below {b o:Nat} {v:Value} {w w':World} (h:zue b o v w) (k:Below w.heap.size w w'):zue b o v w':=
 ⟨(k.cell (p:=⟨b,o,none⟩) h.2.2).trans h.1,(k.frozen (p:=⟨b,o,none⟩) h.2.2).trans h.2.1,Nat.lt_of_lt_of_le h.2.2 k.size⟩
end Go.Proofs.YteclpnfckjfibaaGreatDoor

/- A4 -/
namespace Go.Proofs.YteclpnfckjfibaaGreatDoor
open Go.RowKit
end Go.Proofs.YteclpnfckjfibaaGreatDoor

/- A5 -/
namespace Go.Proofs.YteclpnfckjfibaaGreatDoor
open Go.RowKit
end Go.Proofs.YteclpnfckjfibaaGreatDoor

/- M2 -/
namespace Go.Proofs.YteclpnfckjfibaaGreatDoor
theorem zrk (j:Nat):BASE ^ j=10 ^ (9*j):=by
 rw [Nat.pow_mul];rfl
theorem zrl (j:Nat):0 < BASE ^ j:=Nat.pow_pos (by decide)
theorem limb_N (f:Nat→Nat) (hf:ze4 f) (j:Nat):∀ n,j < n→n≤16→vN n f / BASE ^ j % BASE=f j:=by
 intro n
 induction n with
 | zero=>intro h;omega
 | succ n ih=>
   intro h hn
   by_cases e:j=n
   ·subst e
    have:=vN_lt f hf j (by omega)
    simp only [vN]
    rw [Nat.add_mul_div_right _ _ (zrl j),Nat.div_eq_of_lt this,Nat.zero_add,Nat.mod_eq_of_lt (hf j (by omega))]
   ·have hlt:j < n:=by omega
    rw [← ih hlt (by omega)]
    simp only [vN]
    obtain ⟨d,rfl⟩:∃ d,n=j+1+d:=⟨n - (j+1),by omega⟩
    have e:f (j+1+d)*BASE ^ (j+1+d)=(f (j+1+d)*BASE ^ d*BASE)*BASE ^ j:=by
     rw [Nat.pow_add,Nat.pow_succ]
     generalize BASE ^ d=x
     generalize BASE ^ j=y
     ac_rfl
    rw [e,Nat.add_mul_div_right _ _ (zrl j),Nat.add_mul_mod_self_right]
theorem zxg (f:Nat→Nat) (hf:ze4 f) (j:Nat) (hj:j < 16):f j=wval f / BASE ^ j % BASE:=(limb_N f hf j 16 hj (Nat.le_refl _)).symm
theorem vN_updv (f:Nat→Nat) (j v:Nat):∀ n,j < n→vN n (upd f j v)+f j*BASE ^ j=vN n f+v*BASE ^ j:=by
 intro n
 induction n with
 | zero=>intro h;omega
 | succ n ih=>
   intro h
   by_cases e:j=n
   ·subst e
    simp only [vN,zrh,vN_upd _ _ _ _ (Nat.le_refl _)];omega
   ·have:=ih (by omega)
    simp only [vN,zf7 f v (show n≠j by omega)];omega
theorem zxh (f:Nat→Nat) (j v:Nat) (hj:j < 16):wval (upd f j v)+f j*BASE ^ j=wval f+v*BASE ^ j:=vN_updv f j v 16 hj
theorem room (f:Nat→Nat) (hf:ze4 f) (M p:Nat) (hp:p < 144) (h:wval f=M*10 ^ (p+1)):f (p / 9)+9*10 ^ (p % 9) < BASE:=by
 rw [zxg f hf (p / 9) (by omega),zrk,h]
 have e:10 ^ (p+1)=10 ^ (p % 9+1)*10 ^ (9*(p / 9)):=by rw [← Nat.pow_add];congr 1;omega
 rw [e,← Nat.mul_assoc,Nat.mul_div_cancel _ (Nat.pow_pos (by omega))]
 obtain ⟨r,hr⟩:∃ r,r=p % 9:=⟨_,rfl⟩
 rw [← hr]
 have hr9:r≤8:=by omega
 have eb:BASE=10 ^ (r+1)*10 ^ (8 - r):=by rw [← Nat.pow_add,show r+1+(8 - r)=9 by omega];rfl
 rw [Nat.mul_comm M,eb,Nat.mul_mod_mul_left]
 have h1:M % 10 ^ (8 - r) < 10 ^ (8 - r):=Nat.mod_lt _ (Nat.pow_pos (by omega))
 have h2:10 ^ (r+1)*(M % 10 ^ (8 - r)+1)≤10 ^ (r+1)*10 ^ (8 - r):=Nat.mul_le_mul_left _ h1
 rw [Nat.mul_add,Nat.mul_one,Nat.pow_succ] at h2
 have h3:0 < 10 ^ r:=Nat.pow_pos (by omega)
 rw [Nat.pow_succ]
 omega
end Go.Proofs.YteclpnfckjfibaaGreatDoor

/- B1 -/
namespace Go.Proofs.YteclpnfckjfibaaGreatDoor
open Go.RowKit
theorem zqc (A:ByteArray) (k:Nat) (h:k < A.size):A[k]=A.data.toList[k]'(by simpa using h):=by
 simp [ByteArray.getElem_eq_getElem_data]
end Go.Proofs.YteclpnfckjfibaaGreatDoor

/- B2 -/
namespace Go.Proofs.YteclpnfckjfibaaGreatDoor
open Go.RowKit
end Go.Proofs.YteclpnfckjfibaaGreatDoor

/- B5 -/
namespace Go.Proofs.YteclpnfckjfibaaGreatDoor
open Go.RowKit
end Go.Proofs.YteclpnfckjfibaaGreatDoor

/- B6 -/
namespace Go.Proofs.YteclpnfckjfibaaGreatDoor
open Go.RowKit
end Go.Proofs.YteclpnfckjfibaaGreatDoor
