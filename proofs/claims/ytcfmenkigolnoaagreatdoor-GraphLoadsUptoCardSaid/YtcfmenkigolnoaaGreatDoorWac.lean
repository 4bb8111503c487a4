/- Texts of one kind, one behind the other: each says ahead of itself what it shows. -/
import Derived.Shelf.Strings.Trim
import Derived.Shelf.Small.Utf8
import Derived.Shelf.Small.Strs
import Derived.Shelf.Small.Wraps
import Derived.Shelf.Strconv.Itoa0
import Derived.Shelf.Strconv.Itoa1
import Derived.Shelf.LaysM
import Derived.Shelf.Strconv.Itoa2
import Derived.Shelf.Strconv.Itoa3
import Derived.Shelf.Strconv.Itoa4
import Derived.Shelf.Strconv.ParseIntEmpty
import Derived.Shelf.Strconv.Clone
import Derived.Shelf.Strconv.SyntaxError
import Derived.Shelf.LaysC
import Derived.Shelf.Strconv.ToError
import Derived.Shelf.Strconv.Lower
import Derived.Shelf.Strconv.ParseUint10
import Derived.Shelf.Strconv.ParseUint10Empty
import Derived.Shelf.Strconv.ParseUint10Any
import Derived.Shelf.Strconv.ParseInt10
import Derived.Shelf.Strconv.RangeError
import Derived.Shelf.Strconv.ToErrorRange
import Derived.Shelf.Strconv.ParseUintEmpty
import Derived.Shelf.Strconv.ParseUint10b64
import Derived.Shelf.Strconv.ParseUint10b32
import Derived.Shelf.Strconv.ParseUint10b16
import Derived.Shelf.Strconv.ParseUint10b8
import Derived.Shelf.Strconv.ParseUint10At
import Derived.Shelf.Strconv.ParseInt10At64
import Derived.Shelf.Strconv.ParseInt10At32
import Derived.Shelf.Strconv.ParseInt10At16
import Derived.Shelf.Strconv.ParseInt10At8
import Derived.Shelf.Strconv.ParseInt10All
import Derived.Shelf.Strconv.ParseIntPublic10
import Derived.Shelf.Strconv.ErrVarParseInt
import Derived.Shelf.Strings.Search1
import Derived.Shelf.Strings.Search2
import Derived.Shelf.Strings.Cut
import Derived.Shelf.Strings.Shaped
import Derived.Shelf.Strings.Prefix
import Derived.Shelf.Strings.Runes
import Derived.Shelf.Strings.AsciiSet
import Derived.Shelf.Unicode.DecodeSlow
import Derived.Test.YtcfmenkigolnoaaGreatDoorProg
import Derived.Test.YtcfmenkigolnoaaGreatDoorWaa
import Derived.Deep.RegionWith
import Derived.BigGuardPart
/- Shelf -/
namespace Go.Proofs
open Go.Shelf
def Tryz.lays161_ren:Go.Shelf.Ren:=⟨fun | 161=>198 | 231=>203 | 227=>204 | 233=>205 | 235=>206 | 228=>211 | 197=>212 | 151=>213 | 260=>219 | 152=>220 | 137=>224 | 119=>225 | 224=>217 | 225=>216 | 217=>215 | 266=>222 | n=>n,fun | 9=>9 | 4=>4 | 3=>3 | 5=>5 | 117=>227 | 116=>226 | 0=>0 | 124=>230 | 105=>231 | 21=>21 | 119=>239 | 46=>132 | 139=>242 | 138=>241 | n=>n,fun | 3=>1 | 4=>2 | n=>n⟩
theorem Tryz.lays161:Go.Proofs.Lays.n161 Tryz.prog Tryz.lays161_ren:={
 mixed:=by kernel_rfl
 f119:=Tryz.func225.trans (congrArg some (by kernel_rfl))
 f137:=Tryz.func224.trans (congrArg some (by kernel_rfl))
 f151:=Tryz.func213.trans (congrArg some (by kernel_rfl))
 f152:=Tryz.func220.trans (congrArg some (by kernel_rfl))
 f161:=Tryz.func198.trans (congrArg some (by kernel_rfl))
 f197:=Tryz.func212.trans (congrArg some (by kernel_rfl))
 f217:=Tryz.func215.trans (congrArg some (by kernel_rfl))
 f224:=Tryz.func217.trans (congrArg some (by kernel_rfl))
 f225:=Tryz.func216.trans (congrArg some (by kernel_rfl))
 f227:=Tryz.func204.trans (congrArg some (by kernel_rfl))
 f228:=Tryz.func211.trans (congrArg some (by kernel_rfl))
 f231:=Tryz.func203.trans (congrArg some (by kernel_rfl))
 f233:=Tryz.func205.trans (congrArg some (by kernel_rfl))
 f235:=Tryz.func206.trans (congrArg some (by kernel_rfl))
 f260:=Tryz.func219.trans (congrArg some (by kernel_rfl))
 f266:=Tryz.func222.trans (congrArg some (by kernel_rfl))
 t0:=Tryz.underlying0
 a0:=Tryz.isAgg0
 z0:=Tryz.sizeOf0
 v0:=Tryz.zeroValue0
 t3:=Tryz.underlying3
 a3:=Tryz.isAgg3
 z3:=Tryz.sizeOf3
 v3:=Tryz.zeroValue3
 t4:=Tryz.underlying4
 a4:=Tryz.isAgg4
 z4:=Tryz.sizeOf4
 v4:=Tryz.zeroValue4
 t5:=Tryz.underlying5
 a5:=Tryz.isAgg5
 z5:=Tryz.sizeOf5
 v5:=Tryz.zeroValue5
 t9:=Tryz.underlying9
 a9:=Tryz.isAgg9
 z9:=Tryz.sizeOf9
 v9:=Tryz.zeroValue9
 t21:=Tryz.underlying21
 a21:=Tryz.isAgg21
 z21:=Tryz.sizeOf21
 v21:=Tryz.zeroValue21
 t46:=Tryz.underlying132
 a46:=Tryz.isAgg132
 z46:=Tryz.sizeOf132
 v46:=Tryz.zeroValue132
 t105:=Tryz.underlying231
 a105:=Tryz.isAgg231
 z105:=Tryz.sizeOf231
 v105:=Tryz.zeroValue231
 t116:=Tryz.underlying226
 a116:=Tryz.isAgg226
 z116:=Tryz.sizeOf226
 t117:=Tryz.underlying227
 a117:=Tryz.isAgg227
 z117:=Tryz.sizeOf227
 v117:=Tryz.zeroValue227
 t119:=Tryz.underlying239
 a119:=Tryz.isAgg239
 z119:=Tryz.sizeOf239
 t124:=Tryz.underlying230
 a124:=Tryz.isAgg230
 z124:=Tryz.sizeOf230
 v124:=Tryz.zeroValue230
 t138:=Tryz.underlying241
 a138:=Tryz.isAgg241
 z138:=Tryz.sizeOf241
 v138:=Tryz.zeroValue241
 t139:=Tryz.underlying242
 a139:=Tryz.isAgg242
 z139:=Tryz.sizeOf242
 v139:=Tryz.zeroValue242
 g3:=by kernel_rfl
 g4:=by kernel_rfl }
open Go.RowKit in
theorem Tryz.strings_TrimLeft_one (s:ByteArray) (c:UInt8) (hc:c.toNat < 128) (w:World):
 Calls Tryz.prog 198 #[.string s,.string ⟨#[c]⟩] w fun e w'=>e=.returned (.string ⟨(Lib.trimLeftB s.data.toList c).toArray⟩)∧w'=w:=Any.strings_TrimLeft_one Tryz.lays161 s c hc w
def Tryz.lays162_ren:Go.Shelf.Ren:=⟨fun | 162=>199 | 232=>207 | 227=>204 | 234=>208 | 236=>209 | 228=>211 | 271=>214 | 151=>213 | 120=>221 | 197=>212 | 152=>220 | 260=>219 | 137=>224 | 119=>225 | 224=>217 | 225=>216 | 217=>215 | 266=>222 | n=>n,fun | 9=>9 | 4=>4 | 3=>3 | 5=>5 | 117=>227 | 116=>226 | 0=>0 | 124=>230 | 21=>21 | 105=>231 | 46=>132 | 119=>239 | 139=>242 | 138=>241 | n=>n,fun | 3=>1 | 4=>2 | n=>n⟩
theorem Tryz.lays162:Go.Proofs.Lays.n162 Tryz.prog Tryz.lays162_ren:={
 mixed:=by kernel_rfl
 f119:=Tryz.func225.trans (congrArg some (by kernel_rfl))
 f120:=Tryz.func221.trans (congrArg some (by kernel_rfl))
 f137:=Tryz.func224.trans (congrArg some (by kernel_rfl))
 f151:=Tryz.func213.trans (congrArg some (by kernel_rfl))
 f152:=Tryz.func220.trans (congrArg some (by kernel_rfl))
 f162:=Tryz.func199.trans (congrArg some (by kernel_rfl))
 f197:=Tryz.func212.trans (congrArg some (by kernel_rfl))
 f217:=Tryz.func215.trans (congrArg some (by kernel_rfl))
 f224:=Tryz.func217.trans (congrArg some (by kernel_rfl))
 f225:=Tryz.func216.trans (congrArg some (by kernel_rfl))
 f227:=Tryz.func204.trans (congrArg some (by kernel_rfl))
 f228:=Tryz.func211.trans (congrArg some (by kernel_rfl))
 f232:=Tryz.func207.trans (congrArg some (by kernel_rfl))
 f234:=Tryz.func208.trans (congrArg some (by kernel_rfl))
 f236:=Tryz.func209.trans (congrArg some (by kernel_rfl))
 f260:=Tryz.func219.trans (congrArg some (by kernel_rfl))
 f266:=Tryz.func222.trans (congrArg some (by kernel_rfl))
 f271:=Tryz.func214.trans (congrArg some (by kernel_rfl))
 t0:=Tryz.underlying0
 a0:=Tryz.isAgg0
 z0:=Tryz.sizeOf0
 v0:=Tryz.zeroValue0
 t3:=Tryz.underlying3
 a3:=Tryz.isAgg3
 z3:=Tryz.sizeOf3
 v3:=Tryz.zeroValue3
 t4:=Tryz.underlying4
 a4:=Tryz.isAgg4
 z4:=Tryz.sizeOf4
 v4:=Tryz.zeroValue4
 t5:=Tryz.underlying5
 a5:=Tryz.isAgg5
 z5:=Tryz.sizeOf5
 v5:=Tryz.zeroValue5
 t9:=Tryz.underlying9
 a9:=Tryz.isAgg9
 z9:=Tryz.sizeOf9
 v9:=Tryz.zeroValue9
 t21:=Tryz.underlying21
 a21:=Tryz.isAgg21
 z21:=Tryz.sizeOf21
 v21:=Tryz.zeroValue21
 t46:=Tryz.underlying132
 a46:=Tryz.isAgg132
 z46:=Tryz.sizeOf132
 v46:=Tryz.zeroValue132
 t105:=Tryz.underlying231
 a105:=Tryz.isAgg231
 z105:=Tryz.sizeOf231
 v105:=Tryz.zeroValue231
 t116:=Tryz.underlying226
 a116:=Tryz.isAgg226
 z116:=Tryz.sizeOf226
 t117:=Tryz.underlying227
 a117:=Tryz.isAgg227
 z117:=Tryz.sizeOf227
 v117:=Tryz.zeroValue227
 t119:=Tryz.underlying239
 a119:=Tryz.isAgg239
 z119:=Tryz.sizeOf239
 t124:=Tryz.underlying230
 a124:=Tryz.isAgg230
 z124:=Tryz.sizeOf230
 v124:=Tryz.zeroValue230
 t138:=Tryz.underlying241
 a138:=Tryz.isAgg241
 z138:=Tryz.sizeOf241
 v138:=Tryz.zeroValue241
 t139:=Tryz.underlying242
 a139:=Tryz.isAgg242
 z139:=Tryz.sizeOf242
 v139:=Tryz.zeroValue242
 g3:=by kernel_rfl
 g4:=by kernel_rfl }
open Go.RowKit in
theorem Tryz.strings_TrimRight_one (s:ByteArray) (c:UInt8) (hc:c.toNat < 128) (w:World) (hs:s.size≤9223372036854775807):
 Calls Tryz.prog 199 #[.string s,.string ⟨#[c]⟩] w fun e w'=>e=.returned (.string ⟨(Lib.trimRightB s.data.toList c).toArray⟩)∧w'=w:=Any.strings_TrimRight_one Tryz.lays162 s c hc w hs
def Tryz.lays145_ren:Go.Shelf.Ren:=⟨fun | 145=>196 | 220=>202 | 219=>210 | 217=>215 | 225=>216 | 224=>217 | 267=>218 | 266=>222 | 314=>223 | n=>n,fun | 9=>9 | 4=>4 | 59=>221 | 3=>3 | 5=>5 | 46=>132 | 146=>237 | 51=>164 | n=>n,fun | 1=>0 | n=>n⟩
theorem Tryz.lays145:Go.Proofs.Lays.n145 Tryz.prog Tryz.lays145_ren:={
 mixed:=by kernel_rfl
 f145:=Tryz.func196.trans (congrArg some (by kernel_rfl))
 f217:=Tryz.func215.trans (congrArg some (by kernel_rfl))
 f219:=Tryz.func210.trans (congrArg some (by kernel_rfl))
 f220:=Tryz.func202.trans (congrArg some (by kernel_rfl))
 f224:=Tryz.func217.trans (congrArg some (by kernel_rfl))
 f225:=Tryz.func216.trans (congrArg some (by kernel_rfl))
 f266:=Tryz.func222.trans (congrArg some (by kernel_rfl))
 f267:=Tryz.func218.trans (congrArg some (by kernel_rfl))
 f314:=Tryz.func223.trans (congrArg some (by kernel_rfl))
 t3:=Tryz.underlying3
 a3:=Tryz.isAgg3
 z3:=Tryz.sizeOf3
 v3:=Tryz.zeroValue3
 t4:=Tryz.underlying4
 a4:=Tryz.isAgg4
 z4:=Tryz.sizeOf4
 v4:=Tryz.zeroValue4
 t5:=Tryz.underlying5
 a5:=Tryz.isAgg5
 z5:=Tryz.sizeOf5
 v5:=Tryz.zeroValue5
 t9:=Tryz.underlying9
 a9:=Tryz.isAgg9
 z9:=Tryz.sizeOf9
 v9:=Tryz.zeroValue9
 t46:=Tryz.underlying132
 a46:=Tryz.isAgg132
 z46:=Tryz.sizeOf132
 v46:=Tryz.zeroValue132
 t51:=Tryz.underlying164
 a51:=Tryz.isAgg164
 z51:=Tryz.sizeOf164
 v51:=Tryz.zeroValue164
 t59:=Tryz.underlying221
 a59:=Tryz.isAgg221
 z59:=Tryz.sizeOf221
 v59:=Tryz.zeroValue221
 t146:=Tryz.underlying237
 a146:=Tryz.isAgg237
 z146:=Tryz.sizeOf237
 v146:=Tryz.zeroValue237
 g1:=by kernel_rfl }
open Go.RowKit Go.Lib in
theorem Tryz.strings_Cut (s sep:ByteArray) (m:Int) (w:World) (hs:s.size < 4294967281) (hm:w.cell? ⟨0,0,none⟩=some (.int .i64 m)):
 Calls Tryz.prog 196 #[.string s,.string sep] w fun e w'=>e=.returned (.tuple #[.string ⟨(Lib.cut s.data.toList sep.data.toList).1.toArray⟩,.string ⟨(Lib.cut s.data.toList sep.data.toList).2.1.toArray⟩,.bool (Lib.cut s.data.toList sep.data.toList).2.2])∧∃ n,w'=w.drewN n:=Any.strings_Cut Tryz.lays145 s sep m w hs hm
def Tryz.lays99_ren:Go.Shelf.Ren:=⟨fun | 99=>195 | 206=>201 | n=>n,fun | 9=>9 | 4=>4 | 3=>3 | n=>n,fun | n=>n⟩
theorem Tryz.lays99:Go.Proofs.Lays.n99 Tryz.prog Tryz.lays99_ren:={
 mixed:=by kernel_rfl
 f99:=Tryz.func195.trans (congrArg some (by kernel_rfl))
 f206:=Tryz.func201.trans (congrArg some (by kernel_rfl))
 t3:=Tryz.underlying3
 a3:=Tryz.isAgg3
 z3:=Tryz.sizeOf3
 v3:=Tryz.zeroValue3
 t4:=Tryz.underlying4
 a4:=Tryz.isAgg4
 z4:=Tryz.sizeOf4
 v4:=Tryz.zeroValue4
 t9:=Tryz.underlying9
 a9:=Tryz.isAgg9
 z9:=Tryz.sizeOf9
 v9:=Tryz.zeroValue9 }
open Go.RowKit Go.Lib in
theorem Tryz.strings_HasPrefix (s p:ByteArray) (w:World):
 Calls Tryz.prog 195 #[.string s,.string p] w fun e w'=>e=.returned (.bool (Lib.hasPrefix s.data.toList p.data.toList))∧w'=w:=Any.strings_HasPrefix Tryz.lays99 s p w
end Go.Proofs

/- S2 -/
namespace Go.Proofs.YtcfmenkigolnoaaGreatDoor
open Go.RowKit
abbrev bs (l:List UInt8):ByteArray:=⟨l.toArray⟩
theorem trimL (s A:ByteArray) (H:Hid (A=bs (Lib.trimLeftB s.data.toList 48))) (w:World):
 Calls Tryz.prog 198 #[.string s,.string ⟨#[48]⟩] w fun e w'=>e=.returned (.string A)∧w=w':=
 (Tryz.strings_TrimLeft_one s 48 (by decide) w).mono fun _ _ ⟨h,k⟩=>⟨by rw [h,H.out],k.symm⟩
theorem trimR (s A:ByteArray) (H:Hid (A=bs (Lib.trimRightB s.data.toList 48))) (w:World) (hs:s.size≤maxLen):
 Calls Tryz.prog 199 #[.string s,.string ⟨#[48]⟩] w fun e w'=>e=.returned (.string A)∧w=w':=
 (Tryz.strings_TrimRight_one s 48 (by decide) w (by unfold maxLen at hs;omega)).mono fun _ _ ⟨h,k⟩=>⟨by rw [h,H.out],k.symm⟩
theorem zl8 (s A:ByteArray) (H:Hid (A=bs (orN s.data.toList))) (w:World):
 Calls Tryz.prog 200 #[.string s] w fun e w'=>e=.returned (.string A)∧w=w':=
 (zpk s w).mono fun _ _ ⟨h,k⟩=>⟨by rw [h,H.out],k.symm⟩
theorem zgz (l:List UInt8) (n:Nat) (h:l.length≤n) (hn:1≤n):(bs (orN l)).size≤n:=by
 unfold orN bs
 split <;> simp [ByteArray.size] <;> omega
theorem zdf {a b:ByteArray} (h:a.data.toList=b.data.toList):a=b:=by
 obtain ⟨a⟩:=a;obtain ⟨b⟩:=b
 simp only [ByteArray.mk.injEq]
 exact Array.toList_inj.1 h
set_option maxHeartbeats 800000 in
theorem zuy (neg:Bool) (x y A B:ByteArray) (w:World) (_hx:x.size≤maxLen) (hy:y.size≤maxLen) (HA:Hid (A=bs (Lib.trimLeftB x.data.toList 48))) (HB:Hid (B=bs (Lib.trimRightB y.data.toList 48)))
 (hA:A.size≤40) (hB:B.size≤20) (hn:neg=false):
 Calls Tryz.prog 194 #[.bool neg,.string x,.string y] w fun e w'=>e=.returned (.tuple #[.string (bs ( orN A.data.toList++46::orN B.data.toList)),.int .i64 0])∧w=w':=by
 subst hn
 obtain ⟨C,hC⟩:∃ C,C=bs (orN A.data.toList):=⟨_,rfl⟩
 obtain ⟨D,hD⟩:∃ D,D=bs (orN B.data.toList):=⟨_,rfl⟩
 have hCs:C.size≤40:=by rw [hC];exact zgz _ _ (by simpa using hA) (by omega)
 have hDs:D.size≤20:=by rw [hD];exact zgz _ _ (by simpa using hB) (by omega)
 have HC:=Lib.hid hC
 have HD:=Lib.hid hD
 clear hC hD
 go_enter Tryz.func194,Tryz.ntmps194
 go_wp2_with (first
  |(go_at_call 198;(with_reducible refine (trimL x A HA _).mono ?_);rintro e w' ⟨rfl,rfl⟩)
  |(go_at_call 199;(with_reducible refine (trimR y B HB _ hy).mono ?_);rintro e w' ⟨rfl,rfl⟩)
  |(go_at_call 200;(with_reducible refine (zl8 A C HC _).mono ?_);rintro e w' ⟨rfl,rfl⟩)
  |(go_at_call 200;(with_reducible refine (zl8 B D HD _).mono ?_);rintro e w' ⟨rfl,rfl⟩))
 go_ret2
 refine ⟨?_,rfl⟩
 have e:(({ data:=#[] }:ByteArray)++C++{ data:=#[46] }++D:ByteArray)=bs ( orN A.data.toList++46::orN B.data.toList):=by
  apply zdf
  rw [HC.out,HD.out]
  simp
 exact congrArg (fun z=>Ending.returned (.tuple #[.string z,.int .i64 0])) e
set_option maxHeartbeats 800000 in
theorem zuz (neg:Bool) (x y A B:ByteArray) (w:World) (_hx:x.size≤maxLen) (hy:y.size≤maxLen) (HA:Hid (A=bs (Lib.trimLeftB x.data.toList 48))) (HB:Hid (B=bs (Lib.trimRightB y.data.toList 48)))
 (hA:A.size≤40) (hB:B.size≤20) (hn:neg=true) (hne:(A++B).toList.isEmpty=false):
 Calls Tryz.prog 194 #[.bool neg,.string x,.string y] w fun e w'=>e=.returned (.tuple #[.string (bs (45::orN A.data.toList++46::orN B.data.toList)),.int .i64 0])∧w=w':=by
 subst hn
 obtain ⟨C,hC⟩:∃ C,C=bs (orN A.data.toList):=⟨_,rfl⟩
 obtain ⟨D,hD⟩:∃ D,D=bs (orN B.data.toList):=⟨_,rfl⟩
 have hCs:C.size≤40:=by rw [hC];exact zgz _ _ (by simpa using hA) (by omega)
 have hDs:D.size≤20:=by rw [hD];exact zgz _ _ (by simpa using hB) (by omega)
 have HC:=Lib.hid hC
 have HD:=Lib.hid hD
 clear hC hD
 go_enter Tryz.func194,Tryz.ntmps194
 go_wp2_with (first
  |(go_at_call 198;(with_reducible refine (trimL x A HA _).mono ?_);rintro e w' ⟨rfl,rfl⟩)
  |(go_at_call 199;(with_reducible refine (trimR y B HB _ hy).mono ?_);rintro e w' ⟨rfl,rfl⟩)
  |(go_at_call 200;(with_reducible refine (zl8 A C HC _).mono ?_);rintro e w' ⟨rfl,rfl⟩)
  |(go_at_call 200;(with_reducible refine (zl8 B D HD _).mono ?_);rintro e w' ⟨rfl,rfl⟩))
 go_ret2
 refine ⟨?_,rfl⟩
 have e:(({ data:=#[45] }:ByteArray)++C++{ data:=#[46] }++D:ByteArray)=bs (45::orN A.data.toList++46::orN B.data.toList):=by
  apply zdf
  rw [HC.out,HD.out]
  simp
 exact congrArg (fun z=>Ending.returned (.tuple #[.string z,.int .i64 0])) e
set_option maxHeartbeats 800000 in
theorem zu0 (x y:ByteArray) (w:World) (_hx:x.size≤maxLen) (hy:y.size≤maxLen) (HA:Hid (ByteArray.mk #[]=bs (Lib.trimLeftB x.data.toList 48))) (HB:Hid (ByteArray.mk #[]=bs (Lib.trimRightB y.data.toList 48))):
 Calls Tryz.prog 194 #[.bool true,.string x,.string y] w fun e w'=>e=.returned (.tuple #[.string (bs [48,46,48]),.int .i64 0])∧w=w':=by
 have HC:Hid (bs [48]=bs (orN (ByteArray.mk #[]).data.toList)):=Lib.hid rfl
 have hne:(({ data:=#[] }:ByteArray)++{ data:=#[] }).toList.isEmpty=true:=by rw [ByteArray.toList_eq];rfl
 go_enter Tryz.func194,Tryz.ntmps194
 go_wp2_with (first
  |(go_at_call 198;(with_reducible refine (trimL x _ HA _).mono ?_);rintro e w' ⟨rfl,rfl⟩)
  |(go_at_call 199;(with_reducible refine (trimR y _ HB _ hy).mono ?_);rintro e w' ⟨rfl,rfl⟩)
  |(go_at_call 200;(with_reducible refine (zl8 _ _ HC _).mono ?_);rintro e w' ⟨rfl,rfl⟩))
 go_ret2
 exact ⟨rfl,rfl⟩
set_option maxHeartbeats 800000 in
theorem zu1 (neg:Bool) (x y A B:ByteArray) (w:World) (_hx:x.size≤maxLen) (hy:y.size≤maxLen) (HA:Hid (A=bs (Lib.trimLeftB x.data.toList 48))) (HB:Hid (B=bs (Lib.trimRightB y.data.toList 48)))
 (h:40 < A.size∨20 < B.size):
 Calls Tryz.prog 194 #[.bool neg,.string x,.string y] w fun e w'=>e=.returned (.tuple #[.string (bs []),.int .i64 2])∧w=w':=by
 by_cases h1:(40:Int) < A.size
 ·clear h
  go_enter Tryz.func194,Tryz.ntmps194
  go_wp2_with (first
   |(go_at_call 198;(with_reducible refine (trimL x A HA _).mono ?_);rintro e w' ⟨rfl,rfl⟩)
   |(go_at_call 199;(with_reducible refine (trimR y B HB _ hy).mono ?_);rintro e w' ⟨rfl,rfl⟩))
  go_ret2
  exact ⟨rfl,rfl⟩
 ·have h2:(20:Int) < B.size:=by omega
  clear h
  go_enter Tryz.func194,Tryz.ntmps194
  go_wp2_with (first
   |(go_at_call 198;(with_reducible refine (trimL x A HA _).mono ?_);rintro e w' ⟨rfl,rfl⟩)
   |(go_at_call 199;(with_reducible refine (trimR y B HB _ hy).mono ?_);rintro e w' ⟨rfl,rfl⟩))
  go_ret2
  exact ⟨rfl,rfl⟩
def said (r:Option (List UInt8)):Value:=match r with
 | some t=>.tuple #[.string (bs t),.int .i64 0]
 | none=>.tuple #[.string (bs []),.int .i64 2]
theorem writeAt (neg:Bool) (x y:ByteArray) (w:World) (hx:x.size≤maxLen) (hy:y.size≤maxLen):
 Calls Tryz.prog 194 #[.bool neg,.string x,.string y] w fun e w'=>e=.returned (said (wr neg x.data.toList y.data.toList))∧w=w':=by
 obtain ⟨A,hA⟩:∃ A,A=bs (Lib.trimLeftB x.data.toList 48):=⟨_,rfl⟩
 obtain ⟨B,hB⟩:∃ B,B=bs (Lib.trimRightB y.data.toList 48):=⟨_,rfl⟩
 have lA:(Lib.trimLeftB x.data.toList 48).length=A.size:=by rw [hA];simp [ByteArray.size]
 have lB:(Lib.trimRightB y.data.toList 48).length=B.size:=by rw [hB];simp [ByteArray.size]
 have tA:Lib.trimLeftB x.data.toList 48=A.data.toList:=by rw [hA]
 have tB:Lib.trimRightB y.data.toList 48=B.data.toList:=by rw [hB]
 have HA:=Lib.hid hA
 have HB:=Lib.hid hB
 unfold wr
 simp only [lA,lB]
 by_cases h:40 < A.size∨20 < B.size
 ·rw [if_pos h]
  exact zu1 neg x y A B w hx hy HA HB h
 ·rw [if_neg h,tA,tB]
  cases neg
  ·exact zuy false x y A B w hx hy HA HB (by omega) (by omega) rfl
  ·by_cases hn:(A.data.toList++B.data.toList).isEmpty=true
   ·have e1:A.data.toList=[]:=by simp at hn;simpa using hn.1
    have e2:B.data.toList=[]:=by simp at hn;simpa using hn.2
    have f1:A=ByteArray.mk #[]:=zdf (by rw [e1])
    have f2:B=ByteArray.mk #[]:=zdf (by rw [e2])
    subst f1 f2
    exact zu0 x y w hx hy HA HB
   ·have hn':(A.data.toList++B.data.toList).isEmpty=false:=by simpa using hn
    rw [hn']
    exact zuz true x y A B w hx hy HA HB (by omega) (by omega) rfl (by rw [ByteArray.toList_eq];simpa using hn')
end Go.Proofs.YtcfmenkigolnoaaGreatDoor

/- S3 -/
namespace Go.Proofs.YtcfmenkigolnoaaGreatDoor
open Go.RowKit
def Gd (w:World):Prop:=∃ m,w.cell? ⟨0,0,none⟩=some (.int .i64 m)
theorem Gd.below {w w':World} (h:Gd w) (k:Below w.heap.size w w'):Gd w':=by
 obtain ⟨m,hm⟩:=h
 exact ⟨m,(k.cell (p:=⟨0,0,none⟩) (World.block_lt_of_cell? w _ hm)).trans hm⟩
theorem Gd.alloc {w:World} (h:Gd w) (o:Obj):Gd (w.alloc o):=h.below ((Below.refl _ _).alloc (Nat.le_refl _) _)
theorem zdk (r X Y:ByteArray) (b:Bool) (w:World) (hG:Gd w) (hs:r.size < 4294967281) (HX:Hid (X=bs (Lib.cut r.data.toList [46]).1)) (HY:Hid (Y=bs (Lib.cut r.data.toList [46]).2.1)) (HB:Hid (b=(Lib.cut r.data.toList [46]).2.2)):
 Calls Tryz.prog 196 #[.string r,.string ⟨#[46]⟩] w fun e w'=>e=.returned (.tuple #[.string X,.string Y,.bool b])∧Below w.heap.size w w':=by
 obtain ⟨m,hm⟩:=hG
 refine (Tryz.strings_Cut r ⟨#[46]⟩ m w hs hm).mono ?_
 rintro e w' ⟨rfl,n,rfl⟩
 exact ⟨by rw [HX.out,HY.out,HB.out],zbt (Below.refl _ _) n⟩
theorem za1 (s:ByteArray) (d:Bool) (w:World) (hs:s.size≤maxLen) (H:Hid (d=digs s.data.toList)):
 Calls Tryz.prog 197 #[.string s] w fun e w'=>e=.returned (.bool d)∧w=w':=
 (zpj s w hs).mono fun _ _ ⟨h,k⟩=>⟨by rw [h,H.out],k.symm⟩
theorem zd5 (s p:ByteArray) (d:Bool) (w:World) (H:Hid (d=Lib.hasPrefix s.data.toList p.data.toList)):
 Calls Tryz.prog 195 #[.string s,.string p] w fun e w'=>e=.returned (.bool d)∧w=w':=
 (Tryz.strings_HasPrefix s p w).mono fun _ _ ⟨h,k⟩=>⟨by rw [h,H.out],k.symm⟩
set_option maxHeartbeats 800000 in
theorem zr3 (s r X Y:ByteArray) (dX dY b:Bool) (w:World) (hG:Gd w) (hs:s.size < 4294967281) (hX:X.size≤maxLen) (hY:Y.size≤maxLen) (h1:1≤s.size)
 (P1:Hid (true=Lib.hasPrefix s.data.toList (ByteArray.mk #[45]).data.toList)) (hr:r=s.extract 1 s.size)
 (HX:Hid (X=bs (Lib.cut r.data.toList [46]).1)) (HY:Hid (Y=bs (Lib.cut r.data.toList [46]).2.1)) (HB:Hid (b=(Lib.cut r.data.toList [46]).2.2))
 (DX:Hid (dX=digs X.data.toList)) (_:Hid (dY=digs Y.data.toList)) (hok:dX=true∧b=false):
 Calls Tryz.prog 193 #[.string s] w fun e w'=>e=.returned (.tuple #[.bool true,.string X,.string Y,.bool true])∧Below w.heap.size w w':=by
 subst hr
 obtain ⟨rfl,rfl⟩:=hok
 go_enter Tryz.func193,Tryz.ntmps193
 go_wp2_with (first
  |(go_at_call 195;(with_reducible refine (zd5 _ _ _ _ P1).mono ?_);rintro e w' ⟨rfl,rfl⟩)
  |(go_at_call 196;(with_reducible refine (zdk _ X Y _ _ hG ?_ HX HY HB).mono ?_);(simp;omega);rintro e w1 ⟨rfl,hb⟩)
  |(go_at_call 196;(with_reducible refine (zdk _ X Y _ _ hG hs HX HY HB).mono ?_);rintro e w1 ⟨rfl,hb⟩)
  |(go_at_call 197;(with_reducible refine (za1 X _ _ hX DX).mono ?_);rintro e w' ⟨rfl,rfl⟩)
  |(go_at_call 197;(with_reducible refine (za1 Y _ _ hY DY).mono ?_);rintro e w' ⟨rfl,rfl⟩))
 exact bodyPost_ret (v:=.tuple #[.bool true,.string X,.string Y,.bool true]) (by simp [results,Tryz.results193,go_sem]) rfl ⟨rfl,hb⟩
set_option maxHeartbeats 800000 in
theorem zr4 (s r X Y:ByteArray) (dX dY b:Bool) (w:World) (hG:Gd w) (hs:s.size < 4294967281) (hX:X.size≤maxLen) (hY:Y.size≤maxLen) (h1:1≤s.size)
 (P1:Hid (true=Lib.hasPrefix s.data.toList (ByteArray.mk #[45]).data.toList)) (hr:r=s.extract 1 s.size)
 (HX:Hid (X=bs (Lib.cut r.data.toList [46]).1)) (HY:Hid (Y=bs (Lib.cut r.data.toList [46]).2.1)) (HB:Hid (b=(Lib.cut r.data.toList [46]).2.2))
 (DX:Hid (dX=digs X.data.toList)) (DY:Hid (dY=digs Y.data.toList)) (hok:dX=true∧b=true∧dY=true):
 Calls Tryz.prog 193 #[.string s] w fun e w'=>e=.returned (.tuple #[.bool true,.string X,.string Y,.bool true])∧Below w.heap.size w w':=by
 subst hr
 obtain ⟨rfl,rfl,rfl⟩:=hok
 go_enter Tryz.func193,Tryz.ntmps193
 go_wp2_with (first
  |(go_at_call 195;(with_reducible refine (zd5 _ _ _ _ P1).mono ?_);rintro e w' ⟨rfl,rfl⟩)
  |(go_at_call 196;(with_reducible refine (zdk _ X Y _ _ hG ?_ HX HY HB).mono ?_);(simp;omega);rintro e w1 ⟨rfl,hb⟩)
  |(go_at_call 196;(with_reducible refine (zdk _ X Y _ _ hG hs HX HY HB).mono ?_);rintro e w1 ⟨rfl,hb⟩)
  |(go_at_call 197;(with_reducible refine (za1 X _ _ hX DX).mono ?_);rintro e w' ⟨rfl,rfl⟩)
  |(go_at_call 197;(with_reducible refine (za1 Y _ _ hY DY).mono ?_);rintro e w' ⟨rfl,rfl⟩))
 exact bodyPost_ret (v:=.tuple #[.bool true,.string X,.string Y,.bool true]) (by simp [results,Tryz.results193,go_sem]) rfl ⟨rfl,hb⟩
set_option maxHeartbeats 800000 in
theorem zr5 (s r X Y:ByteArray) (dX dY b:Bool) (w:World) (hG:Gd w) (hs:s.size < 4294967281) (hX:X.size≤maxLen) (hY:Y.size≤maxLen) (h1:1≤s.size)
 (P1:Hid (true=Lib.hasPrefix s.data.toList (ByteArray.mk #[45]).data.toList)) (hr:r=s.extract 1 s.size)
 (HX:Hid (X=bs (Lib.cut r.data.toList [46]).1)) (HY:Hid (Y=bs (Lib.cut r.data.toList [46]).2.1)) (HB:Hid (b=(Lib.cut r.data.toList [46]).2.2))
 (DX:Hid (dX=digs X.data.toList)) (_:Hid (dY=digs Y.data.toList)) (hok:dX=false):
 Calls Tryz.prog 193 #[.string s] w fun e w'=>e=.returned (.tuple #[.bool false,.string ⟨#[]⟩,.string ⟨#[]⟩,.bool false])∧Below w.heap.size w w':=by
 subst hr
 obtain rfl:=hok
 go_enter Tryz.func193,Tryz.ntmps193
 go_wp2_with (first
  |(go_at_call 195;(with_reducible refine (zd5 _ _ _ _ P1).mono ?_);rintro e w' ⟨rfl,rfl⟩)
  |(go_at_call 196;(with_reducible refine (zdk _ X Y _ _ hG ?_ HX HY HB).mono ?_);(simp;omega);rintro e w1 ⟨rfl,hb⟩)
  |(go_at_call 196;(with_reducible refine (zdk _ X Y _ _ hG hs HX HY HB).mono ?_);rintro e w1 ⟨rfl,hb⟩)
  |(go_at_call 197;(with_reducible refine (za1 X _ _ hX DX).mono ?_);rintro e w' ⟨rfl,rfl⟩)
  |(go_at_call 197;(with_reducible refine (za1 Y _ _ hY DY).mono ?_);rintro e w' ⟨rfl,rfl⟩))
 exact bodyPost_ret (v:=.tuple #[.bool false,.string ⟨#[]⟩,.string ⟨#[]⟩,.bool false]) (by simp [results,Tryz.results193,go_sem]) rfl ⟨rfl,hb⟩
set_option maxHeartbeats 800000 in
theorem zr6 (s r X Y:ByteArray) (dX dY b:Bool) (w:World) (hG:Gd w) (hs:s.size < 4294967281) (hX:X.size≤maxLen) (hY:Y.size≤maxLen) (h1:1≤s.size)
 (P1:Hid (true=Lib.hasPrefix s.data.toList (ByteArray.mk #[45]).data.toList)) (hr:r=s.extract 1 s.size)
 (HX:Hid (X=bs (Lib.cut r.data.toList [46]).1)) (HY:Hid (Y=bs (Lib.cut r.data.toList [46]).2.1)) (HB:Hid (b=(Lib.cut r.data.toList [46]).2.2))
 (DX:Hid (dX=digs X.data.toList)) (DY:Hid (dY=digs Y.data.toList)) (hok:dX=true∧b=true∧dY=false):
 Calls Tryz.prog 193 #[.string s] w fun e w'=>e=.returned (.tuple #[.bool false,.string ⟨#[]⟩,.string ⟨#[]⟩,.bool false])∧Below w.heap.size w w':=by
 subst hr
 obtain ⟨rfl,rfl,rfl⟩:=hok
 go_enter Tryz.func193,Tryz.ntmps193
 go_wp2_with (first
  |(go_at_call 195;(with_reducible refine (zd5 _ _ _ _ P1).mono ?_);rintro e w' ⟨rfl,rfl⟩)
  |(go_at_call 196;(with_reducible refine (zdk _ X Y _ _ hG ?_ HX HY HB).mono ?_);(simp;omega);rintro e w1 ⟨rfl,hb⟩)
  |(go_at_call 196;(with_reducible refine (zdk _ X Y _ _ hG hs HX HY HB).mono ?_);rintro e w1 ⟨rfl,hb⟩)
  |(go_at_call 197;(with_reducible refine (za1 X _ _ hX DX).mono ?_);rintro e w' ⟨rfl,rfl⟩)
  |(go_at_call 197;(with_reducible refine (za1 Y _ _ hY DY).mono ?_);rintro e w' ⟨rfl,rfl⟩))
 exact bodyPost_ret (v:=.tuple #[.bool false,.string ⟨#[]⟩,.string ⟨#[]⟩,.bool false]) (by simp [results,Tryz.results193,go_sem]) rfl ⟨rfl,hb⟩
set_option maxHeartbeats 800000 in
theorem zpm (s r X Y:ByteArray) (dX dY b:Bool) (w:World) (hG:Gd w) (hs:s.size < 4294967281) (hX:X.size≤maxLen) (hY:Y.size≤maxLen) (h1:1≤s.size)
 (P1:Hid (false=Lib.hasPrefix s.data.toList (ByteArray.mk #[45]).data.toList)) (P2:Hid (true=Lib.hasPrefix s.data.toList (ByteArray.mk #[43]).data.toList)) (hr:r=s.extract 1 s.size)
 (HX:Hid (X=bs (Lib.cut r.data.toList [46]).1)) (HY:Hid (Y=bs (Lib.cut r.data.toList [46]).2.1)) (HB:Hid (b=(Lib.cut r.data.toList [46]).2.2))
 (DX:Hid (dX=digs X.data.toList)) (_:Hid (dY=digs Y.data.toList)) (hok:dX=true∧b=false):
 Calls Tryz.prog 193 #[.string s] w fun e w'=>e=.returned (.tuple #[.bool false,.string X,.string Y,.bool true])∧Below w.heap.size w w':=by
 subst hr
 obtain ⟨rfl,rfl⟩:=hok
 go_enter Tryz.func193,Tryz.ntmps193
 go_wp2_with (first
  |(go_at_call 195;(with_reducible refine (zd5 _ _ _ _ P1).mono ?_);rintro e w' ⟨rfl,rfl⟩)
  |(go_at_call 195;(with_reducible refine (zd5 _ _ _ _ P2).mono ?_);rintro e w' ⟨rfl,rfl⟩)
  |(go_at_call 196;(with_reducible refine (zdk _ X Y _ _ hG ?_ HX HY HB).mono ?_);(simp;omega);rintro e w1 ⟨rfl,hb⟩)
  |(go_at_call 196;(with_reducible refine (zdk _ X Y _ _ hG hs HX HY HB).mono ?_);rintro e w1 ⟨rfl,hb⟩)
  |(go_at_call 197;(with_reducible refine (za1 X _ _ hX DX).mono ?_);rintro e w' ⟨rfl,rfl⟩)
  |(go_at_call 197;(with_reducible refine (za1 Y _ _ hY DY).mono ?_);rintro e w' ⟨rfl,rfl⟩))
 exact bodyPost_ret (v:=.tuple #[.bool false,.string X,.string Y,.bool true]) (by simp [results,Tryz.results193,go_sem]) rfl ⟨rfl,hb⟩
set_option maxHeartbeats 800000 in
theorem zpn (s r X Y:ByteArray) (dX dY b:Bool) (w:World) (hG:Gd w) (hs:s.size < 4294967281) (hX:X.size≤maxLen) (hY:Y.size≤maxLen) (h1:1≤s.size)
 (P1:Hid (false=Lib.hasPrefix s.data.toList (ByteArray.mk #[45]).data.toList)) (P2:Hid (true=Lib.hasPrefix s.data.toList (ByteArray.mk #[43]).data.toList)) (hr:r=s.extract 1 s.size)
 (HX:Hid (X=bs (Lib.cut r.data.toList [46]).1)) (HY:Hid (Y=bs (Lib.cut r.data.toList [46]).2.1)) (HB:Hid (b=(Lib.cut r.data.toList [46]).2.2))
 (DX:Hid (dX=digs X.data.toList)) (DY:Hid (dY=digs Y.data.toList)) (hok:dX=true∧b=true∧dY=true):
 Calls Tryz.prog 193 #[.string s] w fun e w'=>e=.returned (.tuple #[.bool false,.string X,.string Y,.bool true])∧Below w.heap.size w w':=by
 subst hr
 obtain ⟨rfl,rfl,rfl⟩:=hok
 go_enter Tryz.func193,Tryz.ntmps193
 go_wp2_with (first
  |(go_at_call 195;(with_reducible refine (zd5 _ _ _ _ P1).mono ?_);rintro e w' ⟨rfl,rfl⟩)
  |(go_at_call 195;(with_reducible refine (zd5 _ _ _ _ P2).mono ?_);rintro e w' ⟨rfl,rfl⟩)
  |(go_at_call 196;(with_reducible refine (zdk _ X Y _ _ hG ?_ HX HY HB).mono ?_);(simp;omega);rintro e w1 ⟨rfl,hb⟩)
  |(go_at_call 196;(with_reducible refine (zdk _ X Y _ _ hG hs HX HY HB).mono ?_);rintro e w1 ⟨rfl,hb⟩)
  |(go_at_call 197;(with_reducible refine (za1 X _ _ hX DX).mono ?_);rintro e w' ⟨rfl,rfl⟩)
  |(go_at_call 197;(with_reducible refine (za1 Y _ _ hY DY).mono ?_);rintro e w' ⟨rfl,rfl⟩))
 exact bodyPost_ret (v:=.tuple #[.bool false,.string X,.string Y,.bool true]) (by simp [results,Tryz.results193,go_sem]) rfl ⟨rfl,hb⟩
set_option maxHeartbeats 800000 in
theorem zpo (s r X Y:ByteArray) (dX dY b:Bool) (w:World) (hG:Gd w) (hs:s.size < 4294967281) (hX:X.size≤maxLen) (hY:Y.size≤maxLen) (h1:1≤s.size)
 (P1:Hid (false=Lib.hasPrefix s.data.toList (ByteArray.mk #[45]).data.toList)) (P2:Hid (true=Lib.hasPrefix s.data.toList (ByteArray.mk #[43]).data.toList)) (hr:r=s.extract 1 s.size)
 (HX:Hid (X=bs (Lib.cut r.data.toList [46]).1)) (HY:Hid (Y=bs (Lib.cut r.data.toList [46]).2.1)) (HB:Hid (b=(Lib.cut r.data.toList [46]).2.2))
 (DX:Hid (dX=digs X.data.toList)) (_:Hid (dY=digs Y.data.toList)) (hok:dX=false):
 Calls Tryz.prog 193 #[.string s] w fun e w'=>e=.returned (.tuple #[.bool false,.string ⟨#[]⟩,.string ⟨#[]⟩,.bool false])∧Below w.heap.size w w':=by
 subst hr
 obtain rfl:=hok
 go_enter Tryz.func193,Tryz.ntmps193
 go_wp2_with (first
  |(go_at_call 195;(with_reducible refine (zd5 _ _ _ _ P1).mono ?_);rintro e w' ⟨rfl,rfl⟩)
  |(go_at_call 195;(with_reducible refine (zd5 _ _ _ _ P2).mono ?_);rintro e w' ⟨rfl,rfl⟩)
  |(go_at_call 196;(with_reducible refine (zdk _ X Y _ _ hG ?_ HX HY HB).mono ?_);(simp;omega);rintro e w1 ⟨rfl,hb⟩)
  |(go_at_call 196;(with_reducible refine (zdk _ X Y _ _ hG hs HX HY HB).mono ?_);rintro e w1 ⟨rfl,hb⟩)
  |(go_at_call 197;(with_reducible refine (za1 X _ _ hX DX).mono ?_);rintro e w' ⟨rfl,rfl⟩)
  |(go_at_call 197;(with_reducible refine (za1 Y _ _ hY DY).mono ?_);rintro e w' ⟨rfl,rfl⟩))
 exact bodyPost_ret (v:=.tuple #[.bool false,.string ⟨#[]⟩,.string ⟨#[]⟩,.bool false]) (by simp [results,Tryz.results193,go_sem]) rfl ⟨rfl,hb⟩
set_option maxHeartbeats 800000 in
theorem zpp (s r X Y:ByteArray) (dX dY b:Bool) (w:World) (hG:Gd w) (hs:s.size < 4294967281) (hX:X.size≤maxLen) (hY:Y.size≤maxLen) (h1:1≤s.size)
 (P1:Hid (false=Lib.hasPrefix s.data.toList (ByteArray.mk #[45]).data.toList)) (P2:Hid (true=Lib.hasPrefix s.data.toList (ByteArray.mk #[43]).data.toList)) (hr:r=s.extract 1 s.size)
 (HX:Hid (X=bs (Lib.cut r.data.toList [46]).1)) (HY:Hid (Y=bs (Lib.cut r.data.toList [46]).2.1)) (HB:Hid (b=(Lib.cut r.data.toList [46]).2.2))
 (DX:Hid (dX=digs X.data.toList)) (DY:Hid (dY=digs Y.data.toList)) (hok:dX=true∧b=true∧dY=false):
 Calls Tryz.prog 193 #[.string s] w fun e w'=>e=.returned (.tuple #[.bool false,.string ⟨#[]⟩,.string ⟨#[]⟩,.bool false])∧Below w.heap.size w w':=by
 subst hr
 obtain ⟨rfl,rfl,rfl⟩:=hok
 go_enter Tryz.func193,Tryz.ntmps193
 go_wp2_with (first
  |(go_at_call 195;(with_reducible refine (zd5 _ _ _ _ P1).mono ?_);rintro e w' ⟨rfl,rfl⟩)
  |(go_at_call 195;(with_reducible refine (zd5 _ _ _ _ P2).mono ?_);rintro e w' ⟨rfl,rfl⟩)
  |(go_at_call 196;(with_reducible refine (zdk _ X Y _ _ hG ?_ HX HY HB).mono ?_);(simp;omega);rintro e w1 ⟨rfl,hb⟩)
  |(go_at_call 196;(with_reducible refine (zdk _ X Y _ _ hG hs HX HY HB).mono ?_);rintro e w1 ⟨rfl,hb⟩)
  |(go_at_call 197;(with_reducible refine (za1 X _ _ hX DX).mono ?_);rintro e w' ⟨rfl,rfl⟩)
  |(go_at_call 197;(with_reducible refine (za1 Y _ _ hY DY).mono ?_);rintro e w' ⟨rfl,rfl⟩))
 exact bodyPost_ret (v:=.tuple #[.bool false,.string ⟨#[]⟩,.string ⟨#[]⟩,.bool false]) (by simp [results,Tryz.results193,go_sem]) rfl ⟨rfl,hb⟩
set_option maxHeartbeats 800000 in
theorem zir (s r X Y:ByteArray) (dX dY b:Bool) (w:World) (hG:Gd w) (hs:s.size < 4294967281) (hX:X.size≤maxLen) (hY:Y.size≤maxLen)
 (P1:Hid (false=Lib.hasPrefix s.data.toList (ByteArray.mk #[45]).data.toList)) (P2:Hid (false=Lib.hasPrefix s.data.toList (ByteArray.mk #[43]).data.toList)) (hr:r=s)
 (HX:Hid (X=bs (Lib.cut r.data.toList [46]).1)) (HY:Hid (Y=bs (Lib.cut r.data.toList [46]).2.1)) (HB:Hid (b=(Lib.cut r.data.toList [46]).2.2))
 (DX:Hid (dX=digs X.data.toList)) (_:Hid (dY=digs Y.data.toList)) (hok:dX=true∧b=false):
 Calls Tryz.prog 193 #[.string s] w fun e w'=>e=.returned (.tuple #[.bool false,.string X,.string Y,.bool true])∧Below w.heap.size w w':=by
 subst hr
 obtain ⟨rfl,rfl⟩:=hok
 go_enter Tryz.func193,Tryz.ntmps193
 go_wp2_with (first
  |(go_at_call 195;(with_reducible refine (zd5 _ _ _ _ P1).mono ?_);rintro e w' ⟨rfl,rfl⟩)
  |(go_at_call 195;(with_reducible refine (zd5 _ _ _ _ P2).mono ?_);rintro e w' ⟨rfl,rfl⟩)
  |(go_at_call 196;(with_reducible refine (zdk _ X Y _ _ hG ?_ HX HY HB).mono ?_);(simp;omega);rintro e w1 ⟨rfl,hb⟩)
  |(go_at_call 196;(with_reducible refine (zdk _ X Y _ _ hG hs HX HY HB).mono ?_);rintro e w1 ⟨rfl,hb⟩)
  |(go_at_call 197;(with_reducible refine (za1 X _ _ hX DX).mono ?_);rintro e w' ⟨rfl,rfl⟩)
  |(go_at_call 197;(with_reducible refine (za1 Y _ _ hY DY).mono ?_);rintro e w' ⟨rfl,rfl⟩))
 exact bodyPost_ret (v:=.tuple #[.bool false,.string X,.string Y,.bool true]) (by simp [results,Tryz.results193,go_sem]) rfl ⟨rfl,hb⟩
set_option maxHeartbeats 800000 in
theorem zis (s r X Y:ByteArray) (dX dY b:Bool) (w:World) (hG:Gd w) (hs:s.size < 4294967281) (hX:X.size≤maxLen) (hY:Y.size≤maxLen)
 (P1:Hid (false=Lib.hasPrefix s.data.toList (ByteArray.mk #[45]).data.toList)) (P2:Hid (false=Lib.hasPrefix s.data.toList (ByteArray.mk #[43]).data.toList)) (hr:r=s)
 (HX:Hid (X=bs (Lib.cut r.data.toList [46]).1)) (HY:Hid (Y=bs (Lib.cut r.data.toList [46]).2.1)) (HB:Hid (b=(Lib.cut r.data.toList [46]).2.2))
 (DX:Hid (dX=digs X.data.toList)) (DY:Hid (dY=digs Y.data.toList)) (hok:dX=true∧b=true∧dY=true):
 Calls Tryz.prog 193 #[.string s] w fun e w'=>e=.returned (.tuple #[.bool false,.string X,.string Y,.bool true])∧Below w.heap.size w w':=by
 subst hr
 obtain ⟨rfl,rfl,rfl⟩:=hok
 go_enter Tryz.func193,Tryz.ntmps193
 go_wp2_with (first
  |(go_at_call 195;(with_reducible refine (zd5 _ _ _ _ P1).mono ?_);rintro e w' ⟨rfl,rfl⟩)
  |(go_at_call 195;(with_reducible refine (zd5 _ _ _ _ P2).mono ?_);rintro e w' ⟨rfl,rfl⟩)
  |(go_at_call 196;(with_reducible refine (zdk _ X Y _ _ hG ?_ HX HY HB).mono ?_);(simp;omega);rintro e w1 ⟨rfl,hb⟩)
  |(go_at_call 196;(with_reducible refine (zdk _ X Y _ _ hG hs HX HY HB).mono ?_);rintro e w1 ⟨rfl,hb⟩)
  |(go_at_call 197;(with_reducible refine (za1 X _ _ hX DX).mono ?_);rintro e w' ⟨rfl,rfl⟩)
  |(go_at_call 197;(with_reducible refine (za1 Y _ _ hY DY).mono ?_);rintro e w' ⟨rfl,rfl⟩))
 exact bodyPost_ret (v:=.tuple #[.bool false,.string X,.string Y,.bool true]) (by simp [results,Tryz.results193,go_sem]) rfl ⟨rfl,hb⟩
set_option maxHeartbeats 800000 in
theorem zit (s r X Y:ByteArray) (dX dY b:Bool) (w:World) (hG:Gd w) (hs:s.size < 4294967281) (hX:X.size≤maxLen) (hY:Y.size≤maxLen)
 (P1:Hid (false=Lib.hasPrefix s.data.toList (ByteArray.mk #[45]).data.toList)) (P2:Hid (false=Lib.hasPrefix s.data.toList (ByteArray.mk #[43]).data.toList)) (hr:r=s)
 (HX:Hid (X=bs (Lib.cut r.data.toList [46]).1)) (HY:Hid (Y=bs (Lib.cut r.data.toList [46]).2.1)) (HB:Hid (b=(Lib.cut r.data.toList [46]).2.2))
 (DX:Hid (dX=digs X.data.toList)) (_:Hid (dY=digs Y.data.toList)) (hok:dX=false):
 Calls Tryz.prog 193 #[.string s] w fun e w'=>e=.returned (.tuple #[.bool false,.string ⟨#[]⟩,.string ⟨#[]⟩,.bool false])∧Below w.heap.size w w':=by
 subst hr
 obtain rfl:=hok
 go_enter Tryz.func193,Tryz.ntmps193
 go_wp2_with (first
  |(go_at_call 195;(with_reducible refine (zd5 _ _ _ _ P1).mono ?_);rintro e w' ⟨rfl,rfl⟩)
  |(go_at_call 195;(with_reducible refine (zd5 _ _ _ _ P2).mono ?_);rintro e w' ⟨rfl,rfl⟩)
  |(go_at_call 196;(with_reducible refine (zdk _ X Y _ _ hG ?_ HX HY HB).mono ?_);(simp;omega);rintro e w1 ⟨rfl,hb⟩)
  |(go_at_call 196;(with_reducible refine (zdk _ X Y _ _ hG hs HX HY HB).mono ?_);rintro e w1 ⟨rfl,hb⟩)
  |(go_at_call 197;(with_reducible refine (za1 X _ _ hX DX).mono ?_);rintro e w' ⟨rfl,rfl⟩)
  |(go_at_call 197;(with_reducible refine (za1 Y _ _ hY DY).mono ?_);rintro e w' ⟨rfl,rfl⟩))
 exact bodyPost_ret (v:=.tuple #[.bool false,.string ⟨#[]⟩,.string ⟨#[]⟩,.bool false]) (by simp [results,Tryz.results193,go_sem]) rfl ⟨rfl,hb⟩
set_option maxHeartbeats 800000 in
theorem ziu (s r X Y:ByteArray) (dX dY b:Bool) (w:World) (hG:Gd w) (hs:s.size < 4294967281) (hX:X.size≤maxLen) (hY:Y.size≤maxLen)
 (P1:Hid (false=Lib.hasPrefix s.data.toList (ByteArray.mk #[45]).data.toList)) (P2:Hid (false=Lib.hasPrefix s.data.toList (ByteArray.mk #[43]).data.toList)) (hr:r=s)
 (HX:Hid (X=bs (Lib.cut r.data.toList [46]).1)) (HY:Hid (Y=bs (Lib.cut r.data.toList [46]).2.1)) (HB:Hid (b=(Lib.cut r.data.toList [46]).2.2))
 (DX:Hid (dX=digs X.data.toList)) (DY:Hid (dY=digs Y.data.toList)) (hok:dX=true∧b=true∧dY=false):
 Calls Tryz.prog 193 #[.string s] w fun e w'=>e=.returned (.tuple #[.bool false,.string ⟨#[]⟩,.string ⟨#[]⟩,.bool false])∧Below w.heap.size w w':=by
 subst hr
 obtain ⟨rfl,rfl,rfl⟩:=hok
 go_enter Tryz.func193,Tryz.ntmps193
 go_wp2_with (first
  |(go_at_call 195;(with_reducible refine (zd5 _ _ _ _ P1).mono ?_);rintro e w' ⟨rfl,rfl⟩)
  |(go_at_call 195;(with_reducible refine (zd5 _ _ _ _ P2).mono ?_);rintro e w' ⟨rfl,rfl⟩)
  |(go_at_call 196;(with_reducible refine (zdk _ X Y _ _ hG ?_ HX HY HB).mono ?_);(simp;omega);rintro e w1 ⟨rfl,hb⟩)
  |(go_at_call 196;(with_reducible refine (zdk _ X Y _ _ hG hs HX HY HB).mono ?_);rintro e w1 ⟨rfl,hb⟩)
  |(go_at_call 197;(with_reducible refine (za1 X _ _ hX DX).mono ?_);rintro e w' ⟨rfl,rfl⟩)
  |(go_at_call 197;(with_reducible refine (za1 Y _ _ hY DY).mono ?_);rintro e w' ⟨rfl,rfl⟩))
 exact bodyPost_ret (v:=.tuple #[.bool false,.string ⟨#[]⟩,.string ⟨#[]⟩,.bool false]) (by simp [results,Tryz.results193,go_sem]) rfl ⟨rfl,hb⟩
end Go.Proofs.YtcfmenkigolnoaaGreatDoor
