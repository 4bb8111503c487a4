/- Texts of one kind, one behind the other: each says ahead of itself what it shows. -/
import Derived.Test.YtanbgdhmfjgihaaGreatDoorTab
import Derived.Shelf.Strings.Trim
import Derived.Shelf.Small.Utf8
import Derived.Shelf.Small.Strs
import Derived.Shelf.Small.Wraps
import Derived.Shelf.Strconv.Itoa0
import Derived.Shelf.Strconv.Itoa1
import Derived.Shelf.LaysM
import Derived.Shelf.Strconv.Itoa2
import Derived.Shelf.Strconv.Itoa3
import Derived.Shelf.Strconv.Itoa4
import Derived.Shelf.Strconv.ParseIntEmpty
import Derived.Shelf.Strconv.Clone
import Derived.Shelf.Strconv.SyntaxError
import Derived.Shelf.LaysC
import Derived.Shelf.Strconv.ToError
import Derived.Shelf.Strconv.Lower
import Derived.Shelf.Strconv.ParseUint10
import Derived.Shelf.Strconv.ParseUint10Empty
import Derived.Shelf.Strconv.ParseUint10Any
import Derived.Shelf.Strconv.ParseInt10
import Derived.Shelf.Strconv.RangeError
import Derived.Shelf.Strconv.ToErrorRange
import Derived.Shelf.Strconv.ParseUintEmpty
import Derived.Shelf.Strconv.ParseUint10b64
import Derived.Shelf.Strconv.ParseUint10b32
import Derived.Shelf.Strconv.ParseUint10b16
import Derived.Shelf.Strconv.ParseUint10b8
import Derived.Shelf.Strconv.ParseUint10At
import Derived.Shelf.Strconv.ParseInt10At64
import Derived.Shelf.Strconv.ParseInt10At32
import Derived.Shelf.Strconv.ParseInt10At16
import Derived.Shelf.Strconv.ParseInt10At8
import Derived.Shelf.Strconv.ParseInt10All
import Derived.Shelf.Strconv.ParseIntPublic10
import Derived.Shelf.Strconv.ErrVarParseInt
import Derived.Shelf.Strings.Search1
import Derived.Shelf.Strings.Search2
import Derived.Shelf.Strings.Cut
import Derived.Shelf.Strings.Shaped
import Derived.Shelf.Strings.Prefix
import Derived.Shelf.Strings.Runes
import Derived.Shelf.Strings.AsciiSet
import Derived.Shelf.Unicode.DecodeSlow
import Derived.Test.YtanbgdhmfjgihaaGreatDoorProg
import Derived.Deep.RegionWith
/- N6 -/
namespace Go.Proofs.YtanbgdhmfjgihaaGreatDoor
open Go.RowKit
theorem ziq (w:World):(Instr.typeAssert (.iface 145 (.agg #[])) 20 145 true).run Tryz.prog w=.ok (.tuple #[.agg #[],.bool true]) w:=by kernel_rfl
theorem zfo (w:World):(Instr.typeAssert (.iface 145 (.agg #[])) 20 146 true).run Tryz.prog w=.ok (.tuple #[.agg #[],.bool false]) w:=by kernel_rfl
theorem zfp (w:World):(Instr.typeAssert (.iface 145 (.agg #[])) 20 147 true).run Tryz.prog w=.ok (.tuple #[.agg #[],.bool false]) w:=by kernel_rfl
theorem zfq (w:World):(Instr.typeAssert (.iface 145 (.agg #[])) 20 148 true).run Tryz.prog w=.ok (.tuple #[.agg #[],.bool false]) w:=by kernel_rfl
theorem zfr (w:World):(Instr.typeAssert (.iface 145 (.agg #[])) 20 149 true).run Tryz.prog w=.ok (.tuple #[.agg #[],.bool false]) w:=by kernel_rfl
theorem zfs (w:World):(Instr.typeAssert (.iface 145 (.agg #[])) 20 150 true).run Tryz.prog w=.ok (.tuple #[.agg #[],.bool false]) w:=by kernel_rfl
theorem zir (w:World):(Instr.typeAssert (.iface 145 (.agg #[])) 20 151 true).run Tryz.prog w=.ok (.tuple #[.agg #[],.bool false]) w:=by kernel_rfl
theorem zis (w:World):(Instr.typeAssert (.iface 145 (.agg #[])) 20 152 true).run Tryz.prog w=.ok (.tuple #[.agg #[],.bool false]) w:=by kernel_rfl
theorem zit (w:World):(Instr.typeAssert (.iface 145 (.agg #[])) 20 153 true).run Tryz.prog w=.ok (.tuple #[.agg #[],.bool false]) w:=by kernel_rfl
theorem ziu (w:World):(Instr.typeAssert (.iface 145 (.agg #[])) 20 154 true).run Tryz.prog w=.ok (.tuple #[.agg #[],.bool false]) w:=by kernel_rfl
theorem zft (w:World):(Instr.typeAssert (.iface 145 (.agg #[])) 20 155 true).run Tryz.prog w=.ok (.tuple #[.agg #[],.bool false]) w:=by kernel_rfl
theorem znl (w:World):(Instr.typeAssert (.iface 146 (.agg #[])) 20 145 true).run Tryz.prog w=.ok (.tuple #[.agg #[],.bool false]) w:=by kernel_rfl
theorem ziv (w:World):(Instr.typeAssert (.iface 146 (.agg #[])) 20 146 true).run Tryz.prog w=.ok (.tuple #[.agg #[],.bool true]) w:=by kernel_rfl
theorem ziw (w:World):(Instr.typeAssert (.iface 146 (.agg #[])) 20 147 true).run Tryz.prog w=.ok (.tuple #[.agg #[],.bool false]) w:=by kernel_rfl
theorem zix (w:World):(Instr.typeAssert (.iface 146 (.agg #[])) 20 148 true).run Tryz.prog w=.ok (.tuple #[.agg #[],.bool false]) w:=by kernel_rfl
theorem ziy (w:World):(Instr.typeAssert (.iface 146 (.agg #[])) 20 149 true).run Tryz.prog w=.ok (.tuple #[.agg #[],.bool false]) w:=by kernel_rfl
theorem ziz (w:World):(Instr.typeAssert (.iface 146 (.agg #[])) 20 150 true).run Tryz.prog w=.ok (.tuple #[.agg #[],.bool false]) w:=by kernel_rfl
theorem znm (w:World):(Instr.typeAssert (.iface 146 (.agg #[])) 20 151 true).run Tryz.prog w=.ok (.tuple #[.agg #[],.bool false]) w:=by kernel_rfl
theorem znn (w:World):(Instr.typeAssert (.iface 146 (.agg #[])) 20 152 true).run Tryz.prog w=.ok (.tuple #[.agg #[],.bool false]) w:=by kernel_rfl
theorem zno (w:World):(Instr.typeAssert (.iface 146 (.agg #[])) 20 153 true).run Tryz.prog w=.ok (.tuple #[.agg #[],.bool false]) w:=by kernel_rfl
theorem znp (w:World):(Instr.typeAssert (.iface 146 (.agg #[])) 20 154 true).run Tryz.prog w=.ok (.tuple #[.agg #[],.bool false]) w:=by kernel_rfl
theorem zi0 (w:World):(Instr.typeAssert (.iface 146 (.agg #[])) 20 155 true).run Tryz.prog w=.ok (.tuple #[.agg #[],.bool false]) w:=by kernel_rfl
theorem znq (w:World):(Instr.typeAssert (.iface 147 (.agg #[])) 20 145 true).run Tryz.prog w=.ok (.tuple #[.agg #[],.bool false]) w:=by kernel_rfl
theorem zi1 (w:World):(Instr.typeAssert (.iface 147 (.agg #[])) 20 146 true).run Tryz.prog w=.ok (.tuple #[.agg #[],.bool false]) w:=by kernel_rfl
theorem zi2 (w:World):(Instr.typeAssert (.iface 147 (.agg #[])) 20 147 true).run Tryz.prog w=.ok (.tuple #[.agg #[],.bool true]) w:=by kernel_rfl
theorem zi3 (w:World):(Instr.typeAssert (.iface 147 (.agg #[])) 20 148 true).run Tryz.prog w=.ok (.tuple #[.agg #[],.bool false]) w:=by kernel_rfl
theorem zi4 (w:World):(Instr.typeAssert (.iface 147 (.agg #[])) 20 149 true).run Tryz.prog w=.ok (.tuple #[.agg #[],.bool false]) w:=by kernel_rfl
theorem zi5 (w:World):(Instr.typeAssert (.iface 147 (.agg #[])) 20 150 true).run Tryz.prog w=.ok (.tuple #[.agg #[],.bool false]) w:=by kernel_rfl
theorem znr (w:World):(Instr.typeAssert (.iface 147 (.agg #[])) 20 151 true).run Tryz.prog w=.ok (.tuple #[.agg #[],.bool false]) w:=by kernel_rfl
theorem zns (w:World):(Instr.typeAssert (.iface 147 (.agg #[])) 20 152 true).run Tryz.prog w=.ok (.tuple #[.agg #[],.bool false]) w:=by kernel_rfl
theorem znt (w:World):(Instr.typeAssert (.iface 147 (.agg #[])) 20 153 true).run Tryz.prog w=.ok (.tuple #[.agg #[],.bool false]) w:=by kernel_rfl
theorem znu (w:World):(Instr.typeAssert (.iface 147 (.agg #[])) 20 154 true).run Tryz.prog w=.ok (.tuple #[.agg #[],.bool false]) w:=by kernel_rfl
theorem zi6 (w:World):(Instr.typeAssert (.iface 147 (.agg #[])) 20 155 true).run Tryz.prog w=.ok (.tuple #[.agg #[],.bool false]) w:=by kernel_rfl
theorem zi7 (w:World):(Instr.typeAssert (.iface 148 (.agg #[])) 20 145 true).run Tryz.prog w=.ok (.tuple #[.agg #[],.bool false]) w:=by kernel_rfl
theorem zfu (w:World):(Instr.typeAssert (.iface 148 (.agg #[])) 20 146 true).run Tryz.prog w=.ok (.tuple #[.agg #[],.bool false]) w:=by kernel_rfl
theorem zfv (w:World):(Instr.typeAssert (.iface 148 (.agg #[])) 20 147 true).run Tryz.prog w=.ok (.tuple #[.agg #[],.bool false]) w:=by kernel_rfl
theorem zfw (w:World):(Instr.typeAssert (.iface 148 (.agg #[])) 20 148 true).run Tryz.prog w=.ok (.tuple #[.agg #[],.bool true]) w:=by kernel_rfl
theorem zfx (w:World):(Instr.typeAssert (.iface 148 (.agg #[])) 20 149 true).run Tryz.prog w=.ok (.tuple #[.agg #[],.bool false]) w:=by kernel_rfl
theorem zfy (w:World):(Instr.typeAssert (.iface 148 (.agg #[])) 20 150 true).run Tryz.prog w=.ok (.tuple #[.agg #[],.bool false]) w:=by kernel_rfl
theorem zi8 (w:World):(Instr.typeAssert (.iface 148 (.agg #[])) 20 151 true).run Tryz.prog w=.ok (.tuple #[.agg #[],.bool false]) w:=by kernel_rfl
theorem zi9 (w:World):(Instr.typeAssert (.iface 148 (.agg #[])) 20 152 true).run Tryz.prog w=.ok (.tuple #[.agg #[],.bool false]) w:=by kernel_rfl
theorem zja (w:World):(Instr.typeAssert (.iface 148 (.agg #[])) 20 153 true).run Tryz.prog w=.ok (.tuple #[.agg #[],.bool false]) w:=by kernel_rfl
theorem zjb (w:World):(Instr.typeAssert (.iface 148 (.agg #[])) 20 154 true).run Tryz.prog w=.ok (.tuple #[.agg #[],.bool false]) w:=by kernel_rfl
theorem zfz (w:World):(Instr.typeAssert (.iface 148 (.agg #[])) 20 155 true).run Tryz.prog w=.ok (.tuple #[.agg #[],.bool false]) w:=by kernel_rfl
theorem zjc (w:World):(Instr.typeAssert (.iface 149 (.agg #[])) 20 145 true).run Tryz.prog w=.ok (.tuple #[.agg #[],.bool false]) w:=by kernel_rfl
theorem zf0 (w:World):(Instr.typeAssert (.iface 149 (.agg #[])) 20 146 true).run Tryz.prog w=.ok (.tuple #[.agg #[],.bool false]) w:=by kernel_rfl
theorem zf1 (w:World):(Instr.typeAssert (.iface 149 (.agg #[])) 20 147 true).run Tryz.prog w=.ok (.tuple #[.agg #[],.bool false]) w:=by kernel_rfl
theorem zf2 (w:World):(Instr.typeAssert (.iface 149 (.agg #[])) 20 148 true).run Tryz.prog w=.ok (.tuple #[.agg #[],.bool false]) w:=by kernel_rfl
theorem zf3 (w:World):(Instr.typeAssert (.iface 149 (.agg #[])) 20 149 true).run Tryz.prog w=.ok (.tuple #[.agg #[],.bool true]) w:=by kernel_rfl
theorem zf4 (w:World):(Instr.typeAssert (.iface 149 (.agg #[])) 20 150 true).run Tryz.prog w=.ok (.tuple #[.agg #[],.bool false]) w:=by kernel_rfl
theorem zjd (w:World):(Instr.typeAssert (.iface 149 (.agg #[])) 20 151 true).run Tryz.prog w=.ok (.tuple #[.agg #[],.bool false]) w:=by kernel_rfl
theorem zje (w:World):(Instr.typeAssert (.iface 149 (.agg #[])) 20 152 true).run Tryz.prog w=.ok (.tuple #[.agg #[],.bool false]) w:=by kernel_rfl
theorem zjf (w:World):(Instr.typeAssert (.iface 149 (.agg #[])) 20 153 true).run Tryz.prog w=.ok (.tuple #[.agg #[],.bool false]) w:=by kernel_rfl
theorem zjg (w:World):(Instr.typeAssert (.iface 149 (.agg #[])) 20 154 true).run Tryz.prog w=.ok (.tuple #[.agg #[],.bool false]) w:=by kernel_rfl
theorem zf5 (w:World):(Instr.typeAssert (.iface 149 (.agg #[])) 20 155 true).run Tryz.prog w=.ok (.tuple #[.agg #[],.bool false]) w:=by kernel_rfl
theorem zjh (w:World):(Instr.typeAssert (.iface 150 (.agg #[])) 20 145 true).run Tryz.prog w=.ok (.tuple #[.agg #[],.bool false]) w:=by kernel_rfl
theorem zf6 (w:World):(Instr.typeAssert (.iface 150 (.agg #[])) 20 146 true).run Tryz.prog w=.ok (.tuple #[.agg #[],.bool false]) w:=by kernel_rfl
theorem zf7 (w:World):(Instr.typeAssert (.iface 150 (.agg #[])) 20 147 true).run Tryz.prog w=.ok (.tuple #[.agg #[],.bool false]) w:=by kernel_rfl
theorem zf8 (w:World):(Instr.typeAssert (.iface 150 (.agg #[])) 20 148 true).run Tryz.prog w=.ok (.tuple #[.agg #[],.bool false]) w:=by kernel_rfl
theorem zf9 (w:World):(Instr.typeAssert (.iface 150 (.agg #[])) 20 149 true).run Tryz.prog w=.ok (.tuple #[.agg #[],.bool false]) w:=by kernel_rfl
theorem zga (w:World):(Instr.typeAssert (.iface 150 (.agg #[])) 20 150 true).run Tryz.prog w=.ok (.tuple #[.agg #[],.bool true]) w:=by kernel_rfl
theorem zji (w:World):(Instr.typeAssert (.iface 150 (.agg #[])) 20 151 true).run Tryz.prog w=.ok (.tuple #[.agg #[],.bool false]) w:=by kernel_rfl
theorem zjj (w:World):(Instr.typeAssert (.iface 150 (.agg #[])) 20 152 true).run Tryz.prog w=.ok (.tuple #[.agg #[],.bool false]) w:=by kernel_rfl
theorem zjk (w:World):(Instr.typeAssert (.iface 150 (.agg #[])) 20 153 true).run Tryz.prog w=.ok (.tuple #[.agg #[],.bool false]) w:=by kernel_rfl
theorem zjl (w:World):(Instr.typeAssert (.iface 150 (.agg #[])) 20 154 true).run Tryz.prog w=.ok (.tuple #[.agg #[],.bool false]) w:=by kernel_rfl
theorem zgb (w:World):(Instr.typeAssert (.iface 150 (.agg #[])) 20 155 true).run Tryz.prog w=.ok (.tuple #[.agg #[],.bool false]) w:=by kernel_rfl
theorem zjm (w:World):(Instr.typeAssert (.iface 151 (.agg #[])) 20 145 true).run Tryz.prog w=.ok (.tuple #[.agg #[],.bool false]) w:=by kernel_rfl
theorem zgc (w:World):(Instr.typeAssert (.iface 151 (.agg #[])) 20 146 true).run Tryz.prog w=.ok (.tuple #[.agg #[],.bool false]) w:=by kernel_rfl
theorem zgd (w:World):(Instr.typeAssert (.iface 151 (.agg #[])) 20 147 true).run Tryz.prog w=.ok (.tuple #[.agg #[],.bool false]) w:=by kernel_rfl
theorem zge (w:World):(Instr.typeAssert (.iface 151 (.agg #[])) 20 148 true).run Tryz.prog w=.ok (.tuple #[.agg #[],.bool false]) w:=by kernel_rfl
theorem zgf (w:World):(Instr.typeAssert (.iface 151 (.agg #[])) 20 149 true).run Tryz.prog w=.ok (.tuple #[.agg #[],.bool false]) w:=by kernel_rfl
theorem zgg (w:World):(Instr.typeAssert (.iface 151 (.agg #[])) 20 150 true).run Tryz.prog w=.ok (.tuple #[.agg #[],.bool false]) w:=by kernel_rfl
theorem zjn (w:World):(Instr.typeAssert (.iface 151 (.agg #[])) 20 151 true).run Tryz.prog w=.ok (.tuple #[.agg #[],.bool true]) w:=by kernel_rfl
theorem zjo (w:World):(Instr.typeAssert (.iface 151 (.agg #[])) 20 152 true).run Tryz.prog w=.ok (.tuple #[.agg #[],.bool false]) w:=by kernel_rfl
theorem zjp (w:World):(Instr.typeAssert (.iface 151 (.agg #[])) 20 153 true).run Tryz.prog w=.ok (.tuple #[.agg #[],.bool false]) w:=by kernel_rfl
theorem zjq (w:World):(Instr.typeAssert (.iface 151 (.agg #[])) 20 154 true).run Tryz.prog w=.ok (.tuple #[.agg #[],.bool false]) w:=by kernel_rfl
theorem zgh (w:World):(Instr.typeAssert (.iface 151 (.agg #[])) 20 155 true).run Tryz.prog w=.ok (.tuple #[.agg #[],.bool false]) w:=by kernel_rfl
theorem zjr (w:World):(Instr.typeAssert (.iface 152 (.agg #[])) 20 145 true).run Tryz.prog w=.ok (.tuple #[.agg #[],.bool false]) w:=by kernel_rfl
theorem zgi (w:World):(Instr.typeAssert (.iface 152 (.agg #[])) 20 146 true).run Tryz.prog w=.ok (.tuple #[.agg #[],.bool false]) w:=by kernel_rfl
theorem zgj (w:World):(Instr.typeAssert (.iface 152 (.agg #[])) 20 147 true).run Tryz.prog w=.ok (.tuple #[.agg #[],.bool false]) w:=by kernel_rfl
theorem zgk (w:World):(Instr.typeAssert (.iface 152 (.agg #[])) 20 148 true).run Tryz.prog w=.ok (.tuple #[.agg #[],.bool false]) w:=by kernel_rfl
theorem zgl (w:World):(Instr.typeAssert (.iface 152 (.agg #[])) 20 149 true).run Tryz.prog w=.ok (.tuple #[.agg #[],.bool false]) w:=by kernel_rfl
theorem zgm (w:World):(Instr.typeAssert (.iface 152 (.agg #[])) 20 150 true).run Tryz.prog w=.ok (.tuple #[.agg #[],.bool false]) w:=by kernel_rfl
theorem zjs (w:World):(Instr.typeAssert (.iface 152 (.agg #[])) 20 151 true).run Tryz.prog w=.ok (.tuple #[.agg #[],.bool false]) w:=by kernel_rfl
theorem zjt (w:World):(Instr.typeAssert (.iface 152 (.agg #[])) 20 152 true).run Tryz.prog w=.ok (.tuple #[.agg #[],.bool true]) w:=by kernel_rfl
theorem zju (w:World):(Instr.typeAssert (.iface 152 (.agg #[])) 20 153 true).run Tryz.prog w=.ok (.tuple #[.agg #[],.bool false]) w:=by kernel_rfl
theorem zjv (w:World):(Instr.typeAssert (.iface 152 (.agg #[])) 20 154 true).run Tryz.prog w=.ok (.tuple #[.agg #[],.bool false]) w:=by kernel_rfl
theorem zgn (w:World):(Instr.typeAssert (.iface 152 (.agg #[])) 20 155 true).run Tryz.prog w=.ok (.tuple #[.agg #[],.bool false]) w:=by kernel_rfl
theorem zjw (w:World):(Instr.typeAssert (.iface 153 (.agg #[])) 20 145 true).run Tryz.prog w=.ok (.tuple #[.agg #[],.bool false]) w:=by kernel_rfl
theorem zgo (w:World):(Instr.typeAssert (.iface 153 (.agg #[])) 20 146 true).run Tryz.prog w=.ok (.tuple #[.agg #[],.bool false]) w:=by kernel_rfl
theorem zgp (w:World):(Instr.typeAssert (.iface 153 (.agg #[])) 20 147 true).run Tryz.prog w=.ok (.tuple #[.agg #[],.bool false]) w:=by kernel_rfl
theorem zgq (w:World):(Instr.typeAssert (.iface 153 (.agg #[])) 20 148 true).run Tryz.prog w=.ok (.tuple #[.agg #[],.bool false]) w:=by kernel_rfl
theorem zgr (w:World):(Instr.typeAssert (.iface 153 (.agg #[])) 20 149 true).run Tryz.prog w=.ok (.tuple #[.agg #[],.bool false]) w:=by kernel_rfl
theorem zgs (w:World):(Instr.typeAssert (.iface 153 (.agg #[])) 20 150 true).run Tryz.prog w=.ok (.tuple #[.agg #[],.bool false]) w:=by kernel_rfl
theorem zjx (w:World):(Instr.typeAssert (.iface 153 (.agg #[])) 20 151 true).run Tryz.prog w=.ok (.tuple #[.agg #[],.bool false]) w:=by kernel_rfl
theorem zjy (w:World):(Instr.typeAssert (.iface 153 (.agg #[])) 20 152 true).run Tryz.prog w=.ok (.tuple #[.agg #[],.bool false]) w:=by kernel_rfl
theorem zjz (w:World):(Instr.typeAssert (.iface 153 (.agg #[])) 20 153 true).run Tryz.prog w=.ok (.tuple #[.agg #[],.bool true]) w:=by kernel_rfl
theorem zj0 (w:World):(Instr.typeAssert (.iface 153 (.agg #[])) 20 154 true).run Tryz.prog w=.ok (.tuple #[.agg #[],.bool false]) w:=by kernel_rfl
theorem zgt (w:World):(Instr.typeAssert (.iface 153 (.agg #[])) 20 155 true).run Tryz.prog w=.ok (.tuple #[.agg #[],.bool false]) w:=by kernel_rfl
theorem zgu (w:World):(Instr.typeAssert (.iface 154 (.agg #[])) 20 145 true).run Tryz.prog w=.ok (.tuple #[.agg #[],.bool false]) w:=by kernel_rfl
theorem zee (w:World):(Instr.typeAssert (.iface 154 (.agg #[])) 20 146 true).run Tryz.prog w=.ok (.tuple #[.agg #[],.bool false]) w:=by kernel_rfl
theorem zef (w:World):(Instr.typeAssert (.iface 154 (.agg #[])) 20 147 true).run Tryz.prog w=.ok (.tuple #[.agg #[],.bool false]) w:=by kernel_rfl
theorem zeg (w:World):(Instr.typeAssert (.iface 154 (.agg #[])) 20 148 true).run Tryz.prog w=.ok (.tuple #[.agg #[],.bool false]) w:=by kernel_rfl
theorem zeh (w:World):(Instr.typeAssert (.iface 154 (.agg #[])) 20 149 true).run Tryz.prog w=.ok (.tuple #[.agg #[],.bool false]) w:=by kernel_rfl
theorem zei (w:World):(Instr.typeAssert (.iface 154 (.agg #[])) 20 150 true).run Tryz.prog w=.ok (.tuple #[.agg #[],.bool false]) w:=by kernel_rfl
theorem zgv (w:World):(Instr.typeAssert (.iface 154 (.agg #[])) 20 151 true).run Tryz.prog w=.ok (.tuple #[.agg #[],.bool false]) w:=by kernel_rfl
theorem zgw (w:World):(Instr.typeAssert (.iface 154 (.agg #[])) 20 152 true).run Tryz.prog w=.ok (.tuple #[.agg #[],.bool false]) w:=by kernel_rfl
theorem zgx (w:World):(Instr.typeAssert (.iface 154 (.agg #[])) 20 153 true).run Tryz.prog w=.ok (.tuple #[.agg #[],.bool false]) w:=by kernel_rfl
theorem zgy (w:World):(Instr.typeAssert (.iface 154 (.agg #[])) 20 154 true).run Tryz.prog w=.ok (.tuple #[.agg #[],.bool true]) w:=by kernel_rfl
theorem zej (w:World):(Instr.typeAssert (.iface 154 (.agg #[])) 20 155 true).run Tryz.prog w=.ok (.tuple #[.agg #[],.bool false]) w:=by kernel_rfl
theorem zj1 (w:World):(Instr.typeAssert (.iface 155 (.agg #[])) 20 145 true).run Tryz.prog w=.ok (.tuple #[.agg #[],.bool false]) w:=by kernel_rfl
theorem zgz (w:World):(Instr.typeAssert (.iface 155 (.agg #[])) 20 146 true).run Tryz.prog w=.ok (.tuple #[.agg #[],.bool false]) w:=by kernel_rfl
theorem zg0 (w:World):(Instr.typeAssert (.iface 155 (.agg #[])) 20 147 true).run Tryz.prog w=.ok (.tuple #[.agg #[],.bool false]) w:=by kernel_rfl
theorem zg1 (w:World):(Instr.typeAssert (.iface 155 (.agg #[])) 20 148 true).run Tryz.prog w=.ok (.tuple #[.agg #[],.bool false]) w:=by kernel_rfl
theorem zg2 (w:World):(Instr.typeAssert (.iface 155 (.agg #[])) 20 149 true).run Tryz.prog w=.ok (.tuple #[.agg #[],.bool false]) w:=by kernel_rfl
theorem zg3 (w:World):(Instr.typeAssert (.iface 155 (.agg #[])) 20 150 true).run Tryz.prog w=.ok (.tuple #[.agg #[],.bool false]) w:=by kernel_rfl
theorem zj2 (w:World):(Instr.typeAssert (.iface 155 (.agg #[])) 20 151 true).run Tryz.prog w=.ok (.tuple #[.agg #[],.bool false]) w:=by kernel_rfl
theorem zj3 (w:World):(Instr.typeAssert (.iface 155 (.agg #[])) 20 152 true).run Tryz.prog w=.ok (.tuple #[.agg #[],.bool false]) w:=by kernel_rfl
theorem zj4 (w:World):(Instr.typeAssert (.iface 155 (.agg #[])) 20 153 true).run Tryz.prog w=.ok (.tuple #[.agg #[],.bool false]) w:=by kernel_rfl
theorem zj5 (w:World):(Instr.typeAssert (.iface 155 (.agg #[])) 20 154 true).run Tryz.prog w=.ok (.tuple #[.agg #[],.bool false]) w:=by kernel_rfl
theorem zg4 (w:World):(Instr.typeAssert (.iface 155 (.agg #[])) 20 155 true).run Tryz.prog w=.ok (.tuple #[.agg #[],.bool true]) w:=by kernel_rfl
theorem znv (w:World):(Instr.typeAssert (.iface 188 (.agg #[])) 20 145 true).run Tryz.prog w=.ok (.tuple #[.agg #[],.bool false]) w:=by kernel_rfl
theorem zj6 (w:World):(Instr.typeAssert (.iface 188 (.agg #[])) 20 146 true).run Tryz.prog w=.ok (.tuple #[.agg #[],.bool false]) w:=by kernel_rfl
theorem zj7 (w:World):(Instr.typeAssert (.iface 188 (.agg #[])) 20 147 true).run Tryz.prog w=.ok (.tuple #[.agg #[],.bool false]) w:=by kernel_rfl
theorem zj8 (w:World):(Instr.typeAssert (.iface 188 (.agg #[])) 20 148 true).run Tryz.prog w=.ok (.tuple #[.agg #[],.bool false]) w:=by kernel_rfl
theorem zj9 (w:World):(Instr.typeAssert (.iface 188 (.agg #[])) 20 149 true).run Tryz.prog w=.ok (.tuple #[.agg #[],.bool false]) w:=by kernel_rfl
theorem zka (w:World):(Instr.typeAssert (.iface 188 (.agg #[])) 20 150 true).run Tryz.prog w=.ok (.tuple #[.agg #[],.bool false]) w:=by kernel_rfl
theorem znw (w:World):(Instr.typeAssert (.iface 188 (.agg #[])) 20 151 true).run Tryz.prog w=.ok (.tuple #[.agg #[],.bool false]) w:=by kernel_rfl
theorem znx (w:World):(Instr.typeAssert (.iface 188 (.agg #[])) 20 152 true).run Tryz.prog w=.ok (.tuple #[.agg #[],.bool false]) w:=by kernel_rfl
theorem zny (w:World):(Instr.typeAssert (.iface 188 (.agg #[])) 20 153 true).run Tryz.prog w=.ok (.tuple #[.agg #[],.bool false]) w:=by kernel_rfl
theorem znz (w:World):(Instr.typeAssert (.iface 188 (.agg #[])) 20 154 true).run Tryz.prog w=.ok (.tuple #[.agg #[],.bool false]) w:=by kernel_rfl
theorem zkb (w:World):(Instr.typeAssert (.iface 188 (.agg #[])) 20 155 true).run Tryz.prog w=.ok (.tuple #[.agg #[],.bool false]) w:=by kernel_rfl
end Go.Proofs.YtanbgdhmfjgihaaGreatDoor

/- Shelf -/
namespace Go.Proofs
open Go.Shelf
def Tryz.lays161_ren:Go.Shelf.Ren:=⟨fun | 161=>190 | 231=>198 | 227=>199 | 233=>200 | 235=>201 | 228=>209 | 197=>210 | 151=>211 | 260=>220 | 152=>221 | 137=>227 | 119=>228 | 224=>218 | 225=>217 | 217=>216 | 266=>225 | n=>n,fun | 9=>9 | 4=>4 | 3=>3 | 5=>5 | 117=>223 | 116=>222 | 0=>0 | 124=>226 | 105=>233 | 21=>21 | 119=>244 | 46=>139 | 139=>247 | 138=>246 | n=>n,fun | 3=>1 | 4=>2 | n=>n⟩
theorem Tryz.lays161:Go.Proofs.Lays.n161 Tryz.prog Tryz.lays161_ren:={
 mixed:=by kernel_rfl
 f119:=Tryz.func228.trans (congrArg some (by kernel_rfl))
 f137:=Tryz.func227.trans (congrArg some (by kernel_rfl))
 f151:=Tryz.func211.trans (congrArg some (by kernel_rfl))
 f152:=Tryz.func221.trans (congrArg some (by kernel_rfl))
 f161:=Tryz.func190.trans (congrArg some (by kernel_rfl))
 f197:=Tryz.func210.trans (congrArg some (by kernel_rfl))
 f217:=Tryz.func216.trans (congrArg some (by kernel_rfl))
 f224:=Tryz.func218.trans (congrArg some (by kernel_rfl))
 f225:=Tryz.func217.trans (congrArg some (by kernel_rfl))
 f227:=Tryz.func199.trans (congrArg some (by kernel_rfl))
 f228:=Tryz.func209.trans (congrArg some (by kernel_rfl))
 f231:=Tryz.func198.trans (congrArg some (by kernel_rfl))
 f233:=Tryz.func200.trans (congrArg some (by kernel_rfl))
 f235:=Tryz.func201.trans (congrArg some (by kernel_rfl))
 f260:=Tryz.func220.trans (congrArg some (by kernel_rfl))
 f266:=Tryz.func225.trans (congrArg some (by kernel_rfl))
 t0:=Tryz.underlying0
 a0:=Tryz.isAgg0
 z0:=Tryz.sizeOf0
 v0:=Tryz.zeroValue0
 t3:=Tryz.underlying3
 a3:=Tryz.isAgg3
 z3:=Tryz.sizeOf3
 v3:=Tryz.zeroValue3
 t4:=Tryz.underlying4
 a4:=Tryz.isAgg4
 z4:=Tryz.sizeOf4
 v4:=Tryz.zeroValue4
 t5:=Tryz.underlying5
 a5:=Tryz.isAgg5
 z5:=Tryz.sizeOf5
 v5:=Tryz.zeroValue5
 t9:=Tryz.underlying9
 a9:=Tryz.isAgg9
 z9:=Tryz.sizeOf9
 v9:=Tryz.zeroValue9
 t21:=Tryz.underlying21
 a21:=Tryz.isAgg21
 z21:=Tryz.sizeOf21
 v21:=Tryz.zeroValue21
 t46:=Tryz.underlying139
 a46:=Tryz.isAgg139
 z46:=Tryz.sizeOf139
 v46:=Tryz.zeroValue139
 t105:=Tryz.underlying233
 a105:=Tryz.isAgg233
 z105:=Tryz.sizeOf233
 v105:=Tryz.zeroValue233
 t116:=Tryz.underlying222
 a116:=Tryz.isAgg222
 z116:=Tryz.sizeOf222
 t117:=Tryz.underlying223
 a117:=Tryz.isAgg223
 z117:=Tryz.sizeOf223
 v117:=Tryz.zeroValue223
 t119:=Tryz.underlying244
 a119:=Tryz.isAgg244
 z119:=Tryz.sizeOf244
 t124:=Tryz.underlying226
 a124:=Tryz.isAgg226
 z124:=Tryz.sizeOf226
 v124:=Tryz.zeroValue226
 t138:=Tryz.underlying246
 a138:=Tryz.isAgg246
 z138:=Tryz.sizeOf246
 v138:=Tryz.zeroValue246
 t139:=Tryz.underlying247
 a139:=Tryz.isAgg247
 z139:=Tryz.sizeOf247
 v139:=Tryz.zeroValue247
 g3:=by kernel_rfl
 g4:=by kernel_rfl }
open Go.RowKit in
theorem Tryz.strings_TrimLeft_one (s:ByteArray) (c:UInt8) (hc:c.toNat < 128) (w:World):
 Calls Tryz.prog 190 #[.string s,.string ⟨#[c]⟩] w fun e w'=>e=.returned (.string ⟨(Lib.trimLeftB s.data.toList c).toArray⟩)∧w'=w:=Any.strings_TrimLeft_one Tryz.lays161 s c hc w
def Tryz.lays162_ren:Go.Shelf.Ren:=⟨fun | 162=>191 | 232=>202 | 227=>199 | 234=>203 | 236=>204 | 228=>209 | 271=>212 | 151=>211 | 120=>222 | 197=>210 | 152=>221 | 260=>220 | 137=>227 | 119=>228 | 224=>218 | 225=>217 | 217=>216 | 266=>225 | n=>n,fun | 9=>9 | 4=>4 | 3=>3 | 5=>5 | 117=>223 | 116=>222 | 0=>0 | 124=>226 | 21=>21 | 105=>233 | 46=>139 | 119=>244 | 139=>247 | 138=>246 | n=>n,fun | 3=>1 | 4=>2 | n=>n⟩
theorem Tryz.lays162:Go.Proofs.Lays.n162 Tryz.prog Tryz.lays162_ren:={
 mixed:=by kernel_rfl
 f119:=Tryz.func228.trans (congrArg some (by kernel_rfl))
 f120:=Tryz.func222.trans (congrArg some (by kernel_rfl))
 f137:=Tryz.func227.trans (congrArg some (by kernel_rfl))
 f151:=Tryz.func211.trans (congrArg some (by kernel_rfl))
 f152:=Tryz.func221.trans (congrArg some (by kernel_rfl))
 f162:=Tryz.func191.trans (congrArg some (by kernel_rfl))
 f197:=Tryz.func210.trans (congrArg some (by kernel_rfl))
 f217:=Tryz.func216.trans (congrArg some (by kernel_rfl))
 f224:=Tryz.func218.trans (congrArg some (by kernel_rfl))
 f225:=Tryz.func217.trans (congrArg some (by kernel_rfl))
 f227:=Tryz.func199.trans (congrArg some (by kernel_rfl))
 f228:=Tryz.func209.trans (congrArg some (by kernel_rfl))
 f232:=Tryz.func202.trans (congrArg some (by kernel_rfl))
 f234:=Tryz.func203.trans (congrArg some (by kernel_rfl))
 f236:=Tryz.func204.trans (congrArg some (by kernel_rfl))
 f260:=Tryz.func220.trans (congrArg some (by kernel_rfl))
 f266:=Tryz.func225.trans (congrArg some (by kernel_rfl))
 f271:=Tryz.func212.trans (congrArg some (by kernel_rfl))
 t0:=Tryz.underlying0
 a0:=Tryz.isAgg0
 z0:=Tryz.sizeOf0
 v0:=Tryz.zeroValue0
 t3:=Tryz.underlying3
 a3:=Tryz.isAgg3
 z3:=Tryz.sizeOf3
 v3:=Tryz.zeroValue3
 t4:=Tryz.underlying4
 a4:=Tryz.isAgg4
 z4:=Tryz.sizeOf4
 v4:=Tryz.zeroValue4
 t5:=Tryz.underlying5
 a5:=Tryz.isAgg5
 z5:=Tryz.sizeOf5
 v5:=Tryz.zeroValue5
 t9:=Tryz.underlying9
 a9:=Tryz.isAgg9
 z9:=Tryz.sizeOf9
 v9:=Tryz.zeroValue9
 t21:=Tryz.underlying21
 a21:=Tryz.isAgg21
 z21:=Tryz.sizeOf21
 v21:=Tryz.zeroValue21
 t46:=Tryz.underlying139
 a46:=Tryz.isAgg139
 z46:=Tryz.sizeOf139
 v46:=Tryz.zeroValue139
 t105:=Tryz.underlying233
 a105:=Tryz.isAgg233
 z105:=Tryz.sizeOf233
 v105:=Tryz.zeroValue233
 t116:=Tryz.underlying222
 a116:=Tryz.isAgg222
 z116:=Tryz.sizeOf222
 t117:=Tryz.underlying223
 a117:=Tryz.isAgg223
 z117:=Tryz.sizeOf223
 v117:=Tryz.zeroValue223
 t119:=Tryz.underlying244
 a119:=Tryz.isAgg244
 z119:=Tryz.sizeOf244
 t124:=Tryz.underlying226
 a124:=Tryz.isAgg226
 z124:=Tryz.sizeOf226
 v124:=Tryz.zeroValue226
 t138:=Tryz.underlying246
 a138:=Tryz.isAgg246
 z138:=Tryz.sizeOf246
 v138:=Tryz.zeroValue246
 t139:=Tryz.underlying247
 a139:=Tryz.isAgg247
 z139:=Tryz.sizeOf247
 v139:=Tryz.zeroValue247
 g3:=by kernel_rfl
 g4:=by kernel_rfl }
open Go.RowKit in
theorem Tryz.strings_TrimRight_one (s:ByteArray) (c:UInt8) (hc:c.toNat < 128) (w:World) (hs:s.size≤9223372036854775807):
 Calls Tryz.prog 191 #[.string s,.string ⟨#[c]⟩] w fun e w'=>e=.returned (.string ⟨(Lib.trimRightB s.data.toList c).toArray⟩)∧w'=w:=Any.strings_TrimRight_one Tryz.lays162 s c hc w hs
def Tryz.laysM173_ren:Go.Shelf.Ren:=⟨fun | 173=>215 | 246=>224 | 283=>230 | 284=>231 | 285=>232 | 286=>233 | 129=>135 | 317=>234 | 318=>235 | 319=>236 | 320=>237 | 337=>238 | 338=>239 | n=>n,fun | 2=>2 | 3=>3 | 9=>9 | 4=>4 | 171=>252 | 0=>0 | 53=>176 | 37=>163 | 5=>5 | 173=>254 | 212=>258 | 51=>174 | 20=>20 | 213=>259 | 46=>139 | 232=>260 | 233=>261 | n=>n,fun | 17=>3 | 18=>4 | 19=>5 | n=>n⟩
theorem Tryz.laysM173:Go.Proofs.LaysM.n173 Tryz.prog Tryz.laysM173_ren:={
 mixed:=by kernel_rfl
 f129:=Tryz.func135.trans (congrArg some (by kernel_rfl))
 f173:=Tryz.func215.trans (congrArg some (by kernel_rfl))
 f246:=Tryz.func224.trans (congrArg some (by kernel_rfl))
 f283:=Tryz.func230.trans (congrArg some (by kernel_rfl))
 f284:=Tryz.func231.trans (congrArg some (by kernel_rfl))
 f285:=Tryz.func232.trans (congrArg some (by kernel_rfl))
 f286:=Tryz.func233.trans (congrArg some (by kernel_rfl))
 f317:=Tryz.func234.trans (congrArg some (by kernel_rfl))
 f318:=Tryz.func235.trans (congrArg some (by kernel_rfl))
 f319:=Tryz.func236.trans (congrArg some (by kernel_rfl))
 f320:=Tryz.func237.trans (congrArg some (by kernel_rfl))
 f337:=Tryz.func238.trans (congrArg some (by kernel_rfl))
 f338:=Tryz.func239.trans (congrArg some (by kernel_rfl))
 t0:=Tryz.underlying0
 a0:=Tryz.isAgg0
 z0:=Tryz.sizeOf0
 v0:=Tryz.zeroValue0
 t2:=Tryz.underlying2
 a2:=Tryz.isAgg2
 z2:=Tryz.sizeOf2
 v2:=Tryz.zeroValue2
 t3:=Tryz.underlying3
 a3:=Tryz.isAgg3
 z3:=Tryz.sizeOf3
 v3:=Tryz.zeroValue3
 t4:=Tryz.underlying4
 a4:=Tryz.isAgg4
 z4:=Tryz.sizeOf4
 v4:=Tryz.zeroValue4
 t5:=Tryz.underlying5
 a5:=Tryz.isAgg5
 z5:=Tryz.sizeOf5
 v5:=Tryz.zeroValue5
 t9:=Tryz.underlying9
 a9:=Tryz.isAgg9
 z9:=Tryz.sizeOf9
 v9:=Tryz.zeroValue9
 t20:=Tryz.underlying20
 a20:=Tryz.isAgg20
 z20:=Tryz.sizeOf20
 v20:=Tryz.zeroValue20
 t37:=Tryz.underlying163
 a37:=Tryz.isAgg163
 z37:=Tryz.sizeOf163
 v37:=Tryz.zeroValue163
 t46:=Tryz.underlying139
 a46:=Tryz.isAgg139
 z46:=Tryz.sizeOf139
 v46:=Tryz.zeroValue139
 t51:=Tryz.underlying174
 a51:=Tryz.isAgg174
 z51:=Tryz.sizeOf174
 v51:=Tryz.zeroValue174
 t53:=Tryz.underlying176
 a53:=Tryz.isAgg176
 z53:=Tryz.sizeOf176
 v53:=Tryz.zeroValue176
 t171:=Tryz.underlying252
 a171:=Tryz.isAgg252
 z171:=Tryz.sizeOf252
 v171:=Tryz.zeroValue252
 t173:=Tryz.underlying254
 a173:=Tryz.isAgg254
 z173:=Tryz.sizeOf254
 v173:=Tryz.zeroValue254
 t212:=Tryz.underlying258
 a212:=Tryz.isAgg258
 z212:=Tryz.sizeOf258
 v212:=Tryz.zeroValue258
 t213:=Tryz.underlying259
 a213:=Tryz.isAgg259
 z213:=Tryz.sizeOf259
 t232:=Tryz.underlying260
 a232:=Tryz.isAgg260
 z232:=Tryz.sizeOf260
 v232:=Tryz.zeroValue260
 t233:=Tryz.underlying261
 a233:=Tryz.isAgg261
 z233:=Tryz.sizeOf261
 v233:=Tryz.zeroValue261
 g17:=by kernel_rfl
 g18:=by kernel_rfl
 g19:=by kernel_rfl
 i0:=by kernel_rfl
 i2:=by kernel_rfl
 i3:=by kernel_rfl
 i4:=by kernel_rfl
 i5:=by kernel_rfl
 i9:=by kernel_rfl
 i20:=by kernel_rfl
 i37:=by kernel_rfl
 i46:=by kernel_rfl
 i51:=by kernel_rfl
 i53:=by kernel_rfl
 i171:=by kernel_rfl
 i173:=by kernel_rfl
 i212:=by kernel_rfl
 i232:=by kernel_rfl
 i233:=by kernel_rfl
 m17:=by kernel_rfl
 m18:=by kernel_rfl
 m19:=by kernel_rfl }
open Go.RowKit Go.Sort Go.Lib in
theorem Tryz.strconv_FormatInt_10 (n:Int) (h0:-9223372036854775808≤n) (h1:n≤9223372036854775807) (w:World) (htab:Lib.TabIs Tryz.prog w "internal/strconv.uint64pow10" .u64 Lib.pow10Tab):
 Calls Tryz.prog 215 #[.int .i64 n,.int .i64 10] w fun e w'=>e=.returned (.string ⟨(Lib.itoa n).toArray⟩)∧∃ k os,w'=grow (w.drewN k) os:=Any.strconv_FormatInt_10 Tryz.laysM173 n h0 h1 w htab
def Tryz.lays145_ren:Go.Shelf.Ren:=⟨fun | 145=>188 | 220=>197 | 219=>208 | 217=>216 | 225=>217 | 224=>218 | 267=>219 | 266=>225 | 314=>226 | n=>n,fun | 9=>9 | 4=>4 | 59=>217 | 3=>3 | 5=>5 | 46=>139 | 146=>242 | 51=>174 | n=>n,fun | 1=>0 | n=>n⟩
theorem Tryz.lays145:Go.Proofs.Lays.n145 Tryz.prog Tryz.lays145_ren:={
 mixed:=by kernel_rfl
 f145:=Tryz.func188.trans (congrArg some (by kernel_rfl))
 f217:=Tryz.func216.trans (congrArg some (by kernel_rfl))
 f219:=Tryz.func208.trans (congrArg some (by kernel_rfl))
 f220:=Tryz.func197.trans (congrArg some (by kernel_rfl))
 f224:=Tryz.func218.trans (congrArg some (by kernel_rfl))
 f225:=Tryz.func217.trans (congrArg some (by kernel_rfl))
 f266:=Tryz.func225.trans (congrArg some (by kernel_rfl))
 f267:=Tryz.func219.trans (congrArg some (by kernel_rfl))
 f314:=Tryz.func226.trans (congrArg some (by kernel_rfl))
 t3:=Tryz.underlying3
 a3:=Tryz.isAgg3
 z3:=Tryz.sizeOf3
 v3:=Tryz.zeroValue3
 t4:=Tryz.underlying4
 a4:=Tryz.isAgg4
 z4:=Tryz.sizeOf4
 v4:=Tryz.zeroValue4
 t5:=Tryz.underlying5
 a5:=Tryz.isAgg5
 z5:=Tryz.sizeOf5
 v5:=Tryz.zeroValue5
 t9:=Tryz.underlying9
 a9:=Tryz.isAgg9
 z9:=Tryz.sizeOf9
 v9:=Tryz.zeroValue9
 t46:=Tryz.underlying139
 a46:=Tryz.isAgg139
 z46:=Tryz.sizeOf139
 v46:=Tryz.zeroValue139
 t51:=Tryz.underlying174
 a51:=Tryz.isAgg174
 z51:=Tryz.sizeOf174
 v51:=Tryz.zeroValue174
 t59:=Tryz.underlying217
 a59:=Tryz.isAgg217
 z59:=Tryz.sizeOf217
 v59:=Tryz.zeroValue217
 t146:=Tryz.underlying242
 a146:=Tryz.isAgg242
 z146:=Tryz.sizeOf242
 v146:=Tryz.zeroValue242
 g1:=by kernel_rfl }
open Go.RowKit Go.Lib in
theorem Tryz.strings_Cut (s sep:ByteArray) (m:Int) (w:World) (hs:s.size < 4294967281) (hm:w.cell? ⟨0,0,none⟩=some (.int .i64 m)):
 Calls Tryz.prog 188 #[.string s,.string sep] w fun e w'=>e=.returned (.tuple #[.string ⟨(Lib.cut s.data.toList sep.data.toList).1.toArray⟩,.string ⟨(Lib.cut s.data.toList sep.data.toList).2.1.toArray⟩,.bool (Lib.cut s.data.toList sep.data.toList).2.2])∧∃ n,w'=w.drewN n:=Any.strings_Cut Tryz.lays145 s sep m w hs hm
def Tryz.lays99_ren:Go.Shelf.Ren:=⟨fun | 99=>187 | 206=>196 | n=>n,fun | 9=>9 | 4=>4 | 3=>3 | n=>n,fun | n=>n⟩
theorem Tryz.lays99:Go.Proofs.Lays.n99 Tryz.prog Tryz.lays99_ren:={
 mixed:=by kernel_rfl
 f99:=Tryz.func187.trans (congrArg some (by kernel_rfl))
 f206:=Tryz.func196.trans (congrArg some (by kernel_rfl))
 t3:=Tryz.underlying3
 a3:=Tryz.isAgg3
 z3:=Tryz.sizeOf3
 v3:=Tryz.zeroValue3
 t4:=Tryz.underlying4
 a4:=Tryz.isAgg4
 z4:=Tryz.sizeOf4
 v4:=Tryz.zeroValue4
 t9:=Tryz.underlying9
 a9:=Tryz.isAgg9
 z9:=Tryz.sizeOf9
 v9:=Tryz.zeroValue9 }
open Go.RowKit Go.Lib in
theorem Tryz.strings_HasPrefix (s p:ByteArray) (w:World):
 Calls Tryz.prog 187 #[.string s,.string p] w fun e w'=>e=.returned (.bool (Lib.hasPrefix s.data.toList p.data.toList))∧w'=w:=Any.strings_HasPrefix Tryz.lays99 s p w
end Go.Proofs

/- S2 -/
namespace Go.Proofs.YtanbgdhmfjgihaaGreatDoor
open Go.RowKit
abbrev bs (l:List UInt8):ByteArray:=⟨l.toArray⟩
theorem trimL (s A:ByteArray) (H:Hid (A=bs (Lib.trimLeftB s.data.toList 48))) (w:World):
 Calls Tryz.prog 190 #[.string s,.string ⟨#[48]⟩] w fun e w'=>e=.returned (.string A)∧w=w':=
 (Tryz.strings_TrimLeft_one s 48 (by decide) w).mono fun _ _ ⟨h,k⟩=>⟨by rw [h,H.out],k.symm⟩
theorem trimR (s A:ByteArray) (H:Hid (A=bs (Lib.trimRightB s.data.toList 48))) (w:World) (hs:s.size≤maxLen):
 Calls Tryz.prog 191 #[.string s,.string ⟨#[48]⟩] w fun e w'=>e=.returned (.string A)∧w=w':=
 (Tryz.strings_TrimRight_one s 48 (by decide) w (by unfold maxLen at hs;omega)).mono fun _ _ ⟨h,k⟩=>⟨by rw [h,H.out],k.symm⟩
theorem zn0 (s A:ByteArray) (H:Hid (A=bs (orN s.data.toList))) (w:World):
 Calls Tryz.prog 192 #[.string s] w fun e w'=>e=.returned (.string A)∧w=w':=
 (zr5 s w).mono fun _ _ ⟨h,k⟩=>⟨by rw [h,H.out],k.symm⟩
theorem zib (l:List UInt8) (n:Nat) (h:l.length≤n) (hn:1≤n):(bs (orN l)).size≤n:=by
 unfold orN bs
 split <;> simp [ByteArray.size] <;> omega
theorem zbs {a b:ByteArray} (h:a.data.toList=b.data.toList):a=b:=by
 obtain ⟨a⟩:=a;obtain ⟨b⟩:=b
 simp only [ByteArray.mk.injEq]
 exact Array.toList_inj.1 h
set_option maxHeartbeats 800000 in
theorem zvz (neg:Bool) (x y A B:ByteArray) (w:World) (hx:x.size≤maxLen) (hy:y.size≤maxLen) (HA:Hid (A=bs (Lib.trimLeftB x.data.toList 48))) (HB:Hid (B=bs (Lib.trimRightB y.data.toList 48)))
 (hA:A.size≤40) (hB:B.size≤20) (hn:neg=false):
 Calls Tryz.prog 179 #[.bool neg,.string x,.string y] w fun e w'=>e=.returned (.tuple #[.string (bs ( orN A.data.toList++46::orN B.data.toList)),.int .i64 0])∧w=w':=by
 subst hn
 obtain ⟨C,hC⟩:∃ C,C=bs (orN A.data.toList):=⟨_,rfl⟩
 obtain ⟨D,hD⟩:∃ D,D=bs (orN B.data.toList):=⟨_,rfl⟩
 have hCs:C.size≤40:=by rw [hC];exact zib _ _ (by simpa using hA) (by omega)
 have hDs:D.size≤20:=by rw [hD];exact zib _ _ (by simpa using hB) (by omega)
 have HC:=Lib.hid hC
 have HD:=Lib.hid hD
 clear hC hD
 go_enter Tryz.func179,Tryz.ntmps179
 go_wp2_with (first
  |(go_at_call 190;(with_reducible refine (trimL x A HA _).mono ?_);rintro e w' ⟨rfl,rfl⟩)
  |(go_at_call 191;(with_reducible refine (trimR y B HB _ hy).mono ?_);rintro e w' ⟨rfl,rfl⟩)
  |(go_at_call 192;(with_reducible refine (zn0 A C HC _).mono ?_);rintro e w' ⟨rfl,rfl⟩)
  |(go_at_call 192;(with_reducible refine (zn0 B D HD _).mono ?_);rintro e w' ⟨rfl,rfl⟩))
 go_ret2
 refine ⟨?_,rfl⟩
 have e:(({ data:=#[] }:ByteArray)++C++{ data:=#[46] }++D:ByteArray)=bs ( orN A.data.toList++46::orN B.data.toList):=by
  apply zbs
  rw [HC.out,HD.out]
  simp
 exact congrArg (fun z=>Ending.returned (.tuple #[.string z,.int .i64 0])) e
set_option maxHeartbeats 800000 in
theorem zv0 (neg:Bool) (x y A B:ByteArray) (w:World) (hx:x.size≤maxLen) (hy:y.size≤maxLen) (HA:Hid (A=bs (Lib.trimLeftB x.data.toList 48))) (HB:Hid (B=bs (Lib.trimRightB y.data.toList 48)))
 (hA:A.size≤40) (hB:B.size≤20) (hn:neg=true) (hne:(A++B).toList.isEmpty=false):
 Calls Tryz.prog 179 #[.bool neg,.string x,.string y] w fun e w'=>e=.returned (.tuple #[.string (bs (45::orN A.data.toList++46::orN B.data.toList)),.int .i64 0])∧w=w':=by
 subst hn
 obtain ⟨C,hC⟩:∃ C,C=bs (orN A.data.toList):=⟨_,rfl⟩
 obtain ⟨D,hD⟩:∃ D,D=bs (orN B.data.toList):=⟨_,rfl⟩
 have hCs:C.size≤40:=by rw [hC];exact zib _ _ (by simpa using hA) (by omega)
 have hDs:D.size≤20:=by rw [hD];exact zib _ _ (by simpa using hB) (by omega)
 have HC:=Lib.hid hC
 have HD:=Lib.hid hD
 clear hC hD
 go_enter Tryz.func179,Tryz.ntmps179
 go_wp2_with (first
  |(go_at_call 190;(with_reducible refine (trimL x A HA _).mono ?_);rintro e w' ⟨rfl,rfl⟩)
  |(go_at_call 191;(with_reducible refine (trimR y B HB _ hy).mono ?_);rintro e w' ⟨rfl,rfl⟩)
  |(go_at_call 192;(with_reducible refine (zn0 A C HC _).mono ?_);rintro e w' ⟨rfl,rfl⟩)
  |(go_at_call 192;(with_reducible refine (zn0 B D HD _).mono ?_);rintro e w' ⟨rfl,rfl⟩))
 go_ret2
 refine ⟨?_,rfl⟩
 have e:(({ data:=#[45] }:ByteArray)++C++{ data:=#[46] }++D:ByteArray)=bs (45::orN A.data.toList++46::orN B.data.toList):=by
  apply zbs
  rw [HC.out,HD.out]
  simp
 exact congrArg (fun z=>Ending.returned (.tuple #[.string z,.int .i64 0])) e
set_option maxHeartbeats 800000 in
theorem zv1 (x y:ByteArray) (w:World) (hx:x.size≤maxLen) (hy:y.size≤maxLen) (HA:Hid (ByteArray.mk #[]=bs (Lib.trimLeftB x.data.toList 48))) (HB:Hid (ByteArray.mk #[]=bs (Lib.trimRightB y.data.toList 48))):
 Calls Tryz.prog 179 #[.bool true,.string x,.string y] w fun e w'=>e=.returned (.tuple #[.string (bs [48,46,48]),.int .i64 0])∧w=w':=by
 have HC:Hid (bs [48]=bs (orN (ByteArray.mk #[]).data.toList)):=Lib.hid rfl
 have hne:(({ data:=#[] }:ByteArray)++{ data:=#[] }).toList.isEmpty=true:=by rw [ByteArray.toList_eq];rfl
 go_enter Tryz.func179,Tryz.ntmps179
 go_wp2_with (first
  |(go_at_call 190;(with_reducible refine (trimL x _ HA _).mono ?_);rintro e w' ⟨rfl,rfl⟩)
  |(go_at_call 191;(with_reducible refine (trimR y _ HB _ hy).mono ?_);rintro e w' ⟨rfl,rfl⟩)
  |(go_at_call 192;(with_reducible refine (zn0 _ _ HC _).mono ?_);rintro e w' ⟨rfl,rfl⟩))
 go_ret2
 exact ⟨rfl,rfl⟩
set_option maxHeartbeats 800000 in
theorem zv2 (neg:Bool) (x y A B:ByteArray) (w:World) (hx:x.size≤maxLen) (hy:y.size≤maxLen) (HA:Hid (A=bs (Lib.trimLeftB x.data.toList 48))) (HB:Hid (B=bs (Lib.trimRightB y.data.toList 48)))
 (h:40 < A.size∨20 < B.size):
 Calls Tryz.prog 179 #[.bool neg,.string x,.string y] w fun e w'=>e=.returned (.tuple #[.string (bs []),.int .i64 2])∧w=w':=by
 by_cases h1:(40:Int) < A.size
 ·clear h
  go_enter Tryz.func179,Tryz.ntmps179
  go_wp2_with (first
   |(go_at_call 190;(with_reducible refine (trimL x A HA _).mono ?_);rintro e w' ⟨rfl,rfl⟩)
   |(go_at_call 191;(with_reducible refine (trimR y B HB _ hy).mono ?_);rintro e w' ⟨rfl,rfl⟩))
  go_ret2
  exact ⟨rfl,rfl⟩
 ·have h2:(20:Int) < B.size:=by omega
  clear h
  go_enter Tryz.func179,Tryz.ntmps179
  go_wp2_with (first
   |(go_at_call 190;(with_reducible refine (trimL x A HA _).mono ?_);rintro e w' ⟨rfl,rfl⟩)
   |(go_at_call 191;(with_reducible refine (trimR y B HB _ hy).mono ?_);rintro e w' ⟨rfl,rfl⟩))
  go_ret2
  exact ⟨rfl,rfl⟩
def said (r:Option (List UInt8)):Value:=match r with
 | some t=>.tuple #[.string (bs t),.int .i64 0]
 | none=>.tuple #[.string (bs []),.int .i64 2]
theorem writeAt (neg:Bool) (x y:ByteArray) (w:World) (hx:x.size≤maxLen) (hy:y.size≤maxLen):
 Calls Tryz.prog 179 #[.bool neg,.string x,.string y] w fun e w'=>e=.returned (said (wr neg x.data.toList y.data.toList))∧w=w':=by
 obtain ⟨A,hA⟩:∃ A,A=bs (Lib.trimLeftB x.data.toList 48):=⟨_,rfl⟩
 obtain ⟨B,hB⟩:∃ B,B=bs (Lib.trimRightB y.data.toList 48):=⟨_,rfl⟩
 have lA:(Lib.trimLeftB x.data.toList 48).length=A.size:=by rw [hA];simp [ByteArray.size]
 have lB:(Lib.trimRightB y.data.toList 48).length=B.size:=by rw [hB];simp [ByteArray.size]
 have tA:Lib.trimLeftB x.data.toList 48=A.data.toList:=by rw [hA]
 have tB:Lib.trimRightB y.data.toList 48=B.data.toList:=by rw [hB]
 have HA:=Lib.hid hA
 have HB:=Lib.hid hB
 unfold wr
 simp only [lA,lB]
 by_cases h:40 < A.size∨20 < B.size
 ·rw [if_pos h]
  exact zv2 neg x y A B w hx hy HA HB h
 ·rw [if_neg h,tA,tB]
  cases neg
  ·exact zvz false x y A B w hx hy HA HB (by omega) (by omega) rfl
  ·by_cases hn:(A.data.toList++B.data.toList).isEmpty=true
   ·have e1:A.data.toList=[]:=by simp at hn;simpa using hn.1
    have e2:B.data.toList=[]:=by simp at hn;simpa using hn.2
    have f1:A=ByteArray.mk #[]:=zbs (by rw [e1])
    have f2:B=ByteArray.mk #[]:=zbs (by rw [e2])
    subst f1 f2
    exact zv1 x y w hx hy HA HB
   ·have hn':(A.data.toList++B.data.toList).isEmpty=false:=by simpa using hn
    rw [hn']
    exact zv0 true x y A B w hx hy HA HB (by omega) (by omega) rfl (by rw [ByteArray.toList_eq];simpa using hn')
end Go.Proofs.YtanbgdhmfjgihaaGreatDoor
