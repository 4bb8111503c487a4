/- Texts of one kind, one behind the other: each says ahead of itself what it shows. -/
import Derived.Test.YtffbcccbhofbpaaGreatDoorHaa
import Derived.Shelf.Strings.Trim
import Derived.Shelf.Small.Utf8
import Derived.Shelf.Small.Strs
import Derived.Shelf.Small.Wraps
import Derived.Shelf.Strconv.Itoa0
import Derived.Shelf.Strconv.Itoa1
import Derived.Shelf.LaysM
import Derived.Shelf.Strconv.Itoa2
import Derived.Shelf.Strconv.Itoa3
import Derived.Shelf.Strconv.Itoa4
import Derived.Shelf.Strconv.ParseIntEmpty
import Derived.Shelf.Strconv.Clone
import Derived.Shelf.Strconv.SyntaxError
import Derived.Shelf.LaysC
import Derived.Shelf.Strconv.ToError
import Derived.Shelf.Strconv.Lower
import Derived.Shelf.Strconv.ParseUint10
import Derived.Shelf.Strconv.ParseUint10Empty
import Derived.Shelf.Strconv.ParseUint10Any
import Derived.Shelf.Strconv.ParseInt10
import Derived.Shelf.Strconv.RangeError
import Derived.Shelf.Strconv.ToErrorRange
import Derived.Shelf.Strconv.ParseUintEmpty
import Derived.Shelf.Strconv.ParseUint10b64
import Derived.Shelf.Strconv.ParseUint10b32
import Derived.Shelf.Strconv.ParseUint10b16
import Derived.Shelf.Strconv.ParseUint10b8
import Derived.Shelf.Strconv.ParseUint10At
import Derived.Shelf.Strconv.ParseInt10At64
import Derived.Shelf.Strconv.ParseInt10At32
import Derived.Shelf.Strconv.ParseInt10At16
import Derived.Shelf.Strconv.ParseInt10At8
import Derived.Shelf.Strconv.ParseInt10All
import Derived.Shelf.Strconv.ParseIntPublic10
import Derived.Shelf.Strconv.ErrVarParseInt
import Derived.Shelf.Strings.Search1
import Derived.Shelf.Strings.Search2
import Derived.Shelf.Strings.Cut
import Derived.Shelf.Strings.Shaped
import Derived.Shelf.Strings.Prefix
import Derived.Shelf.Strings.Runes
import Derived.Shelf.Strings.AsciiSet
import Derived.Shelf.Unicode.DecodeSlow
import Derived.Test.YtffbcccbhofbpaaGreatDoorProg
import Derived.Deep.RegionWith
/- What a type switch over the small types finds. -/
namespace Go.Proofs.YtffbcccbhofbpaaGreatDoor
open Go.RowKit

theorem ta113_113 (w : World) : (Instr.typeAssert (.iface 113 (.agg #[])) 20 113 true).run Tryz.prog w = .ok (.tuple #[.agg #[], .bool true]) w := by kernel_rfl
theorem ta113_91 (w : World) : (Instr.typeAssert (.iface 113 (.agg #[])) 20 91 true).run Tryz.prog w = .ok (.tuple #[.agg #[], .bool false]) w := by kernel_rfl
theorem ta113_93 (w : World) : (Instr.typeAssert (.iface 113 (.agg #[])) 20 93 true).run Tryz.prog w = .ok (.tuple #[.agg #[], .bool false]) w := by kernel_rfl
theorem ta113_94 (w : World) : (Instr.typeAssert (.iface 113 (.agg #[])) 20 94 true).run Tryz.prog w = .ok (.tuple #[.agg #[], .bool false]) w := by kernel_rfl
theorem ta113_95 (w : World) : (Instr.typeAssert (.iface 113 (.agg #[])) 20 95 true).run Tryz.prog w = .ok (.tuple #[.agg #[], .bool false]) w := by kernel_rfl
theorem ta113_97 (w : World) : (Instr.typeAssert (.iface 113 (.agg #[])) 20 97 true).run Tryz.prog w = .ok (.tuple #[.agg #[], .bool false]) w := by kernel_rfl
theorem ta113_98 (w : World) : (Instr.typeAssert (.iface 113 (.agg #[])) 20 98 true).run Tryz.prog w = .ok (.tuple #[.agg #[], .bool false]) w := by kernel_rfl
theorem ta113_99 (w : World) : (Instr.typeAssert (.iface 113 (.agg #[])) 20 99 true).run Tryz.prog w = .ok (.tuple #[.agg #[], .bool false]) w := by kernel_rfl
theorem ta113_100 (w : World) : (Instr.typeAssert (.iface 113 (.agg #[])) 20 100 true).run Tryz.prog w = .ok (.tuple #[.agg #[], .bool false]) w := by kernel_rfl
theorem ta113_102 (w : World) : (Instr.typeAssert (.iface 113 (.agg #[])) 20 102 true).run Tryz.prog w = .ok (.tuple #[.agg #[], .bool false]) w := by kernel_rfl
theorem ta113_103 (w : World) : (Instr.typeAssert (.iface 113 (.agg #[])) 20 103 true).run Tryz.prog w = .ok (.tuple #[.agg #[], .bool false]) w := by kernel_rfl
theorem ta91_113 (w : World) : (Instr.typeAssert (.iface 91 (.agg #[])) 20 113 true).run Tryz.prog w = .ok (.tuple #[.agg #[], .bool false]) w := by kernel_rfl
theorem ta91_91 (w : World) : (Instr.typeAssert (.iface 91 (.agg #[])) 20 91 true).run Tryz.prog w = .ok (.tuple #[.agg #[], .bool true]) w := by kernel_rfl
theorem ta91_93 (w : World) : (Instr.typeAssert (.iface 91 (.agg #[])) 20 93 true).run Tryz.prog w = .ok (.tuple #[.agg #[], .bool false]) w := by kernel_rfl
theorem ta91_94 (w : World) : (Instr.typeAssert (.iface 91 (.agg #[])) 20 94 true).run Tryz.prog w = .ok (.tuple #[.agg #[], .bool false]) w := by kernel_rfl
theorem ta91_95 (w : World) : (Instr.typeAssert (.iface 91 (.agg #[])) 20 95 true).run Tryz.prog w = .ok (.tuple #[.agg #[], .bool false]) w := by kernel_rfl
theorem ta91_97 (w : World) : (Instr.typeAssert (.iface 91 (.agg #[])) 20 97 true).run Tryz.prog w = .ok (.tuple #[.agg #[], .bool false]) w := by kernel_rfl
theorem ta91_98 (w : World) : (Instr.typeAssert (.iface 91 (.agg #[])) 20 98 true).run Tryz.prog w = .ok (.tuple #[.agg #[], .bool false]) w := by kernel_rfl
theorem ta91_99 (w : World) : (Instr.typeAssert (.iface 91 (.agg #[])) 20 99 true).run Tryz.prog w = .ok (.tuple #[.agg #[], .bool false]) w := by kernel_rfl
theorem ta91_100 (w : World) : (Instr.typeAssert (.iface 91 (.agg #[])) 20 100 true).run Tryz.prog w = .ok (.tuple #[.agg #[], .bool false]) w := by kernel_rfl
theorem ta91_102 (w : World) : (Instr.typeAssert (.iface 91 (.agg #[])) 20 102 true).run Tryz.prog w = .ok (.tuple #[.agg #[], .bool false]) w := by kernel_rfl
theorem ta91_103 (w : World) : (Instr.typeAssert (.iface 91 (.agg #[])) 20 103 true).run Tryz.prog w = .ok (.tuple #[.agg #[], .bool false]) w := by kernel_rfl
theorem ta93_113 (w : World) : (Instr.typeAssert (.iface 93 (.agg #[])) 20 113 true).run Tryz.prog w = .ok (.tuple #[.agg #[], .bool false]) w := by kernel_rfl
theorem ta93_91 (w : World) : (Instr.typeAssert (.iface 93 (.agg #[])) 20 91 true).run Tryz.prog w = .ok (.tuple #[.agg #[], .bool false]) w := by kernel_rfl
theorem ta93_93 (w : World) : (Instr.typeAssert (.iface 93 (.agg #[])) 20 93 true).run Tryz.prog w = .ok (.tuple #[.agg #[], .bool true]) w := by kernel_rfl
theorem ta93_94 (w : World) : (Instr.typeAssert (.iface 93 (.agg #[])) 20 94 true).run Tryz.prog w = .ok (.tuple #[.agg #[], .bool false]) w := by kernel_rfl
theorem ta93_95 (w : World) : (Instr.typeAssert (.iface 93 (.agg #[])) 20 95 true).run Tryz.prog w = .ok (.tuple #[.agg #[], .bool false]) w := by kernel_rfl
theorem ta93_97 (w : World) : (Instr.typeAssert (.iface 93 (.agg #[])) 20 97 true).run Tryz.prog w = .ok (.tuple #[.agg #[], .bool false]) w := by kernel_rfl
theorem ta93_98 (w : World) : (Instr.typeAssert (.iface 93 (.agg #[])) 20 98 true).run Tryz.prog w = .ok (.tuple #[.agg #[], .bool false]) w := by kernel_rfl
theorem ta93_99 (w : World) : (Instr.typeAssert (.iface 93 (.agg #[])) 20 99 true).run Tryz.prog w = .ok (.tuple #[.agg #[], .bool false]) w := by kernel_rfl
theorem ta93_100 (w : World) : (Instr.typeAssert (.iface 93 (.agg #[])) 20 100 true).run Tryz.prog w = .ok (.tuple #[.agg #[], .bool false]) w := by kernel_rfl
theorem ta93_102 (w : World) : (Instr.typeAssert (.iface 93 (.agg #[])) 20 102 true).run Tryz.prog w = .ok (.tuple #[.agg #[], .bool false]) w := by kernel_rfl
theorem ta93_103 (w : World) : (Instr.typeAssert (.iface 93 (.agg #[])) 20 103 true).run Tryz.prog w = .ok (.tuple #[.agg #[], .bool false]) w := by kernel_rfl
theorem ta94_113 (w : World) : (Instr.typeAssert (.iface 94 (.agg #[])) 20 113 true).run Tryz.prog w = .ok (.tuple #[.agg #[], .bool false]) w := by kernel_rfl
theorem ta94_91 (w : World) : (Instr.typeAssert (.iface 94 (.agg #[])) 20 91 true).run Tryz.prog w = .ok (.tuple #[.agg #[], .bool false]) w := by kernel_rfl
theorem ta94_93 (w : World) : (Instr.typeAssert (.iface 94 (.agg #[])) 20 93 true).run Tryz.prog w = .ok (.tuple #[.agg #[], .bool false]) w := by kernel_rfl
theorem ta94_94 (w : World) : (Instr.typeAssert (.iface 94 (.agg #[])) 20 94 true).run Tryz.prog w = .ok (.tuple #[.agg #[], .bool true]) w := by kernel_rfl
theorem ta94_95 (w : World) : (Instr.typeAssert (.iface 94 (.agg #[])) 20 95 true).run Tryz.prog w = .ok (.tuple #[.agg #[], .bool false]) w := by kernel_rfl
theorem ta94_97 (w : World) : (Instr.typeAssert (.iface 94 (.agg #[])) 20 97 true).run Tryz.prog w = .ok (.tuple #[.agg #[], .bool false]) w := by kernel_rfl
theorem ta94_98 (w : World) : (Instr.typeAssert (.iface 94 (.agg #[])) 20 98 true).run Tryz.prog w = .ok (.tuple #[.agg #[], .bool false]) w := by kernel_rfl
theorem ta94_99 (w : World) : (Instr.typeAssert (.iface 94 (.agg #[])) 20 99 true).run Tryz.prog w = .ok (.tuple #[.agg #[], .bool false]) w := by kernel_rfl
theorem ta94_100 (w : World) : (Instr.typeAssert (.iface 94 (.agg #[])) 20 100 true).run Tryz.prog w = .ok (.tuple #[.agg #[], .bool false]) w := by kernel_rfl
theorem ta94_102 (w : World) : (Instr.typeAssert (.iface 94 (.agg #[])) 20 102 true).run Tryz.prog w = .ok (.tuple #[.agg #[], .bool false]) w := by kernel_rfl
theorem ta94_103 (w : World) : (Instr.typeAssert (.iface 94 (.agg #[])) 20 103 true).run Tryz.prog w = .ok (.tuple #[.agg #[], .bool false]) w := by kernel_rfl
theorem ta95_113 (w : World) : (Instr.typeAssert (.iface 95 (.agg #[])) 20 113 true).run Tryz.prog w = .ok (.tuple #[.agg #[], .bool false]) w := by kernel_rfl
theorem ta95_91 (w : World) : (Instr.typeAssert (.iface 95 (.agg #[])) 20 91 true).run Tryz.prog w = .ok (.tuple #[.agg #[], .bool false]) w := by kernel_rfl
theorem ta95_93 (w : World) : (Instr.typeAssert (.iface 95 (.agg #[])) 20 93 true).run Tryz.prog w = .ok (.tuple #[.agg #[], .bool false]) w := by kernel_rfl
theorem ta95_94 (w : World) : (Instr.typeAssert (.iface 95 (.agg #[])) 20 94 true).run Tryz.prog w = .ok (.tuple #[.agg #[], .bool false]) w := by kernel_rfl
theorem ta95_95 (w : World) : (Instr.typeAssert (.iface 95 (.agg #[])) 20 95 true).run Tryz.prog w = .ok (.tuple #[.agg #[], .bool true]) w := by kernel_rfl
theorem ta95_97 (w : World) : (Instr.typeAssert (.iface 95 (.agg #[])) 20 97 true).run Tryz.prog w = .ok (.tuple #[.agg #[], .bool false]) w := by kernel_rfl
theorem ta95_98 (w : World) : (Instr.typeAssert (.iface 95 (.agg #[])) 20 98 true).run Tryz.prog w = .ok (.tuple #[.agg #[], .bool false]) w := by kernel_rfl
theorem ta95_99 (w : World) : (Instr.typeAssert (.iface 95 (.agg #[])) 20 99 true).run Tryz.prog w = .ok (.tuple #[.agg #[], .bool false]) w := by kernel_rfl
theorem ta95_100 (w : World) : (Instr.typeAssert (.iface 95 (.agg #[])) 20 100 true).run Tryz.prog w = .ok (.tuple #[.agg #[], .bool false]) w := by kernel_rfl
theorem ta95_102 (w : World) : (Instr.typeAssert (.iface 95 (.agg #[])) 20 102 true).run Tryz.prog w = .ok (.tuple #[.agg #[], .bool false]) w := by kernel_rfl
theorem ta95_103 (w : World) : (Instr.typeAssert (.iface 95 (.agg #[])) 20 103 true).run Tryz.prog w = .ok (.tuple #[.agg #[], .bool false]) w := by kernel_rfl
theorem ta97_113 (w : World) : (Instr.typeAssert (.iface 97 (.agg #[])) 20 113 true).run Tryz.prog w = .ok (.tuple #[.agg #[], .bool false]) w := by kernel_rfl
theorem ta97_91 (w : World) : (Instr.typeAssert (.iface 97 (.agg #[])) 20 91 true).run Tryz.prog w = .ok (.tuple #[.agg #[], .bool false]) w := by kernel_rfl
theorem ta97_93 (w : World) : (Instr.typeAssert (.iface 97 (.agg #[])) 20 93 true).run Tryz.prog w = .ok (.tuple #[.agg #[], .bool false]) w := by kernel_rfl
theorem ta97_94 (w : World) : (Instr.typeAssert (.iface 97 (.agg #[])) 20 94 true).run Tryz.prog w = .ok (.tuple #[.agg #[], .bool false]) w := by kernel_rfl
theorem ta97_95 (w : World) : (Instr.typeAssert (.iface 97 (.agg #[])) 20 95 true).run Tryz.prog w = .ok (.tuple #[.agg #[], .bool false]) w := by kernel_rfl
theorem ta97_97 (w : World) : (Instr.typeAssert (.iface 97 (.agg #[])) 20 97 true).run Tryz.prog w = .ok (.tuple #[.agg #[], .bool true]) w := by kernel_rfl
theorem ta97_98 (w : World) : (Instr.typeAssert (.iface 97 (.agg #[])) 20 98 true).run Tryz.prog w = .ok (.tuple #[.agg #[], .bool false]) w := by kernel_rfl
theorem ta97_99 (w : World) : (Instr.typeAssert (.iface 97 (.agg #[])) 20 99 true).run Tryz.prog w = .ok (.tuple #[.agg #[], .bool false]) w := by kernel_rfl
theorem ta97_100 (w : World) : (Instr.typeAssert (.iface 97 (.agg #[])) 20 100 true).run Tryz.prog w = .ok (.tuple #[.agg #[], .bool false]) w := by kernel_rfl
theorem ta97_102 (w : World) : (Instr.typeAssert (.iface 97 (.agg #[])) 20 102 true).run Tryz.prog w = .ok (.tuple #[.agg #[], .bool false]) w := by kernel_rfl
theorem ta97_103 (w : World) : (Instr.typeAssert (.iface 97 (.agg #[])) 20 103 true).run Tryz.prog w = .ok (.tuple #[.agg #[], .bool false]) w := by kernel_rfl
theorem ta98_113 (w : World) : (Instr.typeAssert (.iface 98 (.agg #[])) 20 113 true).run Tryz.prog w = .ok (.tuple #[.agg #[], .bool false]) w := by kernel_rfl
theorem ta98_91 (w : World) : (Instr.typeAssert (.iface 98 (.agg #[])) 20 91 true).run Tryz.prog w = .ok (.tuple #[.agg #[], .bool false]) w := by kernel_rfl
theorem ta98_93 (w : World) : (Instr.typeAssert (.iface 98 (.agg #[])) 20 93 true).run Tryz.prog w = .ok (.tuple #[.agg #[], .bool false]) w := by kernel_rfl
theorem ta98_94 (w : World) : (Instr.typeAssert (.iface 98 (.agg #[])) 20 94 true).run Tryz.prog w = .ok (.tuple #[.agg #[], .bool false]) w := by kernel_rfl
theorem ta98_95 (w : World) : (Instr.typeAssert (.iface 98 (.agg #[])) 20 95 true).run Tryz.prog w = .ok (.tuple #[.agg #[], .bool false]) w := by kernel_rfl
theorem ta98_97 (w : World) : (Instr.typeAssert (.iface 98 (.agg #[])) 20 97 true).run Tryz.prog w = .ok (.tuple #[.agg #[], .bool false]) w := by kernel_rfl
theorem ta98_98 (w : World) : (Instr.typeAssert (.iface 98 (.agg #[])) 20 98 true).run Tryz.prog w = .ok (.tuple #[.agg #[], .bool true]) w := by kernel_rfl
theorem ta98_99 (w : World) : (Instr.typeAssert (.iface 98 (.agg #[])) 20 99 true).run Tryz.prog w = .ok (.tuple #[.agg #[], .bool false]) w := by kernel_rfl
theorem ta98_100 (w : World) : (Instr.typeAssert (.iface 98 (.agg #[])) 20 100 true).run Tryz.prog w = .ok (.tuple #[.agg #[], .bool false]) w := by kernel_rfl
theorem ta98_102 (w : World) : (Instr.typeAssert (.iface 98 (.agg #[])) 20 102 true).run Tryz.prog w = .ok (.tuple #[.agg #[], .bool false]) w := by kernel_rfl
theorem ta98_103 (w : World) : (Instr.typeAssert (.iface 98 (.agg #[])) 20 103 true).run Tryz.prog w = .ok (.tuple #[.agg #[], .bool false]) w := by kernel_rfl
theorem ta99_113 (w : World) : (Instr.typeAssert (.iface 99 (.agg #[])) 20 113 true).run Tryz.prog w = .ok (.tuple #[.agg #[], .bool false]) w := by kernel_rfl
theorem ta99_91 (w : World) : (Instr.typeAssert (.iface 99 (.agg #[])) 20 91 true).run Tryz.prog w = .ok (.tuple #[.agg #[], .bool false]) w := by kernel_rfl
theorem ta99_93 (w : World) : (Instr.typeAssert (.iface 99 (.agg #[])) 20 93 true).run Tryz.prog w = .ok (.tuple #[.agg #[], .bool false]) w := by kernel_rfl
theorem ta99_94 (w : World) : (Instr.typeAssert (.iface 99 (.agg #[])) 20 94 true).run Tryz.prog w = .ok (.tuple #[.agg #[], .bool false]) w := by kernel_rfl
theorem ta99_95 (w : World) : (Instr.typeAssert (.iface 99 (.agg #[])) 20 95 true).run Tryz.prog w = .ok (.tuple #[.agg #[], .bool false]) w := by kernel_rfl
theorem ta99_97 (w : World) : (Instr.typeAssert (.iface 99 (.agg #[])) 20 97 true).run Tryz.prog w = .ok (.tuple #[.agg #[], .bool false]) w := by kernel_rfl
theorem ta99_98 (w : World) : (Instr.typeAssert (.iface 99 (.agg #[])) 20 98 true).run Tryz.prog w = .ok (.tuple #[.agg #[], .bool false]) w := by kernel_rfl
theorem ta99_99 (w : World) : (Instr.typeAssert (.iface 99 (.agg #[])) 20 99 true).run Tryz.prog w = .ok (.tuple #[.agg #[], .bool true]) w := by kernel_rfl
theorem ta99_100 (w : World) : (Instr.typeAssert (.iface 99 (.agg #[])) 20 100 true).run Tryz.prog w = .ok (.tuple #[.agg #[], .bool false]) w := by kernel_rfl
theorem ta99_102 (w : World) : (Instr.typeAssert (.iface 99 (.agg #[])) 20 102 true).run Tryz.prog w = .ok (.tuple #[.agg #[], .bool false]) w := by kernel_rfl
theorem ta99_103 (w : World) : (Instr.typeAssert (.iface 99 (.agg #[])) 20 103 true).run Tryz.prog w = .ok (.tuple #[.agg #[], .bool false]) w := by kernel_rfl
theorem ta100_113 (w : World) : (Instr.typeAssert (.iface 100 (.agg #[])) 20 113 true).run Tryz.prog w = .ok (.tuple #[.agg #[], .bool false]) w := by kernel_rfl
theorem ta100_91 (w : World) : (Instr.typeAssert (.iface 100 (.agg #[])) 20 91 true).run Tryz.prog w = .ok (.tuple #[.agg #[], .bool false]) w := by kernel_rfl
theorem ta100_93 (w : World) : (Instr.typeAssert (.iface 100 (.agg #[])) 20 93 true).run Tryz.prog w = .ok (.tuple #[.agg #[], .bool false]) w := by kernel_rfl
theorem ta100_94 (w : World) : (Instr.typeAssert (.iface 100 (.agg #[])) 20 94 true).run Tryz.prog w = .ok (.tuple #[.agg #[], .bool false]) w := by kernel_rfl
theorem ta100_95 (w : World) : (Instr.typeAssert (.iface 100 (.agg #[])) 20 95 true).run Tryz.prog w = .ok (.tuple #[.agg #[], .bool false]) w := by kernel_rfl
theorem ta100_97 (w : World) : (Instr.typeAssert (.iface 100 (.agg #[])) 20 97 true).run Tryz.prog w = .ok (.tuple #[.agg #[], .bool false]) w := by kernel_rfl
theorem ta100_98 (w : World) : (Instr.typeAssert (.iface 100 (.agg #[])) 20 98 true).run Tryz.prog w = .ok (.tuple #[.agg #[], .bool false]) w := by kernel_rfl
theorem ta100_99 (w : World) : (Instr.typeAssert (.iface 100 (.agg #[])) 20 99 true).run Tryz.prog w = .ok (.tuple #[.agg #[], .bool false]) w := by kernel_rfl
theorem ta100_100 (w : World) : (Instr.typeAssert (.iface 100 (.agg #[])) 20 100 true).run Tryz.prog w = .ok (.tuple #[.agg #[], .bool true]) w := by kernel_rfl
theorem ta100_102 (w : World) : (Instr.typeAssert (.iface 100 (.agg #[])) 20 102 true).run Tryz.prog w = .ok (.tuple #[.agg #[], .bool false]) w := by kernel_rfl
theorem ta100_103 (w : World) : (Instr.typeAssert (.iface 100 (.agg #[])) 20 103 true).run Tryz.prog w = .ok (.tuple #[.agg #[], .bool false]) w := by kernel_rfl
theorem ta102_113 (w : World) : (Instr.typeAssert (.iface 102 (.agg #[])) 20 113 true).run Tryz.prog w = .ok (.tuple #[.agg #[], .bool false]) w := by kernel_rfl
theorem ta102_91 (w : World) : (Instr.typeAssert (.iface 102 (.agg #[])) 20 91 true).run Tryz.prog w = .ok (.tuple #[.agg #[], .bool false]) w := by kernel_rfl
theorem ta102_93 (w : World) : (Instr.typeAssert (.iface 102 (.agg #[])) 20 93 true).run Tryz.prog w = .ok (.tuple #[.agg #[], .bool false]) w := by kernel_rfl
theorem ta102_94 (w : World) : (Instr.typeAssert (.iface 102 (.agg #[])) 20 94 true).run Tryz.prog w = .ok (.tuple #[.agg #[], .bool false]) w := by kernel_rfl
theorem ta102_95 (w : World) : (Instr.typeAssert (.iface 102 (.agg #[])) 20 95 true).run Tryz.prog w = .ok (.tuple #[.agg #[], .bool false]) w := by kernel_rfl
theorem ta102_97 (w : World) : (Instr.typeAssert (.iface 102 (.agg #[])) 20 97 true).run Tryz.prog w = .ok (.tuple #[.agg #[], .bool false]) w := by kernel_rfl
theorem ta102_98 (w : World) : (Instr.typeAssert (.iface 102 (.agg #[])) 20 98 true).run Tryz.prog w = .ok (.tuple #[.agg #[], .bool false]) w := by kernel_rfl
theorem ta102_99 (w : World) : (Instr.typeAssert (.iface 102 (.agg #[])) 20 99 true).run Tryz.prog w = .ok (.tuple #[.agg #[], .bool false]) w := by kernel_rfl
theorem ta102_100 (w : World) : (Instr.typeAssert (.iface 102 (.agg #[])) 20 100 true).run Tryz.prog w = .ok (.tuple #[.agg #[], .bool false]) w := by kernel_rfl
theorem ta102_102 (w : World) : (Instr.typeAssert (.iface 102 (.agg #[])) 20 102 true).run Tryz.prog w = .ok (.tuple #[.agg #[], .bool true]) w := by kernel_rfl
theorem ta102_103 (w : World) : (Instr.typeAssert (.iface 102 (.agg #[])) 20 103 true).run Tryz.prog w = .ok (.tuple #[.agg #[], .bool false]) w := by kernel_rfl
theorem ta103_113 (w : World) : (Instr.typeAssert (.iface 103 (.agg #[])) 20 113 true).run Tryz.prog w = .ok (.tuple #[.agg #[], .bool false]) w := by kernel_rfl
theorem ta103_91 (w : World) : (Instr.typeAssert (.iface 103 (.agg #[])) 20 91 true).run Tryz.prog w = .ok (.tuple #[.agg #[], .bool false]) w := by kernel_rfl
theorem ta103_93 (w : World) : (Instr.typeAssert (.iface 103 (.agg #[])) 20 93 true).run Tryz.prog w = .ok (.tuple #[.agg #[], .bool false]) w := by kernel_rfl
theorem ta103_94 (w : World) : (Instr.typeAssert (.iface 103 (.agg #[])) 20 94 true).run Tryz.prog w = .ok (.tuple #[.agg #[], .bool false]) w := by kernel_rfl
theorem ta103_95 (w : World) : (Instr.typeAssert (.iface 103 (.agg #[])) 20 95 true).run Tryz.prog w = .ok (.tuple #[.agg #[], .bool false]) w := by kernel_rfl
theorem ta103_97 (w : World) : (Instr.typeAssert (.iface 103 (.agg #[])) 20 97 true).run Tryz.prog w = .ok (.tuple #[.agg #[], .bool false]) w := by kernel_rfl
theorem ta103_98 (w : World) : (Instr.typeAssert (.iface 103 (.agg #[])) 20 98 true).run Tryz.prog w = .ok (.tuple #[.agg #[], .bool false]) w := by kernel_rfl
theorem ta103_99 (w : World) : (Instr.typeAssert (.iface 103 (.agg #[])) 20 99 true).run Tryz.prog w = .ok (.tuple #[.agg #[], .bool false]) w := by kernel_rfl
theorem ta103_100 (w : World) : (Instr.typeAssert (.iface 103 (.agg #[])) 20 100 true).run Tryz.prog w = .ok (.tuple #[.agg #[], .bool false]) w := by kernel_rfl
theorem ta103_102 (w : World) : (Instr.typeAssert (.iface 103 (.agg #[])) 20 102 true).run Tryz.prog w = .ok (.tuple #[.agg #[], .bool false]) w := by kernel_rfl
theorem ta103_103 (w : World) : (Instr.typeAssert (.iface 103 (.agg #[])) 20 103 true).run Tryz.prog w = .ok (.tuple #[.agg #[], .bool true]) w := by kernel_rfl
theorem ta115_113 (w : World) : (Instr.typeAssert (.iface 115 (.agg #[])) 20 113 true).run Tryz.prog w = .ok (.tuple #[.agg #[], .bool false]) w := by kernel_rfl
theorem ta115_91 (w : World) : (Instr.typeAssert (.iface 115 (.agg #[])) 20 91 true).run Tryz.prog w = .ok (.tuple #[.agg #[], .bool false]) w := by kernel_rfl
theorem ta115_93 (w : World) : (Instr.typeAssert (.iface 115 (.agg #[])) 20 93 true).run Tryz.prog w = .ok (.tuple #[.agg #[], .bool false]) w := by kernel_rfl
theorem ta115_94 (w : World) : (Instr.typeAssert (.iface 115 (.agg #[])) 20 94 true).run Tryz.prog w = .ok (.tuple #[.agg #[], .bool false]) w := by kernel_rfl
theorem ta115_95 (w : World) : (Instr.typeAssert (.iface 115 (.agg #[])) 20 95 true).run Tryz.prog w = .ok (.tuple #[.agg #[], .bool false]) w := by kernel_rfl
theorem ta115_97 (w : World) : (Instr.typeAssert (.iface 115 (.agg #[])) 20 97 true).run Tryz.prog w = .ok (.tuple #[.agg #[], .bool false]) w := by kernel_rfl
theorem ta115_98 (w : World) : (Instr.typeAssert (.iface 115 (.agg #[])) 20 98 true).run Tryz.prog w = .ok (.tuple #[.agg #[], .bool false]) w := by kernel_rfl
theorem ta115_99 (w : World) : (Instr.typeAssert (.iface 115 (.agg #[])) 20 99 true).run Tryz.prog w = .ok (.tuple #[.agg #[], .bool false]) w := by kernel_rfl
theorem ta115_100 (w : World) : (Instr.typeAssert (.iface 115 (.agg #[])) 20 100 true).run Tryz.prog w = .ok (.tuple #[.agg #[], .bool false]) w := by kernel_rfl
theorem ta115_102 (w : World) : (Instr.typeAssert (.iface 115 (.agg #[])) 20 102 true).run Tryz.prog w = .ok (.tuple #[.agg #[], .bool false]) w := by kernel_rfl
theorem ta115_103 (w : World) : (Instr.typeAssert (.iface 115 (.agg #[])) 20 103 true).run Tryz.prog w = .ok (.tuple #[.agg #[], .bool false]) w := by kernel_rfl

end Go.Proofs.YtffbcccbhofbpaaGreatDoor

/- The library calls that this program makes, by the contracts of the library: prefix, cut, trims, a number written in tens. -/
namespace Go.Proofs
open Go.Shelf
def Tryz.lays161_ren : Go.Shelf.Ren := ⟨fun | 161 => 76 | 231 => 81 | 227 => 82 | 233 => 83 | 235 => 84 | 228 => 89 | 197 => 90 | 151 => 91 | 260 => 97 | 152 => 98 | 137 => 102 | 119 => 103 | 224 => 95 | 225 => 94 | 217 => 93 | 266 => 100 | n => n, fun | 9 => 9 | 4 => 4 | 3 => 3 | 5 => 5 | 117 => 138 | 116 => 137 | 0 => 0 | 124 => 141 | 105 => 143 | 21 => 21 | 119 => 152 | 46 => 112 | 139 => 155 | 138 => 154 | n => n, fun | 3 => 1 | 4 => 2 | n => n⟩
theorem Tryz.lays161 : Go.Proofs.Lays.n161 Tryz.prog Tryz.lays161_ren := {
  mixed := by kernel_rfl
  f119 := Tryz.func103.trans (congrArg some (by kernel_rfl))
  f137 := Tryz.func102.trans (congrArg some (by kernel_rfl))
  f151 := Tryz.func91.trans (congrArg some (by kernel_rfl))
  f152 := Tryz.func98.trans (congrArg some (by kernel_rfl))
  f161 := Tryz.func76.trans (congrArg some (by kernel_rfl))
  f197 := Tryz.func90.trans (congrArg some (by kernel_rfl))
  f217 := Tryz.func93.trans (congrArg some (by kernel_rfl))
  f224 := Tryz.func95.trans (congrArg some (by kernel_rfl))
  f225 := Tryz.func94.trans (congrArg some (by kernel_rfl))
  f227 := Tryz.func82.trans (congrArg some (by kernel_rfl))
  f228 := Tryz.func89.trans (congrArg some (by kernel_rfl))
  f231 := Tryz.func81.trans (congrArg some (by kernel_rfl))
  f233 := Tryz.func83.trans (congrArg some (by kernel_rfl))
  f235 := Tryz.func84.trans (congrArg some (by kernel_rfl))
  f260 := Tryz.func97.trans (congrArg some (by kernel_rfl))
  f266 := Tryz.func100.trans (congrArg some (by kernel_rfl))
  t0 := Tryz.underlying0
  a0 := Tryz.isAgg0
  z0 := Tryz.sizeOf0
  v0 := Tryz.zeroValue0
  t3 := Tryz.underlying3
  a3 := Tryz.isAgg3
  z3 := Tryz.sizeOf3
  v3 := Tryz.zeroValue3
  t4 := Tryz.underlying4
  a4 := Tryz.isAgg4
  z4 := Tryz.sizeOf4
  v4 := Tryz.zeroValue4
  t5 := Tryz.underlying5
  a5 := Tryz.isAgg5
  z5 := Tryz.sizeOf5
  v5 := Tryz.zeroValue5
  t9 := Tryz.underlying9
  a9 := Tryz.isAgg9
  z9 := Tryz.sizeOf9
  v9 := Tryz.zeroValue9
  t21 := Tryz.underlying21
  a21 := Tryz.isAgg21
  z21 := Tryz.sizeOf21
  v21 := Tryz.zeroValue21
  t46 := Tryz.underlying112
  a46 := Tryz.isAgg112
  z46 := Tryz.sizeOf112
  v46 := Tryz.zeroValue112
  t105 := Tryz.underlying143
  a105 := Tryz.isAgg143
  z105 := Tryz.sizeOf143
  v105 := Tryz.zeroValue143
  t116 := Tryz.underlying137
  a116 := Tryz.isAgg137
  z116 := Tryz.sizeOf137
  t117 := Tryz.underlying138
  a117 := Tryz.isAgg138
  z117 := Tryz.sizeOf138
  v117 := Tryz.zeroValue138
  t119 := Tryz.underlying152
  a119 := Tryz.isAgg152
  z119 := Tryz.sizeOf152
  t124 := Tryz.underlying141
  a124 := Tryz.isAgg141
  z124 := Tryz.sizeOf141
  v124 := Tryz.zeroValue141
  t138 := Tryz.underlying154
  a138 := Tryz.isAgg154
  z138 := Tryz.sizeOf154
  v138 := Tryz.zeroValue154
  t139 := Tryz.underlying155
  a139 := Tryz.isAgg155
  z139 := Tryz.sizeOf155
  v139 := Tryz.zeroValue155
  g3 := by kernel_rfl
  g4 := by kernel_rfl }
open Go.RowKit in
/-- strings.TrimLeft: "TrimLeft returns a slice of the string s with all leading Unicode code points contained in cutset removed.": AT A cutset OF ONE ASCII BYTE. The world is as it was. (LAID: no walk: one application.) -/
theorem Tryz.strings_TrimLeft_one (s : ByteArray) (c : UInt8) (hc : c.toNat < 128) (w : World) :
    Calls Tryz.prog 76 #[.string s, .string ⟨#[c]⟩] w fun e w' => e = .returned (.string ⟨(Lib.trimLeftB s.data.toList c).toArray⟩) ∧ w' = w := Any.strings_TrimLeft_one Tryz.lays161 s c hc w
def Tryz.lays162_ren : Go.Shelf.Ren := ⟨fun | 162 => 77 | 232 => 85 | 227 => 82 | 234 => 86 | 236 => 87 | 228 => 89 | 271 => 92 | 151 => 91 | 120 => 99 | 197 => 90 | 152 => 98 | 260 => 97 | 137 => 102 | 119 => 103 | 224 => 95 | 225 => 94 | 217 => 93 | 266 => 100 | n => n, fun | 9 => 9 | 4 => 4 | 3 => 3 | 5 => 5 | 117 => 138 | 116 => 137 | 0 => 0 | 124 => 141 | 21 => 21 | 105 => 143 | 46 => 112 | 119 => 152 | 139 => 155 | 138 => 154 | n => n, fun | 3 => 1 | 4 => 2 | n => n⟩
theorem Tryz.lays162 : Go.Proofs.Lays.n162 Tryz.prog Tryz.lays162_ren := {
  mixed := by kernel_rfl
  f119 := Tryz.func103.trans (congrArg some (by kernel_rfl))
  f120 := Tryz.func99.trans (congrArg some (by kernel_rfl))
  f137 := Tryz.func102.trans (congrArg some (by kernel_rfl))
  f151 := Tryz.func91.trans (congrArg some (by kernel_rfl))
  f152 := Tryz.func98.trans (congrArg some (by kernel_rfl))
  f162 := Tryz.func77.trans (congrArg some (by kernel_rfl))
  f197 := Tryz.func90.trans (congrArg some (by kernel_rfl))
  f217 := Tryz.func93.trans (congrArg some (by kernel_rfl))
  f224 := Tryz.func95.trans (congrArg some (by kernel_rfl))
  f225 := Tryz.func94.trans (congrArg some (by kernel_rfl))
  f227 := Tryz.func82.trans (congrArg some (by kernel_rfl))
  f228 := Tryz.func89.trans (congrArg some (by kernel_rfl))
  f232 := Tryz.func85.trans (congrArg some (by kernel_rfl))
  f234 := Tryz.func86.trans (congrArg some (by kernel_rfl))
  f236 := Tryz.func87.trans (congrArg some (by kernel_rfl))
  f260 := Tryz.func97.trans (congrArg some (by kernel_rfl))
  f266 := Tryz.func100.trans (congrArg some (by kernel_rfl))
  f271 := Tryz.func92.trans (congrArg some (by kernel_rfl))
  t0 := Tryz.underlying0
  a0 := Tryz.isAgg0
  z0 := Tryz.sizeOf0
  v0 := Tryz.zeroValue0
  t3 := Tryz.underlying3
  a3 := Tryz.isAgg3
  z3 := Tryz.sizeOf3
  v3 := Tryz.zeroValue3
  t4 := Tryz.underlying4
  a4 := Tryz.isAgg4
  z4 := Tryz.sizeOf4
  v4 := Tryz.zeroValue4
  t5 := Tryz.underlying5
  a5 := Tryz.isAgg5
  z5 := Tryz.sizeOf5
  v5 := Tryz.zeroValue5
  t9 := Tryz.underlying9
  a9 := Tryz.isAgg9
  z9 := Tryz.sizeOf9
  v9 := Tryz.zeroValue9
  t21 := Tryz.underlying21
  a21 := Tryz.isAgg21
  z21 := Tryz.sizeOf21
  v21 := Tryz.zeroValue21
  t46 := Tryz.underlying112
  a46 := Tryz.isAgg112
  z46 := Tryz.sizeOf112
  v46 := Tryz.zeroValue112
  t105 := Tryz.underlying143
  a105 := Tryz.isAgg143
  z105 := Tryz.sizeOf143
  v105 := Tryz.zeroValue143
  t116 := Tryz.underlying137
  a116 := Tryz.isAgg137
  z116 := Tryz.sizeOf137
  t117 := Tryz.underlying138
  a117 := Tryz.isAgg138
  z117 := Tryz.sizeOf138
  v117 := Tryz.zeroValue138
  t119 := Tryz.underlying152
  a119 := Tryz.isAgg152
  z119 := Tryz.sizeOf152
  t124 := Tryz.underlying141
  a124 := Tryz.isAgg141
  z124 := Tryz.sizeOf141
  v124 := Tryz.zeroValue141
  t138 := Tryz.underlying154
  a138 := Tryz.isAgg154
  z138 := Tryz.sizeOf154
  v138 := Tryz.zeroValue154
  t139 := Tryz.underlying155
  a139 := Tryz.isAgg155
  z139 := Tryz.sizeOf155
  v139 := Tryz.zeroValue155
  g3 := by kernel_rfl
  g4 := by kernel_rfl }
open Go.RowKit in
/-- strings.TrimRight: "TrimRight returns a slice of the string s, with all trailing Unicode code points contained in cutset removed.": AT A cutset OF ONE ASCII BYTE. The world is as it was. (LAID: no walk: one application.) -/
theorem Tryz.strings_TrimRight_one (s : ByteArray) (c : UInt8) (hc : c.toNat < 128) (w : World) (hs : s.size ≤ 9223372036854775807) :
    Calls Tryz.prog 77 #[.string s, .string ⟨#[c]⟩] w fun e w' => e = .returned (.string ⟨(Lib.trimRightB s.data.toList c).toArray⟩) ∧ w' = w := Any.strings_TrimRight_one Tryz.lays162 s c hc w hs
def Tryz.lays145_ren : Go.Shelf.Ren := ⟨fun | 145 => 74 | 220 => 80 | 219 => 88 | 217 => 93 | 225 => 94 | 224 => 95 | 267 => 96 | 266 => 100 | 314 => 101 | n => n, fun | 9 => 9 | 4 => 4 | 59 => 132 | 3 => 3 | 5 => 5 | 46 => 112 | 146 => 150 | 51 => 149 | n => n, fun | 1 => 0 | n => n⟩
theorem Tryz.lays145 : Go.Proofs.Lays.n145 Tryz.prog Tryz.lays145_ren := {
  mixed := by kernel_rfl
  f145 := Tryz.func74.trans (congrArg some (by kernel_rfl))
  f217 := Tryz.func93.trans (congrArg some (by kernel_rfl))
  f219 := Tryz.func88.trans (congrArg some (by kernel_rfl))
  f220 := Tryz.func80.trans (congrArg some (by kernel_rfl))
  f224 := Tryz.func95.trans (congrArg some (by kernel_rfl))
  f225 := Tryz.func94.trans (congrArg some (by kernel_rfl))
  f266 := Tryz.func100.trans (congrArg some (by kernel_rfl))
  f267 := Tryz.func96.trans (congrArg some (by kernel_rfl))
  f314 := Tryz.func101.trans (congrArg some (by kernel_rfl))
  t3 := Tryz.underlying3
  a3 := Tryz.isAgg3
  z3 := Tryz.sizeOf3
  v3 := Tryz.zeroValue3
  t4 := Tryz.underlying4
  a4 := Tryz.isAgg4
  z4 := Tryz.sizeOf4
  v4 := Tryz.zeroValue4
  t5 := Tryz.underlying5
  a5 := Tryz.isAgg5
  z5 := Tryz.sizeOf5
  v5 := Tryz.zeroValue5
  t9 := Tryz.underlying9
  a9 := Tryz.isAgg9
  z9 := Tryz.sizeOf9
  v9 := Tryz.zeroValue9
  t46 := Tryz.underlying112
  a46 := Tryz.isAgg112
  z46 := Tryz.sizeOf112
  v46 := Tryz.zeroValue112
  t51 := Tryz.underlying149
  a51 := Tryz.isAgg149
  z51 := Tryz.sizeOf149
  v51 := Tryz.zeroValue149
  t59 := Tryz.underlying132
  a59 := Tryz.isAgg132
  z59 := Tryz.sizeOf132
  v59 := Tryz.zeroValue132
  t146 := Tryz.underlying150
  a146 := Tryz.isAgg150
  z146 := Tryz.sizeOf150
  v146 := Tryz.zeroValue150
  g1 := by kernel_rfl }
open Go.RowKit Go.Lib in
/-- strings.Cut: "Cut slices s around the first instance of sep, returning the text before and after sep. The found result reports whether sep appears in s. If sep does not appear in s, cut returns s, "", false.": IT RETURNS 'Lib.cut s sep'; the world is as it was but for the count of draws. (LAID: no walk: one application.) -/
theorem Tryz.strings_Cut (s sep : ByteArray) (m : Int) (w : World) (hs : s.size < 4294967281) (hm : w.cell? ⟨0, 0, none⟩ = some (.int .i64 m)) :
    Calls Tryz.prog 74 #[.string s, .string sep] w fun e w' => e = .returned (.tuple #[.string ⟨(Lib.cut s.data.toList sep.data.toList).1.toArray⟩, .string ⟨(Lib.cut s.data.toList sep.data.toList).2.1.toArray⟩, .bool (Lib.cut s.data.toList sep.data.toList).2.2]) ∧ ∃ n, w' = w.drewN n := Any.strings_Cut Tryz.lays145 s sep m w hs hm
def Tryz.lays99_ren : Go.Shelf.Ren := ⟨fun | 99 => 73 | 206 => 79 | n => n, fun | 9 => 9 | 4 => 4 | 3 => 3 | n => n, fun | n => n⟩
theorem Tryz.lays99 : Go.Proofs.Lays.n99 Tryz.prog Tryz.lays99_ren := {
  mixed := by kernel_rfl
  f99 := Tryz.func73.trans (congrArg some (by kernel_rfl))
  f206 := Tryz.func79.trans (congrArg some (by kernel_rfl))
  t3 := Tryz.underlying3
  a3 := Tryz.isAgg3
  z3 := Tryz.sizeOf3
  v3 := Tryz.zeroValue3
  t4 := Tryz.underlying4
  a4 := Tryz.isAgg4
  z4 := Tryz.sizeOf4
  v4 := Tryz.zeroValue4
  t9 := Tryz.underlying9
  a9 := Tryz.isAgg9
  z9 := Tryz.sizeOf9
  v9 := Tryz.zeroValue9 }
open Go.RowKit Go.Lib in
/-- strings.HasPrefix: "HasPrefix reports whether the string s begins with prefix.": IT RETURNS 'Lib.hasPrefix s prefix'; the world is as it was. (LAID: no walk: one application.) -/
theorem Tryz.strings_HasPrefix (s p : ByteArray) (w : World) :
    Calls Tryz.prog 73 #[.string s, .string p] w fun e w' => e = .returned (.bool (Lib.hasPrefix s.data.toList p.data.toList)) ∧ w' = w := Any.strings_HasPrefix Tryz.lays99 s p w
end Go.Proofs

/- write: the text of a sign and digits. -/
namespace Go.Proofs.YtffbcccbhofbpaaGreatDoor
open Go.RowKit

/-- Bytes as a string. -/
abbrev bs (l : List UInt8) : ByteArray := ⟨l.toArray⟩

theorem trimL (s A : ByteArray) (H : Hid (A = bs (Lib.trimLeftB s.data.toList 48))) (w : World) :
    Calls Tryz.prog 76 #[.string s, .string ⟨#[48]⟩] w fun e w' => e = .returned (.string A) ∧ w = w' :=
  (Tryz.strings_TrimLeft_one s 48 (by decide) w).mono fun _ _ ⟨h, k⟩ => ⟨by rw [h, H.out], k.symm⟩
theorem trimR (s A : ByteArray) (H : Hid (A = bs (Lib.trimRightB s.data.toList 48))) (w : World) (hs : s.size ≤ maxLen) :
    Calls Tryz.prog 77 #[.string s, .string ⟨#[48]⟩] w fun e w' => e = .returned (.string A) ∧ w = w' :=
  (Tryz.strings_TrimRight_one s 48 (by decide) w (by unfold maxLen at hs; omega)).mono fun _ _ ⟨h, k⟩ => ⟨by rw [h, H.out], k.symm⟩
theorem orN_at (s A : ByteArray) (H : Hid (A = bs (orN s.data.toList))) (w : World) :
    Calls Tryz.prog 78 #[.string s] w fun e w' => e = .returned (.string A) ∧ w = w' :=
  (orNoughtAt s w).mono fun _ _ ⟨h, k⟩ => ⟨by rw [h, H.out], k.symm⟩

theorem orN_size (l : List UInt8) (n : Nat) (h : l.length ≤ n) (hn : 1 ≤ n) : (bs (orN l)).size ≤ n := by
  unfold orN bs
  split <;> simp [ByteArray.size] <;> omega

theorem bytes_ext {a b : ByteArray} (h : a.data.toList = b.data.toList) : a = b := by
  obtain ⟨a⟩ := a; obtain ⟨b⟩ := b
  simp only [ByteArray.mk.injEq]
  exact Array.toList_inj.1 h

set_option maxHeartbeats 800000 in
theorem writePos (neg : Bool) (x y A B : ByteArray) (w : World) (hx : x.size ≤ maxLen) (hy : y.size ≤ maxLen) (HA : Hid (A = bs (Lib.trimLeftB x.data.toList 48))) (HB : Hid (B = bs (Lib.trimRightB y.data.toList 48)))
    (hA : A.size ≤ 40) (hB : B.size ≤ 20) (hn : neg = false) :
    Calls Tryz.prog 72 #[.bool neg, .string x, .string y] w fun e w' => e = .returned (.tuple #[.string (bs ( orN A.data.toList ++ 46 :: orN B.data.toList)), .int .i64 0]) ∧ w = w' := by
  subst hn
  obtain ⟨C, hC⟩ : ∃ C, C = bs (orN A.data.toList) := ⟨_, rfl⟩
  obtain ⟨D, hD⟩ : ∃ D, D = bs (orN B.data.toList) := ⟨_, rfl⟩
  have hCs : C.size ≤ 40 := by rw [hC]; exact orN_size _ _ (by simpa using hA) (by omega)
  have hDs : D.size ≤ 20 := by rw [hD]; exact orN_size _ _ (by simpa using hB) (by omega)
  have HC := Lib.hid hC
  have HD := Lib.hid hD
  clear hC hD
  go_enter Tryz.func72, Tryz.ntmps72
  go_wp2_with (first
    | (go_at_call 76; (with_reducible refine (trimL x A HA _).mono ?_); rintro e w' ⟨rfl, rfl⟩)
    | (go_at_call 77; (with_reducible refine (trimR y B HB _ hy).mono ?_); rintro e w' ⟨rfl, rfl⟩)
    | (go_at_call 78; (with_reducible refine (orN_at A C HC _).mono ?_); rintro e w' ⟨rfl, rfl⟩)
    | (go_at_call 78; (with_reducible refine (orN_at B D HD _).mono ?_); rintro e w' ⟨rfl, rfl⟩))
  go_ret2
  refine ⟨?_, rfl⟩
  have e : (({ data := #[] } : ByteArray) ++ C ++ { data := #[46] } ++ D : ByteArray) = bs ( orN A.data.toList ++ 46 :: orN B.data.toList) := by
    apply bytes_ext
    rw [HC.out, HD.out]
    simp
  exact congrArg (fun z => Ending.returned (.tuple #[.string z, .int .i64 0])) e

set_option maxHeartbeats 800000 in
theorem writeNeg (neg : Bool) (x y A B : ByteArray) (w : World) (hx : x.size ≤ maxLen) (hy : y.size ≤ maxLen) (HA : Hid (A = bs (Lib.trimLeftB x.data.toList 48))) (HB : Hid (B = bs (Lib.trimRightB y.data.toList 48)))
    (hA : A.size ≤ 40) (hB : B.size ≤ 20) (hn : neg = true) (hne : (A ++ B).toList.isEmpty = false) :
    Calls Tryz.prog 72 #[.bool neg, .string x, .string y] w fun e w' => e = .returned (.tuple #[.string (bs (45 :: orN A.data.toList ++ 46 :: orN B.data.toList)), .int .i64 0]) ∧ w = w' := by
  subst hn
  obtain ⟨C, hC⟩ : ∃ C, C = bs (orN A.data.toList) := ⟨_, rfl⟩
  obtain ⟨D, hD⟩ : ∃ D, D = bs (orN B.data.toList) := ⟨_, rfl⟩
  have hCs : C.size ≤ 40 := by rw [hC]; exact orN_size _ _ (by simpa using hA) (by omega)
  have hDs : D.size ≤ 20 := by rw [hD]; exact orN_size _ _ (by simpa using hB) (by omega)
  have HC := Lib.hid hC
  have HD := Lib.hid hD
  clear hC hD
  go_enter Tryz.func72, Tryz.ntmps72
  go_wp2_with (first
    | (go_at_call 76; (with_reducible refine (trimL x A HA _).mono ?_); rintro e w' ⟨rfl, rfl⟩)
    | (go_at_call 77; (with_reducible refine (trimR y B HB _ hy).mono ?_); rintro e w' ⟨rfl, rfl⟩)
    | (go_at_call 78; (with_reducible refine (orN_at A C HC _).mono ?_); rintro e w' ⟨rfl, rfl⟩)
    | (go_at_call 78; (with_reducible refine (orN_at B D HD _).mono ?_); rintro e w' ⟨rfl, rfl⟩))
  go_ret2
  refine ⟨?_, rfl⟩
  have e : (({ data := #[45] } : ByteArray) ++ C ++ { data := #[46] } ++ D : ByteArray) = bs (45 :: orN A.data.toList ++ 46 :: orN B.data.toList) := by
    apply bytes_ext
    rw [HC.out, HD.out]
    simp
  exact congrArg (fun z => Ending.returned (.tuple #[.string z, .int .i64 0])) e

set_option maxHeartbeats 800000 in
theorem writeNil (x y : ByteArray) (w : World) (hx : x.size ≤ maxLen) (hy : y.size ≤ maxLen) (HA : Hid (ByteArray.mk #[] = bs (Lib.trimLeftB x.data.toList 48))) (HB : Hid (ByteArray.mk #[] = bs (Lib.trimRightB y.data.toList 48))) :
    Calls Tryz.prog 72 #[.bool true, .string x, .string y] w fun e w' => e = .returned (.tuple #[.string (bs [48, 46, 48]), .int .i64 0]) ∧ w = w' := by
  have HC : Hid (bs [48] = bs (orN (ByteArray.mk #[]).data.toList)) := Lib.hid rfl
  have hne : (({ data := #[] } : ByteArray) ++ { data := #[] }).toList.isEmpty = true := by rw [ByteArray.toList_eq]; rfl
  go_enter Tryz.func72, Tryz.ntmps72
  go_wp2_with (first
    | (go_at_call 76; (with_reducible refine (trimL x _ HA _).mono ?_); rintro e w' ⟨rfl, rfl⟩)
    | (go_at_call 77; (with_reducible refine (trimR y _ HB _ hy).mono ?_); rintro e w' ⟨rfl, rfl⟩)
    | (go_at_call 78; (with_reducible refine (orN_at _ _ HC _).mono ?_); rintro e w' ⟨rfl, rfl⟩))
  go_ret2
  exact ⟨rfl, rfl⟩

set_option maxHeartbeats 800000 in
theorem writeBad (neg : Bool) (x y A B : ByteArray) (w : World) (hx : x.size ≤ maxLen) (hy : y.size ≤ maxLen) (HA : Hid (A = bs (Lib.trimLeftB x.data.toList 48))) (HB : Hid (B = bs (Lib.trimRightB y.data.toList 48)))
    (h : 40 < A.size ∨ 20 < B.size) :
    Calls Tryz.prog 72 #[.bool neg, .string x, .string y] w fun e w' => e = .returned (.tuple #[.string (bs []), .int .i64 2]) ∧ w = w' := by
  by_cases h1 : (40 : Int) < A.size
  · clear h
    go_enter Tryz.func72, Tryz.ntmps72
    go_wp2_with (first
      | (go_at_call 76; (with_reducible refine (trimL x A HA _).mono ?_); rintro e w' ⟨rfl, rfl⟩)
      | (go_at_call 77; (with_reducible refine (trimR y B HB _ hy).mono ?_); rintro e w' ⟨rfl, rfl⟩))
    go_ret2
    exact ⟨rfl, rfl⟩
  · have h2 : (20 : Int) < B.size := by omega
    clear h
    go_enter Tryz.func72, Tryz.ntmps72
    go_wp2_with (first
      | (go_at_call 76; (with_reducible refine (trimL x A HA _).mono ?_); rintro e w' ⟨rfl, rfl⟩)
      | (go_at_call 77; (with_reducible refine (trimR y B HB _ hy).mono ?_); rintro e w' ⟨rfl, rfl⟩))
    go_ret2
    exact ⟨rfl, rfl⟩

/-- What is handed back. -/
def said (r : Option (List UInt8)) : Value := match r with
  | some t => .tuple #[.string (bs t), .int .i64 0]
  | none => .tuple #[.string (bs []), .int .i64 2]

theorem writeAt (neg : Bool) (x y : ByteArray) (w : World) (hx : x.size ≤ maxLen) (hy : y.size ≤ maxLen) :
    Calls Tryz.prog 72 #[.bool neg, .string x, .string y] w fun e w' => e = .returned (said (wr neg x.data.toList y.data.toList)) ∧ w = w' := by
  obtain ⟨A, hA⟩ : ∃ A, A = bs (Lib.trimLeftB x.data.toList 48) := ⟨_, rfl⟩
  obtain ⟨B, hB⟩ : ∃ B, B = bs (Lib.trimRightB y.data.toList 48) := ⟨_, rfl⟩
  have lA : (Lib.trimLeftB x.data.toList 48).length = A.size := by rw [hA]; simp [ByteArray.size]
  have lB : (Lib.trimRightB y.data.toList 48).length = B.size := by rw [hB]; simp [ByteArray.size]
  have tA : Lib.trimLeftB x.data.toList 48 = A.data.toList := by rw [hA]
  have tB : Lib.trimRightB y.data.toList 48 = B.data.toList := by rw [hB]
  have HA := Lib.hid hA
  have HB := Lib.hid hB
  unfold wr
  simp only [lA, lB]
  by_cases h : 40 < A.size ∨ 20 < B.size
  · rw [if_pos h]
    exact writeBad neg x y A B w hx hy HA HB h
  · rw [if_neg h, tA, tB]
    cases neg
    · exact writePos false x y A B w hx hy HA HB (by omega) (by omega) rfl
    · by_cases hn : (A.data.toList ++ B.data.toList).isEmpty = true
      · have e1 : A.data.toList = [] := by simp at hn; simpa using hn.1
        have e2 : B.data.toList = [] := by simp at hn; simpa using hn.2
        have f1 : A = ByteArray.mk #[] := bytes_ext (by rw [e1])
        have f2 : B = ByteArray.mk #[] := bytes_ext (by rw [e2])
        subst f1 f2
        exact writeNil x y w hx hy HA HB
      · have hn' : (A.data.toList ++ B.data.toList).isEmpty = false := by simpa using hn
        rw [hn']
        exact writeNeg true x y A B w hx hy HA HB (by omega) (by omega) rfl (by rw [ByteArray.toList_eq]; simpa using hn')

end Go.Proofs.YtffbcccbhofbpaaGreatDoor
