/- addAmount, takeAmount, push: what they do to the number behind the pointer. -/
import Derived.Test.YtoifjjgakblhhaaDoorA0m
namespace Go.Proofs.YtoifjjgakblhhaaDoor
open Go.RowKit

end Go.Proofs.YtoifjjgakblhhaaDoor
