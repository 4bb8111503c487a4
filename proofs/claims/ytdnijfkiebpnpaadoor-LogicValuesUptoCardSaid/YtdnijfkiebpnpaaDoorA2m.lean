/- addAmount, takeAmount, push: what they do to the number behind the pointer. -/
import Derived.Test.YtdnijfkiebpnpaaDoorA0m
namespace Go.Proofs.YtdnijfkiebpnpaaDoor
open Go.RowKit

end Go.Proofs.YtdnijfkiebpnpaaDoor
