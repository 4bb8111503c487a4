/- The law LogicTables at any list. -/
import Derived.Test.YtdnijfkiebpnpaaT1
import Derived.Test.YtdnijfkiebpnpaaE0
namespace Go.Proofs.Ytdnijfkiebpnpaa
open Go.RowKit

theorem tablesAny (L : Value) (w : World) (h : Nums w L) :
    Calls Try.prog 3 #[.agg #[L]] w fun e w' => e = .returned (.bool true) ∧ Below w.heap.size w w' := by
  rcases h with ⟨p, n, cap, rfl, hn⟩ | ⟨b, off, n, cap, Z, rfl, hS, hn, _⟩
  · subst hn
    exact tablesNone p cap w
  · exact tablesSome b off n cap Z w hS hn
end Go.Proofs.Ytdnijfkiebpnpaa
