/-
  Mix (contract).
-/
import Derived.Test.YtkomknhloimhcaaOver1
import Derived.Laws.EntriesVeiled
namespace Go.Proofs.Ytkomknhloimhcaa
open Go.RowKit

end Go.Proofs.Ytkomknhloimhcaa
