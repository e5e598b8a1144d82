/- Digests held against one another. -/
import Derived.Test.YtgdipdmpmaemjaaShaAlive
import Derived.ChangeKeysEq
namespace Go.Proofs.Ytgdipdmpmaemjaa
open Go.RowKit

end Go.Proofs.Ytgdipdmpmaemjaa
