/- Contracts: the reference's Whole. -/
import Derived.Test.YtiikmpgadmmjeaaXE
set_option maxRecDepth 100000
namespace Go.Proofs.Ytiikmpgadmmjeaa
open Go.RowKit

end Go.Proofs.Ytiikmpgadmmjeaa
