/- Contracts: the reference's Whole. -/
import Derived.Test.YtmhjabodhgacnaaXE
set_option maxRecDepth 100000
namespace Go.Proofs.Ytmhjabodhgacnaa
open Go.RowKit

end Go.Proofs.Ytmhjabodhgacnaa
