/- Contracts: where the reference goes. -/
import Derived.Test.YtmhjabodhgacnaaXD
set_option maxRecDepth 100000
namespace Go.Proofs.Ytmhjabodhgacnaa
open Go.RowKit

end Go.Proofs.Ytmhjabodhgacnaa
