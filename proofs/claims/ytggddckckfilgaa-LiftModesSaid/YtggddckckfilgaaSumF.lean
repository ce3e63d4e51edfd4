/- sums: plus, times, Power, Join, Print. -/
import Derived.Test.YtggddckckfilgaaSumD
namespace Go.Proofs.Ytggddckckfilgaa
open Go.RowKit
set_option maxRecDepth 1000000
set_option maxHeartbeats 1000000

end Go.Proofs.Ytggddckckfilgaa
