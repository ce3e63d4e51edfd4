/- kinoraref2.Same. -/
import Derived.Test.YthecibabpcfoaaaByt
namespace Go.Proofs.Ythecibabpcfoaaa
open Go.RowKit
set_option maxRecDepth 100000
set_option maxHeartbeats 400000

end Go.Proofs.Ythecibabpcfoaaa
