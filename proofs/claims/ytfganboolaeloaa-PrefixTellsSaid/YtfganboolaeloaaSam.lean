/- kinoraref2.Same. -/
import Derived.Test.YtfganboolaeloaaByt
namespace Go.Proofs.Ytfganboolaeloaa
open Go.RowKit
set_option maxRecDepth 100000
set_option maxHeartbeats 400000

end Go.Proofs.Ytfganboolaeloaa
