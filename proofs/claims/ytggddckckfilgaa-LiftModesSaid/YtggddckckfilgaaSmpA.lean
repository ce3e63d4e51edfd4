/- sample: the laws SampleTells, SampleShifts. -/
import Derived.Test.YtggddckckfilgaaSmpZ
import Derived.Test.YtggddckckfilgaaLawKit
namespace Go.Proofs.Ytggddckckfilgaa
open Go.RowKit
set_option maxRecDepth 100000
set_option maxHeartbeats 800000

theorem downR_len (l : List Int) (n : Int) : (downR l n).1.length ≤ l.length := by
  unfold downR; split
  · split <;> simp
  · simp
theorem upR_len (l : List Int) (n : Int) : (upR l n).1.length ≤ l.length := by
  unfold upR; split
  · split <;> simp
  · simp
end Go.Proofs.Ytggddckckfilgaa
