/- block: the reference's Weave; Pack. -/
import Derived.Test.YtggddckckfilgaaBloI
import Derived.Deep.RegionHeld3
namespace Go.Proofs.Ytggddckckfilgaa
open Go.RowKit
set_option maxRecDepth 100000
set_option maxHeartbeats 1600000

theorem weaveR_len (b : Int) (rs : List (List Int)) : (weaveR b rs).length ≤ 1099511627776 := by
  unfold weaveR; split
  · next h => have := weaveB_small (mayBk_of h) (lenB rs) (Nat.le_refl _); omega
  · simp
end Go.Proofs.Ytggddckckfilgaa
