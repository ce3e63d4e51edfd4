/- kinora/bits.lowest. -/
import Derived.Test.YthecibabpcfoaaaBitP
import Derived.Test.YthecibabpcfoaaaLen
import Derived.Lib.Strings
import Derived.Lib.Slices
import Derived.Lib.Small
import Derived.Lib.Walk
import Derived.Lib.BitFns
import Derived.Deep.Light
namespace Go.Proofs.Ythecibabpcfoaaa
open Go.RowKit
set_option maxRecDepth 1000000
set_option maxHeartbeats 400000

theorem lowest_any (n : Nat) (w : World) (h : n ≤ 8) :
    Calls Try.prog 60 #[.int .i64 n] w fun e w' => e = .returned (.int .u8 (2 ^ n - 1 : Nat)) ∧ w = w' := by
  go_enter Try.func60, Try.ntmps60
  go_wp2
  go_ret
  refine ⟨?_, rfl⟩
  have : ∀ n : Nat, n ≤ 8 → (255 : Int) / 2 ^ (8 - n) = ((2 ^ n - 1 : Nat) : Int) := by decide +kernel
  rw [← this n h]; rfl

end Go.Proofs.Ythecibabpcfoaaa
