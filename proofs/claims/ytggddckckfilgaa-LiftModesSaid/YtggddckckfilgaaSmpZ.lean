/- sample: 'known'. -/
import Derived.Test.YtggddckckfilgaaSmpK
namespace Go.Proofs.Ytggddckckfilgaa
open Go.RowKit
set_option maxRecDepth 100000
set_option maxHeartbeats 800000

theorem isW_m1 : IsW [-1] 1 := by
  refine ⟨by omega, ?_, .inr ⟨-1, by simp, ?_⟩⟩
  · intro x hx
    simp at hx; subst hx
    exact .inr (.inr (by decide +kernel))
  · exact okW_not (by omega) (by omega) (by decide +kernel)
theorem isZ_824 : IsZ (orAll [8, -24]) 3 := by
  have h : orAll [8, -24] = -24 := by decide +kernel
  rw [h]
  exact ⟨by omega, by omega, fun _ => ⟨by decide +kernel, fun _ => by decide +kernel⟩⟩
theorem pack_two : packR [-1, 2047] 12 = ([255, 255, 255, 7], 0) := by decide +kernel
theorem unpack_two : unpackR [255, 255, 255, 7] 12 = ([-1, 2047], 0) := by decide +kernel

end Go.Proofs.Ytggddckckfilgaa
