/- bits: two writers side by side; BitsSplit. -/
import Derived.Test.YthecibabpcfoaaaBitK
import Derived.Test.YthecibabpcfoaaaBitQ
namespace Go.Proofs.Ythecibabpcfoaaa
open Go.RowKit
set_option maxRecDepth 100000
set_option maxHeartbeats 400000

theorem Mov.apart {w w' : World} {g : Nat} {v v' u : Value} (hm : Mov w w' g v v') (ha : Apart v u) (hu : ∀ k, u.ownBlock = some k → k < w.heap.size) : Apart v' u := by
  intro k hk hk2
  rcases hm.own k hk with h | h
  · exact ha k h hk2
  · have := hu k hk2; omega
theorem apart_nil (u : Value) : Apart (.slice none 0 0) u := fun k hk => by simp [Value.ownBlock] at hk
theorem WrO.ltv {w : World} {base g : Nat} {v : Value} {L : List Bool} (h : WrO w base g v L) : ∀ k, v.ownBlock = some k → k < w.heap.size := by
  obtain ⟨_, _, l, h2, _⟩ := h; exact fun k hk => (h2.lt k hk).2
theorem WrO.other {w w' : World} {b1 b2 g1 g2 : Nat} {v1 v1' v2 : Value} {L1 L2 : List Bool} (h1 : WrO w b1 g1 v1 L1) (h2 : WrO w b2 g2 v2 L2) (hne : g2 ≠ g1) (ha : Apart v1 v2) (hm : Mov w w' g1 v1 v1') : WrO w' b2 g2 v2 L2 ∧ Apart v1' v2 := by
  have hl2 := h2.ltv
  obtain ⟨_, hk1, l1, ho1, _⟩ := h1
  have hk2 := h2.2.1
  exact ⟨h2.moved hm hk1 (by decide) hne ha (ho1.ne hk2 (by decide)), hm.apart ha hl2⟩
end Go.Proofs.Ythecibabpcfoaaa
