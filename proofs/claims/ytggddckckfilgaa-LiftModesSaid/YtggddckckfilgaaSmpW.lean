/- sample: Width, Wasted; the reference's; AllWide, zero, SameInts. -/
import Derived.Test.YtggddckckfilgaaSmpF
import Derived.Deep.QuietTactic
import Derived.BigQuiet
namespace Go.Proofs.Ytggddckckfilgaa
open Go.RowKit
set_option maxRecDepth 100000
set_option maxHeartbeats 400000

theorem okW_not {x : Int} {k : Nat} (hx : ¬ x = 0) (h31 : k ≤ 31) (hf : ¬ fitsB x k = true) : ¬ okW x k := by
  rintro (h | h | h)
  · exact hx h
  · omega
  · exact hf h
theorem IsZ.zero : IsZ 0 0 := ⟨by omega, fun _ => rfl, fun h => absurd rfl h⟩
theorem IsZ.of_mid {A : Int} {n : Nat} (hA : A ≠ 0) (hn : n ≤ 30) (h : A % ((2 ^ n : Nat) : Int) = 0) (hd : n = 30 ∨ A / ((2 ^ n : Nat) : Int) % 2 ≠ 0) : IsZ A n :=
  ⟨hn, fun h => absurd h hA, fun _ => ⟨h, fun hl he => by rcases hd with hd | hd; · omega
                                                          · exact hd ((half_mod h).1 he)⟩⟩
end Go.Proofs.Ytggddckckfilgaa
