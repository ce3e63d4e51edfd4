/- sample: the law SampleJoins. -/
import Derived.Test.YtggddckckfilgaaSmpA
import Derived.Test.YtggddckckfilgaaSam
namespace Go.Proofs.Ytggddckckfilgaa
open Go.RowKit
set_option maxRecDepth 100000
set_option maxHeartbeats 1600000

theorem pk_byte (s : Nat) (x : Int) : ∀ y ∈ pk s x, y < 256 := leB_byte _ _
theorem packR_byte (l : List Int) (n : Int) : ∀ y ∈ (packR l n).1, y < 256 := by
  unfold packR
  split
  · split
    · intro y hy
      obtain ⟨x, _, h⟩ := List.mem_flatMap.1 hy
      exact pk_byte _ _ y h
    · simp
  · simp
theorem packR_len (l : List Int) (n : Int) : (packR l n).1.length ≤ 3 * l.length := by
  unfold packR
  split
  · rename_i h
    split
    · rw [pks_len]
      rcases szOf_cases h with h | h | h <;> rw [h] <;> omega
    · simp
  · simp
/-- The ways two rows pack. -/
theorem packR_join (a b : List Int) (n : Int) :
    (packR a n = ([], 1) ∧ packR b n = ([], 1) ∧ packR (a ++ b) n = ([], 1)) ∨ (packR a n = ([], 6) ∧ packR b n = ([], 6) ∧ packR (a ++ b) n = ([], 6)) ∨
    (packR a n = ([], 6) ∧ (∃ y, packR b n = (y, 0)) ∧ packR (a ++ b) n = ([], 6)) ∨ ((∃ x, packR a n = (x, 0)) ∧ packR b n = ([], 6) ∧ packR (a ++ b) n = ([], 6)) ∨
    (∃ x y, packR a n = (x, 0) ∧ packR b n = (y, 0) ∧ packR (a ++ b) n = (x ++ y, 0)) := by
  unfold packR
  by_cases h : packB n = true
  · rw [if_pos h, if_pos h, if_pos h, List.all_append, List.flatMap_append]
    cases ha : a.all (fun x => fitsB x n) <;> cases hb : b.all (fun x => fitsB x n) <;> simp
  · rw [if_neg h, if_neg h, if_neg h]; simp
end Go.Proofs.Ytggddckckfilgaa
