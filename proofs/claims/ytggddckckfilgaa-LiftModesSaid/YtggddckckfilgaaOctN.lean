/- octet: the parts that later packages use: Small, New, the reader's Small. -/
import Derived.Test.YtggddckckfilgaaRows
import Derived.Test.YtggddckckfilgaaByt
import Derived.Test.YtggddckckfilgaaClone
import Derived.Test.YtggddckckfilgaaKit
import Derived.Test.YtggddckckfilgaaOct
import Derived.Deep.QuietTactic
import Derived.BigQuiet
import Derived.Deep.RegionWith
namespace Go.Proofs.Ytggddckckfilgaa
open Go.RowKit
set_option maxRecDepth 100000
set_option maxHeartbeats 400000

theorem leB_len : ∀ k n, (leB k n).length = k
  | 0, _ => rfl
  | k + 1, n => by rw [leB, List.length_cons, leB_len]
theorem leB_get : ∀ k n i, i < k → (leB k n)[i]? = some (n / 256 ^ i % 256)
  | k + 1, n, 0, _ => by simp [leB]
  | k + 1, n, i + 1, h => by
    rw [leB, List.getElem?_cons_succ, leB_get k _ i (by omega), Nat.div_div_eq_div_mul, Nat.pow_succ, Nat.mul_comm]
theorem leB_byte : ∀ k n, ∀ x ∈ leB k n, x < 256
  | 0, _, x, h => by simp [leB] at h
  | k + 1, n, x, h => by
    rw [leB] at h
    rcases List.mem_cons.1 h with rfl | h
    · omega
    · exact leB_byte k _ x h
theorem leV_leB : ∀ k n, leV (leB k n) = n % 256 ^ k
  | 0, n => by simp [leB, leV]; omega
  | k + 1, n => by
    rw [leB, leV, leV_leB, show 256 ^ (k + 1) = 256 * 256 ^ k by rw [Nat.pow_succ, Nat.mul_comm], Nat.mod_mul]
theorem fill_get {L : List Nat} {m k : Nat} (hL : L.length = m) (hk : k < m) : (L.take k ++ List.replicate (m - k) 0)[k]? = some 0 := by
  rw [List.getElem?_append_right (by simp; omega), List.length_take, Nat.min_eq_left (by omega), Nat.sub_self, List.getElem?_replicate, if_pos (by omega)]
theorem fill_set {L : List Nat} {m k x : Nat} (hL : L.length = m) (hk : k < m) (hx : L[k]? = some x) : (L.take k ++ List.replicate (m - k) 0).set k x = L.take (k + 1) ++ List.replicate (m - (k + 1)) 0 := by
  rw [List.take_add_one, hx, show m - k = (m - (k + 1)) + 1 by omega, List.replicate_succ, List.set_append_right _ _ (by simp; omega)]
  simp [hL, Nat.min_eq_left (Nat.le_of_lt hk)]
end Go.Proofs.Ytggddckckfilgaa
