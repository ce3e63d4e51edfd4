/- bits: the reader's methods, on. -/
import Derived.Test.YthecibabpcfoaaaBitR
namespace Go.Proofs.Ythecibabpcfoaaa
open Go.RowKit
set_option maxRecDepth 100000
set_option maxHeartbeats 400000

/-- 'int64(v<<(64-n)) >> (64-n)'. -/
def sgnI (V k : Nat) : Int := wrap64 (IntKind.u64.wrap ((V : Int) * 2 ^ k)) / 2 ^ k
def gSigned (f : Nat → Bool) (len at_ : Nat) (er n : Int) : Int :=
  if (gGet f len at_ er n).2.2 = 0 then sgnI (gGet f len at_ er n).1 (64 - n).toNat else 0
theorem gGet_ok {f : Nat → Bool} {len at_ : Nat} {er n : Int} (h : (gGet f len at_ er n).2.2 = 0) : 0 ≤ n ∧ n ≤ 64 := by
  unfold gGet at h
  by_cases he : er = 0
  · rw [if_pos he] at h
    by_cases h1 : n < 0 ∨ 64 < n
    · rw [if_pos h1] at h; simp at h
    · omega
  · rw [if_neg he] at h; exact absurd h he

theorem bit_of {x t : Nat} (hx : x < 256) : bits .and .u8 ((x : Int) / 2 ^ t) 1 = (((x.testBit t).toNat : Nat) : Int) := by
  have e : (x : Int) / 2 ^ t = ((x / 2 ^ t : Nat) : Int) := by simp
  have : x / 2 ^ t ≤ x := Nat.div_le_self _ _
  rw [e, show (1 : Int) = ((1 : Nat) : Int) from rfl, u8_and_nat _ _ (by omega) (by omega), nat_mask1, toNat_testBit]

end Go.Proofs.Ythecibabpcfoaaa
