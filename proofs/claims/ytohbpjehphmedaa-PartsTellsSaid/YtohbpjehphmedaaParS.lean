/- parts, plain: a number in two's complement as the readers take it. -/
import Derived.Test.YtohbpjehphmedaaParP
import Derived.Test.YtohbpjehphmedaaBitS
import Derived.Test.YtohbpjehphmedaaBitO
namespace Go.Proofs.Ytohbpjehphmedaa
open Go.RowKit
set_option maxRecDepth 100000

theorem shl_shr (x : Int) (c k : Nat) (h : c + (k + 1) = 64) : wrap64 (x * 2 ^ c) / 2 ^ c = (x + 2 ^ k) % 2 ^ (k + 1) - 2 ^ k := by
  have e1 : (9223372036854775808 : Int) = 2 ^ c * 2 ^ k := by rw [← Int.pow_add, show c + k = 63 by omega]; rfl
  have e2 : (18446744073709551616 : Int) = 2 ^ c * 2 ^ (k + 1) := by rw [← Int.pow_add, h]; rfl
  have h0 : (0 : Int) < 2 ^ c := Int.pow_pos (by omega)
  unfold wrap64
  rw [e2, e1, Int.mul_comm x, ← Int.mul_add, Int.mul_emod_mul_of_pos _ _ h0, ← Int.mul_sub, Int.mul_ediv_cancel_left _ (by omega)]
theorem sgnI_sgn {V w c : Nat} (hV : V < 2 ^ w) (h : w + c = 64) : sgnI V c = sgn w V := by
  by_cases hw : w = 0
  · subst hw
    have : V = 0 := by simpa using hV
    subst this
    rw [sgn_zero]; rfl
  · obtain ⟨k, rfl⟩ : ∃ k, w = k + 1 := ⟨w - 1, by omega⟩
    have hVc : V * 2 ^ c < 18446744073709551616 := by
      have := Nat.mul_lt_mul_of_pos_right hV (Nat.pow_pos (n := c) (show 0 < 2 by omega))
      rw [← Nat.pow_add, h] at this
      exact this
    have e : IntKind.u64.wrap ((V : Int) * 2 ^ c) = (V : Int) * 2 ^ c := by
      have : (V : Int) * 2 ^ c = ((V * 2 ^ c : Nat) : Int) := by rw [Int.natCast_mul, Int.natCast_pow]; rfl
      rw [this]; exact IntWalk.u64_in _ (by omega)
    unfold sgnI sgn
    rw [e, shl_shr _ c k (by omega), Nat.add_sub_cancel]
    have e2 : (2 : Int) ^ k = ((2 ^ k : Nat) : Int) := by simp
    have e3 : (2 : Int) ^ (k + 1) = ((2 * 2 ^ k : Nat) : Int) := by rw [Int.pow_succ, e2]; omega
    have e4 : 2 ^ (k + 1) = 2 * 2 ^ k := by rw [Nat.pow_succ]; omega
    rw [e2, e3, e4]
    rw [e4] at hV
    generalize 2 ^ k = p at *
    by_cases hlt : V < p
    · rw [if_pos (.inl hlt), Int.emod_eq_of_lt (by omega) (by omega)]; omega
    · rw [if_neg (by omega)]
      have : ((V : Int) + (p : Int)) % ((2 * p : Nat) : Int) = (V : Int) + p - ((2 * p : Nat) : Int) := by
        rw [← Int.sub_emod_right]; exact Int.emod_eq_of_lt (by omega) (by omega)
      rw [this]; omega
/-- What 'Signed' answers, where the bits suffice. -/
theorem gSigned_sgn {f : Nat → Bool} {len at_ b : Nat} (hb : b ≤ 31) (h : (gGet f len at_ 0 (b : Nat)).2.2 = 0) : gSigned f len at_ 0 (b : Nat) = sgn b (gGet f len at_ 0 (b : Nat)).1 := by
  unfold gSigned
  rw [if_pos h]
  have hlt : (gGet f len at_ 0 (b : Nat)).1 < 2 ^ b := by
    have h0 : 0 < 2 ^ b := Nat.pow_pos (by omega)
    unfold gGet
    rw [Int.toNat_natCast, if_pos rfl, if_neg (by omega)]
    split
    · exact h0
    · exact bnum_lt _ _ _
  exact sgnI_sgn hlt (by omega)
end Go.Proofs.Ytohbpjehphmedaa
