/- sample: functions of numbers, the reference's. -/
import Derived.Test.YtggddckckfilgaaSmpP
import Derived.Test.YtggddckckfilgaaIntR
namespace Go.Proofs.Ytggddckckfilgaa
open Go.RowKit
set_option maxRecDepth 100000
set_option maxHeartbeats 400000

def sizeB (b : Int) : Bool := decide (1 ≤ b) && decide (b ≤ 31)
theorem sizeB_iff {b : Int} : sizeB b = true ↔ 1 ≤ b ∧ b ≤ 31 := by simp [sizeB]
theorem isSize_any (b : Int) (w : World) : Calls Try.prog 59 #[.int .i64 b] w fun e w' => e = .returned (.bool (sizeB b)) ∧ w = w' := by
  unfold sizeB
  by_cases h1 : 1 ≤ b <;> by_cases h2 : b ≤ 31
  all_goals
    simp only [h1, h2, decide_true, decide_false, Bool.and_true, Bool.and_false, Bool.true_and, Bool.false_and]
    go_enter Try.func59, Try.ntmps59
    go_wp2
    go_ret
    exact ⟨rfl, rfl⟩
def shiftB (b : Int) : Bool := decide (0 ≤ b) && decide (b ≤ 30)
theorem shiftB_iff {b : Int} : shiftB b = true ↔ 0 ≤ b ∧ b ≤ 30 := by simp [shiftB]
def packB (b : Int) : Bool := decide (4 ≤ b) && decide (b ≤ 24)
theorem packB_iff {b : Int} : packB b = true ↔ 4 ≤ b ∧ b ≤ 24 := by simp [packB]
theorem lowS_any (b : Int) (w : World) : Calls Try.prog 60 #[.int .i64 b] w fun e w' => e = .returned (.int .i64 (lowI b)) ∧ w = w' := by
  have hs := fun w => isSize_any b w
  by_cases hb : 1 ≤ b ∧ b ≤ 31
  · rw [sizeB_iff.2 hb] at hs
    have HS := Lib.hid hs; clear hs
    unfold lowI
    rw [if_pos hb]
    obtain ⟨k, rfl⟩ : ∃ k : Nat, b = (k : Int) + 1 := ⟨(b - 1).toNat, by omega⟩
    have hk : k ≤ 30 := by omega
    have hp : (2 ^ k : Nat) ≤ 1073741824 := Nat.pow_le_pow_right (n := 2) (by omega) hk
    rw [show ((k : Int) + 1 - 1).toNat = k by omega]
    have he : (2 : Int) ^ k = ((2 ^ k : Nat) : Int) := (pow_cast k).symm
    have HE := Lib.hid he; clear he
    generalize 2 ^ k = p at hp HE ⊢
    go_enter Try.func60, Try.ntmps60
    go_wp2_with (go_at_call 59; refine (HS.out _).mono ?_; rintro e w1 ⟨rfl, rfl⟩)
    go_ret
    refine ⟨?_, rfl⟩
    show Ending.returned (.int .i64 (wrap64 (-2 ^ k))) = _
    rw [HE.out, wrap_in (by omega) (by omega)]
  · rw [Bool.eq_false_iff.2 fun h => hb (sizeB_iff.1 h)] at hs
    have HS := Lib.hid hs; clear hs
    unfold lowI
    rw [if_neg hb]
    clear hb
    go_enter Try.func60, Try.ntmps60
    go_wp2_with (go_at_call 59; refine (HS.out _).mono ?_; rintro e w1 ⟨rfl, rfl⟩)
    go_ret
    exact ⟨rfl, rfl⟩
theorem high_any (b : Int) (w : World) : Calls Try.prog 61 #[.int .i64 b] w fun e w' => e = .returned (.int .i64 (highI b)) ∧ w = w' := by
  have hs := fun w => isSize_any b w
  by_cases hb : 1 ≤ b ∧ b ≤ 31
  · rw [sizeB_iff.2 hb] at hs
    have HS := Lib.hid hs; clear hs
    unfold highI
    rw [if_pos hb]
    obtain ⟨k, rfl⟩ : ∃ k : Nat, b = (k : Int) + 1 := ⟨(b - 1).toNat, by omega⟩
    have hk : k ≤ 30 := by omega
    have hp : (2 ^ k : Nat) ≤ 1073741824 := Nat.pow_le_pow_right (n := 2) (by omega) hk
    rw [show ((k : Int) + 1 - 1).toNat = k by omega]
    have he : (2 : Int) ^ k = ((2 ^ k : Nat) : Int) := (pow_cast k).symm
    have HE := Lib.hid he; clear he
    generalize 2 ^ k = p at hp HE ⊢
    go_enter Try.func61, Try.ntmps61
    go_wp2_with (go_at_call 59; refine (HS.out _).mono ?_; rintro e w1 ⟨rfl, rfl⟩)
    go_ret
    refine ⟨?_, rfl⟩
    show Ending.returned (.int .i64 (wrap64 (wrap64 (2 ^ k) - 1))) = _
    rw [HE.out, wrap_in (z := (p : Int)) (by omega) (by omega), wrap_in (by omega) (by omega)]
  · rw [Bool.eq_false_iff.2 fun h => hb (sizeB_iff.1 h)] at hs
    have HS := Lib.hid hs; clear hs
    unfold highI
    rw [if_neg hb]
    clear hb
    go_enter Try.func61, Try.ntmps61
    go_wp2_with (go_at_call 59; refine (HS.out _).mono ?_; rintro e w1 ⟨rfl, rfl⟩)
    go_ret
    exact ⟨rfl, rfl⟩
theorem rlow_any (b : Int) (w : World) : Calls Try.prog 55 #[.int .i64 b] w fun e w' => e = .returned (.int .i64 (lowI b)) ∧ w = w' := by
  unfold lowI
  by_cases hb : 1 ≤ b ∧ b ≤ 31
  · rw [if_pos hb]
    obtain ⟨k, rfl⟩ : ∃ k : Nat, b = (k : Int) + 1 := ⟨(b - 1).toNat, by omega⟩
    have hk : k ≤ 30 := by omega
    have hp : (2 ^ k : Nat) ≤ 1073741824 := Nat.pow_le_pow_right (n := 2) (by omega) hk
    rw [show ((k : Int) + 1 - 1).toNat = k by omega]
    have he : (2 : Int) ^ k = ((2 ^ k : Nat) : Int) := (pow_cast k).symm
    have HE := Lib.hid he; clear he
    generalize 2 ^ k = p at hp HE ⊢
    go_enter Try.func55, Try.ntmps55
    go_wp2
    go_ret
    refine ⟨?_, rfl⟩
    show Ending.returned (.int .i64 (wrap64 (-2 ^ k))) = _
    rw [HE.out, wrap_in (by omega) (by omega)]
  · rw [if_neg hb]
    go_enter Try.func55, Try.ntmps55
    go_wp2
    all_goals (go_ret; exact ⟨rfl, rfl⟩)
theorem rhigh_any (b : Int) (w : World) : Calls Try.prog 56 #[.int .i64 b] w fun e w' => e = .returned (.int .i64 (highI b)) ∧ w = w' := by
  unfold highI
  by_cases hb : 1 ≤ b ∧ b ≤ 31
  · rw [if_pos hb]
    obtain ⟨k, rfl⟩ : ∃ k : Nat, b = (k : Int) + 1 := ⟨(b - 1).toNat, by omega⟩
    have hk : k ≤ 30 := by omega
    have hp : (2 ^ k : Nat) ≤ 1073741824 := Nat.pow_le_pow_right (n := 2) (by omega) hk
    rw [show ((k : Int) + 1 - 1).toNat = k by omega]
    have he : (2 : Int) ^ k = ((2 ^ k : Nat) : Int) := (pow_cast k).symm
    have HE := Lib.hid he; clear he
    generalize 2 ^ k = p at hp HE ⊢
    go_enter Try.func56, Try.ntmps56
    go_wp2
    go_ret
    refine ⟨?_, rfl⟩
    show Ending.returned (.int .i64 (wrap64 (wrap64 (2 ^ k) - 1))) = _
    rw [HE.out, wrap_in (z := (p : Int)) (by omega) (by omega), wrap_in (by omega) (by omega)]
  · rw [if_neg hb]
    go_enter Try.func56, Try.ntmps56
    go_wp2
    all_goals (go_ret; exact ⟨rfl, rfl⟩)
theorem fits_any (x b : Int) (w : World) : Calls Try.prog 58 #[.int .i64 x, .int .i64 b] w fun e w' => e = .returned (.bool (fitsB x b)) ∧ w = w' := by
  have hs := fun w => isSize_any b w
  have hl := fun w => lowS_any b w
  have hh := fun w => high_any b w
  unfold fitsB
  rw [show (decide (1 ≤ b) && decide (b ≤ 31)) = sizeB b from rfl]
  generalize sizeB b = s at *
  generalize lowI b = lo at *
  generalize highI b = hi at *
  have HS := Lib.hid hs; have HL := Lib.hid hl; have HH := Lib.hid hh
  clear hs hl hh
  cases s <;> by_cases h1 : lo ≤ x <;> by_cases h2 : x ≤ hi
  all_goals
    simp only [h1, h2, decide_true, decide_false, Bool.and_true, Bool.and_false, Bool.true_and, Bool.false_and]
    go_enter Try.func58, Try.ntmps58
    go_wp2_with (first
      | (go_at_call 59; refine (HS.out _).mono ?_; rintro e w1 ⟨rfl, rfl⟩)
      | (go_at_call 60; refine (HL.out _).mono ?_; rintro e w1 ⟨rfl, rfl⟩)
      | (go_at_call 61; refine (HH.out _).mono ?_; rintro e w1 ⟨rfl, rfl⟩))
    go_ret
    first
      | exact ⟨rfl, rfl⟩
      | (refine ⟨?_, rfl⟩; show Ending.returned (.bool (decide (x ≤ hi))) = _; rw [decide_eq_false (by omega)])
theorem rfits_any (x b : Int) (w : World) : Calls Try.prog 44 #[.int .i64 x, .int .i64 b] w fun e w' => e = .returned (.bool (fitsB x b)) ∧ w = w' := by
  have hl := fun w => rlow_any b w
  have hh := fun w => rhigh_any b w
  unfold fitsB
  generalize lowI b = lo at *
  generalize highI b = hi at *
  have HL := Lib.hid hl; have HH := Lib.hid hh
  clear hl hh
  by_cases h3 : 1 ≤ b <;> by_cases h4 : b ≤ 31 <;> by_cases h1 : lo ≤ x <;> by_cases h2 : x ≤ hi
  all_goals
    simp only [h1, h2, h3, h4, decide_true, decide_false, Bool.and_true, Bool.and_false, Bool.true_and, Bool.false_and]
    go_enter Try.func44, Try.ntmps44
    go_wp2_with (first
      | (go_at_call 55; refine (HL.out _).mono ?_; rintro e w1 ⟨rfl, rfl⟩)
      | (go_at_call 56; refine (HH.out _).mono ?_; rintro e w1 ⟨rfl, rfl⟩))
    go_ret
    first
      | exact ⟨rfl, rfl⟩
      | (refine ⟨?_, rfl⟩; show Ending.returned (.bool (decide (x ≤ hi))) = _; rw [decide_eq_false (by omega)])
/-- Bytes of a sample. -/
def szOf (b : Int) : Nat := ((b + 7) / 8).toNat
theorem szOf_cases {b : Int} (h : packB b = true) : szOf b = 1 ∨ szOf b = 2 ∨ szOf b = 3 := by
  rw [packB_iff] at h; unfold szOf; omega
/-- The number of which n is two's complement in s bytes. -/
def sgnS (s n : Nat) : Int := if n < 2 ^ (8 * s - 1) then n else n - (2 ^ (8 * s) : Nat)
end Go.Proofs.Ytggddckckfilgaa
