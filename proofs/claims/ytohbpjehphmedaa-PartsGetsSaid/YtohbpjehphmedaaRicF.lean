/- rice: functions of numbers, the reference's beside them. -/
import Derived.Test.YtohbpjehphmedaaIntR
import Derived.Test.YtohbpjehphmedaaRicP
namespace Go.Proofs.Ytohbpjehphmedaa
open Go.RowKit
set_option maxRecDepth 100000
set_option maxHeartbeats 400000

theorem isWide_any (b : Int) (w : World) : Calls Try.prog 81 #[.int .i64 b] w fun e w' => e = .returned (.bool (wideB b)) ∧ w = w' := by
  unfold wideB
  by_cases h1 : -1073741824 ≤ b <;> by_cases h2 : b < 1073741824
  all_goals
    simp only [h1, h2, decide_true, decide_false, Bool.and_true, Bool.and_false, Bool.true_and, Bool.false_and]
    go_enter Try.func81, Try.ntmps81
    go_wp2
    go_ret
    exact ⟨rfl, rfl⟩
theorem isPar_any (b : Int) (w : World) : Calls Try.prog 80 #[.int .i64 b] w fun e w' => e = .returned (.bool (paramB b)) ∧ w = w' := by
  unfold paramB
  by_cases h1 : 0 ≤ b <;> by_cases h2 : b ≤ 25
  all_goals
    simp only [h1, h2, decide_true, decide_false, Bool.and_true, Bool.and_false, Bool.true_and, Bool.false_and]
    go_enter Try.func80, Try.ntmps80
    go_wp2
    go_ret
    exact ⟨rfl, rfl⟩
theorem qpar_any (b : Int) (w : World) : Calls Try.prog 45 #[.int .i64 b] w fun e w' => e = .returned (.bool (paramB b)) ∧ w = w' := by
  unfold paramB
  by_cases h1 : 0 ≤ b <;> by_cases h2 : b ≤ 25
  all_goals
    simp only [h1, h2, decide_true, decide_false, Bool.and_true, Bool.and_false, Bool.true_and, Bool.false_and]
    go_enter Try.func45, Try.ntmps45
    go_wp2
    go_ret
    exact ⟨rfl, rfl⟩
theorem u64_wrap_neg {n : Int} (h : -9223372036854775808 ≤ n) (h0 : n < 0) : IntKind.u64.wrap (IntKind.u64.wrap n * 2) = ((18446744073709551616 - (-2 * n).toNat : Nat) : Int) := by
  rw [IntKind.wrap_u64, IntKind.wrap_u64]; omega
theorem qzig_any (n : Int) (w : World) (hn1 : -9223372036854775808 ≤ n) (hn2 : n ≤ 9223372036854775807) :
    Calls Try.prog 89 #[.int .i64 n] w fun e w' => e = .returned (.int .u64 (zigI n : Nat)) ∧ w = w' := by
  by_cases h0 : n < 0
  · have hz : zigI n = (-2 * n - 1).toNat := by unfold zigI; rw [if_neg (by omega)]
    obtain ⟨u, hu⟩ : ∃ u : Nat, (-2 * n).toNat = u + 1 := ⟨(-2 * n).toNat - 1, by omega⟩
    have hw := u64_wrap_neg hn1 h0
    rw [hu] at hw
    have hx := xor_ones (18446744073709551616 - (u + 1)) (by omega)
    have hxx : bits .xor .u64 (IntKind.max .u64) ((18446744073709551615 - u : Nat) : Int) = (u : Nat) := by
      rw [show 18446744073709551616 - (u + 1) = 18446744073709551615 - u by omega] at hx
      rw [show IntKind.max .u64 = ((2 ^ 64 - 1 : Nat) : Int) by decide +kernel, u64_xor_nat _ _ (by omega) (by omega), Nat.xor_comm, hx]
      omega
    rw [hz, show (-2 * n - 1).toNat = u by omega]
    have HX := Lib.hid hxx
    clear hz hx hxx
    go_enter Try.func89, Try.ntmps89
    go_wp2
    go_ret
    refine ⟨?_, rfl⟩
    show Ending.returned (.int .u64 _) = _
    congr 2
  · obtain ⟨m, rfl⟩ := Int.eq_ofNat_of_zero_le (by omega : 0 ≤ n)
    have hz : zigI m = 2 * m := by unfold zigI; rw [if_pos (by omega)]; omega
    rw [hz]
    clear hz
    go_enter Try.func89, Try.ntmps89
    go_wp2
    go_ret
    refine ⟨?_, rfl⟩
    show Ending.returned (.int .u64 _) = _
    congr 2
    omega
theorem qzag_any (n : Nat) (w : World) (h2 : n < 18446744073709551616) :
    Calls Try.prog 103 #[.int .u64 (n : Nat)] w fun e w' => e = .returned (.int .i64 (zagI n)) ∧ w = w' := by
  have hand : bits .and .u64 ((n : Nat) : Int) 1 = ((n % 2 : Nat) : Int) := by
    rw [show (1 : Int) = ((1 : Nat) : Int) from rfl, u64_and_nat _ _ (by omega) (by omega), nat_mask1]
  have hm := i64_xor_m1 ((n : Int) / 2) (by omega) (by omega)
  have hm2 : bits .xor .i64 (-1) ((n : Int) / 2) = -((n : Int) / 2) - 1 := by
    rw [← hm]
    show IntKind.i64.wrap _ = IntKind.i64.wrap _
    simp only [BitVec.xor_comm]
  by_cases h : n % 2 = 0
  · rw [h] at hand
    have hz : zagI n = (n : Int) / 2 := by simp [zagI, h]
    rw [hz]
    clear hz h
    go_enter Try.func103, Try.ntmps103
    go_wp2
    go_ret
    exact ⟨rfl, rfl⟩
  · rw [show n % 2 = 1 by omega] at hand
    have hz : zagI n = -((n : Int) / 2) - 1 := by simp [zagI, h]
    rw [hz]
    clear hz h
    go_enter Try.func103, Try.ntmps103
    go_wp2
    go_ret
    refine ⟨?_, rfl⟩
    show Ending.returned (.int .i64 _) = _
    congr 2

theorem fold_any (x : Int) (w : World) : Calls Try.prog 82 #[.int .i64 x] w fun e w' => e = .returned (.int .u64 (foldN x : Nat)) ∧ w = w' := by
  have hw := fun w => isWide_any x w
  by_cases hx : wideB x = true
  · have hb := wide_iff.1 hx
    have hf : foldN x = zigI x := by unfold foldN; rw [if_pos hx]
    rw [hx] at hw
    have HW := Lib.hid hw
    rw [hf]
    clear hw hx hf
    obtain ⟨hb1, hb2⟩ := hb
    by_cases h0 : x < 0
    · have hz : zigI x = (-2 * x - 1).toNat := by unfold zigI; rw [if_neg (by omega)]
      obtain ⟨u, hu⟩ : ∃ u : Nat, -2 * x - 1 = (u : Nat) := ⟨(-2 * x - 1).toNat, by omega⟩
      rw [hz, hu, Int.toNat_natCast]
      clear hz
      go_enter Try.func82, Try.ntmps82
      go_wp2_with (go_at_call 81; refine (HW.out _).mono ?_; rintro e w1 ⟨rfl, rfl⟩)
      go_ret
      exact ⟨rfl, rfl⟩
    · have hz : zigI x = (2 * x).toNat := by unfold zigI; rw [if_pos (by omega)]
      obtain ⟨u, hu⟩ : ∃ u : Nat, 2 * x = (u : Nat) := ⟨(2 * x).toNat, by omega⟩
      rw [hz, hu, Int.toNat_natCast]
      clear hz
      go_enter Try.func82, Try.ntmps82
      go_wp2_with (go_at_call 81; refine (HW.out _).mono ?_; rintro e w1 ⟨rfl, rfl⟩)
      go_ret
      exact ⟨rfl, rfl⟩
  · have hf : foldN x = 0 := by unfold foldN; rw [if_neg hx]
    rw [hf]
    rw [Bool.eq_false_iff.2 hx] at hw
    have HW := Lib.hid hw
    clear hw hx hf
    go_enter Try.func82, Try.ntmps82
    go_wp2_with (go_at_call 81; refine (HW.out _).mono ?_; rintro e w1 ⟨rfl, rfl⟩)
    go_ret
    exact ⟨rfl, rfl⟩
theorem qfold_any (x : Int) (w : World) : Calls Try.prog 72 #[.int .i64 x] w fun e w' => e = .returned (.int .u64 (foldN x : Nat)) ∧ w = w' := by
  have hw := fun w => rWide_any x w
  by_cases hx : wideB x = true
  · have hb := wide_iff.1 hx
    have hf : foldN x = zigI x := by unfold foldN; rw [if_pos hx]
    rw [hx] at hw
    have HW := Lib.hid hw
    rw [hf]
    have HZ := Lib.hid (fun w => qzig_any x w (by omega) (by omega))
    clear hw hx hf
    obtain ⟨hb1, hb2⟩ := hb
    go_enter Try.func72, Try.ntmps72
    go_wp2_with (first
      | (go_at_call 64; refine (HW.out _).mono ?_; rintro e w1 ⟨rfl, rfl⟩)
      | (go_at_call 89; refine (HZ.out _).mono ?_; rintro e w1 ⟨rfl, rfl⟩))
    go_ret
    exact ⟨rfl, rfl⟩
  · have hf : foldN x = 0 := by unfold foldN; rw [if_neg hx]
    rw [hf]
    rw [Bool.eq_false_iff.2 hx] at hw
    have HW := Lib.hid hw
    clear hw hx hf
    go_enter Try.func72, Try.ntmps72
    go_wp2_with (go_at_call 64; refine (HW.out _).mono ?_; rintro e w1 ⟨rfl, rfl⟩)
    go_ret
    exact ⟨rfl, rfl⟩
theorem unfold_any (u : Nat) (w : World) (hu : u < 18446744073709551616) : Calls Try.prog 102 #[.int .u64 (u : Nat)] w fun e w' => e = .returned (.int .i64 (unfoldI u)) ∧ w = w' := by
  by_cases h : u < 2147483648
  · have hf : unfoldI u = zagI u := by unfold unfoldI; rw [if_pos h]
    have hge : decide ((2147483648 : Int) ≤ (u : Int)) = false := by rw [decide_eq_false_iff_not]; omega
    rw [hf]
    obtain ⟨q, hq⟩ : ∃ q : Nat, u / 2 = q := ⟨_, rfl⟩
    have hqI : (u : Int) / 2 = (q : Nat) := by omega
    have hq2 : q < 1073741824 := by omega
    by_cases h1 : u % 2 = 1
    · have hz : zagI u = -(q : Int) - 1 := by unfold zagI; rw [if_neg (by omega), hq]
      have hm : ((u : Int) % 2 == 1) = true := by rw [beq_iff_eq]; omega
      rw [hz]
      clear hz hq h h1 hf
      go_enter Try.func102, Try.ntmps102
      go_wp2
      go_ret
      exact ⟨rfl, rfl⟩
    · have hz : zagI u = (q : Int) := by unfold zagI; rw [if_pos (by omega), hq]
      have hm : ((u : Int) % 2 == 1) = false := by rw [beq_eq_false_iff_ne]; omega
      rw [hz]
      clear hz hq h h1 hf
      go_enter Try.func102, Try.ntmps102
      go_wp2
      go_ret
      exact ⟨rfl, rfl⟩
  · have hf : unfoldI u = 0 := by unfold unfoldI; rw [if_neg h]
    have hge : decide ((2147483648 : Int) ≤ (u : Int)) = true := by rw [decide_eq_true_iff]; omega
    rw [hf]
    clear hf h
    go_enter Try.func102, Try.ntmps102
    go_wp2
    go_ret
    exact ⟨rfl, rfl⟩
theorem qunfold_any (u : Nat) (w : World) (hu : u < 18446744073709551616) : Calls Try.prog 93 #[.int .u64 (u : Nat)] w fun e w' => e = .returned (.int .i64 (unfoldI u)) ∧ w = w' := by
  by_cases h : u < 2147483648
  · have hf : unfoldI u = zagI u := by unfold unfoldI; rw [if_pos h]
    have hge : decide ((2147483648 : Int) ≤ (u : Int)) = false := by rw [decide_eq_false_iff_not]; omega
    rw [hf]
    have HZ := Lib.hid (fun w => qzag_any u w hu)
    clear hf h
    go_enter Try.func93, Try.ntmps93
    go_wp2_with (go_at_call 103; refine (HZ.out _).mono ?_; rintro e w1 ⟨rfl, rfl⟩)
    go_ret
    exact ⟨rfl, rfl⟩
  · have hf : unfoldI u = 0 := by unfold unfoldI; rw [if_neg h]
    have hge : decide ((2147483648 : Int) ≤ (u : Int)) = true := by rw [decide_eq_true_iff]; omega
    rw [hf]
    clear hf h
    go_enter Try.func93, Try.ntmps93
    go_wp2
    go_ret
    exact ⟨rfl, rfl⟩
theorem two_pow_le {k m : Nat} (h : k ≤ m) : 2 ^ k ≤ 2 ^ m := Nat.pow_le_pow_right (by omega) h
theorem shr_cast (u k : Nat) : (u : Int) / 2 ^ k = ((u / 2 ^ k : Nat) : Int) := by simp
theorem cost_any (k x : Int) (w : World) : Calls Try.prog 67 #[.int .i64 k, .int .i64 x] w fun e w' => e = .returned (.int .i64 (costI k x : Nat)) ∧ w = w' := by
  have hp := fun w => isPar_any k w
  have hw := fun w => isWide_any x w
  have hF := fun w => fold_any x w
  by_cases hk : paramB k = true
  · by_cases hx : wideB x = true
    · rw [hk] at hp; rw [hx] at hw
      obtain ⟨hk0, hk25⟩ := paramB_iff.1 hk
      obtain ⟨m, rfl⟩ := Int.eq_ofNat_of_zero_le hk0
      have hc : costI m x = codeN m (foldN x) := by unfold costI; rw [if_pos ⟨hk, hx⟩, Int.toNat_natCast]
      have hlt := foldN_lt x
      rw [hc]
      unfold codeN
      generalize foldN x = u at *
      obtain ⟨q, hq⟩ : ∃ q : Nat, u / 2 ^ m = q := ⟨_, rfl⟩
      have hqI : (u : Int) / 2 ^ m = (q : Nat) := by rw [shr_cast, hq]
      have hqu : q ≤ u := by rw [← hq]; exact Nat.div_le_self _ _
      rw [hq]
      have HP := Lib.hid hp; have HW := Lib.hid hw; have HF := Lib.hid hF
      clear hp hw hF hk hx hc hq
      by_cases h32 : q < 32
      · rw [if_pos h32]
        go_enter Try.func67, Try.ntmps67
        go_wp2_with (first
          | (go_at_call 80; refine (HP.out _).mono ?_; rintro e w1 ⟨rfl, rfl⟩)
          | (go_at_call 81; refine (HW.out _).mono ?_; rintro e w1 ⟨rfl, rfl⟩)
          | (go_at_call 82; refine (HF.out _).mono ?_; rintro e w1 ⟨rfl, rfl⟩))
        go_ret
        exact ⟨by simp, rfl⟩
      · rw [if_neg h32]
        go_enter Try.func67, Try.ntmps67
        go_wp2_with (first
          | (go_at_call 80; refine (HP.out _).mono ?_; rintro e w1 ⟨rfl, rfl⟩)
          | (go_at_call 81; refine (HW.out _).mono ?_; rintro e w1 ⟨rfl, rfl⟩)
          | (go_at_call 82; refine (HF.out _).mono ?_; rintro e w1 ⟨rfl, rfl⟩))
        go_ret
        exact ⟨rfl, rfl⟩
    · have hc : costI k x = 0 := by unfold costI; rw [if_neg (fun h => hx h.2)]
      rw [hk] at hp; rw [Bool.eq_false_iff.2 hx] at hw
      rw [hc]
      have HP := Lib.hid hp; have HW := Lib.hid hw
      clear hp hw hF hk hx hc
      go_enter Try.func67, Try.ntmps67
      go_wp2_with (first
        | (go_at_call 80; refine (HP.out _).mono ?_; rintro e w1 ⟨rfl, rfl⟩)
        | (go_at_call 81; refine (HW.out _).mono ?_; rintro e w1 ⟨rfl, rfl⟩))
      go_ret
      exact ⟨rfl, rfl⟩
  · have hc : costI k x = 0 := by unfold costI; rw [if_neg (fun h => hk h.1)]
    rw [Bool.eq_false_iff.2 hk] at hp
    rw [hc]
    have HP := Lib.hid hp
    clear hp hw hF hk hc
    go_enter Try.func67, Try.ntmps67
    go_wp2_with (go_at_call 80; refine (HP.out _).mono ?_; rintro e w1 ⟨rfl, rfl⟩)
    go_ret
    exact ⟨rfl, rfl⟩
theorem qcost_any (k x : Int) (w : World) : Calls Try.prog 86 #[.int .i64 k, .int .i64 x] w fun e w' => e = .returned (.int .i64 (costI k x : Nat)) ∧ w = w' := by
  have hp := fun w => qpar_any k w
  have hw := fun w => rWide_any x w
  have hF := fun w => qfold_any x w
  by_cases hk : paramB k = true
  · by_cases hx : wideB x = true
    · rw [hk] at hp; rw [hx] at hw
      obtain ⟨hk0, hk25⟩ := paramB_iff.1 hk
      obtain ⟨m, rfl⟩ := Int.eq_ofNat_of_zero_le hk0
      have hc : costI m x = codeN m (foldN x) := by unfold costI; rw [if_pos ⟨hk, hx⟩, Int.toNat_natCast]
      have hlt := foldN_lt x
      have hum : IntKind.u64.wrap ((m : Nat) : Int) = (m : Nat) := IntWalk.u64_in _ (by omega)
      rw [hc]
      unfold codeN
      generalize foldN x = u at *
      obtain ⟨q, hq⟩ : ∃ q : Nat, u / 2 ^ m = q := ⟨_, rfl⟩
      have hqI : (u : Int) / 2 ^ m = (q : Nat) := by rw [shr_cast, hq]
      have hqu : q ≤ u := by rw [← hq]; exact Nat.div_le_self _ _
      rw [hq]
      have HP := Lib.hid hp; have HW := Lib.hid hw; have HF := Lib.hid hF
      clear hp hw hF hk hx hc hq
      by_cases h32 : q < 32
      · rw [if_pos h32]
        go_enter Try.func86, Try.ntmps86
        go_wp2_with (first
          | (go_at_call 45; refine (HP.out _).mono ?_; rintro e w1 ⟨rfl, rfl⟩)
          | (go_at_call 64; refine (HW.out _).mono ?_; rintro e w1 ⟨rfl, rfl⟩)
          | (go_at_call 72; refine (HF.out _).mono ?_; rintro e w1 ⟨rfl, rfl⟩))
        go_ret
        exact ⟨by simp, rfl⟩
      · rw [if_neg h32]
        go_enter Try.func86, Try.ntmps86
        go_wp2_with (first
          | (go_at_call 45; refine (HP.out _).mono ?_; rintro e w1 ⟨rfl, rfl⟩)
          | (go_at_call 64; refine (HW.out _).mono ?_; rintro e w1 ⟨rfl, rfl⟩)
          | (go_at_call 72; refine (HF.out _).mono ?_; rintro e w1 ⟨rfl, rfl⟩))
        go_ret
        exact ⟨rfl, rfl⟩
    · have hc : costI k x = 0 := by unfold costI; rw [if_neg (fun h => hx h.2)]
      rw [hk] at hp; rw [Bool.eq_false_iff.2 hx] at hw
      rw [hc]
      have HP := Lib.hid hp; have HW := Lib.hid hw
      clear hp hw hF hk hx hc
      go_enter Try.func86, Try.ntmps86
      go_wp2_with (first
        | (go_at_call 45; refine (HP.out _).mono ?_; rintro e w1 ⟨rfl, rfl⟩)
        | (go_at_call 64; refine (HW.out _).mono ?_; rintro e w1 ⟨rfl, rfl⟩))
      go_ret
      exact ⟨rfl, rfl⟩
  · have hc : costI k x = 0 := by unfold costI; rw [if_neg (fun h => hk h.1)]
    rw [Bool.eq_false_iff.2 hk] at hp
    rw [hc]
    have HP := Lib.hid hp
    clear hp hw hF hk hc
    go_enter Try.func86, Try.ntmps86
    go_wp2_with (go_at_call 45; refine (HP.out _).mono ?_; rintro e w1 ⟨rfl, rfl⟩)
    go_ret
    exact ⟨rfl, rfl⟩
end Go.Proofs.Ytohbpjehphmedaa
