/- octet: Zig and Zag undo each other. -/
import Derived.Test.YtcmlnjohjjibnaaOctK
import Derived.Test.YtcmlnjohjjibnaaLawKit
import Derived.Deep.RegionWith
namespace Go.Proofs.Ytcmlnjohjjibnaa
open Go.RowKit
set_option maxRecDepth 100000
set_option maxHeartbeats 400000

theorem zag_zig (n : Int) : zagI (zigI n) = n := by unfold zagI zigI; split <;> split <;> omega
theorem zig_zag (u : Nat) : zigI (zagI u) = u := by unfold zagI zigI; split <;> split <;> omega
theorem zig_lt (n : Int) (h : -9223372036854775808 ≤ n) (h2 : n ≤ 9223372036854775807) : zigI n < 18446744073709551616 := by unfold zigI; split <;> omega
theorem zag_rng (u : Nat) (h : u < 18446744073709551616) : -9223372036854775808 ≤ zagI u ∧ zagI u ≤ 9223372036854775807 := by unfold zagI; split <;> omega

theorem octetZigs_walk (a : Int) (u : Nat) (w : World) (h : -9223372036854775808 ≤ a) (h2 : a ≤ 9223372036854775807) (hu : u < 18446744073709551616) :
    Calls Try.prog 8 #[.int .i64 a, .int .u64 u] w fun e w' => e = .returned (.bool true) ∧ Below w.heap.size w w' := by
  have c1 := fun W => zig_any a W h h2
  have c2 := fun W => zag_any u W hu
  have c3 := fun W => zag_any (zigI a) W (zig_lt a h h2)
  have c4 := fun W => zig_any (zagI u) W (zag_rng u hu).1 (zag_rng u hu).2
  rw [zag_zig] at c3
  rw [zig_zag] at c4
  have hx := zig_lt a h h2
  have hand : bits .and .u64 ((zigI a : Nat) : Int) 1 = ((zigI a % 2 : Nat) : Int) := by
    rw [show (1 : Int) = ((1 : Nat) : Int) from rfl, u64_and_nat _ _ (by omega) (by omega), nat_mask1]
  have hbit : zigI a % 2 = if a < 0 then 1 else 0 := by unfold zigI; split <;> split <;> omega
  have hhalf : ((zigI a : Nat) : Int) / 2 = if a < 0 then -(a + 1) else a := by unfold zigI; split <;> split <;> omega
  rw [hbit] at hand
  clear hbit
  generalize zigI a = x at *
  have hzr := zag_rng u hu
  generalize zagI u = n at *
  have C1 := Lib.hid c1; have C2 := Lib.hid c2; have C3 := Lib.hid c3; have C4 := Lib.hid c4
  clear c1 c2 c3 c4
  by_cases h0 : a < 0
  · rw [if_pos h0] at hand hhalf
    have he : bits .and .u64 (x : Int) 1 = 1 := hand
    clear hand
    go_enter Try.func8, Try.ntmps8
    go_wp2_with (first
      | (go_at_call 10; refine (known_any _).mono ?_; rintro e w1 ⟨rfl, hb⟩)
      | (go_at_call_of 32 (Value.int .i64 a); refine (C1.out _).mono ?_; rintro e w2 ⟨rfl, rfl⟩)
      | (go_at_call_of 33 (Value.int .u64 (u : Int)); refine (C2.out _).mono ?_; rintro e w2 ⟨rfl, rfl⟩)
      | (go_at_call_of 33 (Value.int .u64 (x : Int)); refine (C3.out _).mono ?_; rintro e w2 ⟨rfl, rfl⟩)
      | (go_at_call_of 32 (Value.int .i64 n); refine (C4.out _).mono ?_; rintro e w2 ⟨rfl, rfl⟩))
    go_ret
    exact ⟨rfl, hb⟩
  · rw [if_neg h0] at hand hhalf
    have he : bits .and .u64 (x : Int) 1 = 0 := hand
    clear hand
    have h0' : 0 ≤ a := by omega
    go_enter Try.func8, Try.ntmps8
    go_wp2_with (first
      | (go_at_call 10; refine (known_any _).mono ?_; rintro e w1 ⟨rfl, hb⟩)
      | (go_at_call_of 32 (Value.int .i64 a); refine (C1.out _).mono ?_; rintro e w2 ⟨rfl, rfl⟩)
      | (go_at_call_of 33 (Value.int .u64 (u : Int)); refine (C2.out _).mono ?_; rintro e w2 ⟨rfl, rfl⟩)
      | (go_at_call_of 33 (Value.int .u64 (x : Int)); refine (C3.out _).mono ?_; rintro e w2 ⟨rfl, rfl⟩)
      | (go_at_call_of 32 (Value.int .i64 n); refine (C4.out _).mono ?_; rintro e w2 ⟨rfl, rfl⟩))
    go_ret
    exact ⟨by simp; omega, hb⟩

end Go.Proofs.Ytcmlnjohjjibnaa
