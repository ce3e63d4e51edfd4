/- SumsTell, SumsJoins, SumsPowers, SumsOne, SumsBehind: the walks. -/
import Derived.Test.YtdkhkjagkmniaaaSumK
import Derived.Test.YtdkhkjagkmniaaaSumE
import Derived.Test.YtdkhkjagkmniaaaSumG
namespace Go.Proofs.Ytdkhkjagkmniaaa
open Go.RowKit
set_option maxRecDepth 1000000
set_option maxHeartbeats 1000000

theorem sumsTell_walk (v : Value) (l : List Nat) (w : World) (hl : Sli w w.heap.size v (cu8 l)) (hx : ∀ x ∈ l, x < 256) :
    Calls Try.prog 3 #[v] w fun e w' => e = .returned (.bool true) ∧ Below w.heap.size w w' := by
  obtain ⟨A, c, rfl, hlc, hcm⟩ := hl.form8
  have h63 : l.length ≤ 9223372036854775807 := by unfold maxLen at hcm; omega
  clear hlc hcm
  by_cases h15 : 1500 < l.length
  · clear hl hx
    go_enter Try.func3, Try.ntmps3
    go_wp2_with (go_at_call 11; refine (known_any _).mono ?_; rintro e w1 ⟨rfl, hb1⟩)
    go_ret
    exact ⟨rfl, hb1⟩
  · have hn : l.length ≤ 1099511627776 := by omega
    have H0 : Hid (∀ w1, Below w.heap.size w w1 → Sli w1 w.heap.size (.slice A l.length c) (cu8 l)) := fun w1 hb => hl.below hb
    have HX := Lib.hid hx
    clear hl hx
    go_enter Try.func3, Try.ntmps3
    go_upto_region 3 with (go_at_call 11; refine (known_any _).mono ?_; rintro e w1 ⟨rfl, hb1⟩)
    have hS := H0.out w1 hb1
    have H8 := Lib.hid (eight_any _ l w1 _ hS HX.out hn)
    have Q8 := Lib.hid (qeight_any _ l w1 _ hS HX.out hn)
    have H16 := Lib.hid (sixteen_any _ l w1 _ hS HX.out hn)
    have Q16 := Lib.hid (qsixteen_any _ l w1 _ hS HX.out hn)
    have H32 := Lib.hid (thirtytwo_any _ l w1 _ hS HX.out hn)
    have Q32 := Lib.hid (qthirtytwo_any _ l w1 _ hS HX.out hn)
    have HP := Lib.hid (print_any _ l w1 _ hS HX.out hn)
    have QP := Lib.hid (fun n => qprint_any _ l (w1.drewN n) _ hS HX.out hn)
    clear hS
    go_wp2_with (first
      | (go_at_call 12; refine (H8.out).mono ?_; rintro e w2 ⟨rfl, rfl⟩)
      | (go_at_call 13; refine (Q8.out).mono ?_; rintro e w2 ⟨rfl, rfl⟩)
      | (go_at_call 14; refine (H16.out).mono ?_; rintro e w2 ⟨rfl, rfl⟩)
      | (go_at_call 15; refine (Q16.out).mono ?_; rintro e w2 ⟨rfl, rfl⟩)
      | (go_at_call 16; refine (H32.out).mono ?_; rintro e w2 ⟨rfl, rfl⟩)
      | (go_at_call 17; refine (Q32.out).mono ?_; rintro e w2 ⟨rfl, rfl⟩)
      | (go_at_call 18; refine (HP.out).mono ?_; rintro e w2 ⟨rfl, n1, rfl⟩)
      | (go_at_call 19; refine (QP.out _).mono ?_; rintro e w2 ⟨rfl, n2, rfl⟩))
    go_ret
    exact ⟨rfl, below_drewN hb1 _⟩

theorem sumsJoins_walk (a b : Nat) (n : Int) (small : Bool) (w : World) (ha : a < 18446744073709551616) (hb : b < 18446744073709551616) (hn1 : -9223372036854775808 ≤ n) (hn2 : n ≤ 9223372036854775807) :
    Calls Try.prog 4 #[.int .u64 a, .int .u64 b, .int .i64 n, .bool small] w fun e w' => e = .returned (.bool true) ∧ Below w.heap.size w w' := by
  have d1 : (a : Int) / 16 = ((a / 16 : Nat) : Int) := by simp
  have d2 : (b : Int) / 16 = ((b / 16 : Nat) : Int) := by simp
  have H1 : Hid (∀ (a b : Nat) (W : World), a < 18446744073709551616 → b < 18446744073709551616 → Calls Try.prog 20 #[.int .u64 a, .int .u64 b, .int .i64 n] W (Drew (.tuple #[.int .u64 (jnI a b n).1, .bool (jnI a b n).2]) W)) := fun a b W ha hb => join_any a b n W ha hb hn1 hn2
  have H2 : Hid (∀ (a b : Nat) (W : World), a < 18446744073709551616 → b < 18446744073709551616 → Calls Try.prog 21 #[.int .u64 a, .int .u64 b, .int .i64 n] W fun e w' => e = .returned (.tuple #[.int .u64 (jnI a b n).1, .bool (jnI a b n).2]) ∧ W = w') := fun a b W ha hb => qjoin_any a b n W ha hb hn1 hn2
  have H3 : Hid (∀ W q, Calls Try.prog 22 #[.int .i64 n] (World.drewN W q) (Drew (.int .u64 (pwI n : Nat)) W)) := fun W q => powerN n W q hn1 hn2
  have H4 : Hid (∀ W, Calls Try.prog 23 #[.int .i64 n] W fun e w' => e = .returned (.int .u64 (pwI n : Nat)) ∧ W = w') := fun W => qpower_any n W hn1 hn2
  by_cases h40 : 1099511627776 < n
  · go_enter Try.func4, Try.ntmps4
    go_wp2_with (go_at_call 11; refine (known_any _).mono ?_; rintro e w1 ⟨rfl, hb1⟩)
    go_ret
    exact ⟨rfl, hb1⟩
  · have hA : Hid (a / 16 < 18446744073709551616 ∧ b / 16 < 18446744073709551616) := ⟨by omega, by omega⟩
    have HA := Lib.hid ha; have HB := Lib.hid hb
    clear ha hb
    obtain ⟨a4, ha4⟩ : ∃ a4, a / 16 = a4 := ⟨_, rfl⟩
    obtain ⟨b4, hb4⟩ : ∃ b4, b / 16 = b4 := ⟨_, rfl⟩
    rw [ha4] at d1 hA
    rw [hb4] at d2 hA
    clear ha4 hb4
    cases small
    · go_enter Try.func4, Try.ntmps4
      go_upto_region 7 with (go_at_call 11; refine (known_any _).mono ?_; rintro e w1 ⟨rfl, hb1⟩)
      have J := Lib.hid (H1.out a b w1 HA.out HB.out)
      have Q := Lib.hid (fun m => H2.out a b (w1.drewN m) HA.out HB.out)
      generalize jnI a b n = r at J Q
      obtain ⟨r1, r2⟩ := r
      go_wp2_with (first
        | (go_at_call 20; refine (J.out).mono ?_; rintro e w2 ⟨rfl, n1, rfl⟩)
        | (go_at_call 21; refine (Q.out _).mono ?_; rintro e w2 ⟨rfl, rfl⟩)
        | (go_at_call 22; refine (H3.out _ _).mono ?_; rintro e w2 ⟨rfl, n2, rfl⟩)
        | (go_at_call 23; refine (H4.out _).mono ?_; rintro e w2 ⟨rfl, rfl⟩))
      go_ret
      exact ⟨rfl, below_drewN hb1 _⟩
    · go_enter Try.func4, Try.ntmps4
      go_upto_region 7 with (go_at_call 11; refine (known_any _).mono ?_; rintro e w1 ⟨rfl, hb1⟩)
      have J := Lib.hid (H1.out a4 b4 w1 hA.out.1 hA.out.2)
      have Q := Lib.hid (fun m => H2.out a4 b4 (w1.drewN m) hA.out.1 hA.out.2)
      generalize jnI a4 b4 n = r at J Q
      obtain ⟨r1, r2⟩ := r
      go_wp2_with (first
        | (go_at_call 20; refine (J.out).mono ?_; rintro e w2 ⟨rfl, n1, rfl⟩)
        | (go_at_call 21; refine (Q.out _).mono ?_; rintro e w2 ⟨rfl, rfl⟩)
        | (go_at_call 22; refine (H3.out _ _).mono ?_; rintro e w2 ⟨rfl, n2, rfl⟩)
        | (go_at_call 23; refine (H4.out _).mono ?_; rintro e w2 ⟨rfl, rfl⟩))
      go_ret
      exact ⟨rfl, below_drewN hb1 _⟩

theorem sumsPowers_walk (m n : Int) (w : World) (_ : -9223372036854775808 ≤ m) (_ : m ≤ 9223372036854775807) (_ : -9223372036854775808 ≤ n) (_ : n ≤ 9223372036854775807) :
    Calls Try.prog 8 #[.int .i64 m, .int .i64 n] w fun e w' => e = .returned (.bool true) ∧ Below w.heap.size w w' := by
  have e1 : bits .and .i64 m 1048575 = m % 1048576 := i64_mask 20 (by omega) m
  have e2 : bits .and .i64 n 1048575 = n % 1048576 := i64_mask 20 (by omega) n
  obtain ⟨x, hx⟩ : ∃ x : Nat, m % 1048576 = (x : Nat) := ⟨(m % 1048576).toNat, by omega⟩
  obtain ⟨y, hy⟩ : ∃ y : Nat, n % 1048576 = (y : Nat) := ⟨(n % 1048576).toNat, by omega⟩
  have hxl : x ≤ 1048575 := by omega
  have hyl : y ≤ 1048575 := by omega
  rw [hx] at e1
  rw [hy] at e2
  clear hx hy
  have p1 := fun W => power_any x W (by omega) (by omega)
  have p2 := fun W q => powerN y W q (by omega) (by omega)
  have p3 := fun W q => powerN ((x : Int) + y) W q (by omega) (by omega)
  have l1 := pw_lt x
  have l2 := pw_lt y
  have j1 := fun W q => joinN (pw x) 0 y W q (by omega) (by omega) (by omega) (by omega)
  have j2 := fun W q => joinN (pw y) 0 x W q (by omega) (by omega) (by omega) (by omega)
  rw [jnI_ok l1 (by omega), jn_pw] at j1
  rw [jnI_ok l2 (by omega), jn_pw, Nat.add_comm] at j2
  rw [show pwI ((x : Int) + y) = pw (x + y) from rfl] at p3
  rw [show pwI (x : Int) = pw x from rfl] at p1
  rw [show pwI (y : Int) = pw y from rfl] at p2
  generalize pw (x + y) = r at *
  generalize pw x = px at *
  generalize pw y = py at *
  have P1 := Lib.hid p1; have P2 := Lib.hid p2; have P3 := Lib.hid p3; have J1 := Lib.hid j1; have J2 := Lib.hid j2
  clear p1 p2 p3 j1 j2 l1 l2
  go_enter Try.func8, Try.ntmps8
  go_upto_region 4 with (go_at_call 11; refine (known_any _).mono ?_; rintro e w1 ⟨rfl, hb1⟩)
  go_wp2_with fail
  refine (P1.out _).mono ?_
  rintro e w2 ⟨rfl, n1, rfl⟩
  go_wp2_with fail
  refine (J1.out _ _).mono ?_
  rintro e w2 ⟨rfl, n2, rfl⟩
  go_wp2_with fail
  refine (P2.out _ _).mono ?_
  rintro e w2 ⟨rfl, n3, rfl⟩
  go_wp2_with fail
  refine (J2.out _ _).mono ?_
  rintro e w2 ⟨rfl, n4, rfl⟩
  go_wp2_with fail
  refine (P3.out _ _).mono ?_
  rintro e w2 ⟨rfl, n5, rfl⟩
  go_wp2
  go_ret
  exact ⟨rfl, below_drewN hb1 _⟩
end Go.Proofs.Ytdkhkjagkmniaaa
