/- sums: plus, times, Power, Join, Print. -/
import Derived.Test.YtfbhiaoodompdaaSumD
namespace Go.Proofs.Ytfbhiaoodompdaa
open Go.RowKit
set_option maxRecDepth 1000000
set_option maxHeartbeats 1000000

theorem plus_any (a b : Nat) (w : World) (h : a + b < 18446744073709551616) :
    Calls Try.prog 50 #[.int .u64 a, .int .u64 b] w fun e w' => e = .returned (.int .u64 ((a + b) % 2305843009213693951 : Nat)) ∧ w = w' := by
  have hs : IntKind.u64.wrap ((a : Int) + (b : Int)) = ((a + b : Nat) : Int) := by rw [IntKind.wrap_u64]; omega
  have hb : a ≤ 18446744073709551615 := by omega
  clear h
  generalize hc : a + b = c at *
  have hm : (c : Int).tmod 2305843009213693951 = ((c % 2305843009213693951 : Nat) : Int) := rfl
  have hm2 : (c : Int) % 2305843009213693951 = ((c % 2305843009213693951 : Nat) : Int) := rfl
  generalize hd : c % 2305843009213693951 = d at *
  have hdl : d ≤ 2305843009213693950 := by omega
  have HC := Lib.hid hc; have HD := Lib.hid hd; clear hc hd
  go_enter Try.func50, Try.ntmps50
  go_wp2
  go_ret
  exact ⟨rfl, rfl⟩

theorem rem64_lit (hi lo : Nat) (w : World) (h : hi < 2305843009213693951) (hl : lo < 18446744073709551616) :
    Calls Try.prog 70 #[.int .u64 hi, .int .u64 lo, .int .u64 2305843009213693951] w (Drew (.int .u64 ((hi * 18446744073709551616 + lo) % 2305843009213693951 : Nat)) w) := rem64_any hi lo w h hl

theorem times_any (x y : Nat) (w : World) (hx : x < 2305843009213693951) (hy : y < 2305843009213693951) :
    Calls Try.prog 51 #[.int .u64 x, .int .u64 y] w (Drew (.int .u64 (x * y % 2305843009213693951 : Nat)) w) := by
  have hp : x * y ≤ 2305843009213693950 * 2305843009213693950 := Nat.mul_le_mul (by omega) (by omega)
  have h1 := mul64_any x y (by omega) (by omega)
  have h2 := rem64_lit (x * y / 18446744073709551616) (x * y % 18446744073709551616) w (by omega) (by omega)
  rw [show x * y / 18446744073709551616 * 18446744073709551616 + x * y % 18446744073709551616 = x * y by omega] at h2
  generalize x * y / 18446744073709551616 = hi at h1 h2
  generalize x * y % 18446744073709551616 = lo at h1 h2
  generalize x * y % 2305843009213693951 = r at h2 ⊢
  have H1 := Lib.hid h1; have H2 := Lib.hid h2
  clear h1 h2 hp
  go_enter Try.func51, Try.ntmps51
  go_wp2_with (first
    | (go_at_call 69; refine (H1.out _).mono ?_; rintro e w' ⟨rfl, rfl⟩)
    | (go_at_call 70; refine (H2.out).mono ?_; rintro e w' ⟨rfl, n, rfl⟩))
  go_ret
  exact ⟨rfl, n, rfl⟩
theorem timesN (x y : Nat) (w : World) (q : Nat) (hx : x < 2305843009213693951) (hy : y < 2305843009213693951) :
    Calls Try.prog 51 #[.int .u64 x, .int .u64 y] (w.drewN q) (Drew (.int .u64 (x * y % 2305843009213693951 : Nat)) w) :=
  (times_any x y (w.drewN q) hx hy).mono fun _ _ ⟨he, n, hn⟩ => ⟨he, q + n, by rw [hn, World.drewN_drewN]⟩

theorem power_any (n : Int) (w : World) (hn1 : -9223372036854775808 ≤ n) (hn2 : n ≤ 9223372036854775807) :
    Calls Try.prog 52 #[.int .i64 n] w (Drew (.int .u64 (pwI n : Nat)) w) := by
  go_enter Try.func52, Try.ntmps52
  go_wp2
  go_loopw [0, 3, 4] (fun nn oo xx wr => ∃ (m : Int) (o x q : Nat), nn = .int .i64 m ∧ oo = .int .u64 o ∧ xx = .int .u64 x ∧ -9223372036854775808 ≤ m ∧ m ≤ 9223372036854775807 ∧ Hid (o < 2305843009213693951 ∧ x < 2305843009213693951 ∧ o * x ^ m.toNat % 2305843009213693951 = pwI n) ∧ wr = w.drewN q) (fun nn _ _ _ => (intOf nn).toNat)
  case atStart => exact ⟨n, 1, 1000003, 0, rfl, rfl, rfl, hn1, hn2, ⟨by omega, by omega, by rw [Nat.one_mul]; rfl⟩, rfl⟩
  case round =>
    obtain ⟨m, o, x, q, rfl, rfl, rfl, hm1, hm2, HX, hw⟩ := hrel
    by_cases h0 : 0 < m
    · have hs := pw_step o x m.toNat
      have hx2 := Nat.mod_lt (x * x) (show 0 < 2305843009213693951 by omega)
      have ho2 := Nat.mod_lt (o * x) (show 0 < 2305843009213693951 by omega)
      have ht1 := fun W => times_any o x W HX.out.1 HX.out.2.1
      have ht2 := fun W Q => timesN x x W Q HX.out.2.1 HX.out.2.1
      generalize x * x % 2305843009213693951 = x2 at hs hx2 ht2
      generalize o * x % 2305843009213693951 = o2 at hs ho2 ht1
      have HS := Lib.hid hs; have T1 := Lib.hid ht1; have T2 := Lib.hid ht2; have X2 := Lib.hid hx2; have O2 := Lib.hid ho2
      clear hs ht1 ht2 hx2 ho2
      have HW := Lib.hid hw; clear hw
      by_cases h1 : m % 2 = 1
      · have e1 : (m % 2 == 1) = true := by rw [beq_iff_eq]; exact h1
        rw [if_pos (by omega)] at HS
        clear h1
        go_wp2_with fail
        refine (T1.out _).mono ?_
        rintro e w1 ⟨rfl, n1, rfl⟩
        go_wp2_with fail
        refine (T2.out _ _).mono ?_
        rintro e w2 ⟨rfl, n2, rfl⟩
        go_wp2
        refine ⟨⟨m / 2, o2, x2, q + n2, by rfl, rfl, rfl, by omega, by omega, ⟨O2.out, X2.out, ?_⟩, by rw [HW.out, World.drewN_drewN]⟩, by simp [intOf]; omega⟩
        rw [show (m / 2).toNat = m.toNat / 2 by omega, ← HS.out]
        exact HX.out.2.2
      · have e1 : (m % 2 == 1) = false := by rw [beq_eq_false_iff_ne]; exact h1
        rw [if_neg (by omega)] at HS
        clear h1
        go_wp2_with fail
        refine (T2.out _ 0).mono ?_
        rintro e w2 ⟨rfl, n2, rfl⟩
        go_wp2
        refine ⟨⟨m / 2, o, x2, q + n2, by rfl, rfl, rfl, by omega, by omega, ⟨HX.out.1, X2.out, ?_⟩, by rw [HW.out, World.drewN_drewN]⟩, by simp [intOf]; omega⟩
        rw [show (m / 2).toNat = m.toNat / 2 by omega, ← HS.out]
        exact HX.out.2.2
    · go_wp2
      go_ret
      obtain ⟨a1, a2, a3⟩ := HX.out
      subst hw
      refine ⟨?_, q, rfl⟩
      rw [show m.toNat = 0 by omega] at a3
      simp at a3
      rw [← a3, Nat.mod_eq_of_lt a1]
      rfl

theorem print_any (v : Value) (l : List Nat) (w : World) (B : Nat) (hS : Sli w B v (cu8 l)) (hx : ∀ x ∈ l, x < 256) (hn : l.length ≤ 1099511627776) :
    Calls Try.prog 46 #[v] w (Drew (.int .u64 (hs 0 l : Nat)) w) := by
  obtain ⟨A, c, rfl, hl, _, _, _⟩ := hS
  obtain ⟨n, hnn⟩ : ∃ n, n = (cu8 l).length := ⟨_, rfl⟩
  rw [← hnn] at hl ⊢
  have hnb : n ≤ 1099511627776 := by rw [hnn]; simpa [cu8] using hn
  clear hnn
  go_enter Try.func46, Try.ntmps46
  go_wp2
  go_loopw [3, 8] (fun h i wr => ∃ (k q : Nat), k ≤ n ∧ i = .int .i64 k ∧ h = .int .u64 (hs 0 (l.take k) : Nat) ∧ wr = w.drewN q) (fun _ i _ => n - (intOf i).toNat)
  case atStart => exact ⟨0, 0, Nat.zero_le _, rfl, by simp [hs], rfl⟩
  case round =>
    obtain ⟨k, q, hk, rfl, rfl, rfl⟩ := hrel
    have hh := hs_lt (l.take k) 0 (by omega)
    by_cases hlt : k < n
    · obtain ⟨b, o, u, rfl, hb, hcell, hu⟩ := hl.get hlt
      have hkl : k < l.length := by have := hl.1; simp [cu8] at this; omega
      obtain ⟨x, hxk⟩ : ∃ x, l[k]? = some x := ⟨_, List.getElem?_eq_getElem hkl⟩
      have hx' : x < 256 := hx x (List.mem_of_getElem? hxk)
      have hu' : u = .int .u8 (x : Nat) := by simpa [cu8, hxk] using hu.symm
      subst hu'
      have hsn : hs 0 (l.take (k + 1)) = (hs 0 (l.take k) * 1000003 % 2305843009213693951 + (x + 1)) % 2305843009213693951 := by
        rw [List.take_succ_eq_append_getElem hkl, hs_snoc]
        have : l[k] = x := by rw [List.getElem?_eq_getElem hkl] at hxk; simpa using hxk
        rw [this]; omega
      have ht : ∀ W, Calls Try.prog 51 #[.int .u64 (hs 0 (l.take k) : Nat), .int .u64 1000003] W (Drew (.int .u64 (hs 0 (l.take k) * 1000003 % 2305843009213693951 : Nat)) W) := fun W => times_any (hs 0 (l.take k)) 1000003 W hh (by omega)
      have hm := Nat.mod_lt (hs 0 (l.take k) * 1000003) (show 0 < 2305843009213693951 by omega)
      have hp := fun W => plus_any (hs 0 (l.take k) * 1000003 % 2305843009213693951) (x + 1) W (by omega)
      rw [← hsn, show ((x + 1 : Nat) : Int) = (x : Int) + 1 by omega] at hp
      obtain ⟨h2, hh2⟩ : ∃ h2, hs 0 (l.take (k + 1)) = h2 := ⟨_, rfl⟩
      rw [hh2] at hp
      generalize hs 0 (l.take k) * 1000003 % 2305843009213693951 = t at ht hp
      generalize hs 0 (l.take k) = h1 at ht ⊢
      have HT := Lib.hid ht; have HP := Lib.hid hp; have HH := Lib.hid hh2
      clear ht hp hh2 hsn hm hh hu hxk
      go_wp2_with fail
      refine (HT.out _).mono ?_
      rintro e w1 ⟨rfl, n1, rfl⟩
      go_wp2_with fail
      refine (HP.out _).mono ?_
      rintro e w2 ⟨rfl, rfl⟩
      go_wp2
      exact ⟨⟨k + 1, q + n1, by omega, by simp, by rw [HH.out], rfl⟩, by simp [intOf]; omega⟩
    · go_wp2
      go_ret
      have hkn : k = n := by omega
      have hln : n = l.length := by simpa [cu8] using hl.1
      subst hkn; subst hln
      rw [List.take_length]
      exact ⟨rfl, q, rfl⟩

theorem join_any (a b : Nat) (n : Int) (w : World) (ha : a < 18446744073709551616) (hb : b < 18446744073709551616) (hn1 : -9223372036854775808 ≤ n) (hn2 : n ≤ 9223372036854775807) :
    Calls Try.prog 37 #[.int .u64 a, .int .u64 b, .int .i64 n] w (Drew (.tuple #[.int .u64 (jnI a b n).1, .bool (jnI a b n).2]) w) := by
  by_cases h1 : 2305843009213693951 ≤ a
  · rw [show jnI a b n = (0, false) by unfold jnI; rw [if_pos (.inl h1)]]
    have d1 : decide (2305843009213693951 ≤ (a : Int)) = true := by rw [decide_eq_true_eq]; omega
    clear h1 hb
    go_enter Try.func37, Try.ntmps37
    go_wp2
    go_ret2
    exact ⟨rfl, 0, rfl⟩
  · have d1 : decide (2305843009213693951 ≤ (a : Int)) = false := by rw [decide_eq_false_iff_not]; omega
    by_cases h2 : 2305843009213693951 ≤ b
    · rw [show jnI a b n = (0, false) by unfold jnI; rw [if_pos (.inr (.inl h2))]]
      have d2 : decide (2305843009213693951 ≤ (b : Int)) = true := by rw [decide_eq_true_eq]; omega
      clear h1 h2
      go_enter Try.func37, Try.ntmps37
      go_wp2
      go_ret2
      exact ⟨rfl, 0, rfl⟩
    · have d2 : decide (2305843009213693951 ≤ (b : Int)) = false := by rw [decide_eq_false_iff_not]; omega
      by_cases h3 : n < 0
      · rw [show jnI a b n = (0, false) by unfold jnI; rw [if_pos (.inr (.inr h3))]]
        clear h1 h2
        go_enter Try.func37, Try.ntmps37
        go_wp2
        go_ret2
        exact ⟨rfl, 0, rfl⟩
      · rw [show jnI a b n = (jn a b n.toNat, true) by unfold jnI; rw [if_neg (by omega)]]
        have hp := power_any n w hn1 hn2
        have hpl := pwI_lt n
        have hj : jn a b n.toNat = (a * pwI n % 2305843009213693951 + b) % 2305843009213693951 := rfl
        have hm := Nat.mod_lt (a * pwI n) (show 0 < 2305843009213693951 by omega)
        have ht := fun q => timesN a (pwI n) w q (by omega) hpl
        have hq := fun W => plus_any (a * pwI n % 2305843009213693951) b W (by omega)
        rw [← hj] at hq
        generalize jn a b n.toNat = r at hq ⊢
        generalize a * pwI n % 2305843009213693951 = t at ht hq
        generalize pwI n = p at hp ht
        have HP := Lib.hid hp; have HT := Lib.hid ht; have HQ := Lib.hid hq
        clear hp ht hq hm hj hpl h1 h2
        go_enter Try.func37, Try.ntmps37
        go_wp2_with fail
        refine (HP.out).mono ?_
        rintro e w1 ⟨rfl, n1, rfl⟩
        go_wp2_with fail
        refine (HT.out _).mono ?_
        rintro e w2 ⟨rfl, n2, rfl⟩
        go_wp2_with fail
        refine (HQ.out _).mono ?_
        rintro e w3 ⟨rfl, rfl⟩
        go_wp2
        go_ret2
        exact ⟨rfl, n2, rfl⟩
end Go.Proofs.Ytfbhiaoodompdaa
