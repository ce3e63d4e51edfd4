/- The reference's plus, times, base, Print, Power, Join. -/
import Derived.Test.YtdkhkjagkmniaaaSumD
namespace Go.Proofs.Ytdkhkjagkmniaaa
open Go.RowKit
set_option maxRecDepth 1000000
set_option maxHeartbeats 1000000

theorem qplus_any (a b : Nat) (w : World) (h : a + b < 18446744073709551616) :
    Calls Try.prog 29 #[.int .u64 a, .int .u64 b] w fun e w' => e = .returned (.int .u64 ((a + b) % 2305843009213693951 : Nat)) ∧ w = w' := by
  have hs : IntKind.u64.wrap ((a : Int) + (b : Int)) = ((a + b : Nat) : Int) := by rw [IntKind.wrap_u64]; omega
  have hb : a ≤ 18446744073709551615 := by omega
  clear h
  generalize hc : a + b = c at *
  have hm : (c : Int).tmod 2305843009213693951 = ((c % 2305843009213693951 : Nat) : Int) := rfl
  have hm2 : (c : Int) % 2305843009213693951 = ((c % 2305843009213693951 : Nat) : Int) := rfl
  generalize hd : c % 2305843009213693951 = d at *
  have hdl : d ≤ 2305843009213693950 := by omega
  have HC := Lib.hid hc; have HD := Lib.hid hd; clear hc hd
  go_enter Try.func29, Try.ntmps29
  go_wp2
  go_ret
  exact ⟨rfl, rfl⟩

theorem bit_one (b i : Nat) : bits .and .u64 ((b : Int) / 2 ^ i) 1 = ((b / 2 ^ i % 2 : Nat) : Int) := by
  have e : (b : Int) / 2 ^ i = ((b / 2 ^ i : Nat) : Int) := by simp
  rw [e]
  exact u64_mask 1 (by omega) _

theorem qtimes_any (a b : Nat) (w : World) (ha : a < 2305843009213693951) (hb : b < 2305843009213693952) :
    Calls Try.prog 31 #[.int .u64 a, .int .u64 b] w fun e w' => e = .returned (.int .u64 (a * b % 2305843009213693951 : Nat)) ∧ w = w' := by
  go_enter Try.func31, Try.ntmps31
  go_wp2
  go_loop [5, 6] (fun oo i => ∃ j : Nat, j ≤ 61 ∧ i = .int .i64 ((j : Int) - 1) ∧ oo = .int .u64 (a * (b / 2 ^ j) % 2305843009213693951 : Nat)) (fun _ i => (intOf i + 1).toNat)
  case atStart => exact ⟨61, by omega, rfl, by rw [Nat.div_eq_of_lt (by omega)]; rfl⟩
  case round =>
    obtain ⟨j, hj, rfl, rfl⟩ := hrel
    by_cases hj0 : j = 0
    · subst hj0
      go_wp2
      go_ret
      exact ⟨by simp, rfl⟩
    · obtain ⟨i, rfl⟩ : ∃ i, j = i + 1 := ⟨j - 1, by omega⟩
      have hi : ((i + 1 : Nat) : Int) - 1 = (i : Nat) := by omega
      have hui : IntKind.u64.wrap ((i : Nat) : Int) = (i : Nat) := IntWalk.u64_in _ (by omega)
      have hbit := bit_one b i
      have hd := digit a b i
      have hol := Nat.mod_lt (a * (b / 2 ^ (i + 1))) (show 0 < 2305843009213693951 by omega)
      generalize a * (b / 2 ^ (i + 1)) % 2305843009213693951 = o at hd hol ⊢
      have hol2 := Nat.mod_lt (o + o) (show 0 < 2305843009213693951 by omega)
      have hp1 := fun W => qplus_any o o W (by omega)
      have hp2 := fun W => qplus_any ((o + o) % 2305843009213693951) a W (by omega)
      generalize (o + o) % 2305843009213693951 = o2 at hd hol2 hp1 hp2
      have HP1 := Lib.hid hp1; have HP2 := Lib.hid hp2
      clear hp1 hp2
      by_cases hz : b / 2 ^ i % 2 = 1
      · rw [hz] at hbit
        rw [if_pos hz] at hd
        have HD := Lib.hid hd; have HZ := Lib.hid hz
        clear hd hz
        go_wp2_with fail
        refine (HP1.out _).mono ?_
        rintro e w1 ⟨rfl, rfl⟩
        go_wp2_with fail
        refine (HP2.out _).mono ?_
        rintro e w1 ⟨rfl, rfl⟩
        go_wp2
        refine ⟨⟨i, by omega, rfl, by rw [← HD.out]; rfl⟩, by simp [intOf]⟩
      · rw [show b / 2 ^ i % 2 = 0 by omega] at hbit
        rw [if_neg hz, Nat.add_zero, Nat.mod_eq_of_lt hol2] at hd
        have HD := Lib.hid hd; have HZ := Lib.hid hz
        clear hd hz
        go_wp2_with fail
        refine (HP1.out _).mono ?_
        rintro e w1 ⟨rfl, rfl⟩
        go_wp2
        refine ⟨⟨i, by omega, rfl, by rw [HD.out]⟩, by simp [intOf]⟩

theorem qbase_var (a a0 x lo g h s t y z r : Nat) (w : World)
    (e1 : bits .and .u64 (a : Int) 1099511627775 = (a0 : Nat)) (e2 : (a0 : Int) * 1000003 = (x : Nat)) (hl1 : a0 ≤ 1099511627775) (hl2 : x ≤ 1099514926309883325)
    (e3 : (x : Int) % 2305843009213693951 = (lo : Nat)) (e3b : (x : Int).tmod 2305843009213693951 = (lo : Nat)) (hl3 : lo ≤ 2305843009213693950)
    (e4 : (a : Int) / 1099511627776 = (g : Nat)) (e5 : (g : Int) * 1000003 = (h : Nat)) (hl4 : g ≤ 2097151) (hl5 : h ≤ 2097157291453)
    (e6 : bits .and .u64 (IntKind.u64.wrap ((h : Int) * 1099511627776)) 2305843009213693951 = (s : Nat)) (e7 : (h : Int) / 2097152 = (t : Nat)) (e8 : (s : Int) + (t : Int) = (y : Nat))
    (hl6 : s ≤ 2305841909702066176) (hl7 : t ≤ 1000003) (hl8 : y ≤ 2305841909703066179)
    (e9 : (y : Int) % 2305843009213693951 = (z : Nat)) (e9b : (y : Int).tmod 2305843009213693951 = (z : Nat)) (hl9 : z ≤ 2305843009213693950)
    (HP : Hid (∀ W, Calls Try.prog 29 #[.int .u64 lo, .int .u64 z] W fun e w' => e = .returned (.int .u64 r) ∧ W = w')) :
    Calls Try.prog 30 #[.int .u64 a] w fun e w' => e = .returned (.int .u64 r) ∧ w = w' := by
  go_enter Try.func30, Try.ntmps30
  go_wp2_with (go_at_call 29; refine (HP.out _).mono ?_; rintro e w' ⟨rfl, rfl⟩)
  go_ret
  exact ⟨rfl, rfl⟩
theorem qbase_and (h : Nat) : bits .and .u64 (IntKind.u64.wrap ((h : Int) * 1099511627776)) 2305843009213693951 = ((h % 2097152 * 1099511627776 : Nat) : Int) := by
  rw [show IntKind.u64.wrap ((h : Int) * 1099511627776) = ((h * 1099511627776 % 18446744073709551616 : Nat) : Int) by rw [IntKind.wrap_u64]; omega]
  rw [show ((h % 2097152 * 1099511627776 : Nat) : Int) = ((h * 1099511627776 % 18446744073709551616 % 2 ^ 61 : Nat) : Int) by omega]
  exact u64_mask 61 (by omega) (h * 1099511627776 % 18446744073709551616)
theorem qbase_any (a : Nat) (w : World) (ha : a < 2305843009213693951) :
    Calls Try.prog 30 #[.int .u64 a] w fun e w' => e = .returned (.int .u64 (a * 1000003 % 2305843009213693951 : Nat)) ∧ w = w' := by
  rw [← base_step a]
  have h1 : a % 1099511627776 ≤ 1099511627775 := by omega
  have h4 : a / 1099511627776 ≤ 2097151 := by omega
  refine qbase_var a (a % 1099511627776) (a % 1099511627776 * 1000003) (a % 1099511627776 * 1000003 % 2305843009213693951) (a / 1099511627776) (a / 1099511627776 * 1000003) (a / 1099511627776 * 1000003 % 2097152 * 1099511627776) (a / 1099511627776 * 1000003 / 2097152) (a / 1099511627776 * 1000003 % 2097152 * 1099511627776 + a / 1099511627776 * 1000003 / 2097152) ((a / 1099511627776 * 1000003 % 2097152 * 1099511627776 + a / 1099511627776 * 1000003 / 2097152) % 2305843009213693951) _ w (u64_mask 40 (by omega) a) (by omega) h1 (by omega) rfl rfl ?_ (by omega) (by omega) h4 (by omega) (qbase_and _) (by omega) (Int.natCast_add _ _).symm ?_ ?_ ?_ rfl rfl ?_ ?_
  · have := Nat.mod_lt (a % 1099511627776 * 1000003) (show 0 < 2305843009213693951 by omega); omega
  · clear h1; omega
  · clear h1; omega
  · clear h1; omega
  · have := Nat.mod_lt (a / 1099511627776 * 1000003 % 2097152 * 1099511627776 + a / 1099511627776 * 1000003 / 2097152) (show 0 < 2305843009213693951 by omega); omega
  · intro W
    exact qplus_any _ _ W (by
      have := Nat.mod_lt (a % 1099511627776 * 1000003) (show 0 < 2305843009213693951 by omega)
      have := Nat.mod_lt (a / 1099511627776 * 1000003 % 2097152 * 1099511627776 + a / 1099511627776 * 1000003 / 2097152) (show 0 < 2305843009213693951 by omega)
      omega)

theorem qpower_any (n : Int) (w : World) (hn1 : -9223372036854775808 ≤ n) (hn2 : n ≤ 9223372036854775807) :
    Calls Try.prog 23 #[.int .i64 n] w fun e w' => e = .returned (.int .u64 (pwI n : Nat)) ∧ w = w' := by
  go_enter Try.func23, Try.ntmps23
  go_wp2
  go_loop [0, 3, 4] (fun nn oo xx => ∃ (m : Int) (o x : Nat), nn = .int .i64 m ∧ oo = .int .u64 o ∧ xx = .int .u64 x ∧ -9223372036854775808 ≤ m ∧ m ≤ 9223372036854775807 ∧ Hid (o < 2305843009213693951 ∧ x < 2305843009213693951 ∧ o * x ^ m.toNat % 2305843009213693951 = pwI n)) (fun nn _ _ => (intOf nn).toNat)
  case atStart => exact ⟨n, 1, 1000003, rfl, rfl, rfl, hn1, hn2, ⟨by omega, by omega, by rw [Nat.one_mul]; rfl⟩⟩
  case round =>
    obtain ⟨m, o, x, rfl, rfl, rfl, hm1, hm2, HX⟩ := hrel
    by_cases h0 : 0 < m
    · have hs := pw_step o x m.toNat
      have hx2 := Nat.mod_lt (x * x) (show 0 < 2305843009213693951 by omega)
      have ho2 := Nat.mod_lt (o * x) (show 0 < 2305843009213693951 by omega)
      have ht1 := fun W => qtimes_any o x W HX.out.1 (by have := HX.out.2.1; omega)
      have ht2 := fun W => qtimes_any x x W HX.out.2.1 (by have := HX.out.2.1; omega)
      have hand : bits .and .i64 m 1 = m % 2 := i64_mask 1 (by omega) m
      generalize x * x % 2305843009213693951 = x2 at hs hx2 ht2
      generalize o * x % 2305843009213693951 = o2 at hs ho2 ht1
      have HS := Lib.hid hs; have T1 := Lib.hid ht1; have T2 := Lib.hid ht2; have X2 := Lib.hid hx2; have O2 := Lib.hid ho2
      clear hs ht1 ht2 hx2 ho2
      by_cases h1 : m % 2 = 1
      · rw [h1] at hand
        rw [if_pos (by omega)] at HS
        have H1 := Lib.hid h1
        clear h1
        go_wp2_with fail
        refine (T1.out _).mono ?_
        rintro e w1 ⟨rfl, rfl⟩
        go_wp2_with fail
        refine (T2.out _).mono ?_
        rintro e w2 ⟨rfl, rfl⟩
        go_wp2
        refine ⟨⟨m / 2, o2, x2, by rfl, rfl, rfl, by omega, by omega, ⟨O2.out, X2.out, ?_⟩⟩, by simp [intOf]; omega⟩
        rw [show (m / 2).toNat = m.toNat / 2 by omega, ← HS.out]
        exact HX.out.2.2
      · rw [show m % 2 = 0 by omega] at hand
        rw [if_neg (by omega)] at HS
        have H1 := Lib.hid h1
        clear h1
        go_wp2_with fail
        refine (T2.out _).mono ?_
        rintro e w2 ⟨rfl, rfl⟩
        go_wp2
        refine ⟨⟨m / 2, o, x2, by rfl, rfl, rfl, by omega, by omega, ⟨HX.out.1, X2.out, ?_⟩⟩, by simp [intOf]; omega⟩
        rw [show (m / 2).toNat = m.toNat / 2 by omega, ← HS.out]
        exact HX.out.2.2
    · go_wp2
      go_ret
      obtain ⟨a1, a2, a3⟩ := HX.out
      refine ⟨?_, rfl⟩
      rw [show m.toNat = 0 by omega] at a3
      simp at a3
      rw [← a3, Nat.mod_eq_of_lt a1]
      rfl

theorem qjoin_any (a b : Nat) (n : Int) (w : World) (ha : a < 18446744073709551616) (hb : b < 18446744073709551616) (hn1 : -9223372036854775808 ≤ n) (hn2 : n ≤ 9223372036854775807) :
    Calls Try.prog 21 #[.int .u64 a, .int .u64 b, .int .i64 n] w fun e w' => e = .returned (.tuple #[.int .u64 (jnI a b n).1, .bool (jnI a b n).2]) ∧ w = w' := by
  by_cases h1 : 2305843009213693951 ≤ a
  · rw [show jnI a b n = (0, false) by unfold jnI; rw [if_pos (.inl h1)]]
    have d1 : decide (2305843009213693951 ≤ (a : Int)) = true := by rw [decide_eq_true_eq]; omega
    clear h1 hb
    go_enter Try.func21, Try.ntmps21
    go_wp2
    go_ret2
    exact ⟨rfl, rfl⟩
  · have d1 : decide (2305843009213693951 ≤ (a : Int)) = false := by rw [decide_eq_false_iff_not]; omega
    by_cases h2 : 2305843009213693951 ≤ b
    · rw [show jnI a b n = (0, false) by unfold jnI; rw [if_pos (.inr (.inl h2))]]
      have d2 : decide (2305843009213693951 ≤ (b : Int)) = true := by rw [decide_eq_true_eq]; omega
      clear h1 h2
      go_enter Try.func21, Try.ntmps21
      go_wp2
      go_ret2
      exact ⟨rfl, rfl⟩
    · have d2 : decide (2305843009213693951 ≤ (b : Int)) = false := by rw [decide_eq_false_iff_not]; omega
      by_cases h3 : n < 0
      · rw [show jnI a b n = (0, false) by unfold jnI; rw [if_pos (.inr (.inr h3))]]
        clear h1 h2
        go_enter Try.func21, Try.ntmps21
        go_wp2
        go_ret2
        exact ⟨rfl, rfl⟩
      · rw [show jnI a b n = (jn a b n.toNat, true) by unfold jnI; rw [if_neg (by omega)]]
        have hp := fun W => qpower_any n W hn1 hn2
        have hpl := pwI_lt n
        have hj : jn a b n.toNat = (a * pwI n % 2305843009213693951 + b) % 2305843009213693951 := rfl
        have hm := Nat.mod_lt (a * pwI n) (show 0 < 2305843009213693951 by omega)
        have ht := fun W => qtimes_any a (pwI n) W (by omega) (by omega)
        have hq := fun W => qplus_any (a * pwI n % 2305843009213693951) b W (by omega)
        rw [← hj] at hq
        generalize jn a b n.toNat = r at hq ⊢
        generalize a * pwI n % 2305843009213693951 = t at ht hq
        generalize pwI n = p at hp ht
        have HP := Lib.hid hp; have HT := Lib.hid ht; have HQ := Lib.hid hq
        clear hp ht hq hm hj hpl h1 h2
        go_enter Try.func21, Try.ntmps21
        go_wp2_with fail
        refine (HP.out _).mono ?_
        rintro e w1 ⟨rfl, rfl⟩
        go_wp2_with fail
        refine (HT.out _).mono ?_
        rintro e w2 ⟨rfl, rfl⟩
        go_wp2_with fail
        refine (HQ.out _).mono ?_
        rintro e w3 ⟨rfl, rfl⟩
        go_wp2
        go_ret2
        exact ⟨rfl, rfl⟩

theorem qprint_any (v : Value) (l : List Nat) (w : World) (B : Nat) (hS : Sli w B v (cu8 l)) (hx : ∀ x ∈ l, x < 256) (hn : l.length ≤ 1099511627776) :
    Calls Try.prog 19 #[v] w (Drew (.int .u64 (hs 0 l : Nat)) w) := by
  obtain ⟨A, c, rfl, hl, _, _, _⟩ := hS
  obtain ⟨n, hnn⟩ : ∃ n, n = (cu8 l).length := ⟨_, rfl⟩
  rw [← hnn] at hl ⊢
  have hnb : n ≤ 1099511627776 := by rw [hnn]; simpa [cu8] using hn
  clear hnn
  go_enter Try.func19, Try.ntmps19
  go_wp2
  go_loopw [3, 4] (fun h i wr => ∃ (k q : Nat), k ≤ n ∧ i = .int .i64 k ∧ h = .int .u64 (hs 0 (l.take k) : Nat) ∧ wr = w.drewN q) (fun _ i _ => n - (intOf i).toNat)
  case atStart => exact ⟨0, 0, Nat.zero_le _, rfl, by simp [hs], rfl⟩
  case round =>
    obtain ⟨k, q, hk, rfl, rfl, hwr⟩ := hrel
    have hh := hs_lt (l.take k) 0 (by omega)
    by_cases hlt : k < n
    · obtain ⟨b, o, u, rfl, hb, hcell, hu⟩ := hl.get hlt
      have hkl : k < l.length := by have := hl.1; simp [cu8] at this; omega
      obtain ⟨x, hxk⟩ : ∃ x, l[k]? = some x := ⟨_, List.getElem?_eq_getElem hkl⟩
      have hx' : x < 256 := hx x (List.mem_of_getElem? hxk)
      have hu' : u = .int .u8 (x : Nat) := by simpa [cu8, hxk] using hu.symm
      subst hu'
      have hcell : wr.cell? ⟨b, o + k, none⟩ = some (.int .u8 (x : Nat)) := by rw [hwr]; exact hcell
      have HW := Lib.hid hwr; clear hwr
      have hsn : hs 0 (l.take (k + 1)) = (hs 0 (l.take k) * 1000003 % 2305843009213693951 + (x + 1)) % 2305843009213693951 := by
        rw [List.take_succ_eq_append_getElem hkl, hs_snoc]
        have : l[k] = x := by rw [List.getElem?_eq_getElem hkl] at hxk; simpa using hxk
        rw [this]; omega
      have ht := fun W => qbase_any (hs 0 (l.take k)) W hh
      have hm := Nat.mod_lt (hs 0 (l.take k) * 1000003) (show 0 < 2305843009213693951 by omega)
      have hp := fun W => qplus_any (hs 0 (l.take k) * 1000003 % 2305843009213693951) (x + 1) W (by omega)
      rw [← hsn, show ((x + 1 : Nat) : Int) = (x : Int) + 1 by omega] at hp
      obtain ⟨h2, hh2⟩ : ∃ h2, hs 0 (l.take (k + 1)) = h2 := ⟨_, rfl⟩
      rw [hh2] at hp
      generalize hs 0 (l.take k) * 1000003 % 2305843009213693951 = t at ht hp
      generalize hs 0 (l.take k) = h1 at ht ⊢
      have HT := Lib.hid ht; have HP := Lib.hid hp; have HH := Lib.hid hh2
      have hwr : IntKind.u64.wrap ((x : Int) + 1) = (x : Int) + 1 := IntWalk.u64_in _ (by omega)
      have hi1 : (k : Int) < n := by omega
      clear ht hp hh2 hsn hm hh hu hxk
      go_upto_region 5 with (fail)
      go_quiet ((first | (go_at_call 30; exact quietLN (HT.out _)) | (go_at_call 29; exact quietLN (HP.out _))))
      go_wp2
      exact ⟨⟨k + 1, q + nq, by omega, by simp, by rw [HH.out], by rw [HW.out, World.drewN_drewN]⟩, by simp [intOf]; omega⟩
    · go_wp2
      go_ret
      have hkn : k = n := by omega
      have hln : n = l.length := by simpa [cu8] using hl.1
      subst hkn; subst hln
      rw [List.take_length]
      exact ⟨rfl, q, rfl⟩
end Go.Proofs.Ytdkhkjagkmniaaa
