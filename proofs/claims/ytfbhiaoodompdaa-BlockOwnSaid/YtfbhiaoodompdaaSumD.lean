/- math/bits: Div64, Rem64 by P3.2's P. -/
import Derived.Test.YtfbhiaoodompdaaSumU
import Derived.Deep.CutBlock
import Derived.Deep.DeepCutAuto
import Derived.Deep.QuietTactic
import Derived.BigQuiet
namespace Go.Proofs.Ytfbhiaoodompdaa
open Go.RowKit
set_option maxRecDepth 1000000
set_option maxHeartbeats 1000000

def DivPost (hi lo : Nat) (w : World) (e : Ending) (w' : World) : Prop := ∃ q n : Nat, e = .returned (.tuple #[.int .u64 q, .int .u64 ((hi * 18446744073709551616 + lo) % 2305843009213693951 : Nat)]) ∧ w' = w.drewN n

theorem bitLen_P : Lib.bitLen 2305843009213693951 = 61 := by decide +kernel

theorem or_low (a b : Nat) (hb : b < 8) : (8 * a) ||| b = 8 * a + b := by
  have := Nat.two_pow_add_eq_or_of_lt (i := 3) (b := b) hb a
  simpa using this.symm
theorem quo_le (U : Nat) (h : U < 18446744073709551608) : U / 4294967295 ≤ 4294967296 := by omega
theorem quo_first (U A : Nat) (h : U < 18446744073709551608) (hA : A < 4294967296) : (U * 4294967296 + A) / 18446744073709551608 ≤ U / 4294967295 := by omega
theorem quo_lt (U A : Nat) (h : U < 18446744073709551608) (hA : A < 4294967296) : (U * 4294967296 + A) / 18446744073709551608 < 4294967296 := by omega
theorem sub_wrap (U A Q : Nat) (h : Q = (U * 4294967296 + A) / 18446744073709551608) : IntKind.u64.wrap (IntKind.u64.wrap (IntKind.u64.wrap ((U : Int) * 4294967296) + A) - IntKind.u64.wrap ((Q : Int) * 18446744073709551608)) = (((U * 4294967296 + A) % 18446744073709551608 : Nat) : Int) := by
  rw [IntKind.wrap_u64, IntKind.wrap_u64, IntKind.wrap_u64, IntKind.wrap_u64]
  omega

/-- A digit of the quotient: what the loop leaves. -/
def Dig (U A q r : Nat) : Prop := q * 4294967295 + r = U ∧ (U * 4294967296 + A) / 18446744073709551608 ≤ q ∧ q ≤ 4294967296
theorem Dig.start (U A : Nat) (h : U < 18446744073709551608) (hA : A < 4294967296) : Dig U A (U / 4294967295) (U % 4294967295) := ⟨by omega, quo_first U A h hA, quo_le U h⟩
theorem Dig.down {U A q r : Nat} (h : Dig U A q r) (hU : U < 18446744073709551608) (hA : A < 4294967296) (hx : 4294967296 ≤ q ∨ 4294967296 * r + A < q * 4294967288) : Dig U A (q - 1) (r + 4294967295) ∧ 0 < q := by
  obtain ⟨h1, h2, h3⟩ := h
  obtain ⟨a, b, c⟩ := quo_down hU hA h1 h2 hx
  exact ⟨⟨b, a, by omega⟩, c⟩
theorem Dig.done {U A q r : Nat} (h : Dig U A q r) (hU : U < 18446744073709551608) (hA : A < 4294967296) (hx : (q < 4294967296 ∧ q * 4294967288 ≤ 4294967296 * r + A) ∨ 4294967296 ≤ r) : q = (U * 4294967296 + A) / 18446744073709551608 :=
  quo_ok hU hA h.1 h.2.1 hx

theorem Dig.int {U A : Nat} {q r : Int} (h : Dig U A (q.toNat - 1) (r.toNat + 4294967295)) (hq : 0 < q) (hr : 0 ≤ r) : Dig U A (q - 1).toNat (r + 4294967295).toNat := by
  rw [show (q - 1).toNat = q.toNat - 1 by omega, show (r + 4294967295).toNat = r.toNat + 4294967295 by omega]
  exact h
theorem Dig.eq {Q T : Nat} {q : Int} (h : q.toNat = T) (hQ : Q = T) (hq : 0 ≤ q) : Value.int .u64 q = .int .u64 Q := by congr 1; omega
theorem Dig.fin {U A Q r : Nat} {q : Int} (h : Dig U A (q.toNat - 1) r) (hU : U < 18446744073709551608) (hA : A < 4294967296) (hQ : Q = (U * 4294967296 + A) / 18446744073709551608) (hx : (q.toNat - 1 < 4294967296 ∧ (q.toNat - 1) * 4294967288 ≤ 4294967296 * r + A) ∨ 4294967296 ≤ r) (hq : 0 < q) : Value.int .u64 (q - 1) = .int .u64 Q := by
  have := h.done hU hA hx
  congr 1; omega

theorem wrapM' (a b : Nat) : IntKind.u64.wrap (IntKind.u64.wrap ((a : Int) * 4294967296) + b) = (((a * 4294967296 + b) % 18446744073709551616 : Nat) : Int) := by
  rw [IntKind.wrap_u64, IntKind.wrap_u64]; omega
theorem div64_low (lo y : Nat) (w : World) (hl : lo < 18446744073709551616) (h : 0 < y) (hy : y < 18446744073709551616) (HY : Hid (y = 2305843009213693951)) :
    Calls Try.prog 78 #[.int .u64 (0 : Nat), .int .u64 lo, .int .u64 y] w (DivPost 0 lo w) := by
  have y0 : ((y : Int) == 0) = false := by rw [beq_eq_false_iff_ne]; omega
  go_enter Try.func78, Try.ntmps78
  go_upto_region 6 with (fail)
  go_quiet (fail)
  go_wp2
  go_ret2
  refine ⟨lo / y, nq, ?_, rfl⟩
  have e1 : IntKind.u64.wrap ((lo : Int) / y) = ((lo / y : Nat) : Int) := by
    have := Nat.div_le_self lo y
    rw [← Int.natCast_ediv]; exact wrapN _ (by omega)
  have e2 : (lo : Int) % y = ((lo % y : Nat) : Int) := rfl
  rw [Nat.zero_mul, Nat.zero_add, ← HY.out, ← e1, ← e2]
  rfl

theorem div64_high (hi lo y Y U A D C Qt V Qz M G : Nat) (w : World) (h0 : 0 < hi) (h : hi < y) (hy : y < 18446744073709551616) (HY : Hid (y = 2305843009213693951)) (hU : U < 18446744073709551608) (hA : A < 4294967296) (hD : D < 4294967296)
    (e1 : IntKind.u64.wrap ((y : Int) * 8) = (Y : Nat)) (e2 : (Y : Int) / 4294967296 = 4294967295) (e3 : bits .and .u64 (Y : Int) 4294967295 = 4294967288)
    (e4 : bits .or .u64 (IntKind.u64.wrap ((hi : Int) * 8)) ((lo : Int) / 2305843009213693952) = (U : Nat)) (e5 : IntKind.u64.wrap ((lo : Int) * 8) = (C : Nat)) (e6 : (C : Int) / 4294967296 = (A : Nat)) (e7 : bits .and .u64 (C : Int) 4294967295 = (D : Nat))
    (HQ : Hid (Qt = (U * 4294967296 + A) / 18446744073709551608)) (e8 : IntKind.u64.wrap (IntKind.u64.wrap (IntKind.u64.wrap ((U : Int) * 4294967296) + A) - IntKind.u64.wrap ((Qt : Int) * Y)) = (V : Nat)) (hV : V < 18446744073709551608) (HZ : Hid (Qz = (V * 4294967296 + D) / 18446744073709551608)) (e9 : IntKind.u64.wrap (IntKind.u64.wrap (IntKind.u64.wrap ((V : Int) * 4294967296) + D) - IntKind.u64.wrap ((Qz : Int) * Y)) = (M : Nat))
    (e10 : IntKind.u64.wrap (IntKind.u64.wrap ((Qt : Int) * 4294967296) + Qz) = (G : Nat)) (HM : Hid (M / 8 = (hi * 18446744073709551616 + lo) % 2305843009213693951)) :
    Calls Try.prog 78 #[.int .u64 hi, .int .u64 lo, .int .u64 y] w (DivPost hi lo w) := by
  have y0 : ((y : Int) == 0) = false := by rw [beq_eq_false_iff_ne]; omega
  have h0' : ((hi : Int) == 0) = false := by rw [beq_eq_false_iff_ne]; omega
  have hlz := lz_any y w hy
  rw [show 64 - Lib.bitLen y = 3 by rw [HY.out, bitLen_P]] at hlz
  have HLZ := Lib.hid hlz; clear hlz
  obtain ⟨Q0, hQ0⟩ : ∃ Q0, (U : Int) / 4294967295 = (Q0 : Nat) := ⟨U / 4294967295, by omega⟩
  obtain ⟨R0, hR0⟩ : ∃ R0, (U : Int) - (Q0 : Int) * 4294967295 = (R0 : Nat) := ⟨U % 4294967295, by omega⟩
  have hD0 : Dig U A Q0 R0 := by
    rw [show Q0 = U / 4294967295 by omega, show R0 = U % 4294967295 by omega]
    exact Dig.start U A hU hA
  obtain ⟨Q1, hQ1⟩ : ∃ Q1, (V : Int) / 4294967295 = (Q1 : Nat) := ⟨V / 4294967295, by omega⟩
  obtain ⟨R1, hR1⟩ : ∃ R1, (V : Int) - (Q1 : Int) * 4294967295 = (R1 : Nat) := ⟨V % 4294967295, by omega⟩
  have hD1 : Dig V D Q1 R1 := by
    rw [show Q1 = V / 4294967295 by omega, show R1 = V % 4294967295 by omega]
    exact Dig.start V D hV hD
  have hRR1 : R1 < 4294967295 := by omega
  have hQQ1 : Q1 ≤ 4294967296 := hD1.2.2
  have hQR1 : Q1 * 4294967295 + R1 = V := hD1.1
  have hRR : R0 < 4294967295 := by omega
  have hQQ : Q0 ≤ 4294967296 := hD0.2.2
  have hQR : Q0 * 4294967295 + R0 = U := hD0.1
  go_enter Try.func78, Try.ntmps78
  go_upto_region 7 with (fail)
  go_upto_region 8 with (go_at_call 80; refine (HLZ.out).mono ?_; rintro e w' ⟨rfl, rfl⟩)
  go_upto_block 0 with (fail)
  go_cut [15] (fun q wc => q = .int .u64 Qt ∧ w = wc)
  case first =>
    go_wp2_with fail
    go_loop [15, 16] (fun qq rr => ∃ q r : Int, qq = .int .u64 q ∧ rr = .int .u64 r ∧ Dig U A q.toNat r.toNat ∧ 0 ≤ q ∧ q ≤ 4294967296 ∧ 0 ≤ r ∧ r < 4294967296) (fun qq _ => (intOf qq).toNat)
    case atStart => exact ⟨Q0, R0, rfl, rfl, by simpa using hD0, by omega, by omega, by omega, by omega⟩
    case round =>
      obtain ⟨q, r, rfl, rfl, hd, hq0, hq, hr0, hr⟩ := hrel
      have hdn := fun hx => hd.down hU hA hx
      have hdd := fun hx => hd.done hU hA hx
      have HDN := Lib.hid hdn; have HDD := Lib.hid hdd
      clear hdn hdd hd
      by_cases hq2 : 4294967296 ≤ q
      · obtain ⟨hd2, hp⟩ := HDN.out (.inl (by omega))
        have HD2 := Lib.hid hd2
        clear hd2
        by_cases hr2 : r + 4294967295 < 4294967296
        · go_wp2
          go_round
          case rel => exact ⟨q - 1, r + 4294967295, rfl, rfl, Dig.int HD2.out (by omega) (by omega), by omega, by omega, by omega, by omega⟩
          case measure => simp [intOf]; omega
        · go_wp2
          go_meet
          case rel => exact ⟨Dig.fin HD2.out hU hA HQ.out (.inr (by omega)) (by omega), rfl⟩
      · by_cases hx : 4294967296 * r + A < q * 4294967288
        · obtain ⟨hd2, hp⟩ := HDN.out (.inr (by omega))
          have HD2 := Lib.hid hd2
          clear hd2
          by_cases hr2 : r + 4294967295 < 4294967296
          · go_wp2
            go_round
            case rel => exact ⟨q - 1, r + 4294967295, rfl, rfl, Dig.int HD2.out (by omega) (by omega), by omega, by omega, by omega, by omega⟩
            case measure => simp [intOf]; omega
          · go_wp2
            go_meet
            case rel => exact ⟨Dig.fin HD2.out hU hA HQ.out (.inr (by omega)) (by omega), rfl⟩
        · go_wp2
          go_meet
          case rel => exact ⟨Dig.eq (HDD.out (.inl (by omega))) HQ.out hq0, rfl⟩
  case rest =>
    obtain ⟨rfl, rfl⟩ := hcut
    go_upto_block 2 with (fail)
    go_cut [18] (fun q wc => q = .int .u64 Qz ∧ w = wc)
    case first =>
      go_wp2_with fail
      go_loop [18, 16] (fun qq rr => ∃ q r : Int, qq = .int .u64 q ∧ rr = .int .u64 r ∧ Dig V D q.toNat r.toNat ∧ 0 ≤ q ∧ q ≤ 4294967296 ∧ 0 ≤ r ∧ r < 4294967296) (fun qq _ => (intOf qq).toNat)
      case atStart => exact ⟨Q1, R1, rfl, rfl, by simpa using hD1, by omega, by omega, by omega, by omega⟩
      case round =>
        obtain ⟨q, r, rfl, rfl, hd, hq0, hq, hr0, hr⟩ := hrel
        have hdn := fun hx => hd.down hV hD hx
        have hdd := fun hx => hd.done hV hD hx
        have HDN := Lib.hid hdn; have HDD := Lib.hid hdd
        clear hdn hdd hd
        by_cases hq2 : 4294967296 ≤ q
        · obtain ⟨hd2, hp⟩ := HDN.out (.inl (by omega))
          have HD2 := Lib.hid hd2
          clear hd2
          by_cases hr2 : r + 4294967295 < 4294967296
          · go_wp2
            go_round
            case rel => exact ⟨q - 1, r + 4294967295, rfl, rfl, Dig.int HD2.out (by omega) (by omega), by omega, by omega, by omega, by omega⟩
            case measure => simp [intOf]; omega
          · go_wp2
            go_meet
            case rel => exact ⟨Dig.fin HD2.out hV hD HZ.out (.inr (by omega)) (by omega), rfl⟩
        · by_cases hx : 4294967296 * r + D < q * 4294967288
          · obtain ⟨hd2, hp⟩ := HDN.out (.inr (by omega))
            have HD2 := Lib.hid hd2
            clear hd2
            by_cases hr2 : r + 4294967295 < 4294967296
            · go_wp2
              go_round
              case rel => exact ⟨q - 1, r + 4294967295, rfl, rfl, Dig.int HD2.out (by omega) (by omega), by omega, by omega, by omega, by omega⟩
              case measure => simp [intOf]; omega
            · go_wp2
              go_meet
              case rel => exact ⟨Dig.fin HD2.out hV hD HZ.out (.inr (by omega)) (by omega), rfl⟩
          · go_wp2
            go_meet
            case rel => exact ⟨Dig.eq (HDD.out (.inl (by omega))) HZ.out hq0, rfl⟩
    case rest =>
      obtain ⟨rfl, rfl⟩ := hcut
      go_wp2
      go_ret2
      exact ⟨G, 0, by rw [← HM.out]; rfl, rfl⟩

theorem div64_any (hi lo : Nat) (w : World) (h : hi < 2305843009213693951) (hl : lo < 18446744073709551616) :
    Calls Try.prog 78 #[.int .u64 hi, .int .u64 lo, .int .u64 (2305843009213693951 : Nat)] w (DivPost hi lo w) := by
  by_cases h0 : hi = 0
  · subst h0
    exact div64_low lo _ w hl (by omega) (by omega) rfl
  · have hU : hi * 8 + lo / 2305843009213693952 < 18446744073709551608 := by omega
    have hV := Nat.mod_lt ((hi * 8 + lo / 2305843009213693952) * 4294967296 + lo * 8 % 18446744073709551616 / 4294967296) (show 0 < 18446744073709551608 by decide +kernel)
    have e9 := sub_wrap _ (lo * 8 % 18446744073709551616 % 4294967296) _ (rfl : _ = (((hi * 8 + lo / 2305843009213693952) * 4294967296 + lo * 8 % 18446744073709551616 / 4294967296) % 18446744073709551608 * 4294967296 + lo * 8 % 18446744073709551616 % 4294967296) / 18446744073709551608)
    refine div64_high hi lo 2305843009213693951 18446744073709551608 (hi * 8 + lo / 2305843009213693952) (lo * 8 % 18446744073709551616 / 4294967296) (lo * 8 % 18446744073709551616 % 4294967296) (lo * 8 % 18446744073709551616) _ _ _ _ _ w (by omega) h (by omega) rfl hU (by omega) (by omega) (by decide +kernel) (by decide +kernel) (by decide +kernel) ?_ (by rw [IntKind.wrap_u64]; omega) (by omega) (maskN _ (by omega)) rfl
      (sub_wrap _ _ _ rfl) hV rfl e9 (wrapM' _ _) ?_
    · rw [show (lo : Int) / 2305843009213693952 = ((lo / 2305843009213693952 : Nat) : Int) by omega, show IntKind.u64.wrap ((hi : Int) * 8) = ((8 * hi : Nat) : Int) by rw [IntKind.wrap_u64]; omega, bits_or_u64_nat _ _ (by omega) (by omega), or_low _ _ (by omega)]
      omega
    · show _ = _
      rw [← rem_ok hi lo, show lo * 8 % 18446744073709551616 % 4294967296 = lo * 8 % 4294967296 by omega]

/-- Returns v; only answers were drawn. -/
def Drew (v : Value) (w : World) (e : Ending) (w' : World) : Prop := e = .returned v ∧ ∃ n, w' = w.drewN n

theorem rem64_var (hi lo y r : Nat) (w : World) (h : hi < y)
    (HD : Hid (Calls Try.prog 78 #[.int .u64 hi, .int .u64 lo, .int .u64 y] w fun e w' => ∃ q n : Nat, e = .returned (.tuple #[.int .u64 q, .int .u64 r]) ∧ w' = w.drewN n)) :
    Calls Try.prog 70 #[.int .u64 hi, .int .u64 lo, .int .u64 y] w (Drew (.int .u64 r) w) := by
  have hm : (hi : Int) % (y : Int) = (hi : Int) := by rw [← Int.natCast_emod, Nat.mod_eq_of_lt h]
  have y0 : ((y : Int) == 0) = false := by rw [beq_eq_false_iff_ne]; omega
  have y1 : ¬ (y : Int) = 0 := by omega
  have y2 : ¬ y = 0 := by omega
  go_enter Try.func70, Try.ntmps70
  go_wp2_with (go_at_call 78; refine (HD.out).mono ?_; rintro e w' ⟨q, n, rfl, rfl⟩)
  go_ret
  exact ⟨rfl, n, rfl⟩
theorem rem64_any (hi lo : Nat) (w : World) (h : hi < 2305843009213693951) (hl : lo < 18446744073709551616) :
    Calls Try.prog 70 #[.int .u64 hi, .int .u64 lo, .int .u64 (2305843009213693951 : Nat)] w (Drew (.int .u64 ((hi * 18446744073709551616 + lo) % 2305843009213693951 : Nat)) w) :=
  rem64_var hi lo _ _ w h (div64_any hi lo w h hl)
end Go.Proofs.Ytfbhiaoodompdaa
