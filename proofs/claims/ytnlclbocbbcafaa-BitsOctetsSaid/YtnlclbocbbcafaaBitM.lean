/- bits: two writers side by side; BitsSplit. -/
import Derived.Test.YtnlclbocbbcafaaBitK
import Derived.Test.YtnlclbocbbcafaaBitQ
namespace Go.Proofs.Ytnlclbocbbcafaa
open Go.RowKit
set_option maxRecDepth 100000
set_option maxHeartbeats 400000

theorem Mov.apart {w w' : World} {g : Nat} {v v' u : Value} (hm : Mov w w' g v v') (ha : Apart v u) (hu : ∀ k, u.ownBlock = some k → k < w.heap.size) : Apart v' u := by
  intro k hk hk2
  rcases hm.own k hk with h | h
  · exact ha k h hk2
  · have := hu k hk2; omega
theorem apart_nil (u : Value) : Apart (.slice none 0 0) u := fun k hk => by simp [Value.ownBlock] at hk
theorem WrO.ltv {w : World} {base g : Nat} {v : Value} {L : List Bool} (h : WrO w base g v L) : ∀ k, v.ownBlock = some k → k < w.heap.size := by
  obtain ⟨_, _, l, h2, _⟩ := h; exact fun k hk => (h2.lt k hk).2
theorem WqO.ltv {w : World} {base g : Nat} {v : Value} {L : List Bool} (h : WqO w base g v L) : ∀ k, v.ownBlock = some k → k < w.heap.size := by
  obtain ⟨_, _, h2⟩ := h; exact fun k hk => (h2.lt k hk).2
theorem WrO.other {w w' : World} {b1 b2 g1 g2 : Nat} {v1 v1' v2 : Value} {L1 L2 : List Bool} (h1 : WrO w b1 g1 v1 L1) (h2 : WrO w b2 g2 v2 L2) (hne : g2 ≠ g1) (ha : Apart v1 v2) (hm : Mov w w' g1 v1 v1') : WrO w' b2 g2 v2 L2 ∧ Apart v1' v2 := by
  have hl2 := h2.ltv
  obtain ⟨_, hk1, l1, ho1, _⟩ := h1
  have hk2 := h2.2.1
  exact ⟨h2.moved hm hk1 (by decide) hne ha (ho1.ne hk2 (by decide)), hm.apart ha hl2⟩
theorem WrO.otherQ {w w' : World} {b1 b2 g1 g2 : Nat} {v1 v1' v2 : Value} {L1 L2 : List Bool} (h1 : WrO w b1 g1 v1 L1) (h2 : WqO w b2 g2 v2 L2) (hne : g2 ≠ g1) (ha : Apart v1 v2) (hm : Mov w w' g1 v1 v1') : WqO w' b2 g2 v2 L2 ∧ Apart v1' v2 := by
  have hl2 := h2.ltv
  obtain ⟨_, hk1, l1, ho1, _⟩ := h1
  have hk2 := h2.2.1
  exact ⟨h2.moved hm hk1 (by decide) hne ha (ho1.ne hk2 (by decide)), hm.apart ha hl2⟩
theorem WqO.otherW {w w' : World} {b1 b2 g1 g2 : Nat} {v1 v1' v2 : Value} {L1 L2 : List Bool} (h1 : WqO w b1 g1 v1 L1) (h2 : WrO w b2 g2 v2 L2) (hne : g2 ≠ g1) (ha : Apart v1 v2) (hm : Mov w w' g1 v1 v1') : WrO w' b2 g2 v2 L2 ∧ Apart v1' v2 := by
  have hl2 := h2.ltv
  obtain ⟨_, hk1, ho1⟩ := h1
  have hk2 := h2.2.1
  exact ⟨h2.moved hm hk1 (by decide) hne ha (ho1.ne hk2 (by decide)), hm.apart ha hl2⟩
theorem WqO.start (w : World) {base : Nat} (h : base ≤ w.heap.size) : WqO (w.alloc (.cells #[.slice none 0 0] 30)) base w.heap.size (.slice none 0 0) [] :=
  ⟨h, heap_alloc_new w _, Own.nil _ _ _⟩

theorem bitsSplit_walk (v : Nat) (n cut : Int) (w : World) (hv : v < 18446744073709551616) (_ : -9223372036854775808 ≤ n) (_ : n ≤ 9223372036854775807) (_ : -9223372036854775808 ≤ cut) (_ : cut ≤ 9223372036854775807) :
    Calls Try.prog 6 #[.int .u64 v, .int .i64 n, .int .i64 cut] w fun e w' => e = .returned (.bool true) ∧ Below w.heap.size w w' := by
  obtain ⟨k, hk⟩ : ∃ k : Nat, n % 64 = (k : Nat) := ⟨(n % 64).toNat, by omega⟩
  obtain ⟨c, hc⟩ : ∃ c : Nat, cut % 64 = (c : Nat) := ⟨(cut % 64).toNat, by omega⟩
  have hand1 : bits .and .i64 n 63 = (k : Nat) := by rw [← hk]; exact i64_mask 6 (by omega) n
  have hand2 : bits .and .i64 cut 63 = (c : Nat) := by rw [← hc]; exact i64_mask 6 (by omega) cut
  have hk6 : k ≤ 63 := by omega
  have hc6 : c ≤ 63 := by omega
  clear hk hc
  obtain ⟨j, hj⟩ : ∃ j, c % (k + 1) = j := ⟨_, rfl⟩
  have hjk : j ≤ k := by have := Nat.mod_lt c (show 0 < k + 1 by omega); omega
  have hji : (c : Int) % ((k : Int) + 1) = (j : Nat) := by rw [← hj]; simp
  obtain ⟨t, ht⟩ : ∃ t, (k : Int) - (j : Nat) = (t : Nat) := ⟨k - j, by omega⟩
  have hkj : k = j + t := by omega
  have hut : IntKind.u64.wrap ((t : Nat) : Int) = (t : Nat) := IntWalk.u64_in _ (by omega)
  have hl1 := fun W => low_any v k W hv (by omega)
  have hl2 := fun W => low_any v t W hv (by omega)
  obtain ⟨V, hV⟩ : ∃ V, v % 2 ^ k = V := ⟨_, rfl⟩
  have hVk : V < 2 ^ k := by rw [← hV]; exact Nat.mod_lt _ (Nat.pow_pos (by omega))
  have hV64 : V < 18446744073709551616 := Nat.lt_of_lt_of_le hVk (Nat.pow_le_pow_right (n := 2) (by omega) (show k ≤ 64 by omega))
  obtain ⟨V2, hV2⟩ : ∃ V2, v % 2 ^ t = V2 := ⟨_, rfl⟩
  have hVt : V2 < 2 ^ t := by rw [← hV2]; exact Nat.mod_lt _ (Nat.pow_pos (by omega))
  have hV264 : V2 < 18446744073709551616 := Nat.lt_of_lt_of_le hVt (Nat.pow_le_pow_right (n := 2) (by omega) (show t ≤ 64 by omega))
  obtain ⟨V1, hV1⟩ : ∃ V1, V / 2 ^ t = V1 := ⟨_, rfl⟩
  have hV1i : (V : Int) / 2 ^ t = (V1 : Nat) := by rw [← hV1]; simp
  have hV1j : V1 < 2 ^ j := by rw [← hV1, Nat.div_lt_iff_lt_mul (Nat.pow_pos (by omega)), ← Nat.pow_add, ← hkj]; exact hVk
  have hV164 : V1 < 18446744073709551616 := Nat.lt_of_lt_of_le hV1j (Nat.pow_le_pow_right (n := 2) (by omega) (show j ≤ 64 by omega))
  have hp1 : wPut [] V k = (msb V k, 0) := by rw [wPut, Int.toNat_natCast, if_neg (by omega)]; simp
  have hp2 : wPut [] V1 j = (msb V1 j, 0) := by rw [wPut, Int.toNat_natCast, if_neg (by omega)]; simp
  have hp3 : wPut (msb V1 j) V2 t = (msb V k, 0) := by
    rw [wPut, Int.toNat_natCast, if_neg (by omega), hkj, msb_add, hV1]
    congr 2
    rw [← hV2, ← msb_mod V t, ← hV, hkj, Nat.mod_mod_of_dvd _ (Nat.pow_dvd_pow 2 (by omega : t ≤ j + t))]
  rw [hV] at hl1
  rw [hV2] at hl2
  have HL1 := Lib.hid hl1; have HL2 := Lib.hid hl2; have HP1 := Lib.hid hp1; have HP2 := Lib.hid hp2; have HP3 := Lib.hid hp3
  clear hl1 hl2 hp1 hp2 hp3 hV hV1 hV2 hVk hVt hV1j hj hkj
  go_enter Try.func6, Try.ntmps6
  go_upto_region 5 with (go_at_call 10; refine (known_any _).mono ?_; rintro e w1 ⟨rfl, hb1⟩)
  obtain ⟨wa, hwa⟩ : ∃ wa, w1.alloc (.cells #[.slice none 0 0, .int .i64 0] 27) = wa := ⟨_, rfl⟩
  have hA0 := WrO.start w1 (Nat.le_refl _)
  rw [hwa] at hA0
  have hsz : wa.heap.size = w1.heap.size + 1 := by rw [← hwa]; simp
  have hB0 := WrO.start wa (base := w1.heap.size) (by omega)
  rw [hsz] at hB0
  have hba : Below w1.heap.size w1 wa := by rw [← hwa]; exact (Below.refl _ _).alloc (Nat.le_refl _) _
  have hbb := hba.alloc hba.size (.cells #[.slice none 0 0, .int .i64 0] 27)
  have hA1 := hA0.below ((Below.refl _ wa).alloc (Nat.le_refl _) (.cells #[.slice none 0 0, .int .i64 0] 27))
  rw [← hwa] at hA1 hB0 hbb
  obtain ⟨wb, hwb⟩ : ∃ wb, (w1.alloc (.cells #[.slice none 0 0, .int .i64 0] 27)).alloc (.cells #[.slice none 0 0, .int .i64 0] 27) = wb := ⟨_, rfl⟩
  have hb1b : Below w.heap.size w wb := by rw [← hwb]; exact bthen hb1 hbb hb1.size
  have HWB := Lib.hid hwb
  rw [hwb] at hA1 hB0 hbb
  clear hwb hA0 hba hwa hsz
  go_wp2_with (first
    | (go_at_call_of 36 (Value.int .i64 (k : Int)); refine (HL1.out _).mono ?_; rintro e w0 ⟨rfl, rfl⟩)
    | (go_at_call_of 36 (Value.int .i64 (t : Int)); refine (HL2.out _).mono ?_; rintro e w0 ⟨rfl, rfl⟩)
    | (go_at_call_of 11 (Value.int .u64 (V : Int)); rw [HWB.out]; refine (wput_any hA1 (by simp) hbb.size V k hV64 (by omega) (by omega)).mono ?_; rw [HP1.out]; rintro e w2 ⟨rfl, v2, hA2, hm2⟩; obtain ⟨hB2, hap2⟩ := hA1.other hB0 (by omega) (apart_nil _) hm2; have hb2 := hbb.trans (hm2.below hA1.1 hA1.rows hbb.size))
    | (go_at_call_of 11 (Value.int .u64 (V1 : Int)); refine (wput_any hB2 (by simp) hb2.size V1 j hV164 (by omega) (by omega)).mono ?_; rw [HP2.out]; rintro e w3 ⟨rfl, v3, hB3, hm3⟩; obtain ⟨hA3, hap3⟩ := hB2.other hA2 (by omega) hap2.symm hm3; have hb3 := hb2.trans (hm3.below hB2.1 hB2.rows hb2.size))
    | (go_at_call_of 11 (Value.int .u64 (V2 : Int)); refine (wput_any hB3 (by rw [msb_len]; omega) hb3.size V2 t hV264 (by omega) (by omega)).mono ?_; rw [HP3.out]; rintro e w4 ⟨rfl, v4, hB4, hm4⟩; obtain ⟨hA4, hap4⟩ := hB3.other hA3 (by omega) hap3 hm4; have hb4 := hb3.trans (hm4.below hB3.1 hB3.rows hb3.size))
    | (go_at_call_of 17 (Value.pointer (some ⟨w1.heap.size, 0, none⟩)); refine (wlen_any hA4).mono ?_; rw [msb_len]; rintro e w5 ⟨rfl, rfl⟩))
  refine (wlen_any hB4).mono ?_
  rw [msb_len]
  rintro e w5 ⟨rfl, rfl⟩
  go_wp2_with fail
  refine (wbytes_any hA4 (by rw [msb_len]; omega)).mono ?_
  rintro e w5 ⟨v5, l5, rfl, hP5, ho5, hb45⟩
  obtain ⟨A5, n5, c5, rfl⟩ := ho5.shape
  have hB5 := hB4.below hb45
  have hb5 := bthen hb4 hb45 hb4.size
  go_wp2_with fail
  refine (wbytes_any hB5 (by rw [msb_len]; omega)).mono ?_
  rintro e w6 ⟨v6, l6, rfl, hP6, ho6, hb56⟩
  obtain ⟨A6, n6, c6, rfl⟩ := ho6.shape
  have hb6 := bthen hb5 hb56 hb5.size
  obtain rfl := hP5.uniq hP6
  go_wp2_with fail
  refine (same_any _ _ l5 l5 w6 _ _ (ho5.sli.below hb56) ho6.sli hP5.byte hP5.byte).mono ?_
  rw [decide_eq_true rfl]
  rintro e w7 ⟨rfl, rfl⟩
  go_wp2
  go_ret
  exact ⟨rfl, bthen hb1 hb6 hb1.size⟩

end Go.Proofs.Ytnlclbocbbcafaa
