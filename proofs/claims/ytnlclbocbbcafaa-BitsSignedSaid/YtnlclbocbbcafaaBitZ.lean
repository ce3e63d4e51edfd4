/- bits: BitsZeros, BitsSigned. -/
import Derived.Test.YtnlclbocbbcafaaBitK
namespace Go.Proofs.Ytnlclbocbbcafaa
open Go.RowKit
set_option maxRecDepth 100000
set_option maxHeartbeats 400000

theorem unary_one {l : List Nat} {k : Nat} (hP : Packed l (msb 1 (k + 1))) (m : Int) :
    gUnary (bitAt l) (8 * l.length) 0 0 m = if k ≤ m.toNat then (k, k + 1, 0) else (0, 0, 2) := by
  have hl := hP.len
  rw [msb_len] at hl
  have hz := zer_at (f := bitAt l) (most := m.toNat) (p := 0) (k := k) (8 * l.length - 0) 0 (Nat.zero_le _) (by omega) (Nat.zero_le _)
    (fun j _ h => by
      rw [hP.bit, gb_msb, Nat.zero_add, show k + 1 - 1 - j = (k - 1 - j) + 1 by omega, Nat.testBit_succ]
      simp)
    (by rw [hP.bit, gb_msb, Nat.zero_add, show k + 1 - 1 - k = 0 by omega]; simp)
  unfold gUnary
  rw [if_pos rfl, hz]
  by_cases h : k ≤ m.toNat
  · rw [if_pos h, if_pos h]; simp
  · rw [if_neg h, if_neg h]; simp

theorem bitsZeros_walk (n most : Int) (w : World) (hn1 : -9223372036854775808 ≤ n) (hn2 : n ≤ 9223372036854775807) (hm1 : -9223372036854775808 ≤ most) (hm2 : most ≤ 9223372036854775807) :
    Calls Try.prog 9 #[.int .i64 n, .int .i64 most] w fun e w' => e = .returned (.bool true) ∧ Below w.heap.size w w' := by
  by_cases h1 : 1073741824 < most
  · go_enter Try.func9, Try.ntmps9
    go_wp2_with (go_at_call 10; refine (known_any _).mono ?_; rintro e w1 ⟨rfl, hb1⟩)
    go_ret
    exact ⟨rfl, hb1⟩
  by_cases h2 : most < -1073741824
  · go_enter Try.func9, Try.ntmps9
    go_wp2_with (go_at_call 10; refine (known_any _).mono ?_; rintro e w1 ⟨rfl, hb1⟩)
    go_ret
    exact ⟨rfl, hb1⟩
  obtain ⟨k, hk⟩ : ∃ k : Nat, n % 512 = (k : Nat) := ⟨(n % 512).toNat, by omega⟩
  have hand : bits .and .i64 n 511 = (k : Nat) := by
    have := i64_mask 9 (by omega) n
    rw [← hk]; exact this
  have hk5 : k ≤ 511 := by omega
  clear hk
  have hu : wUnary [] (k : Int) = (msb 1 (k + 1), 0) := by rw [wUnary, if_neg (by omega)]; simp
  have HU := Lib.hid hu
  have HS := fun (W : World) => Lib.hid (WrO.start W (Nat.le_refl _))
  have hz := fun (l : List Nat) (hP : Packed l (msb 1 (k + 1))) => unary_one hP most
  have HZ := Lib.hid hz
  clear hu hz
  by_cases hc : k ≤ most.toNat
  · simp only [hc, if_true] at HZ
    have hmx : (k : Int) ≤ max most 0 := by omega
    go_enter Try.func9, Try.ntmps9
    go_wp2_with (first
      | (go_at_call 10; refine (known_any _).mono ?_; rintro e w1 ⟨rfl, hb1⟩; have hW1 := (HS w1).out; have hb10 := hb1.alloc hb1.size (.cells #[.slice none 0 0, .int .i64 0] 27))
      | (go_at_call 13; refine (wunary_any hW1 (by simp) (by simp) k (by omega) (by omega)).mono ?_; rw [HU.out]; rintro e w2 ⟨rfl, v2, hW2, hm2⟩; have hb2 := hb10.trans ((hm2.below hW1.1 hW1.rows (by simp)).mono hb1.size))
      | (go_at_call 20; refine (wbytes_any hW2 (by rw [msb_len]; omega)).mono ?_; rintro e w3 ⟨v3, l3, rfl, hP3, ho3, hb23⟩; have hb3 := bthen hb2 hb23 hb2.size; obtain ⟨A3, n3, c3, rfl⟩ := ho3.shape; have hl3 := hP3.len; rw [msb_len] at hl3)
      | (go_at_call 22; refine (bnew_any _ l3 _ ho3.sli hP3.byte (by omega)).mono ?_; rintro e w4 ⟨g4, rfl, hR4, hg4, hb34⟩; have hb4 := bthen hb3 hb34 hb3.size)
      | (go_at_call 26; refine (bunary_any hR4 most (by omega)).mono ?_; rw [HZ.out l3 hP3]; rintro e w6 ⟨rfl, hR6, hgr6⟩; have hb6 := bonly hb4 hgr6 (Nat.le_refl _) (Nat.le_trans hb3.size hg4))
      | (go_at_call 35; refine (berr_any hR6).mono ?_; rintro e w7 ⟨rfl, rfl⟩)
      | (go_at_call 32; refine (bat_any hR6).mono ?_; rintro e w7 ⟨rfl, rfl⟩))
    go_ret
    exact ⟨by simp, hb6⟩
  · simp only [hc, if_false] at HZ
    have hmx : max most 0 < (k : Int) := by omega
    go_enter Try.func9, Try.ntmps9
    go_wp2_with (first
      | (go_at_call 10; refine (known_any _).mono ?_; rintro e w1 ⟨rfl, hb1⟩; have hW1 := (HS w1).out; have hb10 := hb1.alloc hb1.size (.cells #[.slice none 0 0, .int .i64 0] 27))
      | (go_at_call 13; refine (wunary_any hW1 (by simp) (by simp) k (by omega) (by omega)).mono ?_; rw [HU.out]; rintro e w2 ⟨rfl, v2, hW2, hm2⟩; have hb2 := hb10.trans ((hm2.below hW1.1 hW1.rows (by simp)).mono hb1.size))
      | (go_at_call 20; refine (wbytes_any hW2 (by rw [msb_len]; omega)).mono ?_; rintro e w3 ⟨v3, l3, rfl, hP3, ho3, hb23⟩; have hb3 := bthen hb2 hb23 hb2.size; obtain ⟨A3, n3, c3, rfl⟩ := ho3.shape; have hl3 := hP3.len; rw [msb_len] at hl3)
      | (go_at_call 22; refine (bnew_any _ l3 _ ho3.sli hP3.byte (by omega)).mono ?_; rintro e w4 ⟨g4, rfl, hR4, hg4, hb34⟩; have hb4 := bthen hb3 hb34 hb3.size)
      | (go_at_call 26; refine (bunary_any hR4 most (by omega)).mono ?_; rw [HZ.out l3 hP3]; rintro e w6 ⟨rfl, hR6, hgr6⟩; have hb6 := bonly hb4 hgr6 (Nat.le_refl _) (Nat.le_trans hb3.size hg4))
      | (go_at_call 35; refine (berr_any hR6).mono ?_; rintro e w7 ⟨rfl, rfl⟩)
      | (go_at_call 32; refine (bat_any hR6).mono ?_; rintro e w7 ⟨rfl, rfl⟩))
    go_ret
    exact ⟨by simp, hb6⟩

theorem shlr (x : Int) (c k : Nat) (h : c + (k + 1) = 64) : wrap64 (x * 2 ^ c) / 2 ^ c = (x + 2 ^ k) % 2 ^ (k + 1) - 2 ^ k := by
  have e1 : (9223372036854775808 : Int) = 2 ^ c * 2 ^ k := by rw [← Int.pow_add, show c + k = 63 by omega]; rfl
  have e2 : (18446744073709551616 : Int) = 2 ^ c * 2 ^ (k + 1) := by rw [← Int.pow_add, h]; rfl
  have h0 : (0 : Int) < 2 ^ c := Int.pow_pos (by omega)
  unfold wrap64
  rw [e2, e1, Int.mul_comm x, ← Int.mul_add, Int.mul_emod_mul_of_pos _ _ h0, ← Int.mul_sub, Int.mul_ediv_cancel_left _ (by omega)]
/-- A number of k + 1 bits in two's complement, cut and read. -/
theorem sgn_back (x : Int) (c k : Nat) (h : c + (k + 1) = 64) {Y : Int} (hY : wrap64 (x * 2 ^ c) / 2 ^ c = Y) {u : Nat} (hu : IntKind.u64.wrap Y = (u : Nat)) : sgnI (u % 2 ^ (k + 1)) c = Y := by
  have h0 : (0 : Int) < 2 ^ (k + 1) := Int.pow_pos (by omega)
  have hV : u % 2 ^ (k + 1) < 2 ^ (k + 1) := Nat.mod_lt _ (Nat.pow_pos (by omega))
  have hVc : (u % 2 ^ (k + 1)) * 2 ^ c < 18446744073709551616 := by
    have := Nat.mul_lt_mul_of_pos_right hV (Nat.pow_pos (n := c) (show 0 < 2 by omega))
    rw [← Nat.pow_add, show k + 1 + c = 64 by omega] at this
    exact this
  unfold sgnI
  have e : IntKind.u64.wrap (((u % 2 ^ (k + 1) : Nat) : Int) * 2 ^ c) = ((u % 2 ^ (k + 1) : Nat) : Int) * 2 ^ c := by
    have : ((u % 2 ^ (k + 1) : Nat) : Int) * 2 ^ c = ((u % 2 ^ (k + 1) * 2 ^ c : Nat) : Int) := by rw [Int.natCast_mul, Int.natCast_pow]; rfl
    rw [this]; exact IntWalk.u64_in _ (by omega)
  rw [e, shlr _ c k h, ← hY, shlr x c k h]
  congr 1
  have e3 : ((u % 2 ^ (k + 1) : Nat) : Int) = Y % 2 ^ (k + 1) := by
    rw [Int.natCast_emod, ← hu, IntKind.wrap_u64, Int.natCast_pow]
    refine Int.emod_emod_of_dvd Y ⟨2 ^ c, ?_⟩
    show (18446744073709551616 : Int) = 2 ^ (k + 1) * 2 ^ c
    rw [← Int.pow_add, show k + 1 + c = 64 by omega]; rfl
  rw [e3, ← hY, shlr x c k h, Int.emod_add_emod, Int.sub_add_cancel, Int.emod_emod]
theorem shlr_rng (x : Int) (c k : Nat) (h : c + (k + 1) = 64) : -9223372036854775808 ≤ wrap64 (x * 2 ^ c) / 2 ^ c ∧ wrap64 (x * 2 ^ c) / 2 ^ c ≤ 9223372036854775807 := by
  rw [shlr x c k h]
  have h0 : (0 : Int) < 2 ^ (k + 1) := Int.pow_pos (by omega)
  have h1 := Int.emod_nonneg (x + 2 ^ k) (b := 2 ^ (k + 1)) (by omega)
  have h2 := Int.emod_lt_of_pos (x + 2 ^ k) h0
  have h3 : (2 : Int) ^ (k + 1) = 2 * 2 ^ k := by rw [Int.pow_succ, Int.mul_comm]
  have h4 : (2 : Int) ^ k ≤ 9223372036854775808 := by
    have : 2 ^ k ≤ 2 ^ 63 := Nat.pow_le_pow_right (by omega) (by omega)
    have e : (2 : Int) ^ k = ((2 ^ k : Nat) : Int) := by simp
    rw [e]; omega
  omega

theorem bitsSigned_walk (x n : Int) (w : World) (hx1 : -9223372036854775808 ≤ x) (hx2 : x ≤ 9223372036854775807) (hn1 : -9223372036854775808 ≤ n) (hn2 : n ≤ 9223372036854775807) :
    Calls Try.prog 8 #[.int .i64 x, .int .i64 n] w fun e w' => e = .returned (.bool true) ∧ Below w.heap.size w w' := by
  obtain ⟨k, hk⟩ : ∃ k : Nat, n % 64 = (k : Nat) := ⟨(n % 64).toNat, by omega⟩
  have hand : bits .and .i64 n 63 = (k : Nat) := by
    have := i64_mask 6 (by omega) n
    rw [← hk]; exact this
  have hk6 : k ≤ 63 := by omega
  clear hk
  obtain ⟨c, hc⟩ : ∃ c : Nat, (64 : Int) - ((k : Nat) + 1) = (c : Nat) := ⟨63 - k, by omega⟩
  have hck : c + (k + 1) = 64 := by omega
  have huc : IntKind.u64.wrap ((c : Nat) : Int) = (c : Nat) := IntWalk.u64_in _ (by omega)
  obtain ⟨Y, hY⟩ : ∃ Y, wrap64 (x * 2 ^ c) / 2 ^ c = Y := ⟨_, rfl⟩
  obtain ⟨u, hu⟩ : ∃ u : Nat, IntKind.u64.wrap Y = (u : Nat) := ⟨(IntKind.u64.wrap Y).toNat, by rw [IntKind.wrap_u64]; omega⟩
  have hub : u < 18446744073709551616 := by rw [IntKind.wrap_u64] at hu; omega
  have hsg := sgn_back x c k hck hY hu
  have hrng := shlr_rng x c k hck
  rw [hY] at hrng
  have hlow := fun W => low_any u (k + 1) W hub (by omega)
  obtain ⟨V, hV⟩ : ∃ V, u % 2 ^ (k + 1) = V := ⟨_, rfl⟩
  have hVl : V < 2 ^ (k + 1) := by rw [← hV]; exact Nat.mod_lt _ (Nat.pow_pos (by omega))
  have hV64 : V < 18446744073709551616 := Nat.lt_of_lt_of_le hVl (Nat.pow_le_pow_right (n := 2) (by omega) (show k + 1 ≤ 64 by omega))
  rw [hV] at hlow hsg
  have hk1 : ((k + 1 : Nat) : Int) = (k : Int) + 1 := by omega
  have hp : wPut [] V ((k : Int) + 1) = (msb V (k + 1), 0) := by rw [wPut, show ((k : Int) + 1).toNat = k + 1 by omega, if_neg (by omega)]; simp
  have hg : ∀ l, Packed l (msb V (k + 1)) → gSigned (bitAt l) (8 * l.length) 0 0 ((k : Int) + 1) = Y ∧ gGet (bitAt l) (8 * l.length) 0 0 ((k : Int) + 1) = (V, k + 1, 0) := by
    intro l hP
    have hl := hP.len
    rw [msb_len] at hl
    have hb : bnum (bitAt l) 0 (k + 1) = V := by
      rw [bnum_msb (v := V) fun i hi => by rw [hP.bit, gb_msb, Nat.zero_add]; simp [hi], Nat.mod_eq_of_lt hVl]
    have e : gGet (bitAt l) (8 * l.length) 0 0 ((k : Int) + 1) = (V, k + 1, 0) := by
      unfold gGet
      rw [if_pos rfl, if_neg (by omega), if_neg (by omega), show ((k : Int) + 1).toNat = k + 1 by omega, hb, Nat.zero_add]
    refine ⟨?_, e⟩
    unfold gSigned
    rw [e]
    simp only [if_true]
    rw [show (64 - ((k : Int) + 1)).toNat = c by omega]
    exact hsg
  have HLO := Lib.hid hlow; have HP := Lib.hid hp; have HG := Lib.hid hg
  rw [hk1] at HLO
  have HS := fun (W : World) => Lib.hid (WrO.start W (Nat.le_refl _))
  clear hsg hVl hlow hp hg hV hk1 hck
  go_enter Try.func8, Try.ntmps8
  go_wp2_with (first
      | (go_at_call 10; refine (known_any _).mono ?_; rintro e w1 ⟨rfl, hb1⟩; have hW1 := (HS w1).out; have hb10 := hb1.alloc hb1.size (.cells #[.slice none 0 0, .int .i64 0] 27))
      | (go_at_call 36; refine (HLO.out _).mono ?_; rintro e w0 ⟨rfl, rfl⟩)
      | (go_at_call 11; refine (wput_any hW1 (by simp) (by simp) V (k + 1) hV64 (by omega) (by omega)).mono ?_; rw [HP.out]; rintro e w2 ⟨rfl, v2, hW2, hm2⟩; have hb2 := hb10.trans ((hm2.below hW1.1 hW1.rows (by simp)).mono hb1.size))
      | (go_at_call 20; refine (wbytes_any hW2 (by rw [msb_len]; omega)).mono ?_; rintro e w3 ⟨v3, l3, rfl, hP3, ho3, hb23⟩; have hb3 := bthen hb2 hb23 hb2.size; obtain ⟨A3, n3, c3, rfl⟩ := ho3.shape; have hl3 := hP3.len; rw [msb_len] at hl3)
      | (go_at_call 22; refine (bnew_any _ l3 _ ho3.sli hP3.byte (by omega)).mono ?_; rintro e w4 ⟨g4, rfl, hR4, hg4, hb34⟩; have hb4 := bthen hb3 hb34 hb3.size)
      | (go_at_call 30; refine (bsigned_any hR4 (k + 1)).mono ?_; rw [(HG.out l3 hP3).1, (HG.out l3 hP3).2]; rintro e w6 ⟨rfl, hR6, hgr6⟩; have hb6 := bonly hb4 hgr6 (Nat.le_refl _) (Nat.le_trans hb3.size hg4))
      | (go_at_call 32; refine (bat_any hR6).mono ?_; rintro e w7 ⟨rfl, rfl⟩))
  go_ret
  exact ⟨by simp, hb6⟩

end Go.Proofs.Ytnlclbocbbcafaa
