/- sums: the code's checksums. -/
import Derived.Test.YtdkhkjagkmniaaaByt
import Derived.Test.YtdkhkjagkmniaaaSumP
import Derived.Laws.BitsAllLaws
import Derived.IntWalk
namespace Go.Proofs.Ytdkhkjagkmniaaa
open Go.RowKit
set_option maxRecDepth 1000000
set_option maxHeartbeats 1000000

theorem wrap16 (y : Nat) : IntKind.u16.wrap ((y : Int) * 2) = ((2 * y % 65536 : Nat) : Int) := by
  simp [IntKind.wrap, IntKind.bits, IntKind.signed]; omega
theorem wrap8 (y : Nat) : IntKind.u8.wrap ((y : Int) * 2) = ((2 * y % 256 : Nat) : Int) := by
  simp [IntKind.wrap, IntKind.bits, IntKind.signed]; omega
theorem top16 (y : Nat) (h : y < 65536) : bits .and .u16 (y : Int) 32768 = if 32768 ≤ y then 32768 else 0 := by
  have := u16_and_nat y 32768 h (by omega)
  rw [show ((32768 : Nat) : Int) = 32768 from rfl] at this
  rw [this]
  have e : y &&& 32768 = if 32768 ≤ y then 32768 else 0 := by
    have h15 : y.testBit 15 = decide (32768 ≤ y) := by
      rw [Nat.testBit_eq_decide_div_mod_eq, decide_eq_decide]
      omega
    apply Nat.eq_of_testBit_eq
    intro i
    rw [Nat.testBit_and, show 32768 = 2 ^ 15 from rfl, Nat.testBit_two_pow]
    by_cases h2 : 15 = i
    · subst h2
      rw [h15]
      by_cases h3 : 32768 ≤ y
      · rw [if_pos h3]; simp [h3]; decide +kernel
      · rw [if_neg h3]; simp [h3]
    · by_cases h3 : 2 ^ 15 ≤ y
      · rw [if_pos h3, Nat.testBit_two_pow]; simp [h2]
      · rw [if_neg h3]; simp [h2]
  rw [e]
  split <;> rfl
theorem low32 (y : Nat) (h : y < 4294967296) : bits .and .u32 (y : Int) 1 = ((y % 2 : Nat) : Int) := by
  have := u32_and_nat y 1 h (by omega)
  rw [Nat.and_one_is_mod] at this
  exact this

theorem iter_bnd {F : Nat → Nat} {w : Nat} (H : ∀ a, a < 2 ^ w → F a < 2 ^ w) (n : Nat) {s : Nat} (h : s < 2 ^ w) : iter F n s < 2 ^ w := by
  induction n with
  | zero => exact h
  | succ n ih => exact H _ ih
theorem cr_bnd {F e : Nat → Nat} {w : Nat} (H : ∀ a, a < 2 ^ w → F a < 2 ^ w) (he : ∀ c, c < 256 → e c < 2 ^ w) (s : Nat) (l : List Nat) (hs : s < 2 ^ w) (hl : ∀ x ∈ l, x < 256) : cr F e s l < 2 ^ w := by
  induction l generalizing s with
  | nil => exact hs
  | cons c l ih => exact ih _ (iter_bnd H 8 (Nat.xor_lt_two_pow hs (he c (hl c (by simp))))) fun x hx => hl x (by simp [hx])
theorem bnd_p {p : Nat} (hp : p < 65536) : ∀ a, a < 2 ^ 16 → fl p a < 2 ^ 16 := fun a ha => by
  unfold fl
  refine Nat.xor_lt_two_pow (by omega) ?_
  split <;> omega

theorem leftward_any (v : Value) (l : List Nat) (w : World) (B : Nat) (p : Nat) (hp : p < 65536) (hS : Sli w B v (cu8 l)) (hx : ∀ x ∈ l, x < 256) (hn : l.length ≤ 1099511627776) :
    Calls Try.prog 26 #[v, .int .u16 p] w fun e w' => e = .returned (.int .u16 (cr (fl p) e16 0 l : Nat)) ∧ w = w' := by
  obtain ⟨A, c, rfl, hl, _, _, _⟩ := hS
  obtain ⟨n, hnn⟩ : ∃ n, n = (cu8 l).length := ⟨_, rfl⟩
  rw [← hnn] at hl ⊢
  have hnb : n ≤ 1099511627776 := by rw [hnn]; simpa [cu8] using hn
  clear hnn
  go_enter Try.func26, Try.ntmps26
  go_wp2
  go_loop [5, 11] (fun s i => ∃ k : Nat, k ≤ n ∧ i = .int .i64 k ∧ s = .int .u16 (cr (fl p) e16 0 (l.take k) : Nat)) (fun _ i => n - (intOf i).toNat)
  case atStart => exact ⟨0, Nat.zero_le _, rfl, rfl⟩
  case round =>
    obtain ⟨k, hk, rfl, rfl⟩ := hrel
    by_cases hlt : k < n
    · obtain ⟨b, o, u, rfl, hb, hcell, hu⟩ := hl.get hlt
      have hkl : k < l.length := by have := hl.1; simp [cu8] at this; omega
      obtain ⟨x, hxk⟩ : ∃ x, l[k]? = some x := ⟨_, List.getElem?_eq_getElem hkl⟩
      have hx' : x < 256 := hx x (List.mem_of_getElem? hxk)
      have hu' : u = .int .u8 (x : Nat) := by simpa [cu8, hxk] using hu.symm
      subst hu'
      have hsn : cr (fl p) e16 0 (l.take (k + 1)) = iter (fl p) 8 (cr (fl p) e16 0 (l.take k) ^^^ e16 x) := by
        rw [List.take_succ_eq_append_getElem hkl, cr_snoc]
        have : l[k] = x := by rw [List.getElem?_eq_getElem hkl] at hxk; simpa using hxk
        rw [this]
      have HSN := Lib.hid hsn
      have hSl : cr (fl p) e16 0 (l.take k) < 2 ^ 16 := cr_bnd (bnd_p hp) e16_lt 0 _ (by omega) (fun y hy => hx y (List.mem_of_mem_take hy))
      generalize cr (fl p) e16 0 (l.take k) = S at hSl HSN ⊢
      have e0 : bits .xor .u16 (S : Int) ((x : Int) * 256) = ((S ^^^ e16 x : Nat) : Int) := by rw [show (x : Int) * 256 = ((e16 x : Nat) : Int) by unfold e16; omega]; exact u16_xor_nat _ _ hSl (e16_lt x hx')
      have hTl : S ^^^ e16 x < 2 ^ 16 := Nat.xor_lt_two_pow hSl (e16_lt x hx')
      generalize S ^^^ e16 x = T at hTl HSN e0
      clear hsn hu hxk hSl
      have HTL := Lib.hid hTl
      clear hTl
      go_wp2
      go_loop [5, 20] (fun s j => ∃ q : Nat, q ≤ 8 ∧ j = .int .i64 q ∧ s = .int .u16 (iter (fl p) q T : Nat)) (fun _ j => 8 - (intOf j).toNat)
      case atStart => exact ⟨0, Nat.zero_le _, rfl, rfl⟩
      case round =>
        obtain ⟨q, hq, rfl, rfl⟩ := hrel
        by_cases hq8 : q < 8
        · have hyl : iter (fl p) q T < 2 ^ 16 := iter_bnd (bnd_p hp) q HTL.out
          have hst : iter (fl p) (q + 1) T = (fl p) (iter (fl p) q T) := rfl
          have HST := Lib.hid hst
          generalize iter (fl p) q T = y at hyl HST ⊢
          clear hst e0
          by_cases hc : 32768 ≤ y
          · have e1 : bits .and .u16 (y : Int) 32768 = 32768 := by rw [top16 y hyl, if_pos hc]
            have e2 := wrap16 y
            have e3 : bits .xor .u16 ((2 * y % 65536 : Nat) : Int) (p : Int) = ((fl p y : Nat) : Int) := by rw [u16_xor_nat _ _ (by omega) hp, fl, if_pos hc]
            generalize fl p y = r at HST e3
            generalize 2 * y % 65536 = d at e2 e3
            clear hc hyl
            go_wp2
            exact ⟨⟨q + 1, by omega, rfl, by rw [HST.out]⟩, by simp [intOf]; omega⟩
          · have e1 : bits .and .u16 (y : Int) 32768 = 0 := by rw [top16 y hyl, if_neg hc]
            have e2 : IntKind.u16.wrap ((y : Int) * 2) = ((fl p y : Nat) : Int) := by rw [wrap16, fl, if_neg hc, Nat.xor_zero]
            generalize fl p y = r at HST e2
            clear hc hyl
            go_wp2
            exact ⟨⟨q + 1, by omega, rfl, by rw [HST.out]⟩, by simp [intOf]; omega⟩
        · obtain rfl : q = 8 := by omega
          go_wp2
          exact ⟨⟨k + 1, by omega, rfl, by rw [HSN.out]⟩, by simp [intOf]; omega⟩
    · go_wp2
      go_ret
      have hkn : k = n := by omega
      have hln : n = l.length := by simpa [cu8] using hl.1
      subst hkn; subst hln
      rw [List.take_length]
      exact ⟨rfl, rfl⟩

theorem not32 (s : Nat) (h : s < 4294967296) : bits .xor .u32 IntKind.u32.max (s : Int) = ((4294967295 - s : Nat) : Int) := by
  rw [not_xor h, show IntKind.u32.max = ((4294967295 : Nat) : Int) from rfl]
  exact u32_xor_nat _ _ (by omega) h

theorem thirtytwo_any (v : Value) (l : List Nat) (w : World) (B : Nat) (hS : Sli w B v (cu8 l)) (hx : ∀ x ∈ l, x < 256) (hn : l.length ≤ 1099511627776) :
    Calls Try.prog 16 #[v] w fun e w' => e = .returned (.int .u32 (crc32 l : Nat)) ∧ w = w' := by
  obtain ⟨A, c, rfl, hl, _, _, _⟩ := hS
  obtain ⟨n, hnn⟩ : ∃ n, n = (cu8 l).length := ⟨_, rfl⟩
  rw [← hnn] at hl ⊢
  have hnb : n ≤ 1099511627776 := by rw [hnn]; simpa [cu8] using hn
  clear hnn
  go_enter Try.func16, Try.ntmps16
  go_wp2
  go_loop [3, 9] (fun s i => ∃ k : Nat, k ≤ n ∧ i = .int .i64 k ∧ s = .int .u32 (cr fr e8 4294967295 (l.take k) : Nat)) (fun _ i => n - (intOf i).toNat)
  case atStart => exact ⟨0, Nat.zero_le _, rfl, rfl⟩
  case round =>
    obtain ⟨k, hk, rfl, rfl⟩ := hrel
    by_cases hlt : k < n
    · obtain ⟨b, o, u, rfl, hb, hcell, hu⟩ := hl.get hlt
      have hkl : k < l.length := by have := hl.1; simp [cu8] at this; omega
      obtain ⟨x, hxk⟩ : ∃ x, l[k]? = some x := ⟨_, List.getElem?_eq_getElem hkl⟩
      have hx' : x < 256 := hx x (List.mem_of_getElem? hxk)
      have hu' : u = .int .u8 (x : Nat) := by simpa [cu8, hxk] using hu.symm
      subst hu'
      have hsn : cr fr e8 4294967295 (l.take (k + 1)) = iter fr 8 (cr fr e8 4294967295 (l.take k) ^^^ e8 x) := by
        rw [List.take_succ_eq_append_getElem hkl, cr_snoc]
        have : l[k] = x := by rw [List.getElem?_eq_getElem hkl] at hxk; simpa using hxk
        rw [this]
      have HSN := Lib.hid hsn
      have hSl : cr fr e8 4294967295 (l.take k) < 2 ^ 32 := cr_bnd lin_fr.lt (e8_lt 32 (by omega)) 4294967295 _ (by omega) (fun y hy => hx y (List.mem_of_mem_take hy))
      generalize cr fr e8 4294967295 (l.take k) = S at hSl HSN ⊢
      have e0 : bits .xor .u32 (S : Int) (x : Int) = ((S ^^^ e8 x : Nat) : Int) := u32_xor_nat _ _ hSl (by omega)
      have hTl : S ^^^ e8 x < 2 ^ 32 := Nat.xor_lt_two_pow hSl ((e8_lt 32 (by omega)) x hx')
      generalize S ^^^ e8 x = T at hTl HSN e0
      clear hsn hu hxk hSl
      have HTL := Lib.hid hTl
      clear hTl
      go_wp2
      go_loop [3, 17] (fun s j => ∃ q : Nat, q ≤ 8 ∧ j = .int .i64 q ∧ s = .int .u32 (iter fr q T : Nat)) (fun _ j => 8 - (intOf j).toNat)
      case atStart => exact ⟨0, Nat.zero_le _, rfl, rfl⟩
      case round =>
        obtain ⟨q, hq, rfl, rfl⟩ := hrel
        by_cases hq8 : q < 8
        · have hyl : iter fr q T < 2 ^ 32 := iter_bnd lin_fr.lt q HTL.out
          have hst : iter fr (q + 1) T = fr (iter fr q T) := rfl
          have HST := Lib.hid hst
          generalize iter fr q T = y at hyl HST ⊢
          clear hst e0
          by_cases hc : y % 2 = 1
          · have e1 : bits .and .u32 (y : Int) 1 = 1 := by rw [low32 y hyl, hc]; rfl
            have e2 : (y : Int) / 2 = ((y / 2 : Nat) : Int) := by omega
            have e3 : bits .xor .u32 ((y / 2 : Nat) : Int) 3988292384 = ((fr y : Nat) : Int) := by rw [show (3988292384 : Int) = ((3988292384 : Nat) : Int) from rfl, u32_xor_nat _ _ (by omega) (by omega), fr, if_pos hc]
            generalize fr y = r at HST e3
            generalize y / 2 = d at e2 e3
            clear hc hyl
            go_wp2
            exact ⟨⟨q + 1, by omega, rfl, by rw [HST.out]⟩, by simp [intOf]; omega⟩
          · have e1 : bits .and .u32 (y : Int) 1 = 0 := by rw [low32 y hyl, show y % 2 = 0 by omega]; rfl
            have e2 : (y : Int) / 2 = ((fr y : Nat) : Int) := by rw [fr, if_neg hc, Nat.xor_zero]; omega
            generalize fr y = r at HST e2
            clear hc hyl
            go_wp2
            exact ⟨⟨q + 1, by omega, rfl, by rw [HST.out]⟩, by simp [intOf]; omega⟩
        · obtain rfl : q = 8 := by omega
          go_wp2
          exact ⟨⟨k + 1, by omega, rfl, by rw [HSN.out]⟩, by simp [intOf]; omega⟩
    · have hnot := not32 (cr fr e8 4294967295 (l.take k)) (cr32_lt _ fun y hy => hx y (List.mem_of_mem_take hy))
      go_wp2
      go_ret
      have hkn : k = n := by omega
      have hln : n = l.length := by simpa [cu8] using hl.1
      subst hkn; subst hln
      rw [List.take_length]
      exact ⟨rfl, rfl⟩

theorem sixteen_any (v : Value) (l : List Nat) (w : World) (B : Nat) (hS : Sli w B v (cu8 l)) (hx : ∀ x ∈ l, x < 256) (hn : l.length ≤ 1099511627776) :
    Calls Try.prog 14 #[v] w fun e w' => e = .returned (.int .u16 (crc16 l : Nat)) ∧ w = w' := by
  have h := leftward_any v l w B 32773 (by omega) hS hx hn
  obtain ⟨A, c, rfl, _, _⟩ := hS.form8
  have H : Hid (Calls Try.prog 26 #[.slice A l.length c, .int .u16 32773] w fun e w' => e = .returned (.int .u16 (crc16 l : Nat)) ∧ w = w') := h
  clear h hS
  go_enter Try.func14, Try.ntmps14
  go_wp2_with (go_at_call 26; refine (H.out).mono ?_; rintro e w' ⟨rfl, rfl⟩)
  go_ret
  exact ⟨rfl, rfl⟩
theorem eight_any (v : Value) (l : List Nat) (w : World) (B : Nat) (hS : Sli w B v (cu8 l)) (hx : ∀ x ∈ l, x < 256) (hn : l.length ≤ 1099511627776) :
    Calls Try.prog 12 #[v] w fun e w' => e = .returned (.int .u8 (crc8 l : Nat)) ∧ w = w' := by
  have h := leftward_any v l w B 1792 (by omega) hS hx hn
  have h8 := crc8_lt l hx
  have e : cr (fl 1792) e16 0 l = 256 * crc8 l := cr_256 l 0
  rw [e] at h
  generalize crc8 l = y at h h8 ⊢
  obtain ⟨z, hz⟩ : ∃ z, 256 * y = z := ⟨_, rfl⟩
  rw [hz] at h
  have e1 : (z : Int) / 256 = (y : Nat) := by omega
  obtain ⟨A, c, rfl, _, _⟩ := hS.form8
  have H : Hid (Calls Try.prog 26 #[.slice A l.length c, .int .u16 1792] w fun e w' => e = .returned (.int .u16 (z : Nat)) ∧ w = w') := h
  clear h hS e hz
  go_enter Try.func12, Try.ntmps12
  go_wp2_with (go_at_call 26; refine (H.out).mono ?_; rintro e w' ⟨rfl, rfl⟩)
  go_ret
  exact ⟨rfl, rfl⟩
end Go.Proofs.Ytdkhkjagkmniaaa
