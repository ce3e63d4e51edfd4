/- sums: the reference's checksums. -/
import Derived.Test.YtdkhkjagkmniaaaByt
import Derived.Test.YtdkhkjagkmniaaaSumP
import Derived.Test.YtdkhkjagkmniaaaSumC
import Derived.Laws.BitsAllLaws
import Derived.IntWalk
namespace Go.Proofs.Ytdkhkjagkmniaaa
open Go.RowKit
set_option maxRecDepth 1000000
set_option maxHeartbeats 1000000

theorem qeight_any (v : Value) (l : List Nat) (w : World) (B : Nat) (hS : Sli w B v (cu8 l)) (hx : ∀ x ∈ l, x < 256) (hn : l.length ≤ 1099511627776) :
    Calls Try.prog 13 #[v] w fun e w' => e = .returned (.int .u8 (crc8 l : Nat)) ∧ w = w' := by
  obtain ⟨A, c, rfl, hl, _, _, _⟩ := hS
  obtain ⟨n, hnn⟩ : ∃ n, n = (cu8 l).length := ⟨_, rfl⟩
  rw [← hnn] at hl ⊢
  have hnb : n ≤ 1099511627776 := by rw [hnn]; simpa [cu8] using hn
  clear hnn
  go_enter Try.func13, Try.ntmps13
  go_wp2
  go_loop [3, 4] (fun s i => ∃ k : Nat, k ≤ n ∧ i = .int .i64 k ∧ s = .int .u8 (cr f8 e8 0 (l.take k) : Nat)) (fun _ i => n - (intOf i).toNat)
  case atStart => exact ⟨0, Nat.zero_le _, rfl, rfl⟩
  case round =>
    obtain ⟨k, hk, rfl, rfl⟩ := hrel
    by_cases hlt : k < n
    · obtain ⟨b, o, u, rfl, hb, hcell, hu⟩ := hl.get hlt
      have hkl : k < l.length := by have := hl.1; simp [cu8] at this; omega
      obtain ⟨x, hxk⟩ : ∃ x, l[k]? = some x := ⟨_, List.getElem?_eq_getElem hkl⟩
      have hx' : x < 256 := hx x (List.mem_of_getElem? hxk)
      have hu' : u = .int .u8 (x : Nat) := by simpa [cu8, hxk] using hu.symm
      subst hu'
      have hsn : cr f8 e8 0 (l.take (k + 1)) = iter f8 8 (cr f8 e8 0 (l.take k) ^^^ e8 x) := by
        rw [List.take_succ_eq_append_getElem hkl, cr_snoc]
        have : l[k] = x := by rw [List.getElem?_eq_getElem hkl] at hxk; simpa using hxk
        rw [this]
      have HSN := Lib.hid hsn
      have hSl : cr f8 e8 0 (l.take k) < 2 ^ 8 := cr_bnd lin_f8.lt (e8_lt 8 (by omega)) 0 _ (by omega) (fun y hy => hx y (List.mem_of_mem_take hy))
      generalize cr f8 e8 0 (l.take k) = S at hSl HSN ⊢
      have e0 : bits .xor .u8 (S : Int) (x : Int) = ((S ^^^ e8 x : Nat) : Int) := u8_xor_nat _ _ hSl (by omega)
      have hTl : S ^^^ e8 x < 2 ^ 8 := Nat.xor_lt_two_pow hSl ((e8_lt 8 (by omega)) x hx')
      generalize S ^^^ e8 x = T at hTl HSN e0
      clear hsn hu hxk hSl
      have HTL := Lib.hid hTl
      clear hTl
      go_wp2
      go_loop [3, 5] (fun s j => ∃ q : Nat, q ≤ 8 ∧ j = .int .i64 q ∧ s = .int .u8 (iter f8 q T : Nat)) (fun _ j => 8 - (intOf j).toNat)
      case atStart => exact ⟨0, Nat.zero_le _, rfl, rfl⟩
      case round =>
        obtain ⟨q, hq, rfl, rfl⟩ := hrel
        by_cases hq8 : q < 8
        · have hyl : iter f8 q T < 2 ^ 8 := iter_bnd lin_f8.lt q HTL.out
          have hst : iter f8 (q + 1) T = f8 (iter f8 q T) := rfl
          have HST := Lib.hid hst
          generalize iter f8 q T = y at hyl HST ⊢
          clear hst e0
          by_cases hc : 128 ≤ y
          · have e1 : decide (128 ≤ (y : Int)) = true := by rw [decide_eq_true_eq]; omega
            have e2 := wrap8 y
            have e3 : bits .xor .u8 ((2 * y % 256 : Nat) : Int) 7 = ((f8 y : Nat) : Int) := by rw [show (7 : Int) = ((7 : Nat) : Int) from rfl, u8_xor_nat _ _ (by omega) (by omega), f8, if_pos hc]
            generalize f8 y = r at HST e3
            generalize 2 * y % 256 = d at e2 e3
            clear hc hyl
            go_wp2
            exact ⟨⟨q + 1, by omega, rfl, by rw [HST.out]⟩, by simp [intOf]; omega⟩
          · have e1 : decide (128 ≤ (y : Int)) = false := by rw [decide_eq_false_iff_not]; omega
            have e2 : IntKind.u8.wrap ((y : Int) * 2) = ((f8 y : Nat) : Int) := by rw [wrap8, f8, if_neg hc, Nat.xor_zero]
            generalize f8 y = r at HST e2
            clear hc hyl
            go_wp2
            exact ⟨⟨q + 1, by omega, rfl, by rw [HST.out]⟩, by simp [intOf]; omega⟩
        · obtain rfl : q = 8 := by omega
          go_wp2
          exact ⟨⟨k + 1, by omega, rfl, by rw [HSN.out]⟩, by simp [intOf]; omega⟩
    · go_wp2
      go_ret
      have hkn : k = n := by omega
      have hln : n = l.length := by simpa [cu8] using hl.1
      subst hkn; subst hln
      rw [List.take_length]
      exact ⟨rfl, rfl⟩

theorem qsixteen_any (v : Value) (l : List Nat) (w : World) (B : Nat) (hS : Sli w B v (cu8 l)) (hx : ∀ x ∈ l, x < 256) (hn : l.length ≤ 1099511627776) :
    Calls Try.prog 15 #[v] w fun e w' => e = .returned (.int .u16 (crc16 l : Nat)) ∧ w = w' := by
  obtain ⟨A, c, rfl, hl, _, _, _⟩ := hS
  obtain ⟨n, hnn⟩ : ∃ n, n = (cu8 l).length := ⟨_, rfl⟩
  rw [← hnn] at hl ⊢
  have hnb : n ≤ 1099511627776 := by rw [hnn]; simpa [cu8] using hn
  clear hnn
  go_enter Try.func15, Try.ntmps15
  go_wp2
  go_loop [3, 4] (fun s i => ∃ k : Nat, k ≤ n ∧ i = .int .i64 k ∧ s = .int .u16 (cr (fl 32773) e16 0 (l.take k) : Nat)) (fun _ i => n - (intOf i).toNat)
  case atStart => exact ⟨0, Nat.zero_le _, rfl, rfl⟩
  case round =>
    obtain ⟨k, hk, rfl, rfl⟩ := hrel
    by_cases hlt : k < n
    · obtain ⟨b, o, u, rfl, hb, hcell, hu⟩ := hl.get hlt
      have hkl : k < l.length := by have := hl.1; simp [cu8] at this; omega
      obtain ⟨x, hxk⟩ : ∃ x, l[k]? = some x := ⟨_, List.getElem?_eq_getElem hkl⟩
      have hx' : x < 256 := hx x (List.mem_of_getElem? hxk)
      have hu' : u = .int .u8 (x : Nat) := by simpa [cu8, hxk] using hu.symm
      subst hu'
      have hsn : cr (fl 32773) e16 0 (l.take (k + 1)) = iter (fl 32773) 8 (cr (fl 32773) e16 0 (l.take k) ^^^ e16 x) := by
        rw [List.take_succ_eq_append_getElem hkl, cr_snoc]
        have : l[k] = x := by rw [List.getElem?_eq_getElem hkl] at hxk; simpa using hxk
        rw [this]
      have HSN := Lib.hid hsn
      have hSl : cr (fl 32773) e16 0 (l.take k) < 2 ^ 16 := cr_bnd lin16.lt e16_lt 0 _ (by omega) (fun y hy => hx y (List.mem_of_mem_take hy))
      generalize cr (fl 32773) e16 0 (l.take k) = S at hSl HSN ⊢
      have e0 : bits .xor .u16 (S : Int) ((x : Int) * 256) = ((S ^^^ e16 x : Nat) : Int) := by rw [show (x : Int) * 256 = ((e16 x : Nat) : Int) by unfold e16; omega]; exact u16_xor_nat _ _ hSl (e16_lt x hx')
      have hTl : S ^^^ e16 x < 2 ^ 16 := Nat.xor_lt_two_pow hSl (e16_lt x hx')
      generalize S ^^^ e16 x = T at hTl HSN e0
      clear hsn hu hxk hSl
      have HTL := Lib.hid hTl
      clear hTl
      go_wp2
      go_loop [3, 5] (fun s j => ∃ q : Nat, q ≤ 8 ∧ j = .int .i64 q ∧ s = .int .u16 (iter (fl 32773) q T : Nat)) (fun _ j => 8 - (intOf j).toNat)
      case atStart => exact ⟨0, Nat.zero_le _, rfl, rfl⟩
      case round =>
        obtain ⟨q, hq, rfl, rfl⟩ := hrel
        by_cases hq8 : q < 8
        · have hyl : iter (fl 32773) q T < 2 ^ 16 := iter_bnd lin16.lt q HTL.out
          have hst : iter (fl 32773) (q + 1) T = (fl 32773) (iter (fl 32773) q T) := rfl
          have HST := Lib.hid hst
          generalize iter (fl 32773) q T = y at hyl HST ⊢
          clear hst e0
          by_cases hc : 32768 ≤ y
          · have e1 : decide (32768 ≤ (y : Int)) = true := by rw [decide_eq_true_eq]; omega
            have e2 := wrap16 y
            have e3 : bits .xor .u16 ((2 * y % 65536 : Nat) : Int) 32773 = ((fl 32773 y : Nat) : Int) := by rw [show (32773 : Int) = ((32773 : Nat) : Int) from rfl, u16_xor_nat _ _ (by omega) (by omega), fl, if_pos hc]
            generalize fl 32773 y = r at HST e3
            generalize 2 * y % 65536 = d at e2 e3
            clear hc hyl
            go_wp2
            exact ⟨⟨q + 1, by omega, rfl, by rw [HST.out]⟩, by simp [intOf]; omega⟩
          · have e1 : decide (32768 ≤ (y : Int)) = false := by rw [decide_eq_false_iff_not]; omega
            have e2 : IntKind.u16.wrap ((y : Int) * 2) = ((fl 32773 y : Nat) : Int) := by rw [wrap16, fl, if_neg hc, Nat.xor_zero]
            generalize fl 32773 y = r at HST e2
            clear hc hyl
            go_wp2
            exact ⟨⟨q + 1, by omega, rfl, by rw [HST.out]⟩, by simp [intOf]; omega⟩
        · obtain rfl : q = 8 := by omega
          go_wp2
          exact ⟨⟨k + 1, by omega, rfl, by rw [HSN.out]⟩, by simp [intOf]; omega⟩
    · go_wp2
      go_ret
      have hkn : k = n := by omega
      have hln : n = l.length := by simpa [cu8] using hl.1
      subst hkn; subst hln
      rw [List.take_length]
      exact ⟨rfl, rfl⟩

theorem qthirtytwo_any (v : Value) (l : List Nat) (w : World) (B : Nat) (hS : Sli w B v (cu8 l)) (hx : ∀ x ∈ l, x < 256) (hn : l.length ≤ 1099511627776) :
    Calls Try.prog 17 #[v] w fun e w' => e = .returned (.int .u32 (crc32 l : Nat)) ∧ w = w' := by
  obtain ⟨A, c, rfl, hl, _, _, _⟩ := hS
  obtain ⟨n, hnn⟩ : ∃ n, n = (cu8 l).length := ⟨_, rfl⟩
  rw [← hnn] at hl ⊢
  have hnb : n ≤ 1099511627776 := by rw [hnn]; simpa [cu8] using hn
  clear hnn
  go_enter Try.func17, Try.ntmps17
  go_wp2
  go_loop [3, 4] (fun s i => ∃ k : Nat, k ≤ n ∧ i = .int .i64 k ∧ s = .int .u32 (cr fr e8 4294967295 (l.take k) : Nat)) (fun _ i => n - (intOf i).toNat)
  case atStart => exact ⟨0, Nat.zero_le _, rfl, rfl⟩
  case round =>
    obtain ⟨k, hk, rfl, rfl⟩ := hrel
    by_cases hlt : k < n
    · obtain ⟨b, o, u, rfl, hb, hcell, hu⟩ := hl.get hlt
      have hkl : k < l.length := by have := hl.1; simp [cu8] at this; omega
      obtain ⟨x, hxk⟩ : ∃ x, l[k]? = some x := ⟨_, List.getElem?_eq_getElem hkl⟩
      have hx' : x < 256 := hx x (List.mem_of_getElem? hxk)
      have hu' : u = .int .u8 (x : Nat) := by simpa [cu8, hxk] using hu.symm
      subst hu'
      have hsn : cr fr e8 4294967295 (l.take (k + 1)) = iter fr 8 (cr fr e8 4294967295 (l.take k) ^^^ e8 x) := by
        rw [List.take_succ_eq_append_getElem hkl, cr_snoc]
        have : l[k] = x := by rw [List.getElem?_eq_getElem hkl] at hxk; simpa using hxk
        rw [this]
      have HSN := Lib.hid hsn
      have hSl : cr fr e8 4294967295 (l.take k) < 2 ^ 32 := cr_bnd lin_fr.lt (e8_lt 32 (by omega)) 4294967295 _ (by omega) (fun y hy => hx y (List.mem_of_mem_take hy))
      generalize cr fr e8 4294967295 (l.take k) = S at hSl HSN ⊢
      have e0 : bits .xor .u32 (S : Int) (x : Int) = ((S ^^^ e8 x : Nat) : Int) := u32_xor_nat _ _ hSl (by omega)
      have hTl : S ^^^ e8 x < 2 ^ 32 := Nat.xor_lt_two_pow hSl ((e8_lt 32 (by omega)) x hx')
      generalize S ^^^ e8 x = T at hTl HSN e0
      clear hsn hu hxk hSl
      have HTL := Lib.hid hTl
      clear hTl
      go_wp2
      go_loop [3, 5] (fun s j => ∃ q : Nat, q ≤ 8 ∧ j = .int .i64 q ∧ s = .int .u32 (iter fr q T : Nat)) (fun _ j => 8 - (intOf j).toNat)
      case atStart => exact ⟨0, Nat.zero_le _, rfl, rfl⟩
      case round =>
        obtain ⟨q, hq, rfl, rfl⟩ := hrel
        by_cases hq8 : q < 8
        · have hyl : iter fr q T < 2 ^ 32 := iter_bnd lin_fr.lt q HTL.out
          have hst : iter fr (q + 1) T = fr (iter fr q T) := rfl
          have HST := Lib.hid hst
          generalize iter fr q T = y at hyl HST ⊢
          clear hst e0
          by_cases hc : y % 2 = 1
          · have e1 : bits .and .u32 (y : Int) 1 = 1 := by rw [low32 y hyl, hc]; rfl
            have e2 : (y : Int) / 2 = ((y / 2 : Nat) : Int) := by omega
            have e3 : bits .xor .u32 ((y / 2 : Nat) : Int) 3988292384 = ((fr y : Nat) : Int) := by rw [show (3988292384 : Int) = ((3988292384 : Nat) : Int) from rfl, u32_xor_nat _ _ (by omega) (by omega), fr, if_pos hc]
            generalize fr y = r at HST e3
            generalize y / 2 = d at e2 e3
            clear hc hyl
            go_wp2
            exact ⟨⟨q + 1, by omega, rfl, by rw [HST.out]⟩, by simp [intOf]; omega⟩
          · have e1 : bits .and .u32 (y : Int) 1 = 0 := by rw [low32 y hyl, show y % 2 = 0 by omega]; rfl
            have e2 : (y : Int) / 2 = ((fr y : Nat) : Int) := by rw [fr, if_neg hc, Nat.xor_zero]; omega
            generalize fr y = r at HST e2
            clear hc hyl
            go_wp2
            exact ⟨⟨q + 1, by omega, rfl, by rw [HST.out]⟩, by simp [intOf]; omega⟩
        · obtain rfl : q = 8 := by omega
          go_wp2
          exact ⟨⟨k + 1, by omega, rfl, by rw [HSN.out]⟩, by simp [intOf]; omega⟩
    · have hnot := not32 (cr fr e8 4294967295 (l.take k)) (cr32_lt _ fun y hy => hx y (List.mem_of_mem_take hy))
      go_wp2
      go_ret
      have hkn : k = n := by omega
      have hln : n = l.length := by simpa [cu8] using hl.1
      subst hkn; subst hln
      rw [List.take_length]
      exact ⟨rfl, rfl⟩
end Go.Proofs.Ytdkhkjagkmniaaa
