/- sample: Width, Wasted; the reference's; AllWide, zero, SameInts. -/
import Derived.Test.YteopogclmdhphaaSmpF
import Derived.Deep.QuietTactic
import Derived.BigQuiet
namespace Go.Proofs.Yteopogclmdhphaa
open Go.RowKit
set_option maxRecDepth 100000
set_option maxHeartbeats 400000

theorem okW_not {x : Int} {k : Nat} (hx : ¬ x = 0) (h31 : k ≤ 31) (hf : ¬ fitsB x k = true) : ¬ okW x k := by
  rintro (h | h | h)
  · exact hx h
  · omega
  · exact hf h
theorem width_any (v : Value) (l : List Int) (w : World) (B : Nat) (hS : Sli w B v (ci l)) (hn : l.length ≤ 1099511627776) :
    Calls Try.prog 16 #[v] w fun e w' => ∃ k : Nat, e = .returned (.int .i64 k) ∧ IsW l k ∧ w = w' := by
  obtain ⟨A, c, rfl, hlc, hcm⟩ := hS.formI
  obtain ⟨n, hnl⟩ : ∃ n, l.length = n := ⟨_, rfl⟩
  rw [hnl] at hS hlc hn ⊢
  have HNL := Lib.hid hnl; clear hnl
  go_enter Try.func16, Try.ntmps16
  go_wp2
  go_loop [3, 8] (fun v i => ∃ j k : Nat, j ≤ n ∧ i = .int .i64 j ∧ v = .int .i64 k ∧ Hid (IsW (l.take j) k)) (fun _ i => n - (intOf i).toNat)
  case atStart => exact ⟨0, 0, Nat.zero_le _, rfl, rfl, IsW.nil⟩
  case round =>
    obtain ⟨j, k, hj, rfl, rfl, hk⟩ := hrel
    by_cases hlt : j < n
    · have hjl : j < l.length := by rw [HNL.out]; exact hlt
      obtain ⟨b, o, rfl, hb, hcell⟩ := hS.atI hjl
      have htk : l.take (j + 1) = l.take j ++ [l[j]] := List.take_succ_eq_append_getElem hjl
      have hm := Lib.hid (hk.out.mid l[j])
      have HT := Lib.hid htk; clear htk hk
      generalize l[j] = x at *
      clear hjl
      go_wp2
      go_loop [3] (fun v => ∃ k : Nat, v = .int .i64 k ∧ k ≤ 32 ∧ Hid (MidW (l.take j) x k)) (fun v => 32 - (intOf v).toNat)
      case atStart => exact ⟨k, rfl, hm.out.1, hm⟩
      case round =>
        obtain ⟨k, rfl, hk32, hk⟩ := hrel
        have hdone : okW x k → IsW (l.take (j + 1)) k := fun h => by rw [HT.out]; exact hk.out.done h
        have HD := Lib.hid hdone; clear hdone
        by_cases hx : x = 0
        · subst hx
          go_wp2
          exact ⟨⟨j + 1, k, by omega, by simp, rfl, HD.out (.inl rfl)⟩, by simp [intOf]; omega⟩
        · by_cases h31 : k ≤ 31
          · by_cases hf : fitsB x k = true
            · have HF := Lib.hid (fun w => fits_any x k w)
              rw [hf] at HF
              have HF0 := Lib.hid hf; clear hf
              go_wp2_with (go_at_call 14; refine (HF.out _).mono ?_; rintro e w1 ⟨rfl, rfl⟩)
              exact ⟨⟨j + 1, k, by omega, by simp, rfl, HD.out (.inr (.inr HF0.out))⟩, by simp [intOf]; omega⟩
            · have HF := Lib.hid (fun w => fits_any x k w)
              rw [Bool.eq_false_iff.2 hf] at HF
              have HN := Lib.hid (hk.out.more (okW_not hx h31 hf)); clear hf
              go_wp2_with (go_at_call 14; refine (HF.out _).mono ?_; rintro e w1 ⟨rfl, rfl⟩)
              exact ⟨⟨k + 1, by simp, by omega, HN⟩, by simp [intOf]; omega⟩
          · go_wp2
            exact ⟨⟨j + 1, k, by omega, by simp, rfl, HD.out (.inr (.inl (by omega)))⟩, by simp [intOf]; omega⟩
    · go_wp2
      go_ret
      have : j = l.length := by rw [HNL.out]; omega
      subst this
      rw [List.take_length] at hk
      exact ⟨k, rfl, hk.out, rfl⟩
theorem rwidth_any (v : Value) (l : List Int) (w : World) (B : Nat) (hS : Sli w B v (ci l)) (hn : l.length ≤ 1099511627776) :
    Calls Try.prog 17 #[v] w fun e w' => ∃ k : Nat, e = .returned (.int .i64 k) ∧ IsW l k ∧ w = w' := by
  obtain ⟨A, c, rfl, hlc, hcm⟩ := hS.formI
  obtain ⟨n, hnl⟩ : ∃ n, l.length = n := ⟨_, rfl⟩
  rw [hnl] at hS hlc hn ⊢
  have HNL := Lib.hid hnl; clear hnl
  go_enter Try.func17, Try.ntmps17
  go_wp2
  go_loop [3, 4] (fun v i => ∃ j k : Nat, j ≤ n ∧ i = .int .i64 j ∧ v = .int .i64 k ∧ Hid (IsW (l.take j) k)) (fun _ i => n - (intOf i).toNat)
  case atStart => exact ⟨0, 0, Nat.zero_le _, rfl, rfl, IsW.nil⟩
  case round =>
    obtain ⟨j, k, hj, rfl, rfl, hk⟩ := hrel
    by_cases hlt : j < n
    · have hjl : j < l.length := by rw [HNL.out]; exact hlt
      obtain ⟨b, o, rfl, hb, hcell⟩ := hS.atI hjl
      have htk : l.take (j + 1) = l.take j ++ [l[j]] := List.take_succ_eq_append_getElem hjl
      have hm := Lib.hid (hk.out.mid l[j])
      have HT := Lib.hid htk; clear htk hk
      generalize l[j] = x at *
      clear hjl
      go_wp2
      go_loop [3] (fun v => ∃ k : Nat, v = .int .i64 k ∧ k ≤ 32 ∧ Hid (MidW (l.take j) x k)) (fun v => 32 - (intOf v).toNat)
      case atStart => exact ⟨k, rfl, hm.out.1, hm⟩
      case round =>
        obtain ⟨k, rfl, hk32, hk⟩ := hrel
        have hdone : okW x k → IsW (l.take (j + 1)) k := fun h => by rw [HT.out]; exact hk.out.done h
        have HD := Lib.hid hdone; clear hdone
        by_cases h31 : k ≤ 31
        · by_cases hx : x = 0
          · subst hx
            go_wp2
            exact ⟨⟨j + 1, k, by omega, by simp, rfl, HD.out (.inl rfl)⟩, by simp [intOf]; omega⟩
          · have hxb : (x != 0) = true := by simpa using hx
            by_cases hf : fitsB x k = true
            · have HF := Lib.hid (fun w => rfits_any x k w)
              rw [hf] at HF
              have HF0 := Lib.hid hf; clear hf
              go_wp2_with (go_at_call 15; refine (HF.out _).mono ?_; rintro e w1 ⟨rfl, rfl⟩)
              exact ⟨⟨j + 1, k, by omega, by simp, rfl, HD.out (.inr (.inr HF0.out))⟩, by simp [intOf]; omega⟩
            · have HF := Lib.hid (fun w => rfits_any x k w)
              rw [Bool.eq_false_iff.2 hf] at HF
              have HN := Lib.hid (hk.out.more (okW_not hx h31 hf)); clear hf
              go_wp2_with (go_at_call 15; refine (HF.out _).mono ?_; rintro e w1 ⟨rfl, rfl⟩)
              exact ⟨⟨k + 1, by simp, by omega, HN⟩, by simp [intOf]; omega⟩
        · go_wp2
          exact ⟨⟨j + 1, k, by omega, by simp, rfl, HD.out (.inr (.inl (by omega)))⟩, by simp [intOf]; omega⟩
    · go_wp2
      go_ret
      have : j = l.length := by rw [HNL.out]; omega
      subst this
      rw [List.take_length] at hk
      exact ⟨k, rfl, hk.out, rfl⟩

theorem and1 (c : Int) : bits .and .i64 c 1 = c % 2 := i64_mask 1 (by omega) c
theorem IsZ.zero : IsZ 0 0 := ⟨by omega, fun _ => rfl, fun h => absurd rfl h⟩
theorem IsZ.of_mid {A : Int} {n : Nat} (hA : A ≠ 0) (hn : n ≤ 30) (h : A % ((2 ^ n : Nat) : Int) = 0) (hd : n = 30 ∨ A / ((2 ^ n : Nat) : Int) % 2 ≠ 0) : IsZ A n :=
  ⟨hn, fun h => absurd h hA, fun _ => ⟨h, fun hl he => by rcases hd with hd | hd; · omega
                                                          · exact hd ((mod_succ h).1 he)⟩⟩
theorem wasted_any (v : Value) (l : List Int) (w : World) (B : Nat) (hS : Sli w B v (ci l)) (hn : l.length ≤ 1099511627776) :
    Calls Try.prog 22 #[v] w fun e w' => ∃ k : Nat, e = .returned (.int .i64 k) ∧ IsZ (orAll l) k ∧ w = w' := by
  obtain ⟨A, c, rfl, hlc, hcm⟩ := hS.formI
  obtain ⟨n, hnl⟩ : ∃ n, l.length = n := ⟨_, rfl⟩
  rw [hnl] at hS hlc hn ⊢
  have HNL := Lib.hid hnl; clear hnl
  go_enter Try.func22, Try.ntmps22
  go_wp2
  go_loop [3, 9] (fun v i => ∃ j : Nat, j ≤ n ∧ i = .int .i64 j ∧ v = .int .i64 (orAll (l.take j))) (fun _ i => n - (intOf i).toNat)
  case atStart => exact ⟨0, Nat.zero_le _, rfl, rfl⟩
  case round =>
    obtain ⟨j, hj, rfl, rfl⟩ := hrel
    by_cases hlt : j < n
    · have hjl : j < l.length := by rw [HNL.out]; exact hlt
      obtain ⟨b, o, rfl, hb, hcell⟩ := hS.atI hjl
      have htk : orAll (l.take (j + 1)) = bits .or .i64 (orAll (l.take j)) l[j] := by rw [List.take_succ_eq_append_getElem hjl, orAll_snoc]; rfl
      have HT := Lib.hid htk; clear htk
      generalize l[j] = x at *
      generalize orAll (l.take j) = a at *
      clear hjl
      go_wp2
      exact ⟨⟨j + 1, by omega, by simp, by rw [HT.out]⟩, by simp [intOf]; omega⟩
    · have : j = l.length := by rw [HNL.out]; omega
      subst this
      rw [List.take_length]
      have hr := orAll_rng l
      obtain ⟨a, hal⟩ : ∃ a, orAll l = a := ⟨_, rfl⟩
      have HA := Lib.hid hal
      rw [hal] at hr ⊢
      clear hal
      by_cases h0 : a = 0
      · subst h0
        go_wp2
        go_ret
        exact ⟨0, rfl, by rw [HA.out]; exact IsZ.zero, rfl⟩
      · have h0b : (a == 0) = false := by simpa using h0
        go_wp2
        go_loop [6] (fun i => ∃ k : Nat, k ≤ 30 ∧ i = .int .i64 k ∧ Hid (a % ((2 ^ k : Nat) : Int) = 0)) (fun i => 30 - (intOf i).toNat)
        case atStart => exact ⟨0, by omega, rfl, by simp [Hid]⟩
        case round =>
          obtain ⟨k, hk, rfl, hz⟩ := hrel
          by_cases hk30 : k < 30
          · have hand := and1 (a / 2 ^ k)
            by_cases hq : a / ((2 ^ k : Nat) : Int) % 2 = 0
            · have hz2 := Lib.hid ((mod_succ hz.out).2 hq)
              rw [← pow_cast, hq] at hand
              rw [pow_cast] at hand
              clear hq
              go_wp2
              exact ⟨⟨k + 1, by omega, by simp, hz2⟩, by simp [intOf]; omega⟩
            · have hZ := Lib.hid (IsZ.of_mid h0 hk hz.out (.inr hq))
              have hqb : (a / ((2 ^ k : Nat) : Int) % 2 == 0) = false := by simpa using hq
              rw [← pow_cast] at hand
              generalize a / ((2 ^ k : Nat) : Int) % 2 = q at hand hqb
              rw [pow_cast] at hand
              clear hq
              go_wp2
              go_ret
              exact ⟨k, rfl, by rw [HA.out]; exact hZ.out, rfl⟩
          · have hZ := Lib.hid (IsZ.of_mid h0 hk hz.out (.inl (by omega)))
            go_wp2
            go_ret
            exact ⟨k, rfl, by rw [HA.out]; exact hZ.out, rfl⟩
theorem rwasted_any (v : Value) (l : List Int) (w : World) (B : Nat) (hS : Sli w B v (ci l)) (hn : l.length ≤ 1099511627776) :
    Calls Try.prog 23 #[v] w fun e w' => ∃ k : Nat, e = .returned (.int .i64 k) ∧ IsZ (orAll l) k ∧ w = w' := by
  obtain ⟨A, c, rfl, hlc, hcm⟩ := hS.formI
  obtain ⟨n, hnl⟩ : ∃ n, l.length = n := ⟨_, rfl⟩
  rw [hnl] at hS hlc hn ⊢
  have HNL := Lib.hid hnl; clear hnl
  go_enter Try.func23, Try.ntmps23
  go_wp2
  go_loop [3, 4] (fun v i => ∃ j : Nat, j ≤ n ∧ i = .int .i64 j ∧ v = .int .i64 (orAll (l.take j))) (fun _ i => n - (intOf i).toNat)
  case atStart => exact ⟨0, Nat.zero_le _, rfl, rfl⟩
  case round =>
    obtain ⟨j, hj, rfl, rfl⟩ := hrel
    by_cases hlt : j < n
    · have hjl : j < l.length := by rw [HNL.out]; exact hlt
      obtain ⟨b, o, rfl, hb, hcell⟩ := hS.atI hjl
      have htk : orAll (l.take (j + 1)) = bits .or .i64 (orAll (l.take j)) l[j] := by rw [List.take_succ_eq_append_getElem hjl, orAll_snoc]; rfl
      have HT := Lib.hid htk; clear htk
      generalize l[j] = x at *
      generalize orAll (l.take j) = a at *
      clear hjl
      go_wp2
      exact ⟨⟨j + 1, by omega, by simp, by rw [HT.out]⟩, by simp [intOf]; omega⟩
    · have : j = l.length := by rw [HNL.out]; omega
      subst this
      rw [List.take_length]
      have hr := orAll_rng l
      obtain ⟨a, hal⟩ : ∃ a, orAll l = a := ⟨_, rfl⟩
      have HA := Lib.hid hal
      rw [hal] at hr ⊢
      clear hal
      by_cases h0 : a = 0
      · subst h0
        go_wp2
        go_loop [5] (fun i => i = .int .i64 0) (fun _ => 0)
        case atStart => rfl
        case round =>
          subst hrel
          go_wp2
          go_ret
          exact ⟨0, rfl, by rw [HA.out]; exact IsZ.zero, rfl⟩
      · have h0b : (a != 0) = true := by simpa using h0
        go_wp2
        go_loop [5] (fun i => ∃ k : Nat, k ≤ 30 ∧ i = .int .i64 k ∧ Hid (a % ((2 ^ k : Nat) : Int) = 0)) (fun i => 30 - (intOf i).toNat)
        case atStart => exact ⟨0, by omega, rfl, by simp [Hid]⟩
        case round =>
          obtain ⟨k, hk, rfl, hz⟩ := hrel
          by_cases hk30 : k < 30
          · have hand := and1 (a / 2 ^ k)
            by_cases hq : a / ((2 ^ k : Nat) : Int) % 2 = 0
            · have hz2 := Lib.hid ((mod_succ hz.out).2 hq)
              rw [← pow_cast, hq] at hand
              rw [pow_cast] at hand
              clear hq
              go_wp2
              exact ⟨⟨k + 1, by omega, by simp, hz2⟩, by simp [intOf]; omega⟩
            · have hZ := Lib.hid (IsZ.of_mid h0 hk hz.out (.inr hq))
              have hqb : (a / ((2 ^ k : Nat) : Int) % 2 == 0) = false := by simpa using hq
              rw [← pow_cast] at hand
              generalize a / ((2 ^ k : Nat) : Int) % 2 = q at hand hqb
              rw [pow_cast] at hand
              clear hq
              go_wp2
              go_ret
              exact ⟨k, rfl, by rw [HA.out]; exact hZ.out, rfl⟩
          · have hZ := Lib.hid (IsZ.of_mid h0 hk hz.out (.inl (by omega)))
            go_wp2
            go_ret
            exact ⟨k, rfl, by rw [HA.out]; exact hZ.out, rfl⟩

theorem allWide_any (v : Value) (l : List Int) (w : World) (B : Nat) (hS : Sli w B v (ci l)) (hn : l.length ≤ 1099511627776) :
    Calls Try.prog 28 #[v] w fun e w' => e = .returned (.bool (l.all wideB)) ∧ w = w' := by
  obtain ⟨A, c, rfl, hlc, hcm⟩ := hS.formI
  obtain ⟨n, hnl⟩ : ∃ n, l.length = n := ⟨_, rfl⟩
  rw [hnl] at hS hlc hn ⊢
  have HNL := Lib.hid hnl; clear hnl
  go_enter Try.func28, Try.ntmps28
  go_wp2
  go_loop [3] (fun i => ∃ j : Nat, j ≤ n ∧ i = .int .i64 j ∧ Hid ((l.take j).all wideB = true)) (fun i => n - (intOf i).toNat)
  case atStart => exact ⟨0, Nat.zero_le _, rfl, rfl⟩
  case round =>
    obtain ⟨j, hj, rfl, hall⟩ := hrel
    by_cases hlt : j < n
    · have hjl : j < l.length := by rw [HNL.out]; exact hlt
      obtain ⟨b, o, rfl, hb, hcell⟩ := hS.atI hjl
      have htk : (l.take (j + 1)).all wideB = ((l.take j).all wideB && wideB l[j]) := by rw [List.take_succ_eq_append_getElem hjl, List.all_append]; simp only [List.all_cons, List.all_nil, Bool.and_true]
      have hno : wideB l[j] = false → l.all wideB = false := fun h => List.all_eq_false.2 ⟨l[j], List.getElem_mem _, by simp [h]⟩
      have HT := Lib.hid htk; have HNO := Lib.hid hno; clear htk hno
      generalize l[j] = x at *
      have hx := fun w => rWide_any x w
      cases hwx : wideB x
      · rw [hwx] at hx
        have hf := Lib.hid (HNO.out hwx)
        have HX := Lib.hid hx
        clear hx hjl hwx
        go_wp2_with (go_at_call 33; refine (HX.out _).mono ?_; rintro e w1 ⟨rfl, rfl⟩)
        go_ret
        exact ⟨by rw [hf.out]; rfl, rfl⟩
      · rw [hwx] at hx
        have ht := Lib.hid (HT.out.trans (by rw [hall.out, hwx, Bool.and_self]))
        have HX := Lib.hid hx
        clear hx hjl hwx
        go_wp2_with (go_at_call 33; refine (HX.out _).mono ?_; rintro e w1 ⟨rfl, rfl⟩)
        exact ⟨⟨j + 1, by omega, by simp, ht⟩, by simp [intOf]; omega⟩
    · have : j = l.length := by rw [HNL.out]; omega
      subst this
      rw [List.take_length] at hall
      go_wp2
      go_ret
      exact ⟨by rw [hall.out]; rfl, rfl⟩
theorem zero_any (v : Value) (l : List Int) (w : World) (B : Nat) (hS : Sli w B v (ci l)) (hn : l.length ≤ 1099511627776) :
    Calls Try.prog 32 #[v] w fun e w' => e = .returned (.bool (l.all (· == 0))) ∧ w = w' := by
  obtain ⟨A, c, rfl, hlc, hcm⟩ := hS.formI
  obtain ⟨n, hnl⟩ : ∃ n, l.length = n := ⟨_, rfl⟩
  rw [hnl] at hS hlc hn ⊢
  have HNL := Lib.hid hnl; clear hnl
  go_enter Try.func32, Try.ntmps32
  go_wp2
  go_loop [3] (fun i => ∃ j : Nat, j ≤ n ∧ i = .int .i64 j ∧ Hid ((l.take j).all (· == 0) = true)) (fun i => n - (intOf i).toNat)
  case atStart => exact ⟨0, Nat.zero_le _, rfl, rfl⟩
  case round =>
    obtain ⟨j, hj, rfl, hall⟩ := hrel
    by_cases hlt : j < n
    · have hjl : j < l.length := by rw [HNL.out]; exact hlt
      obtain ⟨b, o, rfl, hb, hcell⟩ := hS.atI hjl
      have htk : (l.take (j + 1)).all (· == 0) = ((l.take j).all (· == 0) && l[j] == 0) := by rw [List.take_succ_eq_append_getElem hjl, List.all_append]; simp only [List.all_cons, List.all_nil, Bool.and_true]
      have hno : (l[j] == 0) = false → l.all (· == 0) = false := fun h => List.all_eq_false.2 ⟨l[j], List.getElem_mem _, by simp [h]⟩
      have HT := Lib.hid htk; have HNO := Lib.hid hno; clear htk hno
      generalize l[j] = x at *
      by_cases hx : x = 0
      · subst hx
        have ht := Lib.hid (HT.out.trans (by rw [hall.out, Bool.true_and, beq_self_eq_true]))
        clear hjl
        go_wp2
        exact ⟨⟨j + 1, by omega, by simp, ht⟩, by simp [intOf]; omega⟩
      · have hf := Lib.hid (HNO.out (by simpa using hx))
        have hxb : (x != 0) = true := by simpa using hx
        clear hjl hx
        go_wp2
        go_ret
        exact ⟨by rw [hf.out]; rfl, rfl⟩
    · have : j = l.length := by rw [HNL.out]; omega
      subst this
      rw [List.take_length] at hall
      go_wp2
      go_ret
      exact ⟨by rw [hall.out]; rfl, rfl⟩
theorem sameInts_any (va vb : Value) (a b : List Int) (w : World) (B1 B2 : Nat) (ha : Sli w B1 va (ci a)) (hb : Sli w B2 vb (ci b)) (hna : a.length ≤ 1099511627776) (hnb : b.length ≤ 1099511627776) :
    Calls Try.prog 24 #[va, vb] w fun e w' => e = .returned (.bool (decide (a = b))) ∧ ∃ q, w' = w.drewN q := by
  obtain ⟨A1, c1, rfl, hlc1, hcm1⟩ := ha.formI
  obtain ⟨A2, c2, rfl, hlc2, hcm2⟩ := hb.formI
  obtain ⟨n, hnl⟩ : ∃ n, a.length = n := ⟨_, rfl⟩
  obtain ⟨m, hml⟩ : ∃ m, b.length = m := ⟨_, rfl⟩
  rw [hnl] at ha hlc1 hna ⊢
  rw [hml] at hb hlc2 hnb ⊢
  have HNL := Lib.hid hnl; have HML := Lib.hid hml; clear hnl hml
  by_cases hnm : n = m
  · subst hnm
    go_enter Try.func24, Try.ntmps24
    go_wp2
    go_loopw [5] (fun i wr => ∃ j : Nat, j ≤ n ∧ i = .int .i64 j ∧ Hid (a.take j = b.take j) ∧ Hid (∃ q, wr = w.drewN q) ∧ (∀ p, wr.cell? p = w.cell? p)) (fun i _ => n - (intOf i).toNat)
    case atStart => exact ⟨0, Nat.zero_le _, rfl, rfl, ⟨0, rfl⟩, fun _ => rfl⟩
    case round =>
      obtain ⟨j, hj, rfl, hall, hq, hce⟩ := hrel
      by_cases hlt : j < n
      · have hja : j < a.length := by rw [HNL.out]; exact hlt
        have hjb : j < b.length := by rw [HML.out]; exact hlt
        obtain ⟨b1, o1, rfl, hb1, hc1⟩ := ha.atI hja
        obtain ⟨b2, o2, rfl, hb2, hc2⟩ := hb.atI hjb
        rw [← hce] at hc1 hc2
        have hts : a[j] = b[j] → a.take (j + 1) = b.take (j + 1) := fun h => by rw [List.take_succ_eq_append_getElem hja, List.take_succ_eq_append_getElem hjb, hall.out, h]
        have hno : a[j] ≠ b[j] → decide (a = b) = false := fun h => decide_eq_false fun e => h (by subst e; rfl)
        have HT := Lib.hid hts; have HNO := Lib.hid hno; clear hts hno
        generalize a[j] = x at *
        generalize b[j] = y at *
        have HCE := Lib.hid hce
        clear hja hjb hce
        have hjn : (j : Int) < (n : Int) := by omega
        by_cases hxy : x = y
        · subst hxy
          have ht := Lib.hid (HT.out rfl)
          go_wp2
          go_quiet (fail)
          go_wp2
          exact ⟨⟨j + 1, by omega, by simp, ht, by obtain ⟨q, h⟩ := hq.out; exact ⟨q + nq, by rw [h, World.drewN_drewN]⟩, HCE.out⟩, by simp [intOf]; omega⟩
        · have hf := Lib.hid (HNO.out hxy)
          have hxb : (x != y) = true := by simpa using hxy
          clear hxy
          go_wp2
          go_quiet (fail)
          go_wp2
          go_ret
          exact ⟨by rw [hf.out]; rfl, by obtain ⟨q, h⟩ := hq.out; exact ⟨q + nq, by rw [h, World.drewN_drewN]⟩⟩
      · have h1 : j = a.length := by rw [HNL.out]; omega
        have h2 : a.take j = a := by rw [h1, List.take_length]
        have h3 : b.take j = b := by rw [h1, HNL.out, ← HML.out, List.take_length]
        have he := hall.out
        rw [h2, h3] at he
        have HE := Lib.hid he
        clear h1 h2 h3 he
        go_wp2
        go_ret
        exact ⟨by rw [decide_eq_true HE.out]; rfl, hq.out⟩
  · have hf : decide (a = b) = false := decide_eq_false fun e => hnm (by rw [← HNL.out, ← HML.out, e])
    rw [hf]
    go_enter Try.func24, Try.ntmps24
    go_wp2
    go_ret
    exact ⟨rfl, 0, rfl⟩
end Go.Proofs.Yteopogclmdhphaa
