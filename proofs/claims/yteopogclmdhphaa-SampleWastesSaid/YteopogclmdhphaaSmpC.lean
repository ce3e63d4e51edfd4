/- sample: the law SampleWastes. -/
import Derived.Test.YteopogclmdhphaaSmpA
namespace Go.Proofs.Yteopogclmdhphaa
open Go.RowKit
set_option maxRecDepth 100000
set_option maxHeartbeats 1600000

def shr (l : List Int) (k : Nat) : List Int := l.map (· / ((2 : Int) ^ k))
theorem wide_i64 {l : List Int} (hw : l.all wideB = true) : i64s l := fun x hx => by
  have := wide_iff.1 (List.all_eq_true.1 hw x hx)
  omega
theorem wide_div {x : Int} {k : Nat} (hw : wideB x = true) (hx : x % ((2 ^ k : Nat) : Int) = 0) : wideB (x / (2 : Int) ^ k) = true := by
  rw [wide_iff] at hw ⊢
  rw [← pow_cast]
  have h0 : 0 < 2 ^ k := Nat.two_pow_pos k
  obtain ⟨y, rfl⟩ := Int.dvd_of_emod_eq_zero hx
  generalize 2 ^ k = p at *
  rw [Int.mul_ediv_cancel_left _ (by omega)]
  rcases Int.lt_or_le y 0 with hy | hy
  · have : (p : Int) * y ≤ 1 * y := Int.mul_le_mul_of_nonpos_right (by omega) (by omega)
    omega
  · have : 1 * y ≤ (p : Int) * y := Int.mul_le_mul_of_nonneg_right (by omega) hy
    omega
theorem div_back {x : Int} {k : Nat} (hx : x % ((2 ^ k : Nat) : Int) = 0) : x / (2 : Int) ^ k * (2 : Int) ^ k = x := by
  rw [← pow_cast]; exact Int.ediv_mul_cancel (Int.dvd_of_emod_eq_zero hx)
theorem wastes_down {l : List Int} {k : Nat} (hw : l.all wideB = true) (hk : IsZ (orAll l) k) : downR l k = (shr l k, 0) := by
  have hs : shiftB (k : Int) = true := by rw [shiftB_iff]; have := hk.1; omega
  have hd := hk.all (wide_i64 hw)
  unfold downR
  rw [if_pos hs, Int.toNat_natCast, if_pos]
  · rfl
  · rw [List.all_eq_true]
    intro x hx
    unfold dOk
    rw [List.all_eq_true.1 hw x hx, ← pow_cast, hd x hx]; rfl
theorem wastes_up {l : List Int} {k : Nat} (hw : l.all wideB = true) (hk : IsZ (orAll l) k) : upR (shr l k) k = (l, 0) := by
  have hs : shiftB (k : Int) = true := by rw [shiftB_iff]; have := hk.1; omega
  have hd := hk.all (wide_i64 hw)
  unfold upR
  rw [if_pos hs, Int.toNat_natCast, if_pos]
  · congr 1
    unfold shr
    rw [List.map_map]
    conv => rhs; rw [← List.map_id l]
    apply List.map_congr_left
    intro x hx
    exact div_back (hd x hx)
  · rw [List.all_eq_true]
    intro y hy
    obtain ⟨x, hx, rfl⟩ := List.mem_map.1 hy
    unfold uOk
    rw [div_back (hd x hx), wide_div (List.all_eq_true.1 hw x hx) (hd x hx), List.all_eq_true.1 hw x hx]; rfl
theorem shr_wide {l : List Int} {k : Nat} (hw : l.all wideB = true) (hk : IsZ (orAll l) k) : (shr l k).all wideB = true := by
  rw [List.all_eq_true]
  intro y hy
  obtain ⟨x, hx, rfl⟩ := List.mem_map.1 hy
  exact wide_div (List.all_eq_true.1 hw x hx) (hk.all (wide_i64 hw) x hx)
theorem wastes_none {l : List Int} {k : Nat} (hw : l.all wideB = true) (hk : IsZ (orAll l) k) : IsZ (orAll (shr l k)) 0 := by
  have hd := hk.all (wide_i64 hw)
  have hsw := shr_wide hw hk
  refine ⟨by omega, fun _ => rfl, fun h0 => ⟨by simp, fun _ h1 => h0 ((orAll_zero (wide_i64 hsw)).2 fun y hy => ?_)⟩⟩
  have h2 := (orAll_mod (k := 0 + 1) (by omega) (shr l k)).1 h1
  have hev : ∀ x ∈ l, x % ((2 ^ (k + 1) : Nat) : Int) = 0 := fun x hx => by
    rw [mod_succ (hd x hx)]
    have := h2 (x / (2 : Int) ^ k) (List.mem_map.2 ⟨x, hx, rfl⟩)
    rw [← pow_cast] at this
    exact this
  obtain ⟨x, hx, rfl⟩ := List.mem_map.1 hy
  have hx0 : x = 0 := by
    by_cases hl0 : orAll l = 0
    · exact (orAll_zero (wide_i64 hw)).1 hl0 x hx
    · rcases Nat.lt_or_ge k 30 with h30 | h30
      · exact absurd ((orAll_mod (by omega) l).2 hev) ((hk.2.2 hl0).2 h30)
      · have hk30 : k = 30 := by have := hk.1; omega
        subst hk30
        have h3 := hev x hx
        have h4 := wide_iff.1 (List.all_eq_true.1 hw x hx)
        rw [show ((2 ^ (30 + 1) : Nat) : Int) = 2147483648 from rfl] at h3
        omega
  rw [hx0]; simp
theorem okW_shr {x : Int} {n k : Nat} (hx : x % ((2 ^ n : Nat) : Int) = 0) (hkn : k + n ≤ 31) (hk : 1 ≤ k) : okW (x / (2 : Int) ^ n) k ↔ okW x (k + n) := by
  have h := fits_shift hx hk hkn
  rw [pow_cast] at h
  have h0 : x / (2 : Int) ^ n = 0 ↔ x = 0 := by
    constructor
    · intro h1
      have := div_back hx
      rw [h1] at this
      omega
    · intro h1; rw [h1]; simp
  unfold okW
  rw [h0, h]
  constructor
  · rintro (h1 | h1 | h1)
    · exact .inl h1
    · omega
    · exact .inr (.inr h1)
  · rintro (h1 | h1 | h1)
    · exact .inl h1
    · omega
    · exact .inr (.inr h1)
theorem wastes_width {l : List Int} {k W : Nat} (hw : l.all wideB = true) (hk : IsZ (orAll l) k) (hW : IsW l W) (h0 : W ≠ 0) : k ≤ W ∧ IsW (shr l k) (W - k) := by
  have hd := hk.all (wide_i64 hw)
  have h31 : W ≤ 31 := by
    rcases hW.2.2 with h | ⟨x, hx, hn⟩
    · exact absurd h h0
    · rcases Nat.lt_or_ge 31 W with h1 | h1
      · have h2 := hW.1
        have hf := wide_fits.1 (List.all_eq_true.1 hw x hx)
        exact absurd (.inr (.inr (by rw [show W - 1 = 31 by omega]; exact hf))) hn
      · exact h1
  obtain ⟨x, hx, hn⟩ : ∃ x ∈ l, ¬ okW x (W - 1) := by
    rcases hW.2.2 with h | h
    · exact absurd h h0
    · exact h
  have hx0 : x ≠ 0 := fun h => hn (.inl h)
  have hkW : k < W := by
    refine Classical.byContradiction fun hlt => ?_
    have hf : fitsB x W = true := by
      rcases hW.2.1 x hx with h | h | h
      · exact absurd h hx0
      · omega
      · exact h
    rw [fits_nat] at hf
    obtain ⟨y, hy⟩ := Int.dvd_of_emod_eq_zero (hd x hx)
    have hp : 2 ^ (W - 1) < 2 ^ k := Nat.pow_lt_pow_right (by omega) (by omega)
    generalize 2 ^ (W - 1) = q at *
    generalize 2 ^ k = p at *
    rcases Int.lt_trichotomy y 0 with h1 | h1 | h1
    · have : (p : Int) * y ≤ p * (-1) := Int.mul_le_mul_of_nonneg_left (by omega) (by omega)
      omega
    · subst h1; omega
    · have : (p : Int) * 1 ≤ p * y := Int.mul_le_mul_of_nonneg_left (by omega) (by omega)
      omega
  refine ⟨by omega, by omega, fun y hy => ?_, .inr ⟨x / (2 : Int) ^ k, List.mem_map.2 ⟨x, hx, rfl⟩, ?_⟩⟩
  · obtain ⟨z, hz, rfl⟩ := List.mem_map.1 hy
    rw [okW_shr (hd z hz) (by omega) (by omega), show W - k + k = W by omega]
    exact hW.2.1 z hz
  · rcases Nat.lt_or_ge 1 (W - k) with h1 | h1
    · rw [okW_shr (hd x hx) (by omega) (by omega), show W - k - 1 + k = W - 1 by omega]
      exact hn
    · rw [show W - k - 1 = 0 by omega]
      rintro (h | h | h)
      · have := div_back (hd x hx)
        rw [h] at this
        omega
      · omega
      · rw [fits_nat] at h; omega

theorem sampleWastes_walk (v : Value) (l : List Int) (w : World) (hS : Sli w w.heap.size v (ci l)) :
    Calls Try.prog 7 #[v] w fun e w' => e = .returned (.bool true) ∧ Below w.heap.size w w' := by
  obtain ⟨A, c, rfl, hlc, hcm⟩ := hS.formI
  have hcm' : l.length ≤ 9223372036854775807 := by unfold maxLen at hcm; omega
  by_cases hlen : l.length ≤ 200
  · have hl40 : l.length ≤ 1099511627776 := by omega
    have haw := fun w B (hS : Sli w B (.slice A l.length c) (ci l)) => allWide_any _ l w B hS hl40
    cases hw : l.all wideB
    · rw [hw] at haw
      have HAW := Lib.hid haw
      clear haw hw
      go_enter Try.func7, Try.ntmps7
      go_wp2_with (first
        | (go_at_call 9; refine (known_any w).mono ?_; rintro e w1 ⟨rfl, hb1⟩; have hS1 := hS.below hb1)
        | (go_at_call 28; refine (HAW.out w1 _ hS1).mono ?_; rintro e w2 ⟨rfl, rfl⟩))
      go_ret
      exact ⟨rfl, hb1⟩
    · rw [hw] at haw
      have HAW := Lib.hid haw
      obtain ⟨k, hk⟩ := IsZ.ex (orAll l)
      obtain ⟨W, hW⟩ := IsW.ex l
      have hdn := wastes_down hw hk
      have hup := wastes_up hw hk
      have hno := wastes_none hw hk
      have hwi := wastes_width hw hk hW
      have hk30 := hk.1
      have hW32 := hW.1
      have hdl : (shr l k).length ≤ 1099511627776 := by unfold shr; rw [List.length_map]; exact hl40
      obtain ⟨V, hV⟩ := IsW.ex (shr l k)
      have hV32 := hV.1
      have hWV : W = 0 ∨ (W ≠ 0 ∧ (W : Int) - k = V) := by
        by_cases h : W = 0
        · exact .inl h
        · obtain ⟨h1, h2⟩ := hwi h
          have := h2.uniq hV
          exact .inr ⟨h, by omega⟩
      generalize shr l k = d at *
      have hd : ∀ w B, Sli w B (.slice A l.length c) (ci l) → B ≤ w.heap.size → Calls Try.prog 18 #[.slice A l.length c, .int .i64 k] w (RowP d 0 w) := fun w B hS hB => by
        have := down_any _ l k w B hS hB hl40
        rw [hdn] at this
        exact this
      have hu : ∀ v w B, Sli w B v (ci d) → B ≤ w.heap.size → Calls Try.prog 20 #[v, .int .i64 k] w (RowP l 0 w) := fun v w B hS hB => by
        have := up_any v d k w B hS hB hdl
        rw [hup] at this
        exact this
      have HD := Lib.hid hd; have HU := Lib.hid hu; have HK := Lib.hid hk; have HW := Lib.hid hW; have HV := Lib.hid hV; have HNO := Lib.hid hno
      clear haw hw hd hu hk hW hdn hup hno hwi hV
      rcases hWV with hW0 | ⟨hW0, hWk⟩
      · have hW0b : ((W : Int) == 0) = true := by simp; omega
        clear hW0
        go_enter Try.func7, Try.ntmps7
        go_wp2_with (first
          | (go_at_call 9; refine (known_any w).mono ?_; rintro e w1 ⟨rfl, hb1⟩; have hS1 := hS.below hb1)
          | (go_at_call 28; refine (HAW.out w1 _ hS1).mono ?_; rintro e w2 ⟨rfl, rfl⟩)
          | (go_at_call_of 22 (Value.slice A l.length c); refine (wasted_is hS1 hl40 HK.out).mono ?_; rintro e w2 ⟨rfl, rfl⟩)
          | (go_at_call 18; refine (HD.out w1 _ hS1 hb1.size).mono ?_; rintro e w3 ⟨v3, rfl, ho3, hb3⟩; obtain ⟨A3, c3, rfl, _, _⟩ := ho3.formI)
          | (go_at_call 20; refine (HU.out _ w3 _ ho3.sli (Nat.le_refl _)).mono ?_; rintro e w4 ⟨v4, rfl, ho4, hb4⟩; obtain ⟨A4, c4, rfl, _, _⟩ := ho4.formI; refine cut_here ?_))
        unfold CutHere
        have hS4 := (hS1.below (hb3.mono hb1.size)).below (hb4.mono (Nat.le_trans hb1.size hb3.size))
        have hS34 := ho3.sli.below hb4
        have hbb := bthen (bthen hb1 hb3 hb1.size) hb4 (Nat.le_trans hb1.size hb3.size)
        have Q1 := Lib.hid (sameInts_self _ _ l w4 _ _ ho4.sli hS4 hl40)
        have Q2 := Lib.hid (fun q => wasted_is (w := w4.drewN q) hS34 hdl HNO.out)
        have Q3 := Lib.hid (fun q => width_is (w := w4.drewN q) hS4 hl40 HW.out)
        clear hS4 hS34
        go_wp2_with (first
          | (go_at_call 24; refine Q1.out.mono ?_; rintro e w5 ⟨rfl, q, rfl⟩)
          | (go_at_call 22; refine (Q2.out q).mono ?_; rintro e w6 ⟨rfl, rfl⟩)
          | (go_at_call 16; refine (Q3.out q).mono ?_; rintro e w6 ⟨rfl, rfl⟩))
        go_ret
        exact ⟨rfl, below_drewN hbb _⟩
      · have hW0b : ((W : Int) == 0) = false := by simp; omega
        go_enter Try.func7, Try.ntmps7
        go_wp2_with (first
          | (go_at_call 9; refine (known_any w).mono ?_; rintro e w1 ⟨rfl, hb1⟩; have hS1 := hS.below hb1)
          | (go_at_call 28; refine (HAW.out w1 _ hS1).mono ?_; rintro e w2 ⟨rfl, rfl⟩)
          | (go_at_call_of 22 (Value.slice A l.length c); refine (wasted_is hS1 hl40 HK.out).mono ?_; rintro e w2 ⟨rfl, rfl⟩)
          | (go_at_call 18; refine (HD.out w1 _ hS1 hb1.size).mono ?_; rintro e w3 ⟨v3, rfl, ho3, hb3⟩; obtain ⟨A3, c3, rfl, _, _⟩ := ho3.formI)
          | (go_at_call 20; refine (HU.out _ w3 _ ho3.sli (Nat.le_refl _)).mono ?_; rintro e w4 ⟨v4, rfl, ho4, hb4⟩; obtain ⟨A4, c4, rfl, _, _⟩ := ho4.formI; refine cut_here ?_))
        unfold CutHere
        have hS4 := (hS1.below (hb3.mono hb1.size)).below (hb4.mono (Nat.le_trans hb1.size hb3.size))
        have hS34 := ho3.sli.below hb4
        have hbb := bthen (bthen hb1 hb3 hb1.size) hb4 (Nat.le_trans hb1.size hb3.size)
        have Q1 := Lib.hid (sameInts_self _ _ l w4 _ _ ho4.sli hS4 hl40)
        have Q2 := Lib.hid (fun q => wasted_is (w := w4.drewN q) hS34 hdl HNO.out)
        have Q3 := Lib.hid (fun q => width_is (w := w4.drewN q) hS4 hl40 HW.out)
        have Q4 := Lib.hid (fun q => width_is (w := w4.drewN q) hS34 hdl HV.out)
        clear hS4 hS34
        go_wp2_with (first
          | (go_at_call 24; refine Q1.out.mono ?_; rintro e w5 ⟨rfl, q, rfl⟩)
          | (go_at_call 22; refine (Q2.out q).mono ?_; rintro e w6 ⟨rfl, rfl⟩)
          | (go_at_call_of 16 (Value.slice A l.length c); refine (Q3.out q).mono ?_; rintro e w6 ⟨rfl, rfl⟩)
          | (go_at_call 16; refine (Q4.out q).mono ?_; rintro e w6 ⟨rfl, rfl⟩))
        go_ret
        exact ⟨rfl, below_drewN hbb _⟩
  · go_enter Try.func7, Try.ntmps7
    go_wp2_with (go_at_call 9; refine (known_any w).mono ?_; rintro e w1 ⟨rfl, hb1⟩)
    go_ret
    exact ⟨rfl, hb1⟩
end Go.Proofs.Yteopogclmdhphaa
