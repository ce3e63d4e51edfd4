/- rice: the laws RiceTells, RiceLeast, RiceFolds, RiceRises. -/
import Derived.Test.YtgogfmpichdejaaRicZ
namespace Go.Proofs.Ytgogfmpichdejaa
open Go.RowKit
set_option maxRecDepth 100000
set_option maxHeartbeats 800000

theorem riceTells_walk (k x : Int) (u : Nat) (va : Value) (l : List Int) (w : World) (hA : Sli w w.heap.size va (ci l)) (hu : u < 18446744073709551616) :
    Calls Try.prog 3 #[.int .i64 k, .int .i64 x, .int .u64 (u : Nat), va] w fun e w' => e = .returned (.bool true) ∧ Below w.heap.size w w' := by
  obtain ⟨A1, c1, rfl, hlc1, hcm1⟩ := hA.formI
  by_cases h120 : 120 < l.length
  · go_enter Try.func3, Try.ntmps3
    go_wp2_with (go_at_call 11; refine (knownR_any w).mono ?_; rintro e w1 ⟨rfl, hb1⟩)
    go_ret
    exact ⟨rfl, hb1⟩
  have hl40 : l.length ≤ 1099511627776 := by omega
  have h1 := fun w => fold_any x w
  have h2 := fun w => qfold_any x w
  have h3 := fun w => unfold_any u w hu
  have h4 := fun w => qunfold_any u w hu
  have h5 := fun w => cost_any k x w
  have h6 := fun w => qcost_any k x w
  have h7 := fun w1 (hb : Below w.heap.size w w1) => sum_any k _ l w1 _ (hA.below hb) hl40
  have h8 := fun w1 (hb : Below w.heap.size w w1) => qsum_any k _ l w1 _ (hA.below hb) hl40
  have h9 := fun w1 (hb : Below w.heap.size w w1) => best_any _ l w1 _ (hA.below hb) hl40
  have h10 := fun w1 (hb : Below w.heap.size w w1) => qbest_any _ l w1 _ (hA.below hb) hl40
  generalize foldN x = a1 at *
  generalize unfoldI u = a2 at *
  generalize costI k x = a3 at *
  generalize sumI k l = a4 at *
  generalize bestN l = a5 at *
  have H1 := Lib.hid h1; have H2 := Lib.hid h2; have H3 := Lib.hid h3; have H4 := Lib.hid h4; have H5 := Lib.hid h5; have H6 := Lib.hid h6; have H7 := Lib.hid h7; have H8 := Lib.hid h8; have H9 := Lib.hid h9; have H10 := Lib.hid h10
  clear h1 h2 h3 h4 h5 h6 h7 h8 h9 h10 hA
  go_enter Try.func3, Try.ntmps3
  go_wp2_with (first
    | (go_at_call 11; refine (knownR_any w).mono ?_; rintro e w1 ⟨rfl, hb1⟩)
    | (go_at_call 12; refine (H1.out _).mono ?_; rintro e w2 ⟨rfl, rfl⟩)
    | (go_at_call 13; refine (H2.out _).mono ?_; rintro e w2 ⟨rfl, rfl⟩)
    | (go_at_call 14; refine (H3.out _).mono ?_; rintro e w2 ⟨rfl, rfl⟩)
    | (go_at_call 15; refine (H4.out _).mono ?_; rintro e w2 ⟨rfl, rfl⟩)
    | (go_at_call 16; refine (H5.out _).mono ?_; rintro e w2 ⟨rfl, rfl⟩)
    | (go_at_call 17; refine (H6.out _).mono ?_; rintro e w2 ⟨rfl, rfl⟩)
    | (go_at_call 18; refine (H7.out _ hb1).mono ?_; rintro e w2 ⟨rfl, rfl⟩)
    | (go_at_call 19; refine (H8.out _ hb1).mono ?_; rintro e w2 ⟨rfl, rfl⟩)
    | (go_at_call 20; refine (H9.out _ hb1).mono ?_; rintro e w2 ⟨rfl, rfl⟩)
    | (go_at_call 21; refine (H10.out _ hb1).mono ?_; rintro e w2 ⟨rfl, rfl⟩))
  go_ret
  exact ⟨rfl, hb1⟩

theorem bestN_le (l : List Int) : bestN l ≤ 25 := bestFrom_le l 25
theorem riceLeast_walk (va : Value) (l : List Int) (k : Int) (w : World) (hA : Sli w w.heap.size va (ci l)) (_ : -9223372036854775808 ≤ k) (_ : k ≤ 9223372036854775807) :
    Calls Try.prog 7 #[va, .int .i64 k] w fun e w' => e = .returned (.bool true) ∧ Below w.heap.size w w' := by
  obtain ⟨A1, c1, rfl, hlc1, hcm1⟩ := hA.formI
  by_cases h150 : 150 < l.length
  · go_enter Try.func7, Try.ntmps7
    go_wp2_with (go_at_call 11; refine (knownR_any w).mono ?_; rintro e w1 ⟨rfl, hb1⟩)
    go_ret
    exact ⟨rfl, hb1⟩
  have hl40 : l.length ≤ 1099511627776 := by omega
  have h0 := fun w1 (hb : Below w.heap.size w w1) => allWide_any _ l w1 _ (hA.below hb) hl40
  have h9 := fun w1 (hb : Below w.heap.size w w1) => best_any _ l w1 _ (hA.below hb) hl40
  have hand : bits .and .i64 k 255 = k % 256 := i64_mask 8 (by omega) k
  obtain ⟨m, hm⟩ : ∃ m : Nat, k % 256 % 26 = (m : Nat) := ⟨(k % 256 % 26).toNat, by omega⟩
  have hm25 : m ≤ 25 := by omega
  have hbl := bestFrom_least l 25 m hm25
  have hb25 := bestN_le l
  rw [show bestFrom l 25 = bestN l from rfl] at hbl
  generalize bestN l = b at *
  have h7 := fun w1 (hb : Below w.heap.size w w1) => sum_any (b : Nat) _ l w1 _ (hA.below hb) hl40
  have h8 := fun w1 (hb : Below w.heap.size w w1) => sum_any (m : Nat) _ l w1 _ (hA.below hb) hl40
  have hsb := sumI_le (b : Nat) l
  have hsm := sumI_le (m : Nat) l
  generalize sumI (b : Nat) l = s at *
  generalize sumI (m : Nat) l = t at *
  obtain ⟨hst, hst2⟩ := hbl
  cases hall : l.all wideB
  · rw [hall] at h0
    have H0 := Lib.hid h0
    clear h0 h9 h7 h8 hA hall
    go_enter Try.func7, Try.ntmps7
    go_wp2_with (first
      | (go_at_call 11; refine (knownR_any w).mono ?_; rintro e w1 ⟨rfl, hb1⟩)
      | (go_at_call 39; refine (H0.out _ hb1).mono ?_; rintro e w2 ⟨rfl, rfl⟩))
    go_ret
    exact ⟨rfl, hb1⟩
  · rw [hall] at h0
    have H0 := Lib.hid h0; have H7 := Lib.hid h7; have H8 := Lib.hid h8; have H9 := Lib.hid h9
    clear h0 h9 h7 h8 hA hall
    by_cases hmb : b ≤ m
    · clear hst2
      go_enter Try.func7, Try.ntmps7
      go_wp2_with (first
        | (go_at_call 11; refine (knownR_any w).mono ?_; rintro e w1 ⟨rfl, hb1⟩)
        | (go_at_call 39; refine (H0.out _ hb1).mono ?_; rintro e w2 ⟨rfl, rfl⟩)
        | (go_at_call 20; refine (H9.out _ hb1).mono ?_; rintro e w2 ⟨rfl, rfl⟩; refine cut_here ?_))
      unfold CutHere
      go_wp2_with fail
      refine (H7.out _ hb1).mono ?_; rintro e w3 ⟨rfl, rfl⟩
      go_wp2_with fail
      refine (H8.out _ hb1).mono ?_; rintro e w3 ⟨rfl, rfl⟩
      go_wp2
      go_ret
      exact ⟨rfl, hb1⟩
    · have hlt := hst2 (by omega)
      clear hst2
      go_enter Try.func7, Try.ntmps7
      go_wp2_with (first
        | (go_at_call 11; refine (knownR_any w).mono ?_; rintro e w1 ⟨rfl, hb1⟩)
        | (go_at_call 39; refine (H0.out _ hb1).mono ?_; rintro e w2 ⟨rfl, rfl⟩)
        | (go_at_call 20; refine (H9.out _ hb1).mono ?_; rintro e w2 ⟨rfl, rfl⟩; refine cut_here ?_))
      unfold CutHere
      go_wp2_with fail
      refine (H7.out _ hb1).mono ?_; rintro e w3 ⟨rfl, rfl⟩
      go_wp2_with fail
      refine (H8.out _ hb1).mono ?_; rintro e w3 ⟨rfl, rfl⟩
      go_wp2_with fail
      refine (H7.out _ hb1).mono ?_; rintro e w3 ⟨rfl, rfl⟩
      go_wp2_with fail
      refine (H8.out _ hb1).mono ?_; rintro e w3 ⟨rfl, rfl⟩
      go_wp2
      go_ret
      exact ⟨rfl, hb1⟩

theorem riceFolds_walk (a b : Int) (w : World) (_ : -9223372036854775808 ≤ a) (_ : a ≤ 9223372036854775807) (_ : -9223372036854775808 ≤ b) (_ : b ≤ 9223372036854775807) :
    Calls Try.prog 9 #[.int .i64 a, .int .i64 b] w fun e w' => e = .returned (.bool true) ∧ Below w.heap.size w w' := by
  have hwa := fun w => rWide_any a w
  have hwb := fun w => rWide_any b w
  cases ha : wideB a
  · rw [ha] at hwa
    have HA := Lib.hid hwa
    clear hwa hwb ha
    go_enter Try.func9, Try.ntmps9
    go_wp2_with (first
      | (go_at_call 11; refine (knownR_any w).mono ?_; rintro e w1 ⟨rfl, hb1⟩)
      | (go_at_call 40; refine (HA.out _).mono ?_; rintro e w2 ⟨rfl, rfl⟩))
    go_ret
    exact ⟨rfl, hb1⟩
  cases hb : wideB b
  · rw [ha] at hwa; rw [hb] at hwb
    have HA := Lib.hid hwa; have HB := Lib.hid hwb
    clear hwa hwb ha hb
    go_enter Try.func9, Try.ntmps9
    go_wp2_with (go_at_call 11; refine (knownR_any w).mono ?_; rintro e w1 ⟨rfl, hb1⟩; refine cut_here ?_)
    unfold CutHere
    go_wp2_with fail
    refine (HA.out _).mono ?_; rintro e w2 ⟨rfl, rfl⟩
    go_wp2_with fail
    refine (HB.out _).mono ?_; rintro e w2 ⟨rfl, rfl⟩
    go_wp2
    go_ret
    exact ⟨rfl, hb1⟩
  rw [ha] at hwa; rw [hb] at hwb
  have hfa := fun w => fold_any a w
  have hfb := fun w => fold_any b w
  have hua := fun w => unfold_any (foldN a) w (by have := foldN_lt a; omega)
  rw [unfold_fold ha] at hua
  have hlt := foldN_lt a
  have hinj := @foldN_inj a b ha hb
  have hnear := @nearer a b ha hb
  have heq : a = b → foldN a = foldN b := fun h => by rw [h]
  obtain ⟨⟨ha1, ha2⟩, ⟨hb1, hb2⟩⟩ := And.intro (wide_iff.1 ha) (wide_iff.1 hb)
  have hge : decide ((2147483648 : Int) ≤ (foldN a : Int)) = false := by rw [decide_eq_false_iff_not]; omega
  obtain ⟨ma, hma⟩ : ∃ m : Nat, max a (-1 - a) = (m : Nat) := ⟨(max a (-1 - a)).toNat, by omega⟩
  obtain ⟨mb, hmb⟩ : ∃ m : Nat, max b (-1 - b) = (m : Nat) := ⟨(max b (-1 - b)).toNat, by omega⟩
  rw [hma, hmb] at hnear
  generalize foldN a = x at *
  generalize foldN b = y at *
  have HA := Lib.hid hwa; have HB := Lib.hid hwb; have FA := Lib.hid hfa; have FB := Lib.hid hfb; have UA := Lib.hid hua
  clear hwa hwb ha hb hfa hfb hua
  have hbe : ((x : Int) == (y : Int)) = (a == b) := by
    by_cases h : a = b
    · rw [heq h, h]; simp
    · have : x ≠ y := fun e => h (hinj e)
      have h2 : (a == b) = false := by simpa using h
      rw [h2]; simp; omega
  have hbb : ((a == b) != (a == b)) = false := by simp
  by_cases hn : ma < mb
  · have hxy : x < y := hnear (by omega)
    clear hnear hinj heq
    go_enter Try.func9, Try.ntmps9
    go_wp2_with (go_at_call 11; refine (knownR_any w).mono ?_; rintro e w1 ⟨rfl, hb1⟩; refine cut_here ?_)
    unfold CutHere
    go_wp2_with fail
    refine (HA.out _).mono ?_; rintro e w2 ⟨rfl, rfl⟩
    go_wp2_with fail
    refine (HB.out _).mono ?_; rintro e w2 ⟨rfl, rfl⟩
    go_wp2_with fail
    refine (FA.out _).mono ?_; rintro e w2 ⟨rfl, rfl⟩
    go_wp2_with fail
    refine (FB.out _).mono ?_; rintro e w2 ⟨rfl, rfl⟩
    go_wp2_with fail
    refine (UA.out _).mono ?_; rintro e w2 ⟨rfl, rfl⟩
    go_wp2
    all_goals (go_ret; exact ⟨rfl, hb1⟩)
  · clear hnear hinj heq
    go_enter Try.func9, Try.ntmps9
    go_wp2_with (go_at_call 11; refine (knownR_any w).mono ?_; rintro e w1 ⟨rfl, hb1⟩; refine cut_here ?_)
    unfold CutHere
    go_wp2_with fail
    refine (HA.out _).mono ?_; rintro e w2 ⟨rfl, rfl⟩
    go_wp2_with fail
    refine (HB.out _).mono ?_; rintro e w2 ⟨rfl, rfl⟩
    go_wp2_with fail
    refine (FA.out _).mono ?_; rintro e w2 ⟨rfl, rfl⟩
    go_wp2_with fail
    refine (FB.out _).mono ?_; rintro e w2 ⟨rfl, rfl⟩
    go_wp2_with fail
    refine (UA.out _).mono ?_; rintro e w2 ⟨rfl, rfl⟩
    go_wp2
    all_goals (go_ret; exact ⟨rfl, hb1⟩)

theorem costI_ge {k : Int} {x : Int} (hk : paramB k = true) (hx : wideB x = true) : 1 ≤ costI k x := by
  unfold costI
  rw [if_pos ⟨hk, hx⟩]
  exact (codeN_le (by have := paramB_iff.1 hk; omega)).1
theorem riceRises_walk (k a b : Int) (w : World) (_ : -9223372036854775808 ≤ k) (_ : k ≤ 9223372036854775807) :
    Calls Try.prog 10 #[.int .i64 k, .int .i64 a, .int .i64 b] w fun e w' => e = .returned (.bool true) ∧ Below w.heap.size w w' := by
  have hwa := fun w => rWide_any a w
  have hwb := fun w => rWide_any b w
  cases ha : wideB a
  · rw [ha] at hwa
    have HA := Lib.hid hwa
    clear hwa hwb ha
    go_enter Try.func10, Try.ntmps10
    go_wp2_with (first
      | (go_at_call 11; refine (knownR_any w).mono ?_; rintro e w1 ⟨rfl, hb1⟩)
      | (go_at_call 40; refine (HA.out _).mono ?_; rintro e w2 ⟨rfl, rfl⟩))
    go_ret
    exact ⟨rfl, hb1⟩
  cases hb : wideB b
  · rw [ha] at hwa; rw [hb] at hwb
    have HA := Lib.hid hwa; have HB := Lib.hid hwb
    clear hwa hwb ha hb
    go_enter Try.func10, Try.ntmps10
    go_wp2_with (go_at_call 11; refine (knownR_any w).mono ?_; rintro e w1 ⟨rfl, hb1⟩; refine cut_here ?_)
    unfold CutHere
    go_wp2_with fail
    refine (HA.out _).mono ?_; rintro e w2 ⟨rfl, rfl⟩
    go_wp2_with fail
    refine (HB.out _).mono ?_; rintro e w2 ⟨rfl, rfl⟩
    go_wp2
    go_ret
    exact ⟨rfl, hb1⟩
  rw [ha] at hwa; rw [hb] at hwb
  have hand : bits .and .i64 k 255 = k % 256 := i64_mask 8 (by omega) k
  obtain ⟨m, hm⟩ : ∃ m : Nat, k % 256 % 26 = (m : Nat) := ⟨(k % 256 % 26).toNat, by omega⟩
  have hm25 : m ≤ 25 := by omega
  have hp : paramB (m : Int) = true := by rw [paramB_iff]; omega
  have hca := fun w => cost_any m a w
  have hcb := fun w => cost_any m b w
  have hfa := fun w => fold_any a w
  have hfb := fun w => fold_any b w
  have h1 := costI_ge hp ha
  have h2 := costI_ge hp hb
  have h3 := costI_le m a
  have h4 := costI_le m b
  have hr := @rises m a b hp ha hb
  generalize costI m a = x at *
  generalize costI m b = y at *
  generalize foldN a = p at *
  generalize foldN b = q at *
  have HA := Lib.hid hwa; have HB := Lib.hid hwb; have FA := Lib.hid hfa; have FB := Lib.hid hfb; have CA := Lib.hid hca; have CB := Lib.hid hcb
  clear hwa hwb ha hb hfa hfb hca hcb hp
  by_cases hpq : p ≤ q
  · have hxy := hr hpq
    clear hr
    go_enter Try.func10, Try.ntmps10
    go_wp2_with (go_at_call 11; refine (knownR_any w).mono ?_; rintro e w1 ⟨rfl, hb1⟩; refine cut_here ?_)
    unfold CutHere
    go_wp2_with fail
    refine (HA.out _).mono ?_; rintro e w2 ⟨rfl, rfl⟩
    go_wp2_with fail
    refine (HB.out _).mono ?_; rintro e w2 ⟨rfl, rfl⟩
    go_wp2_with fail
    refine (CA.out _).mono ?_; rintro e w2 ⟨rfl, rfl⟩
    go_wp2_with fail
    refine (CB.out _).mono ?_; rintro e w2 ⟨rfl, rfl⟩
    go_wp2_with fail
    refine (FA.out _).mono ?_; rintro e w2 ⟨rfl, rfl⟩
    go_wp2_with fail
    refine (FB.out _).mono ?_; rintro e w2 ⟨rfl, rfl⟩
    go_wp2
    all_goals (go_ret; exact ⟨rfl, hb1⟩)
  · clear hr
    go_enter Try.func10, Try.ntmps10
    go_wp2_with (go_at_call 11; refine (knownR_any w).mono ?_; rintro e w1 ⟨rfl, hb1⟩; refine cut_here ?_)
    unfold CutHere
    go_wp2_with fail
    refine (HA.out _).mono ?_; rintro e w2 ⟨rfl, rfl⟩
    go_wp2_with fail
    refine (HB.out _).mono ?_; rintro e w2 ⟨rfl, rfl⟩
    go_wp2_with fail
    refine (CA.out _).mono ?_; rintro e w2 ⟨rfl, rfl⟩
    go_wp2_with fail
    refine (CB.out _).mono ?_; rintro e w2 ⟨rfl, rfl⟩
    go_wp2_with fail
    refine (FA.out _).mono ?_; rintro e w2 ⟨rfl, rfl⟩
    go_wp2_with fail
    refine (FB.out _).mono ?_; rintro e w2 ⟨rfl, rfl⟩
    go_wp2
    all_goals (go_ret; exact ⟨rfl, hb1⟩)
end Go.Proofs.Ytgogfmpichdejaa
