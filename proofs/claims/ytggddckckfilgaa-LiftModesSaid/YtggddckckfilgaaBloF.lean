/- block: Right, May, Len, and the reference's. -/
import Derived.Test.YtggddckckfilgaaBloM
import Derived.Test.YtggddckckfilgaaBloP
namespace Go.Proofs.Ytggddckckfilgaa
open Go.RowKit
set_option maxRecDepth 100000
set_option maxHeartbeats 1600000

theorem areCh_any (n : Int) (w : World) : Calls Try.prog 52 #[.int .i64 n] w fun e w' => e = .returned (.bool (chanB n)) ∧ w = w' := by
  unfold chanB
  by_cases h1 : 1 ≤ n <;> by_cases h2 : n ≤ 8
  all_goals
    simp only [h1, h2, decide_true, decide_false, Bool.and_true, Bool.and_false, Bool.true_and, Bool.false_and]
    go_enter Try.func52, Try.ntmps52
    go_wp2
    go_ret
    exact ⟨rfl, rfl⟩
theorem isBits_any (n : Int) (w : World) : Calls Try.prog 51 #[.int .i64 n] w fun e w' => e = .returned (.bool (packB n)) ∧ w = w' := by
  unfold packB
  by_cases h1 : 4 ≤ n <;> by_cases h2 : n ≤ 24
  all_goals
    simp only [h1, h2, decide_true, decide_false, Bool.and_true, Bool.and_false, Bool.true_and, Bool.false_and]
    go_enter Try.func51, Try.ntmps51
    go_wp2
    go_ret
    exact ⟨rfl, rfl⟩
theorem lenBk_any (b : Int) (v : Value) (rs : List (List Int)) (w : World) (B : Nat) (hR : Rws w B v rs) (hB : B ≤ w.heap.size) :
    Calls Try.prog 53 #[.agg #[.int .i64 b, v]] w fun e w' => e = .returned (.int .i64 (lenB rs : Nat)) ∧ Below w.heap.size w w' := by
  obtain ⟨A, c, rfl, hlc, hcm⟩ := hR.form
  have hb0 := below_new w #[.int .i64 b, .slice A rs.length c] 37
  cases rs with
  | nil =>
    clear hR
    go_enter Try.func53, Try.ntmps53
    go_wp2
    go_ret
    exact ⟨rfl, hb0⟩
  | cons r rs =>
    obtain ⟨b2, o, A', c', rfl, hb, hcell, hS, h1, h2⟩ := (hR.below (hb0.mono hB)).get (j := 0) (by simp)
    simp only [List.getElem_cons_zero, List.length_cons, Nat.add_zero] at *
    rw [show lenB (r :: rs) = r.length from rfl]
    clear hR hS
    generalize r.length = n at *
    generalize rs.length = m at *
    have hm1 : ((m + 1 : Nat) : Int) ≠ 0 := by omega
    have hm2 : (((m + 1 : Nat) : Int) == 0) = false := by rw [beq_eq_false_iff_ne]; exact hm1
    generalize m + 1 = k at *
    go_enter Try.func53, Try.ntmps53
    go_wp2
    go_ret
    exact ⟨rfl, hb0⟩
theorem allFit_any (v : Value) (l : List Int) (n : Int) (w : World) (B : Nat) (hS : Sli w B v (ci l)) (hn : l.length ≤ 1099511627776) :
    Calls Try.prog 54 #[v, .int .i64 n] w fun e w' => e = .returned (.bool (l.all (fun x => fitsB x n))) ∧ w = w' := by
  obtain ⟨A, c, rfl, hlc, hcm⟩ := hS.formI
  obtain ⟨m, hml⟩ : ∃ m, l.length = m := ⟨_, rfl⟩
  rw [hml] at hS hlc hn ⊢
  have HML := Lib.hid hml; clear hml
  go_enter Try.func54, Try.ntmps54
  go_wp2
  go_loop [9] (fun i => ∃ j : Nat, j ≤ m ∧ i = .int .i64 j ∧ Hid ((l.take j).all (fun x => fitsB x n) = true)) (fun i => m - (intOf i).toNat)
  case atStart => exact ⟨0, Nat.zero_le _, rfl, rfl⟩
  case round =>
    obtain ⟨j, hj, rfl, hall⟩ := hrel
    by_cases hlt : j < m
    · have hjl : j < l.length := by rw [HML.out]; exact hlt
      obtain ⟨b, o, rfl, hb, hcell⟩ := hS.atI hjl
      have htk : (l.take (j + 1)).all (fun x => fitsB x n) = ((l.take j).all (fun x => fitsB x n) && fitsB l[j] n) := by rw [List.take_succ_eq_append_getElem hjl, List.all_append]; simp only [List.all_cons, List.all_nil, Bool.and_true]
      have hno : fitsB l[j] n = false → l.all (fun x => fitsB x n) = false := fun h => List.all_eq_false.2 ⟨l[j], List.getElem_mem _, by simp [h]⟩
      have HT := Lib.hid htk; have HNO := Lib.hid hno; clear htk hno
      generalize l[j] = x at *
      have hx := fun w => fits_any x n w
      cases hwx : fitsB x n
      · rw [hwx] at hx
        have hf := Lib.hid (HNO.out hwx)
        have HX := Lib.hid hx
        clear hx hjl hwx
        go_wp2_with (go_at_call 58; refine (HX.out _).mono ?_; rintro e w1 ⟨rfl, rfl⟩)
        go_ret
        exact ⟨by rw [hf.out]; rfl, rfl⟩
      · rw [hwx] at hx
        have ht := Lib.hid (HT.out.trans (by rw [hall.out, hwx, Bool.and_self]))
        have HX := Lib.hid hx
        clear hx hjl hwx
        go_wp2_with (go_at_call 58; refine (HX.out _).mono ?_; rintro e w1 ⟨rfl, rfl⟩)
        exact ⟨⟨j + 1, by omega, by simp, ht⟩, by simp [intOf]; omega⟩
    · have : j = l.length := by rw [HML.out]; omega
      subst this
      rw [List.take_length] at hall
      go_wp2
      go_ret
      exact ⟨by rw [hall.out]; rfl, rfl⟩
end Go.Proofs.Ytggddckckfilgaa
