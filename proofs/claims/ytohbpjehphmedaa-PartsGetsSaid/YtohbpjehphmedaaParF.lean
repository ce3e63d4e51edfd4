/- parts: rows, parameters, sizes; the reference's beside them. -/
import Derived.Test.YtohbpjehphmedaaParP
import Derived.Test.YtohbpjehphmedaaRicF
import Derived.Test.YtohbpjehphmedaaFoot
namespace Go.Proofs.Ytohbpjehphmedaa
open Go.RowKit
set_option maxRecDepth 100000
set_option maxHeartbeats 400000

theorem isRow_any (n warm : Int) (w : World) : Calls Try.prog 42 #[.int .i64 n, .int .i64 warm] w fun e w' => e = .returned (.bool (rowB n warm)) ∧ w = w' := by
  unfold rowB
  by_cases h1 : 1 ≤ n <;> by_cases h2 : n ≤ 4096 <;> by_cases h3 : 0 ≤ warm <;> by_cases h4 : warm ≤ n
  all_goals
    simp only [h1, h2, h3, h4, decide_true, decide_false, Bool.and_true, Bool.and_false, Bool.true_and, Bool.false_and]
    go_enter Try.func42, Try.ntmps42
    go_wp2
    go_ret
    exact ⟨by simp [h1, h2, h3, h4], rfl⟩
theorem qrow_any (n warm : Int) (w : World) : Calls Try.prog 43 #[.int .i64 n, .int .i64 warm] w fun e w' => e = .returned (.bool (rowB n warm)) ∧ w = w' := by
  unfold rowB
  by_cases h1 : 1 ≤ n <;> by_cases h2 : n ≤ 4096 <;> by_cases h3 : 0 ≤ warm <;> by_cases h4 : warm ≤ n
  all_goals
    simp only [h1, h2, h3, h4, decide_true, decide_false, Bool.and_true, Bool.and_false, Bool.true_and, Bool.false_and]
    go_enter Try.func43, Try.ntmps43
    go_wp2
    go_ret
    exact ⟨by simp [h1, h2, h3, h4], rfl⟩
theorem isK_any (k : Int) (w : World) : Calls Try.prog 44 #[.int .i64 k] w fun e w' => e = .returned (.bool (kB k)) ∧ w = w' := by
  have hk : kB k = (decide (k = 31) || (decide (0 ≤ k) && decide (k ≤ 25))) := by unfold kB paramB; rw [Bool.or_comm]
  rw [hk]
  clear hk
  by_cases h1 : k = 31 <;> by_cases h2 : 0 ≤ k <;> by_cases h3 : k ≤ 25
  all_goals
    simp only [h1, h2, h3, decide_true, decide_false, Bool.and_true, Bool.and_false, Bool.true_and, Bool.false_and, Bool.true_or, Bool.false_or, Bool.or_true, Bool.or_false]
    go_enter Try.func44, Try.ntmps44
    go_wp2
    go_ret
    exact ⟨by simp [h1, h2, h3], rfl⟩
theorem areRes_any (v : Value) (l : List Int) (n warm : Int) (w : World) (B : Nat) (hS : Sli w B v (ci l)) (hn : l.length ≤ 1099511627776) (h1 : 1 ≤ n) (h2 : n ≤ 4096) (h3 : 0 ≤ warm) (h4 : warm ≤ n) :
    Calls Try.prog 46 #[v, .int .i64 n, .int .i64 warm] w fun e w' => e = .returned (.bool (rowOkB n warm l)) ∧ w = w' := by
  obtain ⟨A, c, rfl, hlc, hcm⟩ := hS.formI
  obtain ⟨m, hml⟩ : ∃ m, l.length = m := ⟨_, rfl⟩
  rw [hml] at hS hlc hn ⊢
  have hrb : rowOkB n warm l = (decide ((m : Int) = n - warm) && l.all wideB) := by unfold rowOkB; rw [hml]
  have HML := Lib.hid hml; clear hml
  by_cases hmn : (m : Int) = n - warm
  · have hr : rowOkB n warm l = l.all wideB := by rw [hrb, decide_eq_true hmn, Bool.true_and]
    rw [hr]
    have hm2 : ((m : Int) != n - warm) = false := by simpa using hmn
    clear hrb hr hmn
    go_enter Try.func46, Try.ntmps46
    go_wp2
    go_loop [17] (fun i => ∃ j : Nat, j ≤ m ∧ i = .int .i64 j ∧ Hid ((l.take j).all wideB = true)) (fun i => m - (intOf i).toNat)
    case atStart => exact ⟨0, Nat.zero_le _, rfl, rfl⟩
    case round =>
      obtain ⟨j, hj, rfl, hall⟩ := hrel
      by_cases hlt : j < m
      · have hjl : j < l.length := by rw [HML.out]; exact hlt
        obtain ⟨b, o, rfl, hb, hcell⟩ := hS.atI hjl
        have htk : (l.take (j + 1)).all wideB = ((l.take j).all wideB && wideB l[j]) := by rw [List.take_succ_eq_append_getElem hjl, List.all_append]; simp only [List.all_cons, List.all_nil, Bool.and_true]
        have hno : wideB l[j] = false → l.all wideB = false := fun h => List.all_eq_false.2 ⟨l[j], List.getElem_mem _, by simp [h]⟩
        have HT := Lib.hid htk; have HNO := Lib.hid hno; clear htk hno
        generalize l[j] = x at *
        clear hm2
        by_cases x1 : -1073741824 ≤ x
        · by_cases x2 : x < 1073741824
          · have ht := Lib.hid (HT.out.trans (by rw [hall.out, wide_iff.2 ⟨x1, x2⟩, Bool.and_self]))
            clear hjl
            go_wp2
            exact ⟨⟨j + 1, by omega, by simp, ht⟩, by simp [intOf]; omega⟩
          · have hf := Lib.hid (HNO.out (Bool.eq_false_iff.2 fun h => x2 (wide_iff.1 h).2))
            clear hjl
            go_wp2
            go_ret
            exact ⟨by rw [hf.out]; rfl, rfl⟩
        · have hf := Lib.hid (HNO.out (Bool.eq_false_iff.2 fun h => x1 (wide_iff.1 h).1))
          clear hjl
          go_wp2
          go_ret
          exact ⟨by rw [hf.out]; rfl, rfl⟩
      · have : j = l.length := by rw [HML.out]; omega
        subst this
        rw [List.take_length] at hall
        go_wp2
        go_ret
        exact ⟨by rw [hall.out]; rfl, rfl⟩
  · have hr : rowOkB n warm l = false := by rw [hrb, decide_eq_false hmn, Bool.false_and]
    rw [hr]
    have hm2 : ((m : Int) != n - warm) = true := by simpa using hmn
    clear hrb hr hmn
    go_enter Try.func46, Try.ntmps46
    go_wp2
    go_ret
    exact ⟨rfl, rfl⟩
end Go.Proofs.Ytohbpjehphmedaa
