/- rice: sums of costs, the best parameter, the reference's beside them. -/
import Derived.Test.YtohbpjehphmedaaRicF
import Derived.Test.YtohbpjehphmedaaBitL
namespace Go.Proofs.Ytohbpjehphmedaa
open Go.RowKit
set_option maxRecDepth 100000
set_option maxHeartbeats 400000

theorem sumI_snoc {k : Int} {l : List Int} {j : Nat} (h : j < l.length) : sumI k (l.take (j + 1)) = sumI k (l.take j) + costI k l[j] := by
  rw [List.take_succ_eq_append_getElem h, sumI_app]; simp [sumI]
theorem sum_any (k : Int) (v : Value) (l : List Int) (w : World) (B : Nat) (hS : Sli w B v (ci l)) (hn : l.length ≤ 1099511627776) :
    Calls Try.prog 40 #[.int .i64 k, v] w fun e w' => e = .returned (.int .i64 (sumI k l : Nat)) ∧ w = w' := by
  obtain ⟨A, c, rfl, hlc, hcm⟩ := hS.formI
  obtain ⟨n, hnl⟩ : ∃ n, l.length = n := ⟨_, rfl⟩
  rw [hnl] at hS hlc hn ⊢
  have HNL := Lib.hid hnl; clear hnl
  go_enter Try.func40, Try.ntmps40
  go_wp2
  go_loop [5, 10] (fun s i => ∃ j : Nat, j ≤ n ∧ i = .int .i64 j ∧ s = .int .i64 (sumI k (l.take j) : Nat)) (fun _ i => n - (intOf i).toNat)
  case atStart => exact ⟨0, Nat.zero_le _, rfl, rfl⟩
  case round =>
    obtain ⟨j, hj, rfl, rfl⟩ := hrel
    by_cases hlt : j < n
    · have hjl : j < l.length := by rw [HNL.out]; exact hlt
      obtain ⟨b, o, rfl, hb, hcell⟩ := hS.atI hjl
      have htk := sumI_snoc (k := k) hjl
      have hle := sumI_le k (l.take j)
      have hl2 : (l.take j).length ≤ 1099511627776 := by rw [List.length_take]; omega
      have hc := costI_le k l[j]
      have hx := fun w => cost_any k l[j] w
      have HT := Lib.hid htk; clear htk
      generalize l[j] = x at *
      generalize costI k x = d at *
      obtain ⟨s, hs⟩ : ∃ s, sumI k (l.take j) = s := ⟨_, rfl⟩
      rw [hs] at HT hle ⊢
      have hs2 : s ≤ 71468255805440 := by omega
      have HX := Lib.hid hx
      clear hx hjl hs hle hl2
      go_wp2_with (go_at_call 67; refine (HX.out _).mono ?_; rintro e w1 ⟨rfl, rfl⟩)
      exact ⟨⟨j + 1, by omega, by simp, by rw [HT.out]; simp⟩, by simp [intOf]; omega⟩
    · have : j = l.length := by rw [HNL.out]; omega
      subst this
      rw [List.take_length]
      go_wp2
      go_ret
      exact ⟨rfl, rfl⟩
theorem qsum_any (k : Int) (v : Value) (l : List Int) (w : World) (B : Nat) (hS : Sli w B v (ci l)) (hn : l.length ≤ 1099511627776) :
    Calls Try.prog 70 #[.int .i64 k, v] w fun e w' => e = .returned (.int .i64 (sumI k l : Nat)) ∧ w = w' := by
  obtain ⟨A, c, rfl, hlc, hcm⟩ := hS.formI
  obtain ⟨n, hnl⟩ : ∃ n, l.length = n := ⟨_, rfl⟩
  rw [hnl] at hS hlc hn ⊢
  have HNL := Lib.hid hnl; clear hnl
  go_enter Try.func70, Try.ntmps70
  go_wp2
  go_loop [5, 6] (fun s i => ∃ j : Nat, j ≤ n ∧ i = .int .i64 j ∧ s = .int .i64 (sumI k (l.take j) : Nat)) (fun _ i => n - (intOf i).toNat)
  case atStart => exact ⟨0, Nat.zero_le _, rfl, rfl⟩
  case round =>
    obtain ⟨j, hj, rfl, rfl⟩ := hrel
    by_cases hlt : j < n
    · have hjl : j < l.length := by rw [HNL.out]; exact hlt
      obtain ⟨b, o, rfl, hb, hcell⟩ := hS.atI hjl
      have htk := sumI_snoc (k := k) hjl
      have hle := sumI_le k (l.take j)
      have hl2 : (l.take j).length ≤ 1099511627776 := by rw [List.length_take]; omega
      have hc := costI_le k l[j]
      have hx := fun w => qcost_any k l[j] w
      have HT := Lib.hid htk; clear htk
      generalize l[j] = x at *
      generalize costI k x = d at *
      obtain ⟨s, hs⟩ : ∃ s, sumI k (l.take j) = s := ⟨_, rfl⟩
      rw [hs] at HT hle ⊢
      have hs2 : s ≤ 71468255805440 := by omega
      have HX := Lib.hid hx
      clear hx hjl hs hle hl2
      go_wp2_with (go_at_call 86; refine (HX.out _).mono ?_; rintro e w1 ⟨rfl, rfl⟩)
      exact ⟨⟨j + 1, by omega, by simp, by rw [HT.out]; simp⟩, by simp [intOf]; omega⟩
    · have : j = l.length := by rw [HNL.out]; omega
      subst this
      rw [List.take_length]
      go_wp2
      go_ret
      exact ⟨rfl, rfl⟩
end Go.Proofs.Ytohbpjehphmedaa
