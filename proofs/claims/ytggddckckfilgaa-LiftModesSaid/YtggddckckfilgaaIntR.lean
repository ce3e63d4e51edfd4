/- The reference's Wide, AllWide, SameInts. -/
import Derived.Test.YtggddckckfilgaaInt
import Derived.Deep.QuietTactic
import Derived.BigQuiet
namespace Go.Proofs.Ytggddckckfilgaa
open Go.RowKit
set_option maxRecDepth 100000
set_option maxHeartbeats 400000

theorem rWide_any (b : Int) (w : World) : Calls Try.prog 50 #[.int .i64 b] w fun e w' => e = .returned (.bool (wideB b)) ∧ w = w' := by
  unfold wideB
  by_cases h1 : -1073741824 ≤ b <;> by_cases h2 : b < 1073741824
  all_goals
    simp only [h1, h2, decide_true, decide_false, Bool.and_true, Bool.and_false, Bool.true_and, Bool.false_and]
    go_enter Try.func50, Try.ntmps50
    go_wp2
    go_ret
    exact ⟨rfl, rfl⟩
theorem allWide_any (v : Value) (l : List Int) (w : World) (B : Nat) (hS : Sli w B v (ci l)) (hn : l.length ≤ 1099511627776) :
    Calls Try.prog 43 #[v] w fun e w' => e = .returned (.bool (l.all wideB)) ∧ w = w' := by
  obtain ⟨A, c, rfl, hlc, hcm⟩ := hS.formI
  obtain ⟨n, hnl⟩ : ∃ n, l.length = n := ⟨_, rfl⟩
  rw [hnl] at hS hlc hn ⊢
  have HNL := Lib.hid hnl; clear hnl
  go_enter Try.func43, Try.ntmps43
  go_wp2
  go_loop [3] (fun i => ∃ j : Nat, j ≤ n ∧ i = .int .i64 j ∧ Hid ((l.take j).all wideB = true)) (fun i => n - (intOf i).toNat)
  case atStart => exact ⟨0, Nat.zero_le _, rfl, rfl⟩
  case round =>
    obtain ⟨j, hj, rfl, hall⟩ := hrel
    by_cases hlt : j < n
    · have hjl : j < l.length := by rw [HNL.out]; exact hlt
      obtain ⟨b, o, rfl, hb, hcell⟩ := hS.atI hjl
      have htk : (l.take (j + 1)).all wideB = ((l.take j).all wideB && wideB l[j]) := by rw [List.take_succ_eq_append_getElem hjl, List.all_append]; simp only [List.all_cons, List.all_nil, Bool.and_true]
      have hno : wideB l[j] = false → l.all wideB = false := fun h => List.all_eq_false.2 ⟨l[j], List.getElem_mem _, by simp [h]⟩
      have HT := Lib.hid htk; have HNO := Lib.hid hno; clear htk hno
      generalize l[j] = x at *
      have hx := fun w => rWide_any x w
      cases hwx : wideB x
      · rw [hwx] at hx
        have hf := Lib.hid (HNO.out hwx)
        have HX := Lib.hid hx
        clear hx hjl hwx
        go_wp2_with (go_at_call 50; refine (HX.out _).mono ?_; rintro e w1 ⟨rfl, rfl⟩)
        go_ret
        exact ⟨by rw [hf.out]; rfl, rfl⟩
      · rw [hwx] at hx
        have ht := Lib.hid (HT.out.trans (by rw [hall.out, hwx, Bool.and_self]))
        have HX := Lib.hid hx
        clear hx hjl hwx
        go_wp2_with (go_at_call 50; refine (HX.out _).mono ?_; rintro e w1 ⟨rfl, rfl⟩)
        exact ⟨⟨j + 1, by omega, by simp, ht⟩, by simp [intOf]; omega⟩
    · have : j = l.length := by rw [HNL.out]; omega
      subst this
      rw [List.take_length] at hall
      go_wp2
      go_ret
      exact ⟨by rw [hall.out]; rfl, rfl⟩
theorem sameInts_any (va vb : Value) (a b : List Int) (w : World) (B1 B2 : Nat) (ha : Sli w B1 va (ci a)) (hb : Sli w B2 vb (ci b)) (hna : a.length ≤ 1099511627776) (hnb : b.length ≤ 1099511627776) :
    Calls Try.prog 29 #[va, vb] w fun e w' => e = .returned (.bool (decide (a = b))) ∧ ∃ q, w' = w.drewN q := by
  obtain ⟨A1, c1, rfl, hlc1, hcm1⟩ := ha.formI
  obtain ⟨A2, c2, rfl, hlc2, hcm2⟩ := hb.formI
  obtain ⟨n, hnl⟩ : ∃ n, a.length = n := ⟨_, rfl⟩
  obtain ⟨m, hml⟩ : ∃ m, b.length = m := ⟨_, rfl⟩
  rw [hnl] at ha hlc1 hna ⊢
  rw [hml] at hb hlc2 hnb ⊢
  have HNL := Lib.hid hnl; have HML := Lib.hid hml; clear hnl hml
  by_cases hnm : n = m
  · subst hnm
    go_enter Try.func29, Try.ntmps29
    go_wp2
    go_loopw [5] (fun i wr => ∃ j : Nat, j ≤ n ∧ i = .int .i64 j ∧ Hid (a.take j = b.take j) ∧ Hid (∃ q, wr = w.drewN q) ∧ (∀ p, wr.cell? p = w.cell? p)) (fun i _ => n - (intOf i).toNat)
    case atStart => exact ⟨0, Nat.zero_le _, rfl, rfl, ⟨0, rfl⟩, fun _ => rfl⟩
    case round =>
      obtain ⟨j, hj, rfl, hall, hq, hce⟩ := hrel
      by_cases hlt : j < n
      · have hja : j < a.length := by rw [HNL.out]; exact hlt
        have hjb : j < b.length := by rw [HML.out]; exact hlt
        obtain ⟨b1, o1, rfl, hb1, hc1⟩ := ha.atI hja
        obtain ⟨b2, o2, rfl, hb2, hc2⟩ := hb.atI hjb
        rw [← hce] at hc1 hc2
        have hts : a[j] = b[j] → a.take (j + 1) = b.take (j + 1) := fun h => by rw [List.take_succ_eq_append_getElem hja, List.take_succ_eq_append_getElem hjb, hall.out, h]
        have hno : a[j] ≠ b[j] → decide (a = b) = false := fun h => decide_eq_false fun e => h (by subst e; rfl)
        have HT := Lib.hid hts; have HNO := Lib.hid hno; clear hts hno
        generalize a[j] = x at *
        generalize b[j] = y at *
        have HCE := Lib.hid hce
        clear hja hjb hce
        have hjn : (j : Int) < (n : Int) := by omega
        by_cases hxy : x = y
        · subst hxy
          have ht := Lib.hid (HT.out rfl)
          go_wp2
          go_quiet (fail)
          go_wp2
          exact ⟨⟨j + 1, by omega, by simp, ht, by obtain ⟨q, h⟩ := hq.out; exact ⟨q + nq, by rw [h, World.drewN_drewN]⟩, HCE.out⟩, by simp [intOf]; omega⟩
        · have hf := Lib.hid (HNO.out hxy)
          have hxb : (x != y) = true := by simpa using hxy
          clear hxy
          go_wp2
          go_quiet (fail)
          go_wp2
          go_ret
          exact ⟨by rw [hf.out]; rfl, by obtain ⟨q, h⟩ := hq.out; exact ⟨q + nq, by rw [h, World.drewN_drewN]⟩⟩
      · have h1 : j = a.length := by rw [HNL.out]; omega
        have h2 : a.take j = a := by rw [h1, List.take_length]
        have h3 : b.take j = b := by rw [h1, HNL.out, ← HML.out, List.take_length]
        have he := hall.out
        rw [h2, h3] at he
        have HE := Lib.hid he
        clear h1 h2 h3 he
        go_wp2
        go_ret
        exact ⟨by rw [decide_eq_true HE.out]; rfl, hq.out⟩
  · have hf : decide (a = b) = false := decide_eq_false fun e => hnm (by rw [← HNL.out, ← HML.out, e])
    rw [hf]
    go_enter Try.func29, Try.ntmps29
    go_wp2
    go_ret
    exact ⟨rfl, 0, rfl⟩
theorem sameInts_self (va vb : Value) (a : List Int) (w : World) (B1 B2 : Nat) (ha : Sli w B1 va (ci a)) (hb : Sli w B2 vb (ci a)) (hna : a.length ≤ 1099511627776) :
    Calls Try.prog 29 #[va, vb] w fun e w' => e = .returned (.bool true) ∧ ∃ q, w' = w.drewN q :=
  (sameInts_any va vb a a w B1 B2 ha hb hna hna).mono fun _ _ ⟨he, h⟩ => ⟨by rw [he, decide_eq_true rfl], h⟩
end Go.Proofs.Ytggddckckfilgaa
