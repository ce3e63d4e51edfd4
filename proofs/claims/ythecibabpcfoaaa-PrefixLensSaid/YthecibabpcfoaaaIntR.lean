/- The reference's Wide, AllWide, SameInts. -/
import Derived.Test.YthecibabpcfoaaaInt
import Derived.Deep.QuietTactic
import Derived.BigQuiet
namespace Go.Proofs.Ythecibabpcfoaaa
open Go.RowKit
set_option maxRecDepth 100000
set_option maxHeartbeats 400000

theorem sameInts_any (va vb : Value) (a b : List Int) (w : World) (B1 B2 : Nat) (ha : Sli w B1 va (ci a)) (hb : Sli w B2 vb (ci b)) (hna : a.length ≤ 1099511627776) (hnb : b.length ≤ 1099511627776) :
    Calls Try.prog 21 #[va, vb] w fun e w' => e = .returned (.bool (decide (a = b))) ∧ ∃ q, w' = w.drewN q := by
  obtain ⟨A1, c1, rfl, hlc1, hcm1⟩ := ha.formI
  obtain ⟨A2, c2, rfl, hlc2, hcm2⟩ := hb.formI
  obtain ⟨n, hnl⟩ : ∃ n, a.length = n := ⟨_, rfl⟩
  obtain ⟨m, hml⟩ : ∃ m, b.length = m := ⟨_, rfl⟩
  rw [hnl] at ha hlc1 hna ⊢
  rw [hml] at hb hlc2 hnb ⊢
  have HNL := Lib.hid hnl; have HML := Lib.hid hml; clear hnl hml
  by_cases hnm : n = m
  · subst hnm
    go_enter Try.func21, Try.ntmps21
    go_wp2
    go_loopw [5] (fun i wr => ∃ j : Nat, j ≤ n ∧ i = .int .i64 j ∧ Hid (a.take j = b.take j) ∧ Hid (∃ q, wr = w.drewN q) ∧ (∀ p, wr.cell? p = w.cell? p)) (fun i _ => n - (intOf i).toNat)
    case atStart => exact ⟨0, Nat.zero_le _, rfl, rfl, ⟨0, rfl⟩, fun _ => rfl⟩
    case round =>
      obtain ⟨j, hj, rfl, hall, hq, hce⟩ := hrel
      by_cases hlt : j < n
      · have hja : j < a.length := by rw [HNL.out]; exact hlt
        have hjb : j < b.length := by rw [HML.out]; exact hlt
        obtain ⟨b1, o1, rfl, hb1, hc1⟩ := ha.atI hja
        obtain ⟨b2, o2, rfl, hb2, hc2⟩ := hb.atI hjb
        rw [← hce] at hc1 hc2
        have hts : a[j] = b[j] → a.take (j + 1) = b.take (j + 1) := fun h => by rw [List.take_succ_eq_append_getElem hja, List.take_succ_eq_append_getElem hjb, hall.out, h]
        have hno : a[j] ≠ b[j] → decide (a = b) = false := fun h => decide_eq_false fun e => h (by subst e; rfl)
        have HT := Lib.hid hts; have HNO := Lib.hid hno; clear hts hno
        generalize a[j] = x at *
        generalize b[j] = y at *
        have HCE := Lib.hid hce
        clear hja hjb hce
        have hjn : (j : Int) < (n : Int) := by omega
        by_cases hxy : x = y
        · subst hxy
          have ht := Lib.hid (HT.out rfl)
          go_wp2
          go_quiet (fail)
          go_wp2
          exact ⟨⟨j + 1, by omega, by simp, ht, by obtain ⟨q, h⟩ := hq.out; exact ⟨q + nq, by rw [h, World.drewN_drewN]⟩, HCE.out⟩, by simp [intOf]; omega⟩
        · have hf := Lib.hid (HNO.out hxy)
          have hxb : (x != y) = true := by simpa using hxy
          clear hxy
          go_wp2
          go_quiet (fail)
          go_wp2
          go_ret
          exact ⟨by rw [hf.out]; rfl, by obtain ⟨q, h⟩ := hq.out; exact ⟨q + nq, by rw [h, World.drewN_drewN]⟩⟩
      · have h1 : j = a.length := by rw [HNL.out]; omega
        have h2 : a.take j = a := by rw [h1, List.take_length]
        have h3 : b.take j = b := by rw [h1, HNL.out, ← HML.out, List.take_length]
        have he := hall.out
        rw [h2, h3] at he
        have HE := Lib.hid he
        clear h1 h2 h3 he
        go_wp2
        go_ret
        exact ⟨by rw [decide_eq_true HE.out]; rfl, hq.out⟩
  · have hf : decide (a = b) = false := decide_eq_false fun e => hnm (by rw [← HNL.out, ← HML.out, e])
    rw [hf]
    go_enter Try.func21, Try.ntmps21
    go_wp2
    go_ret
    exact ⟨rfl, 0, rfl⟩
theorem sameInts_self (va vb : Value) (a : List Int) (w : World) (B1 B2 : Nat) (ha : Sli w B1 va (ci a)) (hb : Sli w B2 vb (ci a)) (hna : a.length ≤ 1099511627776) :
    Calls Try.prog 21 #[va, vb] w fun e w' => e = .returned (.bool true) ∧ ∃ q, w' = w.drewN q :=
  (sameInts_any va vb a a w B1 B2 ha hb hna hna).mono fun _ _ ⟨he, h⟩ => ⟨by rw [he, decide_eq_true rfl], h⟩
end Go.Proofs.Ythecibabpcfoaaa
