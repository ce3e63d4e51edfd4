/- block: the reference's SameRows, SameBlock; Small; Print. -/
import Derived.Test.YtggddckckfilgaaBloJ
import Derived.Test.YtggddckckfilgaaIntR
import Derived.Test.YtggddckckfilgaaSumF
namespace Go.Proofs.Ytggddckckfilgaa
open Go.RowKit
set_option maxRecDepth 100000
set_option maxHeartbeats 1600000

theorem sameRows_any (va vb : Value) (a b : List (List Int)) (w : World) (B1 B2 : Nat) (ha : Rws w B1 va a) (hb : Rws w B2 vb b) (hna : ∀ r ∈ a, r.length ≤ 1099511627776) (hnb : ∀ r ∈ b, r.length ≤ 1099511627776) (hl : a.length ≤ 1099511627776) :
    Calls Try.prog 24 #[va, vb] w fun e w' => e = .returned (.bool (decide (a = b))) ∧ ∃ q, w' = w.drewN q := by
  obtain ⟨A1, c1, rfl, hlc1, hcm1⟩ := ha.form
  obtain ⟨A2, c2, rfl, hlc2, hcm2⟩ := hb.form
  obtain ⟨n, hnl⟩ : ∃ n, a.length = n := ⟨_, rfl⟩
  obtain ⟨m, hml⟩ : ∃ m, b.length = m := ⟨_, rfl⟩
  rw [hnl] at ha hlc1 hl ⊢
  rw [hml] at hb hlc2 ⊢
  have HNL := Lib.hid hnl; have HML := Lib.hid hml; clear hnl hml
  by_cases hnm : n = m
  · subst hnm
    have HNA := Lib.hid hna; have HNB := Lib.hid hnb
    clear hna hnb
    go_enter Try.func24, Try.ntmps24
    go_wp2
    go_loopw [5] (fun i wr => ∃ j : Nat, j ≤ n ∧ i = .int .i64 j ∧ Hid (a.take j = b.take j) ∧ Hid (∃ q, wr = w.drewN q)) (fun i _ => n - (intOf i).toNat)
    case atStart => exact ⟨0, Nat.zero_le _, rfl, rfl, ⟨0, rfl⟩⟩
    case round =>
      obtain ⟨j, hj, rfl, hall, hq⟩ := hrel
      by_cases hlt : j < n
      · have hja : j < a.length := by rw [HNL.out]; exact hlt
        have hjb : j < b.length := by rw [HML.out]; exact hlt
        have har : Rws wr B1 (.slice A1 n c1) a := by obtain ⟨q, e⟩ := hq.out; rw [e]; exact ha.drewN q
        have hbr : Rws wr B2 (.slice A2 n c2) b := by obtain ⟨q, e⟩ := hq.out; rw [e]; exact hb.drewN q
        obtain ⟨b1, o1, X1, k1, rfl, hb1, hc1, hS1, _, _⟩ := har.get hja
        obtain ⟨b2, o2, X2, k2, rfl, hb2, hc2, hS2, _, _⟩ := hbr.get hjb
        have hts : a[j] = b[j] → a.take (j + 1) = b.take (j + 1) := fun h => by rw [List.take_succ_eq_append_getElem hja, List.take_succ_eq_append_getElem hjb, hall.out, h]
        have hno : a[j] ≠ b[j] → decide (a = b) = false := fun h => decide_eq_false fun e => h (by subst e; rfl)
        have hsi := fun q => sameInts_any _ _ a[j] b[j] (wr.drewN q) B1 B2 (hS1.keep fun _ _ => rfl) (hS2.keep fun _ _ => rfl) (HNA.out _ (List.getElem_mem hja)) (HNB.out _ (List.getElem_mem hjb))
        have HT := Lib.hid hts; have HNO := Lib.hid hno; clear hts hno har hbr hS1 hS2
        generalize a[j] = x at *
        generalize b[j] = y at *
        clear hja hjb
        have hjn : (j : Int) < (n : Int) := by omega
        by_cases hxy : x = y
        · have ht := Lib.hid (HT.out hxy)
          have HSI := Lib.hid (show ∀ q, Calls Try.prog 29 #[.slice X1 x.length k1, .slice X2 y.length k2] (wr.drewN q) fun e w' => e = .returned (.bool true) ∧ ∃ p, w' = (wr.drewN q).drewN p from fun q => (hsi q).mono fun _ _ ⟨h1, h2⟩ => ⟨by rw [h1, decide_eq_true hxy], h2⟩)
          clear hsi hxy
          generalize x.length = lx at *
          generalize y.length = ly at *
          go_wp2
          go_quiet ((go_at_call 29; exact quietNN (HSI.out _)))
          go_wp2
          exact ⟨⟨j + 1, by omega, by simp, ht, by obtain ⟨q, h⟩ := hq.out; exact ⟨q + nq, by rw [h, World.drewN_drewN]⟩⟩, by simp [intOf]; omega⟩
        · have hf := Lib.hid (HNO.out hxy)
          have HSI := Lib.hid (show ∀ q, Calls Try.prog 29 #[.slice X1 x.length k1, .slice X2 y.length k2] (wr.drewN q) fun e w' => e = .returned (.bool false) ∧ ∃ p, w' = (wr.drewN q).drewN p from fun q => (hsi q).mono fun _ _ ⟨h1, h2⟩ => ⟨by rw [h1, decide_eq_false hxy], h2⟩)
          clear hsi hxy
          generalize x.length = lx at *
          generalize y.length = ly at *
          go_wp2
          go_quiet ((go_at_call 29; exact quietNN (HSI.out _)))
          go_wp2
          go_ret
          exact ⟨by rw [hf.out]; rfl, by obtain ⟨q, h⟩ := hq.out; exact ⟨q + nq, by rw [h, World.drewN_drewN]⟩⟩
      · have h1 : j = a.length := by rw [HNL.out]; omega
        have h2 : a.take j = a := by rw [h1, List.take_length]
        have h3 : b.take j = b := by rw [h1, HNL.out, ← HML.out, List.take_length]
        have he := hall.out
        rw [h2, h3] at he
        have HE := Lib.hid he
        clear h1 h2 h3 he
        go_wp2
        go_ret
        exact ⟨by rw [decide_eq_true HE.out]; rfl, hq.out⟩
  · have hf : decide (a = b) = false := decide_eq_false fun e => hnm (by rw [← HNL.out, ← HML.out, e])
    rw [hf]
    go_enter Try.func24, Try.ntmps24
    go_wp2
    go_ret
    exact ⟨rfl, 0, rfl⟩
def smallB (rs : List (List Int)) (most : Int) : Bool := decide (rs.length ≤ 12) && rs.all (fun r => decide ((r.length : Int) ≤ most))
theorem small_take {most : Int} {rs : List (List Int)} {j : Nat} (h : j < rs.length) : (rs.take (j + 1)).all (fun r => decide ((r.length : Int) ≤ most)) = ((rs.take j).all (fun r => decide ((r.length : Int) ≤ most)) && decide ((rs[j].length : Int) ≤ most)) := by
  rw [List.take_succ_eq_append_getElem h, List.all_append]; simp only [List.all_cons, List.all_nil, Bool.and_true]
theorem smallBk_any (x : Int) (v : Value) (rs : List (List Int)) (most : Int) (w : World) (B : Nat) (hR : Rws w B v rs) (hB : B ≤ w.heap.size) :
    Calls Try.prog 25 #[.agg #[.int .i64 x, v], .int .i64 most] w fun e w' => e = .returned (.bool (smallB rs most)) ∧ Below w.heap.size w w' := by
  obtain ⟨A, c, rfl, hlc, hcm⟩ := hR.form
  have hb0 := below_new w #[.int .i64 x, .slice A rs.length c] 37
  have hR0 := hR.below (hb0.mono hB)
  have hbx := boxed w #[.int .i64 x, .slice A rs.length c] 37
  obtain ⟨m, hm⟩ : ∃ m, rs.length = m := ⟨_, rfl⟩
  have hsm : smallB rs most = (decide (m ≤ 12) && rs.all (fun r => decide ((r.length : Int) ≤ most))) := by unfold smallB; rw [hm]
  rw [hm] at hR hlc hR0 hbx hb0 ⊢
  have HM := Lib.hid hm
  clear hm
  by_cases h12 : m ≤ 12
  · rw [decide_eq_true h12, Bool.true_and] at hsm
    have HSM := Lib.hid hsm
    clear hsm hR
    obtain ⟨d0, d1, hf⟩ := two_in hbx
    clear hbx hf
    go_enter Try.func25, Try.ntmps25
    go_wp2
    go_loop [5] (fun i => ∃ j : Nat, j ≤ m ∧ i = .int .i64 j ∧ Hid ((rs.take j).all (fun r => decide ((r.length : Int) ≤ most)) = true)) (fun i => m - (intOf i).toNat)
    case atStart => exact ⟨0, Nat.zero_le _, rfl, rfl⟩
    case round =>
      obtain ⟨j, hj, rfl, hall⟩ := hrel
      by_cases hlt : j < m
      · have hjl : j < rs.length := by rw [HM.out]; exact hlt
        obtain ⟨b2, o, A', c', rfl, hb, hcell, hS, g1, g2⟩ := hR0.get hjl
        have htk := small_take (most := most) hjl
        have hno : decide ((rs[j].length : Int) ≤ most) = false → rs.all (fun r => decide ((r.length : Int) ≤ most)) = false := fun h => List.all_eq_false.2 ⟨rs[j], List.getElem_mem _, by simp [h]⟩
        have HT := Lib.hid htk; have HNO := Lib.hid hno
        clear htk hno hS
        generalize rs[j].length = k at *
        clear hjl
        by_cases hkm : (k : Int) ≤ most
        · have ht := Lib.hid (HT.out.trans (by rw [hall.out, decide_eq_true hkm, Bool.and_self]))
          go_wp2
          exact ⟨⟨j + 1, by omega, by simp, ht⟩, by simp [intOf]; omega⟩
        · have hf := Lib.hid (HNO.out (decide_eq_false hkm))
          have hkm2 : most < (k : Int) := by omega
          clear hkm
          go_wp2
          go_ret
          exact ⟨by rw [HSM.out, hf.out]; rfl, hb0⟩
      · have : j = rs.length := by rw [HM.out]; omega
        have ha := hall.out
        rw [this, List.take_length] at ha
        have HA := Lib.hid ha
        clear ha this
        go_wp2
        go_ret
        exact ⟨by rw [HSM.out, HA.out]; rfl, hb0⟩
  · rw [decide_eq_false h12, Bool.false_and] at hsm
    rw [hsm]
    have h12I : (12 : Int) < (m : Int) := by omega
    clear hsm hR hR0 hbx h12
    go_enter Try.func25, Try.ntmps25
    go_wp2
    go_ret
    exact ⟨rfl, hb0⟩
end Go.Proofs.Ytggddckckfilgaa
