/- lift: the reference's rows, the law's fits and small. -/
import Derived.Test.YtggddckckfilgaaLifC
import Derived.Test.YtggddckckfilgaaBloL
namespace Go.Proofs.Ytggddckckfilgaa
open Go.RowKit
set_option maxRecDepth 100000
set_option maxHeartbeats 4000000

theorem rowsW_level {rs : List (List Int)} : rowsW rs = (levelB rs && decide (lenB rs ≤ 4096) && rs.all (fun r => r.all wideB)) := by
  rw [Bool.eq_iff_iff]
  simp only [rowsW, levelB, rowW, Bool.and_eq_true, decide_eq_true_eq, List.all_eq_true]
  constructor
  · rintro ⟨⟨h1, h2⟩, h3⟩
    exact ⟨⟨⟨h1, fun r hr => (h3 r hr).1⟩, h2⟩, fun r hr => (h3 r hr).2⟩
  · rintro ⟨⟨⟨h1, h4⟩, h2⟩, h3⟩
    exact ⟨⟨h1, h2⟩, fun r hr => ⟨h4 r hr, h3 r hr⟩⟩
theorem wides_take {rs : List (List Int)} {j : Nat} (h : j < rs.length) : (rs.take (j + 1)).all (fun r => r.all wideB) = ((rs.take j).all (fun r => r.all wideB) && rs[j].all wideB) := by
  rw [List.take_succ_eq_append_getElem h, List.all_append]; simp only [List.all_cons, List.all_nil, Bool.and_true]
theorem qrows_any (v vl : Value) (rs : List (List Int)) (l : List Li) (w : World) (B C : Nat) (hR : Rws w B v rs) (hB : B ≤ w.heap.size) (hS : Lis w C vl l) (hC : C ≤ w.heap.size) :
    Calls Try.prog 33 #[v, vl] w fun e w' => e = .returned (.bool (rowsW rs && mayLi l (rs.length : Nat))) ∧ Below w.heap.size w w' := by
  obtain ⟨A, c, rfl, hlc, hcm⟩ := hR.form
  have hlev := level_any _ rs w B hR
  obtain ⟨Al, cl, rfl, hll, _⟩ := hS.form
  have hlm := fun (w1 : World) (h : Lis w1 C (.slice Al l.length cl) l) (h2 : C ≤ w1.heap.size) => qmayL_any _ l (rs.length : Nat) w1 C h h2
  have hmay := @rowsW_level rs
  generalize mayLi l (rs.length : Nat) = ml at *
  have h0 : levelB rs = true → ∃ b o A' c', A = some ⟨b, o, none⟩ ∧ b < B ∧ w.cell? ⟨b, o, none⟩ = some (.slice A' (lenB rs) c') := by
    intro h
    have h8 : 0 < rs.length := by
      unfold levelB at h
      rw [Bool.and_eq_true, chanB_iff] at h
      omega
    obtain ⟨b, o, A', c', hA, hb, hcell, _⟩ := hR.get h8
    refine ⟨b, o, A', c', hA, hb, ?_⟩
    rw [Nat.add_zero] at hcell
    rw [hcell]
    cases rs with
    | nil => simp at h8
    | cons r rs => rfl
  have hrl : levelB rs = true → ∀ r ∈ rs, r.length = lenB rs := by
    intro h
    unfold levelB at h
    rw [Bool.and_eq_true] at h
    intro r hr
    exact of_decide_eq_true (List.all_eq_true.1 h.2 r hr)
  have hm8 : levelB rs = true → 1 ≤ rs.length ∧ rs.length ≤ 8 := by
    intro h
    unfold levelB at h
    rw [Bool.and_eq_true, chanB_iff] at h
    omega
  obtain ⟨m, hm⟩ : ∃ m, rs.length = m := ⟨_, rfl⟩
  obtain ⟨nl, hnl⟩ : ∃ n, l.length = n := ⟨_, rfl⟩
  obtain ⟨n, hn⟩ : ∃ n, lenB rs = n := ⟨_, rfl⟩
  rw [hn] at hmay h0 hrl
  rw [hm] at hlev hlc hR hm8 hlm ⊢
  rw [hnl] at hlm hll hS ⊢
  have HR := Lib.hid hR; have HS := Lib.hid hS; have HM := Lib.hid hm; have HRL := Lib.hid hrl
  clear hR hS hm hnl hn hrl
  cases hlb : levelB rs
  · rw [hlb] at hlev hmay
    have hr : (rowsW rs && ml) = false := by rw [hmay]; simp
    rw [hr]
    have HLEV := Lib.hid hlev
    clear hr hlev hmay h0 hm8 hlb hlm
    go_enter Try.func33, Try.ntmps33
    go_wp2_with (go_at_call 42; refine HLEV.out.mono ?_; rintro e w2 ⟨rfl, q, rfl⟩)
    go_ret
    exact ⟨rfl, below_drewN (Below.refl _ _) q⟩
  · obtain ⟨b0, o0, A0, c0, rfl, hb0, hcell0⟩ := h0 hlb
    have hm8' := hm8 hlb
    have HRL2 := Lib.hid (HRL.out hlb)
    rw [hlb] at hlev hmay
    rw [Bool.true_and] at hmay
    have HLEV := Lib.hid hlev; have HLM := Lib.hid hlm
    clear hlev h0 hm8 HRL hlb hlm
    by_cases h3 : n ≤ 4096
    · have HMAY := Lib.hid (show rowsW rs = rs.all (fun r => r.all wideB) by rw [hmay, decide_eq_true h3]; simp)
      clear hmay
      cases ml
      · have hr : (rowsW rs && false) = false := by simp
        rw [hr]
        clear hr
        go_enter Try.func33, Try.ntmps33
        go_wp2_with (go_at_call 42; refine HLEV.out.mono ?_; rintro e w2 ⟨rfl, q, rfl⟩; refine cut_here ?_)
        unfold CutHere
        have hc1 : (w.drewN q).cell? ⟨b0, o0, none⟩ = some (.slice A0 n c0) := hcell0
        go_wp2_with (go_at_call 14; refine (HLM.out _ (HS.out.drewN q) (by simpa using hC)).mono ?_; rintro e w3 ⟨rfl, hb3⟩)
        go_ret
        exact ⟨rfl, bthen (below_drewN (Below.refl _ _) q) hb3 (by simp)⟩
      · rw [Bool.and_true]
        go_enter Try.func33, Try.ntmps33
        go_wp2_with (go_at_call 42; refine HLEV.out.mono ?_; rintro e w2 ⟨rfl, q, rfl⟩; refine cut_here ?_)
        unfold CutHere
        have hc1 : (w.drewN q).cell? ⟨b0, o0, none⟩ = some (.slice A0 n c0) := hcell0
        go_wp2_with (go_at_call 14; refine (HLM.out _ (HS.out.drewN q) (by simpa using hC)).mono ?_; rintro e w3 ⟨rfl, hb3⟩; refine cut_here ?_)
        have hb13 : Below w.heap.size w w3 := bthen (below_drewN (Below.refl _ _) q) hb3 (by simp)
        have hR3 := HR.out.below (hb13.mono hB)
        have HR3 := Lib.hid hR3; have HB3 := Lib.hid hb13
        clear hb3 hR3 hb13 hc1
        unfold CutHere
        go_wp2
        go_loop [5] (fun i => ∃ j : Nat, j ≤ m ∧ i = .int .i64 j ∧ Hid ((rs.take j).all (fun r => r.all wideB) = true)) (fun i => m - (intOf i).toNat)
        case atStart => exact ⟨0, Nat.zero_le _, rfl, rfl⟩
        case round =>
          obtain ⟨j, hj, rfl, hall⟩ := hrel
          by_cases hlt : j < m
          · have hjl : j < rs.length := by rw [HM.out]; exact hlt
            obtain ⟨b2, o2, A', c', hA, hb, hcell, hS1, g1, g2⟩ := HR3.out.get hjl
            injection hA with hA
            injection hA with e1 e2 e3
            subst e1; subst e2
            have htk := wides_take hjl
            have hno : rs[j].all wideB = false → rs.all (fun r => r.all wideB) = false := fun h => List.all_eq_false.2 ⟨rs[j], List.getElem_mem _, by simp [h]⟩
            have hlen := HRL2.out rs[j] (List.getElem_mem _)
            have HT := Lib.hid htk; have HNO := Lib.hid hno
            clear htk hno
            generalize rs[j] = r at *
            have hfa := allWide_any _ r w3 B hS1 (by omega)
            rw [hlen] at hfa hcell
            have HLEN := Lib.hid hlen
            clear hlen hS1 hjl
            cases hwx : r.all wideB
            · rw [hwx] at hfa
              have hf := Lib.hid (HNO.out hwx)
              have HX := Lib.hid hfa
              clear hfa hwx
              go_wp2_with (go_at_call 43; refine HX.out.mono ?_; rintro e w1 ⟨rfl, rfl⟩)
              go_ret
              exact ⟨by rw [HMAY.out, hf.out]; rfl, HB3.out⟩
            · rw [hwx] at hfa
              have ht := Lib.hid (HT.out.trans (by rw [hall.out, hwx, Bool.and_self]))
              have HX := Lib.hid hfa
              clear hfa hwx
              go_wp2_with (go_at_call 43; refine HX.out.mono ?_; rintro e w1 ⟨rfl, rfl⟩)
              exact ⟨⟨j + 1, by omega, by simp, ht⟩, by simp [intOf]; omega⟩
          · have : j = rs.length := by rw [HM.out]; omega
            subst this
            rw [List.take_length] at hall
            go_wp2
            go_ret
            exact ⟨by rw [HMAY.out, hall.out]; rfl, HB3.out⟩
    · have hr : (rowsW rs && ml) = false := by rw [hmay, decide_eq_false h3]; simp
      rw [hr]
      clear hr hmay
      go_enter Try.func33, Try.ntmps33
      go_wp2_with (go_at_call 42; refine HLEV.out.mono ?_; rintro e w2 ⟨rfl, q, rfl⟩; refine cut_here ?_)
      unfold CutHere
      have hc1 : (w.drewN q).cell? ⟨b0, o0, none⟩ = some (.slice A0 n c0) := hcell0
      go_wp2
      go_ret
      exact ⟨rfl, below_drewN (Below.refl _ _) q⟩
theorem lfits_any (v vl : Value) (rs : List (List Int)) (l : List Li) (w : World) (B C : Nat) (hR : Rws w B v rs) (hB : B ≤ w.heap.size) (hS : Lis w C vl l) (hC : C ≤ w.heap.size) :
    Calls Try.prog 28 #[v, vl] w fun e w' => e = .returned (.bool (rowsW rs && mayLi l (rs.length : Nat))) ∧ Below w.heap.size w w' := by
  obtain ⟨A, c, rfl, hlc, hcm⟩ := hR.form
  have hlev := level_any _ rs w B hR
  obtain ⟨Al, cl, rfl, hll, _⟩ := hS.form
  have hlm := fun (w1 : World) (h : Lis w1 C (.slice Al l.length cl) l) (h2 : C ≤ w1.heap.size) => qmayL_any _ l (rs.length : Nat) w1 C h h2
  have hmay := @rowsW_level rs
  generalize mayLi l (rs.length : Nat) = ml at *
  have h0 : levelB rs = true → ∃ b o A' c', A = some ⟨b, o, none⟩ ∧ b < B ∧ w.cell? ⟨b, o, none⟩ = some (.slice A' (lenB rs) c') := by
    intro h
    have h8 : 0 < rs.length := by
      unfold levelB at h
      rw [Bool.and_eq_true, chanB_iff] at h
      omega
    obtain ⟨b, o, A', c', hA, hb, hcell, _⟩ := hR.get h8
    refine ⟨b, o, A', c', hA, hb, ?_⟩
    rw [Nat.add_zero] at hcell
    rw [hcell]
    cases rs with
    | nil => simp at h8
    | cons r rs => rfl
  have hrl : levelB rs = true → ∀ r ∈ rs, r.length = lenB rs := by
    intro h
    unfold levelB at h
    rw [Bool.and_eq_true] at h
    intro r hr
    exact of_decide_eq_true (List.all_eq_true.1 h.2 r hr)
  have hm8 : levelB rs = true → 1 ≤ rs.length ∧ rs.length ≤ 8 := by
    intro h
    unfold levelB at h
    rw [Bool.and_eq_true, chanB_iff] at h
    omega
  obtain ⟨m, hm⟩ : ∃ m, rs.length = m := ⟨_, rfl⟩
  obtain ⟨nl, hnl⟩ : ∃ n, l.length = n := ⟨_, rfl⟩
  obtain ⟨n, hn⟩ : ∃ n, lenB rs = n := ⟨_, rfl⟩
  rw [hn] at hmay h0 hrl
  rw [hm] at hlev hlc hR hm8 hlm ⊢
  rw [hnl] at hlm hll hS ⊢
  have HR := Lib.hid hR; have HS := Lib.hid hS; have HM := Lib.hid hm; have HRL := Lib.hid hrl
  clear hR hS hm hnl hn hrl
  cases hlb : levelB rs
  · rw [hlb] at hlev hmay
    have hr : (rowsW rs && ml) = false := by rw [hmay]; simp
    rw [hr]
    have HLEV := Lib.hid hlev
    clear hr hlev hmay h0 hm8 hlb hlm
    go_enter Try.func28, Try.ntmps28
    go_wp2_with (go_at_call 42; refine HLEV.out.mono ?_; rintro e w2 ⟨rfl, q, rfl⟩)
    go_ret
    exact ⟨rfl, below_drewN (Below.refl _ _) q⟩
  · obtain ⟨b0, o0, A0, c0, rfl, hb0, hcell0⟩ := h0 hlb
    have hm8' := hm8 hlb
    have HRL2 := Lib.hid (HRL.out hlb)
    rw [hlb] at hlev hmay
    rw [Bool.true_and] at hmay
    have HLEV := Lib.hid hlev; have HLM := Lib.hid hlm
    clear hlev h0 hm8 HRL hlb hlm
    by_cases h3 : n ≤ 4096
    · have HMAY := Lib.hid (show rowsW rs = rs.all (fun r => r.all wideB) by rw [hmay, decide_eq_true h3]; simp)
      clear hmay
      cases ml
      · have hr : (rowsW rs && false) = false := by simp
        rw [hr]
        clear hr
        go_enter Try.func28, Try.ntmps28
        go_wp2_with (go_at_call 42; refine HLEV.out.mono ?_; rintro e w2 ⟨rfl, q, rfl⟩; refine cut_here ?_)
        unfold CutHere
        have hc1 : (w.drewN q).cell? ⟨b0, o0, none⟩ = some (.slice A0 n c0) := hcell0
        go_wp2_with (go_at_call 14; refine (HLM.out _ (HS.out.drewN q) (by simpa using hC)).mono ?_; rintro e w3 ⟨rfl, hb3⟩)
        go_ret
        exact ⟨rfl, bthen (below_drewN (Below.refl _ _) q) hb3 (by simp)⟩
      · rw [Bool.and_true]
        go_enter Try.func28, Try.ntmps28
        go_wp2_with (go_at_call 42; refine HLEV.out.mono ?_; rintro e w2 ⟨rfl, q, rfl⟩; refine cut_here ?_)
        unfold CutHere
        have hc1 : (w.drewN q).cell? ⟨b0, o0, none⟩ = some (.slice A0 n c0) := hcell0
        go_wp2_with (go_at_call 14; refine (HLM.out _ (HS.out.drewN q) (by simpa using hC)).mono ?_; rintro e w3 ⟨rfl, hb3⟩; refine cut_here ?_)
        have hb13 : Below w.heap.size w w3 := bthen (below_drewN (Below.refl _ _) q) hb3 (by simp)
        have hR3 := HR.out.below (hb13.mono hB)
        have HR3 := Lib.hid hR3; have HB3 := Lib.hid hb13
        clear hb3 hR3 hb13 hc1
        unfold CutHere
        go_wp2
        go_loop [5] (fun i => ∃ j : Nat, j ≤ m ∧ i = .int .i64 j ∧ Hid ((rs.take j).all (fun r => r.all wideB) = true)) (fun i => m - (intOf i).toNat)
        case atStart => exact ⟨0, Nat.zero_le _, rfl, rfl⟩
        case round =>
          obtain ⟨j, hj, rfl, hall⟩ := hrel
          by_cases hlt : j < m
          · have hjl : j < rs.length := by rw [HM.out]; exact hlt
            obtain ⟨b2, o2, A', c', hA, hb, hcell, hS1, g1, g2⟩ := HR3.out.get hjl
            injection hA with hA
            injection hA with e1 e2 e3
            subst e1; subst e2
            have htk := wides_take hjl
            have hno : rs[j].all wideB = false → rs.all (fun r => r.all wideB) = false := fun h => List.all_eq_false.2 ⟨rs[j], List.getElem_mem _, by simp [h]⟩
            have hlen := HRL2.out rs[j] (List.getElem_mem _)
            have HT := Lib.hid htk; have HNO := Lib.hid hno
            clear htk hno
            generalize rs[j] = r at *
            have hfa := allWide_any _ r w3 B hS1 (by omega)
            rw [hlen] at hfa hcell
            have HLEN := Lib.hid hlen
            clear hlen hS1 hjl
            cases hwx : r.all wideB
            · rw [hwx] at hfa
              have hf := Lib.hid (HNO.out hwx)
              have HX := Lib.hid hfa
              clear hfa hwx
              go_wp2_with (go_at_call 43; refine HX.out.mono ?_; rintro e w1 ⟨rfl, rfl⟩)
              go_ret
              exact ⟨by rw [HMAY.out, hf.out]; rfl, HB3.out⟩
            · rw [hwx] at hfa
              have ht := Lib.hid (HT.out.trans (by rw [hall.out, hwx, Bool.and_self]))
              have HX := Lib.hid hfa
              clear hfa hwx
              go_wp2_with (go_at_call 43; refine HX.out.mono ?_; rintro e w1 ⟨rfl, rfl⟩)
              exact ⟨⟨j + 1, by omega, by simp, ht⟩, by simp [intOf]; omega⟩
          · have : j = rs.length := by rw [HM.out]; omega
            subst this
            rw [List.take_length] at hall
            go_wp2
            go_ret
            exact ⟨by rw [HMAY.out, hall.out]; rfl, HB3.out⟩
    · have hr : (rowsW rs && ml) = false := by rw [hmay, decide_eq_false h3]; simp
      rw [hr]
      clear hr hmay
      go_enter Try.func28, Try.ntmps28
      go_wp2_with (go_at_call 42; refine HLEV.out.mono ?_; rintro e w2 ⟨rfl, q, rfl⟩; refine cut_here ?_)
      unfold CutHere
      have hc1 : (w.drewN q).cell? ⟨b0, o0, none⟩ = some (.slice A0 n c0) := hcell0
      go_wp2
      go_ret
      exact ⟨rfl, below_drewN (Below.refl _ _) q⟩
theorem smallL_any (v vl : Value) (rs : List (List Int)) (l : List Li) (k : Int) (w : World) (B C : Nat) (hR : Rws w B v rs) (hB : B ≤ w.heap.size) (hS : Lis w C vl l) :
    Calls Try.prog 12 #[v, vl, .int .i64 k] w fun e w' => e = .returned (.bool (smallB rs k && decide (l.length ≤ 20))) ∧ Below w.heap.size w w' := by
  obtain ⟨A, c, rfl, hlc, hcm⟩ := hR.form
  obtain ⟨Al, cl, rfl, hll, _⟩ := hS.form
  have hsm := smallBk_any 0 _ rs k w B hR hB
  obtain ⟨m, hm⟩ : ∃ m, rs.length = m := ⟨_, rfl⟩
  obtain ⟨n, hn⟩ : ∃ m, l.length = m := ⟨_, rfl⟩
  rw [hm] at hsm hR hlc ⊢
  rw [hn] at hll hS ⊢
  have HSM := Lib.hid hsm
  clear hsm hR hS hm hn
  by_cases h : n ≤ 20
  · have hd : decide ((n : Int) ≤ 20) = true := decide_eq_true (by omega)
    rw [show decide (n ≤ 20) = true from decide_eq_true h]
    clear h
    generalize smallB rs k = sb at *
    cases sb
    · simp only [Bool.false_and]
      go_enter Try.func12, Try.ntmps12
      go_wp2_with (go_at_call 25; refine HSM.out.mono ?_; rintro e w2 ⟨rfl, hb2⟩)
      go_ret
      exact ⟨rfl, hb2⟩
    · simp only [Bool.true_and]
      go_enter Try.func12, Try.ntmps12
      go_wp2_with (go_at_call 25; refine HSM.out.mono ?_; rintro e w2 ⟨rfl, hb2⟩)
      go_ret
      exact ⟨rfl, hb2⟩
  · have hd : decide ((n : Int) ≤ 20) = false := decide_eq_false (by omega)
    rw [show decide (n ≤ 20) = false from decide_eq_false h]
    clear h
    generalize smallB rs k = sb at *
    cases sb
    · simp only [Bool.false_and]
      go_enter Try.func12, Try.ntmps12
      go_wp2_with (go_at_call 25; refine HSM.out.mono ?_; rintro e w2 ⟨rfl, hb2⟩)
      go_ret
      exact ⟨rfl, hb2⟩
    · simp only [Bool.true_and]
      go_enter Try.func12, Try.ntmps12
      go_wp2_with (go_at_call 25; refine HSM.out.mono ?_; rintro e w2 ⟨rfl, hb2⟩)
      go_ret
      exact ⟨rfl, hb2⟩
end Go.Proofs.Ytggddckckfilgaa
