/- parts: the laws PartsBests, PartsLeast, PartsMore. -/
import Derived.Test.YtohbpjehphmedaaParA
import Derived.Test.YtohbpjehphmedaaParO
import Derived.Deep.RegionHeld3
namespace Go.Proofs.Ytohbpjehphmedaa
open Go.RowKit
set_option maxRecDepth 100000
set_option maxHeartbeats 3200000

theorem sameParts_self (o : Int) (v1 v2 : Value) (k : List Int) (w : World) (B1 B2 : Nat) (h1 : Sli w B1 v1 (ci k)) (h2 : Sli w B2 v2 (ci k)) (hB1 : B1 ≤ w.heap.size) (hB2 : B2 ≤ w.heap.size) (hn : k.length ≤ 1099511627776) :
    Calls Try.prog 34 #[.agg #[.int .i64 o, v1], .agg #[.int .i64 o, v2]] w fun e w' => e = .returned (.bool true) ∧ Below w.heap.size w w' :=
  (sameParts_any o o v1 v2 k k w B1 B2 h1 h2 hB1 hB2 hn hn).mono fun _ _ ⟨he, h⟩ => ⟨by rw [he, decide_eq_true rfl, decide_eq_true rfl, Bool.and_self], h⟩
theorem bestKs_len (o n warm : Int) (l : List Int) : (bestKs o n warm l).length ≤ 256 := by
  unfold bestKs
  rw [List.length_map, cuts_len]
  have := sizesI_le (o := o) (n := n) (warm := warm)
  rw [sizesI_len] at this
  exact this
theorem bestR_len (n warm most : Int) (l : List Int) : (bestR n warm most l).2.1.length ≤ 1099511627776 := by
  unfold bestR
  split
  · exact Nat.le_trans (bestKs_len _ _ _ _) (by omega)
  · simp
theorem partsBests_walk (n warm most : Int) (va : Value) (l : List Int) (w : World) (hA : Sli w w.heap.size va (ci l)) :
    Calls Try.prog 6 #[.int .i64 n, .int .i64 warm, .int .i64 most, va] w fun e w' => e = .returned (.bool true) ∧ Below w.heap.size w w' := by
  obtain ⟨A1, c1, rfl, hlc1, hcm1⟩ := hA.formI
  by_cases h130 : 130 < l.length
  · go_enter Try.func6, Try.ntmps6
    go_wp2_with (go_at_call 12; refine (knownP_any w).mono ?_; rintro e w1 ⟨rfl, hb1⟩)
    go_ret
    exact ⟨rfl, hb1⟩
  have hl40 : l.length ≤ 1099511627776 := by omega
  have h1 := fun w1 (hb : Below w.heap.size w w1) => best_any2 n warm most _ l w1 _ (hA.below hb) hb.size hl40
  have h2 := fun w1 (hb : Below w.heap.size w w1) => qbest_any2 n warm most _ l w1 _ (hA.below hb) hb.size hl40
  have hlen := bestR_len n warm most l
  generalize bestR n warm most l = R at *
  obtain ⟨o, ks, er⟩ := R
  simp only at hlen
  have H1 := Lib.hid h1; have H2 := Lib.hid h2; have HLEN := Lib.hid hlen
  clear h1 h2 hA hlen
  go_enter Try.func6, Try.ntmps6
  go_wp2_with fail
  refine (knownP_any w).mono ?_
  rintro e w1 ⟨rfl, hb1⟩
  go_wp2_with fail
  refine (H1.out w1 hb1).mono ?_
  rintro e w2 ⟨kv, rfl, hko, hb2⟩
  simp only at hko ⊢
  obtain ⟨kA, kn, kc, rfl⟩ := hko.shape
  have hb02 := bthen hb1 hb2 hb1.size
  have hbx := below_box w2 (.int .i64 o) (.slice kA kn kc) 24
  have hp3 := box_new w2 (.int .i64 o) (.slice kA kn kc) 24
  have hko3 := hko.kept hbx
  have hb03 := bthen hb02 hbx hb02.size
  go_wp2_with fail
  obtain ⟨w3, hw3⟩ : ∃ w3, w2.alloc (.cells #[.int .i64 o, .slice kA kn kc] 24) = w3 := ⟨_, rfl⟩
  rw [hw3] at hp3 hko3 hb03 ⊢
  clear hw3 hbx
  refine (H2.out w3 hb03).mono ?_
  rintro e w4 ⟨kv2, rfl, hqo, hb4⟩
  simp only at hqo ⊢
  obtain ⟨qA, qn, qc, rfl⟩ := hqo.shape
  have hb04 := bthen hb03 hb4 hb03.size
  have hbx := below_box w4 (.int .i64 o) (.slice qA qn qc) 24
  have hq5 := box_new w4 (.int .i64 o) (.slice qA qn qc) 24
  have hp4 := (hb4.block w2.heap.size (Array.getElem?_eq_some_iff.1 hp3).1).trans hp3
  have hp5 := (hbx.block w2.heap.size (Array.getElem?_eq_some_iff.1 hp4).1).trans hp4
  have hqo5 := hqo.kept hbx
  have hko5 := (hko3.kept hb4).kept hbx
  have hb05 := bthen hb04 hbx hb04.size
  obtain ⟨x0, x1, hxf⟩ := blk2 hp5
  obtain ⟨y0, y1, hyf⟩ := blk2 hq5
  go_wp2_with fail
  refine (sameParts_self o _ _ ks _ _ _ hko5.sli hqo5.sli (Nat.le_refl _) (Nat.le_refl _) HLEN.out).mono ?_
  rintro e w6 ⟨rfl, hb6⟩
  go_wp2
  go_ret
  exact ⟨rfl, bthen hb05 hb6 hb05.size⟩

theorem mostN_le (most : Int) : ((mostN most : Nat) : Int) ≤ max most 0 := by unfold mostN; omega
theorem least_facts {po n warm most : Int} {p l : List Int} (hm : mayB po p n warm = true) (hr : rowOkB n warm l = true) :
    bestR n warm most l = (((bestO n warm l (mostN most) : Nat) : Int), bestKs (bestO n warm l (mostN most) : Nat) n warm l, 0) ∧ mayB (bestO n warm l (mostN most) : Nat) (bestKs (bestO n warm l (mostN most) : Nat) n warm l) n warm = true ∧
      ((bestO n warm l (mostN most) : Nat) : Int) ≤ max most 0 ∧ (po ≤ most → costP (bestO n warm l (mostN most) : Nat) (bestKs (bestO n warm l (mostN most) : Nat) n warm l) n warm l ≤ costP po p n warm l) ∧ 4 ≤ costP (bestO n warm l (mostN most) : Nat) (bestKs (bestO n warm l (mostN most) : Nat) n warm l) n warm l := by
  obtain ⟨hp, _, _⟩ := mayB_iff.1 hm
  obtain ⟨hrow, h0, h8, _⟩ := planB_iff.1 hp
  have hok := bestO_ok (l := l) hrow (mostN most)
  have hmost := mostN_le most
  have hc := bestC_cost hok.2 hr
  have hc2 : ∀ x : Nat, costP (x : Int) (bestKs (x : Nat) n warm l) n warm l = costP ((x : Nat) : Int) (bestKs ((x : Nat) : Int) n warm l) n warm l := fun _ => rfl
  refine ⟨by unfold bestR; rw [if_pos ⟨hrow, hr⟩], bestKs_may hok.2, by omega, fun hle => ?_, ?_⟩
  · rw [hc]
    obtain ⟨q, rfl⟩ := Int.eq_ofNat_of_zero_le h0
    have hq : q ≤ mostN most := by unfold mostN; omega
    exact Nat.le_trans (bestO_least (mostN most) q hq hp) (bestC_least hm hr)
  · rw [hc]; exact bestC_4 _ _ _ _

theorem partsLeast_walk (po : Int) (pv : Value) (p : List Int) (n warm most : Int) (va : Value) (l : List Int) (w : World) (hK : Sli w w.heap.size pv (ci p)) (hS : Sli w w.heap.size va (ci l)) (_ : -9223372036854775808 ≤ po) (_ : po ≤ 9223372036854775807) (_ : -9223372036854775808 ≤ most) (_ : most ≤ 9223372036854775807) :
    Calls Try.prog 8 #[.agg #[.int .i64 po, pv], .int .i64 n, .int .i64 warm, .int .i64 most, va] w fun e w' => e = .returned (.bool true) ∧ Below w.heap.size w w' := by
  obtain ⟨A1, c1, rfl, hlc1, hcm1⟩ := hK.formI
  obtain ⟨A2, c2, rfl, hlc2, hcm2⟩ := hS.formI
  have hH0 := Held.start (po := po) hK hS
  have hlm1 : p.length ≤ 9223372036854775807 := by unfold maxLen at hcm1; omega
  have hlm2 : l.length ≤ 9223372036854775807 := by unfold maxLen at hcm2; omega
  obtain ⟨wA, hwA⟩ : ∃ wA, w.alloc (.cells #[.int .i64 po, .slice A1 p.length c1] 24) = wA := ⟨_, rfl⟩
  have HWA := Lib.hid hwA
  rw [hwA] at hH0
  clear hwA hK hS
  by_cases hs1 : p.length ≤ 70
  · by_cases hs2 : l.length ≤ 130
    · have h4 := fun (w1 : World) (h1 : Sli w1 w.heap.size (.slice A1 p.length c1) (ci p)) (hB : w.heap.size ≤ w1.heap.size) => qmay_any po _ p n warm w1 _ h1 hB (by omega) (by omega) (by omega)
      by_cases hm : mayB po p n warm = true
      · rw [hm] at h4
        have hpp := (mayB_iff.1 hm).1
        obtain ⟨r1, r2, r3, r4⟩ := rowB_iff.1 (planB_iff.1 hpp).1
        clear hpp
        have hrn := rowOk_not (n := n) (warm := warm) (l := l) rfl
        by_cases hnw : (l.length : Int) = n - warm
        · rw [decide_eq_true hnw, Bool.true_and] at hrn
          have hne : ((l.length : Int) != n - warm) = false := by simpa using hnw
          have h0 := fun (w1 : World) (h : Sli w1 w.heap.size (.slice A2 l.length c2) (ci l)) => allWide_any _ l w1 _ h (by omega)
          rw [← hrn] at h0
          by_cases hr : rowOkB n warm l = true
          · rw [hr] at h0
            obtain ⟨hR, hm2, hom, hle, h4c⟩ := least_facts (po := po) (most := most) hm hr
            have hb := fun (w1 : World) (h : Sli w1 w.heap.size (.slice A2 l.length c2) (ci l)) (hB : w.heap.size ≤ w1.heap.size) => best_any2 n warm most _ l w1 _ h hB (by omega)
            rw [hR] at hb
            have hkl := bestKs_len (bestO n warm l (mostN most) : Nat) n warm l
            have hcl := costP_le (bestO n warm l (mostN most) : Nat) (bestKs (bestO n warm l (mostN most) : Nat) n warm l) n warm l
            have hok8 : bestO n warm l (mostN most) ≤ 8 := by
              obtain ⟨hp2, _⟩ := mayB_iff.1 hm2
              obtain ⟨_, _, h8, _⟩ := planB_iff.1 hp2
              omega
            generalize bestO n warm l (mostN most) = q at *
            have hm3 := fun (w1 : World) (v : Value) (B : Nat) (h : Sli w1 B v (ci (bestKs (q : Nat) n warm l))) (hB : B ≤ w1.heap.size) => may_any (q : Int) v (bestKs (q : Nat) n warm l) n warm w1 B h hB (by omega) (by omega) (by omega)
            rw [hm2] at hm3
            have hco := fun (w1 : World) (v : Value) (B : Nat) (h : Sli w1 B v (ci (bestKs (q : Nat) n warm l))) (hB : B ≤ w1.heap.size) (h2 : Sli w1 w.heap.size (.slice A2 l.length c2) (ci l)) (hB2 : w.heap.size ≤ w1.heap.size) => cost_any2 (q : Int) v _ (bestKs (q : Nat) n warm l) l n warm w1 B _ h hB h2 hB2 (by omega) (by omega) (by omega) (by omega)
            have hcp := fun (w1 : World) (h : Sli w1 w.heap.size (.slice A1 p.length c1) (ci p)) (h2 : Sli w1 w.heap.size (.slice A2 l.length c2) (ci l)) (hB2 : w.heap.size ≤ w1.heap.size) => cost_any2 po _ _ p l n warm w1 _ _ h hB2 h2 hB2 (by omega) (by omega) (by omega) (by omega)
            generalize costP (q : Int) (bestKs (q : Nat) n warm l) n warm l = C at *
            have hcl2 := costP_le po p n warm l
            generalize costP po p n warm l = D at *
            generalize bestKs (q : Nat) n warm l = ks at *
            obtain ⟨X, hX⟩ : ∃ X : Nat, max most 0 = (X : Nat) := ⟨(max most 0).toNat, by omega⟩
            have hqX : (q : Int) ≤ (X : Int) := by omega
            have H4 := Lib.hid h4; have H0 := Lib.hid h0; have HB := Lib.hid hb; have HM3 := Lib.hid hm3; have HCO := Lib.hid hco; have HCP := Lib.hid hcp
            clear h4 h0 hb hm3 hco hcp hR hm2 hom hr hrn hnw hm
            have hor : (most < po) ∨ (po ≤ most ∧ C ≤ D) := by
              by_cases h : po ≤ most
              · exact .inr ⟨h, hle h⟩
              · exact .inl (by omega)
            clear hle
            rcases hor with hpm | ⟨hpm, hCD⟩
            all_goals
              go_enter Try.func8, Try.ntmps8
              go_wp2_with fail
              rw [HWA.out]
              refine (knownP_any wA).mono ?_
              rintro e w1 ⟨rfl, hb1⟩
              have hH1 := hH0.on hb1
              have x0 := hH1.c0
              have x1 := hH1.c1
              go_wp2_with fail
              refine (H4.out w1 hH1.k hH1.be.size).mono ?_
              rintro e w2 ⟨rfl, hb2⟩
              have hH2 := hH1.on hb2
              clear x0 x1
              have x0 := hH2.c0
              have x1 := hH2.c1
              go_wp2_with fail
              refine (H0.out w2 hH2.s).mono ?_
              rintro e w3 ⟨rfl, rfl⟩
              go_wp2_with fail
              refine (HB.out w2 hH2.s hH2.be.size).mono ?_
              rintro e w3 ⟨kv, rfl, hko, hb3⟩
              simp only at hko ⊢
              obtain ⟨kA, kn, kc, rfl⟩ := hko.shape
              have hH3 := hH2.on hb3
              have hbx := below_box w3 (.int .i64 (q : Int)) (.slice kA kn kc) 24
              have hq4 := box_new w3 (.int .i64 (q : Int)) (.slice kA kn kc) 24
              have hko4 := hko.kept hbx
              have hH4 := hH3.on hbx
              have y0 := hH4.c0
              have y1 := hH4.c1
              obtain ⟨z0, z1, hzf⟩ := blk2 hq4
              clear x0 x1
              go_wp2_with fail
              refine (HM3.out _ _ _ hko4.sli (Nat.le_refl _)).mono ?_
              rintro e w5 ⟨rfl, hb5⟩
              have hH5 := hH4.on hb5
              have hq5 := (hb5.block w3.heap.size (by simp)).trans hq4
              have hko5 := hko4.kept hb5
              clear y0 y1 z0 z1 hzf
              have y0 := hH5.c0
              have y1 := hH5.c1
              obtain ⟨z0, z1, hzf⟩ := blk2 hq5
              go_wp2_with fail
              refine (HCO.out _ _ _ hko5.sli (Nat.le_refl _) hH5.s hH5.be.size).mono ?_
              rintro e w6 ⟨rfl, hb6⟩
              have hH6 := hH5.on hb6
              clear y0 y1 z0 z1 hzf
              have y0 := hH6.c0
              have y1 := hH6.c1
              first
                | (go_wp2_with fail
                   refine (HCP.out _ hH6.k hH6.s hH6.be.size).mono ?_
                   rintro e w7 ⟨rfl, hb7⟩
                   have hH7 := hH6.on hb7
                   go_wp2
                   go_ret
                   exact ⟨rfl, hH7.be⟩)
                | (go_wp2
                   go_ret
                   exact ⟨rfl, hH6.be⟩)
          · rw [Bool.eq_false_iff.2 hr] at h0
            have H4 := Lib.hid h4; have H0 := Lib.hid h0
            clear h4 h0 hr hrn hnw hm
            go_enter Try.func8, Try.ntmps8
            go_wp2_with fail
            rw [HWA.out]
            refine (knownP_any wA).mono ?_
            rintro e w1 ⟨rfl, hb1⟩
            have hH1 := hH0.on hb1
            have x0 := hH1.c0
            have x1 := hH1.c1
            go_wp2_with fail
            refine (H4.out w1 hH1.k hH1.be.size).mono ?_
            rintro e w2 ⟨rfl, hb2⟩
            have hH2 := hH1.on hb2
            clear x0 x1
            go_wp2_with fail
            refine (H0.out w2 hH2.s).mono ?_
            rintro e w3 ⟨rfl, rfl⟩
            go_wp2
            go_ret
            exact ⟨rfl, hH2.be⟩
        · have hne : ((l.length : Int) != n - warm) = true := by simpa using hnw
          have H4 := Lib.hid h4
          clear h4 hrn hnw hm
          go_enter Try.func8, Try.ntmps8
          go_wp2_with fail
          rw [HWA.out]
          refine (knownP_any wA).mono ?_
          rintro e w1 ⟨rfl, hb1⟩
          have hH1 := hH0.on hb1
          have x0 := hH1.c0
          have x1 := hH1.c1
          go_wp2_with fail
          refine (H4.out w1 hH1.k hH1.be.size).mono ?_
          rintro e w2 ⟨rfl, hb2⟩
          go_wp2
          go_ret
          exact ⟨rfl, (hH1.on hb2).be⟩
      · rw [Bool.eq_false_iff.2 hm] at h4
        have H4 := Lib.hid h4
        clear h4 hm
        go_enter Try.func8, Try.ntmps8
        go_wp2_with fail
        rw [HWA.out]
        refine (knownP_any wA).mono ?_
        rintro e w1 ⟨rfl, hb1⟩
        have hH1 := hH0.on hb1
        have x0 := hH1.c0
        have x1 := hH1.c1
        go_wp2_with fail
        refine (H4.out w1 hH1.k hH1.be.size).mono ?_
        rintro e w2 ⟨rfl, hb2⟩
        go_wp2
        go_ret
        exact ⟨rfl, (hH1.on hb2).be⟩
    · go_enter Try.func8, Try.ntmps8
      go_wp2_with fail
      rw [HWA.out]
      refine (knownP_any wA).mono ?_
      rintro e w1 ⟨rfl, hb1⟩
      have hH1 := hH0.on hb1
      have x0 := hH1.c0
      have x1 := hH1.c1
      go_wp2
      go_ret
      exact ⟨rfl, hH1.be⟩
  · go_enter Try.func8, Try.ntmps8
    go_wp2_with fail
    rw [HWA.out]
    refine (knownP_any wA).mono ?_
    rintro e w1 ⟨rfl, hb1⟩
    have hH1 := hH0.on hb1
    have x0 := hH1.c0
    have x1 := hH1.c1
    go_wp2
    go_ret
    exact ⟨rfl, hH1.be⟩

theorem more_facts {n k a b : Int} {l : List Int} (hrow : rowB n k = true) (hr : rowOkB n k l = true) (hab : a ≤ b) :
    bestR n k a l = (((bestO n k l (mostN a) : Nat) : Int), bestKs (bestO n k l (mostN a) : Nat) n k l, 0) ∧ bestR n k b l = (((bestO n k l (mostN b) : Nat) : Int), bestKs (bestO n k l (mostN b) : Nat) n k l, 0) ∧
      costP (bestO n k l (mostN a) : Nat) (bestKs (bestO n k l (mostN a) : Nat) n k l) n k l = bestC n k l (bestO n k l (mostN a)) ∧ costP (bestO n k l (mostN b) : Nat) (bestKs (bestO n k l (mostN b) : Nat) n k l) n k l = bestC n k l (bestO n k l (mostN b)) ∧
      bestC n k l (bestO n k l (mostN b)) ≤ bestC n k l (bestO n k l (mostN a)) ∧ bestC n k l (bestO n k l (mostN a)) ≤ 14 + l.length * widN l ∧ bestO n k l (mostN a) ≤ 8 ∧ bestO n k l (mostN b) ≤ 8 := by
  have h1 := bestO_ok (l := l) hrow (mostN a)
  have h2 := bestO_ok (l := l) hrow (mostN b)
  have hm : mostN a ≤ mostN b := by unfold mostN; omega
  have hm8 : mostN b ≤ 8 := by unfold mostN; omega
  exact ⟨by unfold bestR; rw [if_pos ⟨hrow, hr⟩], by unfold bestR; rw [if_pos ⟨hrow, hr⟩], bestC_cost h1.2 hr, bestC_cost h2.2 hr, bestO_more hm hrow, bestO_raw hrow hr _, by omega, by omega⟩
theorem partsMore_walk (va : Value) (l : List Int) (warm a b : Int) (w : World) (hA : Sli w w.heap.size va (ci l)) (_ : -9223372036854775808 ≤ warm) (_ : warm ≤ 9223372036854775807) :
    Calls Try.prog 11 #[va, .int .i64 warm, .int .i64 a, .int .i64 b] w fun e w' => e = .returned (.bool true) ∧ Below w.heap.size w w' := by
  obtain ⟨A1, c1, rfl, hlc1, hcm1⟩ := hA.formI
  have hlm : l.length ≤ 9223372036854775807 := by unfold maxLen at hcm1; omega
  by_cases hok : 1 ≤ l.length ∧ l.length ≤ 120
  · obtain ⟨hl1, hl2⟩ := hok
    have h0 := fun w1 (hb : Below w.heap.size w w1) => allWide_any _ l w1 _ (hA.below hb) (by omega)
    have hl0 : ((l.length : Int) == 0) = false := by simp only [beq_eq_false_iff_ne, ne_eq]; omega
    cases hall : l.all wideB
    · rw [hall] at h0
      have H0 := Lib.hid h0
      clear h0 hA hall
      go_enter Try.func11, Try.ntmps11
      go_wp2_with (first
        | (go_at_call 12; refine (knownP_any w).mono ?_; rintro e w1 ⟨rfl, hb1⟩)
        | (go_at_call 38; refine (H0.out _ hb1).mono ?_; rintro e w2 ⟨rfl, rfl⟩))
      go_ret
      exact ⟨rfl, hb1⟩
    · rw [hall] at h0
      have hand : bits .and .i64 warm 255 = warm % 256 := i64_mask 8 (by omega) warm
      obtain ⟨u, hu⟩ : ∃ u : Nat, warm % 256 = (u : Nat) := ⟨(warm % 256).toNat, by omega⟩
      rw [hu] at hand
      obtain ⟨k, hk⟩ : ∃ k : Nat, (u : Int) % 9 = (k : Nat) := ⟨u % 9, by simp⟩
      have hk8 : k ≤ 8 := by omega
      obtain ⟨n, hn⟩ : ∃ n : Nat, (l.length : Int) + (k : Int) = (n : Nat) := ⟨l.length + k, by simp⟩
      have hrow : rowB (n : Int) (k : Int) = true := by rw [rowB_iff]; omega
      have hr : rowOkB (n : Int) (k : Int) l = true := by rw [rowOkB, hall, Bool.and_true, decide_eq_true_iff]; omega
      obtain ⟨x, hx⟩ : ∃ x, min a b = x := ⟨_, rfl⟩
      obtain ⟨y, hy⟩ : ∃ y, max a b = y := ⟨_, rfl⟩
      have hxy : x ≤ y := by omega
      obtain ⟨hRa, hRb, hCa, hCb, hle, hraw, ho1, ho2⟩ := more_facts (a := x) (b := y) hrow hr hxy
      have hb1 := fun (w1 : World) (hb : Below w.heap.size w w1) => best_any2 (n : Int) (k : Int) x _ l w1 _ (hA.below hb) hb.size (by omega)
      have hb2 := fun (w1 : World) (hb : Below w.heap.size w w1) => best_any2 (n : Int) (k : Int) y _ l w1 _ (hA.below hb) hb.size (by omega)
      rw [hRa] at hb1
      rw [hRb] at hb2
      have hk1 := bestKs_len (bestO n k l (mostN x) : Nat) n k l
      have hk2 := bestKs_len (bestO n k l (mostN y) : Nat) n k l
      have hcl := costP_le (bestO n k l (mostN x) : Nat) (bestKs (bestO n k l (mostN x) : Nat) n k l) n k l
      have h4 := bestC_4 n k l (bestO n k l (mostN x))
      have h4' := bestC_4 n k l (bestO n k l (mostN y))
      rw [hCa] at hcl
      generalize bestO (n : Int) (k : Int) l (mostN x) = q1 at *
      generalize bestO (n : Int) (k : Int) l (mostN y) = q2 at *
      have hco1 := fun (w1 : World) (v : Value) (B : Nat) (h : Sli w1 B v (ci (bestKs (q1 : Nat) n k l))) (hB : B ≤ w1.heap.size) (hb : Below w.heap.size w w1) => cost_any2 (q1 : Int) v _ (bestKs (q1 : Nat) n k l) l n k w1 B _ h hB (hA.below hb) hb.size (by omega) (by omega) (by omega) (by omega)
      have hco2 := fun (w1 : World) (v : Value) (B : Nat) (h : Sli w1 B v (ci (bestKs (q2 : Nat) n k l))) (hB : B ≤ w1.heap.size) (hb : Below w.heap.size w w1) => cost_any2 (q2 : Int) v _ (bestKs (q2 : Nat) n k l) l n k w1 B _ h hB (hA.below hb) hb.size (by omega) (by omega) (by omega) (by omega)
      have hwi := fun (w1 : World) (hb : Below w.heap.size w w1) => rwidth_wid (hA.below hb) (by omega)
      rw [hCa] at hco1
      rw [hCb] at hco2
      generalize bestC (n : Int) (k : Int) l q1 = C at *
      generalize bestC (n : Int) (k : Int) l q2 = D at *
      generalize bestKs (q1 : Nat) (n : Int) (k : Int) l = ks1 at *
      generalize bestKs (q2 : Nat) (n : Int) (k : Int) l = ks2 at *
      have hd32 := widN_32 l
      generalize widN l = d at *
      obtain ⟨P, hP⟩ : ∃ P, l.length * d = P := ⟨_, rfl⟩
      have hPI : (l.length : Int) * (d : Int) = (P : Nat) := by rw [← hP]; simp
      have hP2 : P ≤ 120 * 32 := by rw [← hP]; exact Nat.mul_le_mul hl2 hd32
      rw [hP] at hraw
      have H0 := Lib.hid h0; have HB1 := Lib.hid hb1; have HB2 := Lib.hid hb2; have HC1 := Lib.hid hco1; have HC2 := Lib.hid hco2; have HW := Lib.hid hwi
      clear h0 hb1 hb2 hco1 hco2 hwi hRa hRb hCa hCb hA hall hrow hr hP hu hk1 hk2 ho1 ho2 hd32 hxy
      go_enter Try.func11, Try.ntmps11
      go_wp2_with fail
      refine (knownP_any w).mono ?_
      rintro e w1 ⟨rfl, hb1⟩
      go_wp2_with fail
      refine (H0.out _ hb1).mono ?_
      rintro e w2 ⟨rfl, rfl⟩
      go_wp2_with fail
      refine (HB1.out _ hb1).mono ?_
      rintro e w2 ⟨kv, rfl, hko, hb2⟩
      simp only at hko ⊢
      obtain ⟨kA, kn, kc, rfl⟩ := hko.shape
      have hb02 := bthen hb1 hb2 hb1.size
      have hbx := below_box w2 (.int .i64 (q1 : Int)) (.slice kA kn kc) 24
      have hp3 := box_new w2 (.int .i64 (q1 : Int)) (.slice kA kn kc) 24
      have hko3 := hko.kept hbx
      have hb03 := bthen hb02 hbx hb02.size
      go_wp2_with fail
      obtain ⟨w3, hw3⟩ : ∃ w3, w2.alloc (.cells #[.int .i64 (q1 : Int), .slice kA kn kc] 24) = w3 := ⟨_, rfl⟩
      rw [hw3] at hp3 hko3 hb03 ⊢
      clear hw3 hbx
      refine (HB2.out w3 hb03).mono ?_
      rintro e w4 ⟨kv2, rfl, hqo, hb4⟩
      simp only at hqo ⊢
      obtain ⟨qA, qn, qc, rfl⟩ := hqo.shape
      have hb04 := bthen hb03 hb4 hb03.size
      have hbx := below_box w4 (.int .i64 (q2 : Int)) (.slice qA qn qc) 24
      have hq5 := box_new w4 (.int .i64 (q2 : Int)) (.slice qA qn qc) 24
      have hp4 := (hb4.block w2.heap.size (Array.getElem?_eq_some_iff.1 hp3).1).trans hp3
      have hp5 := (hbx.block w2.heap.size (Array.getElem?_eq_some_iff.1 hp4).1).trans hp4
      have hqo5 := hqo.kept hbx
      have hko5 := (hko3.kept hb4).kept hbx
      have hb05 := bthen hb04 hbx hb04.size
      obtain ⟨x0, x1, hxf⟩ := blk2 hp5
      obtain ⟨y0, y1, hyf⟩ := blk2 hq5
      go_wp2
      obtain ⟨w5, hw5⟩ : ∃ w5, w4.alloc (.cells #[.int .i64 (q2 : Int), .slice qA qn qc] 24) = w5 := ⟨_, rfl⟩
      rw [hw5] at hp5 hq5 hko5 hqo5 hb05 x0 x1 y0 y1 ⊢
      clear hw5 hbx hxf hyf
      have hltp := (Array.getElem?_eq_some_iff.1 hp5).1
      have hltq := (Array.getElem?_eq_some_iff.1 hq5).1
      go_region_held3 (fun w' => w'.cell? ⟨w2.heap.size, 0, none⟩ = some (.int .i64 (q1 : Int)) ∧ w'.cell? ⟨w2.heap.size, 1, none⟩ = some (.slice kA kn kc) ∧ w'.cell? ⟨w4.heap.size, 0, none⟩ = some (.int .i64 (q2 : Int)) ∧ w'.cell? ⟨w4.heap.size, 1, none⟩ = some (.slice qA qn qc))
        (first | go_keep | exact ⟨(hb6.cell (p := ⟨w2.heap.size, 0, none⟩) hltp).trans x0, (hb6.cell (p := ⟨w2.heap.size, 1, none⟩) hltp).trans x1, (hb6.cell (p := ⟨w4.heap.size, 0, none⟩) hltq).trans y0, (hb6.cell (p := ⟨w4.heap.size, 1, none⟩) hltq).trans y1⟩ | exact ⟨(hb56.cell (p := ⟨w2.heap.size, 0, none⟩) hltp).trans x0, (hb56.cell (p := ⟨w2.heap.size, 1, none⟩) hltp).trans x1, (hb56.cell (p := ⟨w4.heap.size, 0, none⟩) hltq).trans y0, (hb56.cell (p := ⟨w4.heap.size, 1, none⟩) hltq).trans y1⟩)
        (first
          | (go_at_call_of 19 (Value.agg #[Value.int .i64 (q1 : Int), Value.slice kA kn kc]); refine (HC1.out w5.drew _ w5.heap.size (show Sli w5.drew w5.heap.size (.slice kA kn kc) (ci ks1) from hko5.sli) (Nat.le_refl _) hb05.drew).mono ?_; rintro e w6 ⟨rfl, hb6⟩; have hb06 := bthen hb05.drew hb6 hb05.size)
          | (go_at_call_of 19 (Value.agg #[Value.int .i64 (q2 : Int), Value.slice qA qn qc]); refine (HC2.out w6 _ w5.heap.size ((show Sli w5.drew w5.heap.size (.slice qA qn qc) (ci ks2) from hqo5.sli).below hb6) hb6.size hb06).mono ?_; rintro e w7 ⟨rfl, hb7⟩; have hb56 := hb6.trans (hb7.mono hb6.size); have hb07 := bthen hb06 hb7 hb06.size))
      all_goals
        go_wp2_with fail
        refine (HW.out _ hb07).mono ?_
        rintro e w8 ⟨rfl, rfl⟩
        go_wp2
        go_ret
        refine ⟨?_, hb07⟩
        show Ending.returned (.bool (decide ((C : Int) ≤ 14 + (P : Int)))) = _
        rw [decide_eq_true (by omega)]
  · have hor : 120 < l.length ∨ (l.length ≤ 120 ∧ l.length = 0) := by omega
    clear hok hA
    generalize l.length = m at *
    rcases hor with h | ⟨h, h'⟩
    · go_enter Try.func11, Try.ntmps11
      go_wp2_with (go_at_call 12; refine (knownP_any w).mono ?_; rintro e w1 ⟨rfl, hb1⟩)
      go_ret
      exact ⟨rfl, hb1⟩
    · subst h'
      go_enter Try.func11, Try.ntmps11
      go_wp2_with (go_at_call 12; refine (knownP_any w).mono ?_; rintro e w1 ⟨rfl, hb1⟩)
      go_ret
      exact ⟨rfl, hb1⟩
end Go.Proofs.Ytohbpjehphmedaa
