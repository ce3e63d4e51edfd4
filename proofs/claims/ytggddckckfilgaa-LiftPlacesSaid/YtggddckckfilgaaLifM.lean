/- lift: the laws LiftTells, LiftDoes. -/
import Derived.Test.YtggddckckfilgaaLifL
import Derived.Test.YtggddckckfilgaaLifE
namespace Go.Proofs.Ytggddckckfilgaa
open Go.RowKit
set_option maxRecDepth 100000
set_option maxHeartbeats 8000000

theorem opR_small (s : Int) (rs : List (List Int)) (l : List Li) : (∀ r ∈ (opR s rs l).1, r.length ≤ 4096) ∧ (opR s rs l).1.length ≤ 8 := by
  by_cases h : rowsW rs = true ∧ mayLi l (rs.length : Nat) = true
  · have M := rowsOk_of h.1
    rcases opR_cases (s := s) M h.2 with ⟨r, _, he, hr, _⟩ | ⟨_, he⟩
    · rw [he]
      exact ⟨fun x hx => by rw [hr.rows x hx]; exact hr.size, hr.chans.2⟩
    · rw [he]; simp
  · rw [opR_bad h]; simp
theorem liftTells_walk (v : Value) (l : List Li) (ch mode : Int) (vc : Value) (rs : List (List Int)) (w : World) (hS : Lis w w.heap.size v l) (hR : Rws w w.heap.size vc rs) :
    Calls Try.prog 3 #[v, .int .i64 ch, .int .i64 mode, vc] w fun e w' => e = .returned (.bool true) ∧ Below w.heap.size w w' := by
  have HS := Lib.hid hS; have HR := Lib.hid hR
  obtain ⟨A, c, rfl, _, _⟩ := hS.form
  obtain ⟨A2, c2, rfl, _, _⟩ := hR.form
  clear hS hR
  go_enter Try.func3, Try.ntmps3
  go_wp2_with fail
  refine (lknown_any w).mono ?_
  rintro e w1 ⟨rfl, hb1⟩
  go_wp2_with fail
  have hsm := smallL_any _ _ rs l 200 w1 _ _ (HR.out.below hb1) hb1.size (HS.out.below hb1)
  by_cases hs : (smallB rs 200 && decide (l.length ≤ 20)) = true
  · rw [hs] at hsm
    have hl20 : l.length ≤ 20 := by
      rw [Bool.and_eq_true, decide_eq_true_eq] at hs
      exact hs.2
    refine hsm.mono ?_
    rintro e w2 ⟨rfl, hb2⟩
    have hB2 := bthen hb1 hb2 hb1.size
    clear hb1 hb2 hs hsm
    go_wp2_with fail
    have hm := mayL_any _ l ch w2 _ (HS.out.below hB2) hB2.size
    have hqm := fun w1 (h : Below w.heap.size w w1) => qmayL_any _ l ch w1 _ (HS.out.below h) h.size
    have hwt := fun w1 (h : Below w.heap.size w w1) => weightL_any _ rs w1 _ (HR.out.below h)
    have hqw := fun w1 (h : Below w.heap.size w w1) => qweightL_any _ rs w1 _ (HR.out.below h) h.size
    generalize mayLi l ch = ml at *
    generalize weightLi rs = wt at *
    have HQM := Lib.hid hqm; have HWT := Lib.hid hwt; have HQW := Lib.hid hqw
    clear hqm hwt hqw
    have hmm : (ml == ml) = true := by simp
    have hww : (wt == wt) = true := by simp
    refine hm.mono ?_
    rintro e w3 ⟨rfl, hb3⟩
    have hB3 := bthen hB2 hb3 hB2.size
    clear hB2 hb3 hm
    go_wp2_with fail
    refine (HQM.out w3 hB3).mono ?_
    rintro e w4 ⟨rfl, hb4⟩
    have hB4 := bthen hB3 hb4 hB3.size
    clear hB3 hb4
    go_wp2_with fail
    refine (named_any mode w4).mono ?_
    rintro e w5 ⟨u5, rfl, ho5, hb5⟩
    have hB5 := bthen hB4 hb5 hB4.size
    have HO5 := Lib.hid ho5
    clear hB4 hb5 ho5
    go_wp2_with fail
    refine (qnamed_any mode w5).mono ?_
    rintro e w6 ⟨u6, rfl, ho6, hb6⟩
    have hB6 := bthen hB5 hb6 hB5.size
    have hsl := sameL_any u5 u6 (namedLi mode) w6 _ _ ((HO5.out.below hb6).lis) ho6.lis (by have := (mayLi_iff.1 (namedLi_may mode)).2.2.1; omega)
    clear hB5 hb6 ho6 HO5
    go_wp2_with fail
    refine hsl.mono ?_
    rintro e w7 ⟨rfl, q, rfl⟩
    have hB7 := below_drewN hB6 q
    clear hsl
    go_wp2_with fail
    refine (HWT.out _ hB7).mono ?_
    rintro e w8 ⟨rfl, q2, rfl⟩
    have hB8 := below_drewN hB6 (q + q2)
    clear hB7 hB6
    go_wp2_with fail
    refine (HQW.out _ hB8).mono ?_
    rintro e w9 ⟨rfl, hb9⟩
    have hB9 := bthen hB8 hb9 hB8.size
    clear hB8 hb9
    go_wp2
    go_ret
    exact ⟨rfl, hB9⟩
  · rw [Bool.eq_false_iff.2 hs] at hsm
    refine hsm.mono ?_
    rintro e w2 ⟨rfl, hb2⟩
    have hB2 := bthen hb1 hb2 hb1.size
    clear hb1 hb2 hs hsm
    go_wp2
    go_ret
    exact ⟨rfl, hB2⟩
theorem liftDoes_walk (v : Value) (rs : List (List Int)) (vl : Value) (l : List Li) (w : World) (hR : Rws w w.heap.size v rs) (hS : Lis w w.heap.size vl l) :
    Calls Try.prog 4 #[v, vl] w fun e w' => e = .returned (.bool true) ∧ Below w.heap.size w w' := by
  have HS := Lib.hid hS; have HR := Lib.hid hR
  obtain ⟨A, c, rfl, _, _⟩ := hS.form
  obtain ⟨A2, c2, rfl, _, _⟩ := hR.form
  clear hS hR
  go_enter Try.func4, Try.ntmps4
  go_wp2_with fail
  refine (lknown_any w).mono ?_
  rintro e w1 ⟨rfl, hb1⟩
  go_wp2_with fail
  have hsm := smallL_any _ _ rs l 200 w1 _ _ (HR.out.below hb1) hb1.size (HS.out.below hb1)
  by_cases hs : (smallB rs 200 && decide (l.length ≤ 20)) = true
  · rw [hs] at hsm
    have hl20 : l.length ≤ 20 := by
      rw [Bool.and_eq_true, decide_eq_true_eq] at hs
      exact hs.2
    refine hsm.mono ?_
    rintro e w2 ⟨rfl, hb2⟩
    have hB2 := bthen hb1 hb2 hb1.size
    clear hb1 hb2 hs hsm
    have h1 := fun w1 (h : Below w.heap.size w w1) => doL_any _ _ rs l w1 _ _ (HR.out.below h) h.size (HS.out.below h) h.size
    have h2 := fun w1 (h : Below w.heap.size w w1) => qdoL_any _ _ rs l w1 _ _ (HR.out.below h) h.size (HS.out.below h) h.size
    have h3 := fun w1 (h : Below w.heap.size w w1) => undoL_any _ _ rs l w1 _ _ (HR.out.below h) h.size (HS.out.below h) h.size (by omega)
    have h4 := fun w1 (h : Below w.heap.size w w1) => qundoL_any _ _ rs l w1 _ _ (HR.out.below h) h.size (HS.out.below h) h.size
    have hd := opR_small 1 rs l
    have hu := opR_small (-1) rs l.reverse
    rw [show opR 1 rs l = doLi rs l from rfl] at hd
    rw [show opR (-1) rs l.reverse = undoLi rs l from rfl] at hu
    generalize doLi rs l = D at *
    generalize undoLi rs l = U at *
    obtain ⟨dr, de⟩ := D
    obtain ⟨ur, ue⟩ := U
    simp only at hd hu
    have H1 := Lib.hid h1; have H2 := Lib.hid h2; have H3 := Lib.hid h3; have H4 := Lib.hid h4; have HD := Lib.hid hd; have HU := Lib.hid hu
    clear h1 h2 h3 h4 hd hu
    have hde : (de == de) = true := by simp
    have hue : (ue == ue) = true := by simp
    go_wp2_with fail
    refine (H1.out w2 hB2).mono ?_
    rintro e w3 ⟨u3, vs3, rfl, hr3, hb3⟩
    have hB3 := bthen hB2 hb3 hB2.size
    have HR3 := Lib.hid hr3
    clear hB2 hb3 hr3
    go_wp2_with fail
    refine (H2.out w3 hB3).mono ?_
    rintro e w4 ⟨u4, vs4, rfl, hr4, hb4⟩
    have hB4 := bthen hB3 hb4 hB3.size
    have HR34 := Lib.hid (HR3.out.kept hb4)
    have HR4 := Lib.hid hr4
    clear hB3 hb4 hr4 HR3
    go_wp2_with fail
    refine (H3.out w4 hB4).mono ?_
    rintro e w5 ⟨u5, vs5, rfl, hr5, hb5⟩
    have hB5 := bthen hB4 hb5 hB4.size
    have HR35 := Lib.hid (HR34.out.kept hb5)
    have HR45 := Lib.hid (HR4.out.kept hb5)
    have HR5 := Lib.hid hr5
    clear hB4 hb5 hr5 HR34 HR4
    go_wp2_with fail
    refine (H4.out w5 hB5).mono ?_
    rintro e w6 ⟨u6, vs6, rfl, hr6, hb6⟩
    have hB6 := bthen hB5 hb6 hB5.size
    have hs1 := sameRows_any u3 u4 dr dr w6 _ _ (HR35.out.kept hb6).rws (HR45.out.kept hb6).rws (fun r hr => by have := HD.out.1 r hr; omega) (fun r hr => by have := HD.out.1 r hr; omega) (by have := HD.out.2; omega)
    have hs2 := fun q => sameRows_any u5 u6 ur ur (w6.drewN q) _ _ ((HR5.out.kept hb6).rws.drewN q) (hr6.rws.drewN q) (fun r hr => by have := HU.out.1 r hr; omega) (fun r hr => by have := HU.out.1 r hr; omega) (by have := HU.out.2; omega)
    rw [decide_eq_true rfl] at hs1 hs2
    have HS2 := Lib.hid hs2
    clear hB5 hb6 hr6 HR35 HR45 HR5 hs2
    go_wp2_with fail
    refine hs1.mono ?_
    rintro e w7 ⟨rfl, q, rfl⟩
    clear hs1
    go_wp2_with fail
    refine (HS2.out q).mono ?_
    rintro e w8 ⟨rfl, q2, rfl⟩
    have hB8 := below_drewN hB6 (q + q2)
    clear hB6
    go_wp2
    go_ret
    exact ⟨rfl, hB8⟩
  · rw [Bool.eq_false_iff.2 hs] at hsm
    refine hsm.mono ?_
    rintro e w2 ⟨rfl, hb2⟩
    have hB2 := bthen hb1 hb2 hb1.size
    clear hb1 hb2 hs hsm
    go_wp2
    go_ret
    exact ⟨rfl, hB2⟩
end Go.Proofs.Ytggddckckfilgaa
