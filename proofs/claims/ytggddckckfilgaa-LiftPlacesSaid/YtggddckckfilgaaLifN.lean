/- lift: the laws LiftBack, LiftSteps. -/
import Derived.Test.YtggddckckfilgaaLifM
namespace Go.Proofs.Ytggddckckfilgaa
open Go.RowKit
set_option maxRecDepth 100000
set_option maxHeartbeats 16000000

theorem rows_len {rs : List (List Int)} {n : Nat} (M : RowsOk rs n) : ∀ r ∈ rs, r.length ≤ 1099511627776 := fun r hr => by rw [M.rows r hr]; have := M.size; omega
theorem RwG.shapeN {w : World} {base : Nat} {u : Value} {vs : List Value} {rs : List (List Int)} (h : RwG w base u vs rs) : ∃ A c, u = .slice A rs.length c := by
  obtain ⟨A, c, e, _, _⟩ := h.rws.form
  exact ⟨A, c, e⟩
theorem RwG.empty_shape {w : World} {base : Nat} {u : Value} {vs : List Value} (h : RwG w base u vs []) : ∃ A c, u = .slice A 0 c := h.shapeN
theorem liftBack_walk (v : Value) (rs : List (List Int)) (vl : Value) (l : List Li) (w : World) (hR : Rws w w.heap.size v rs) (hS : Lis w w.heap.size vl l) :
    Calls Try.prog 6 #[v, vl] w fun e w' => e = .returned (.bool true) ∧ Below w.heap.size w w' := by
  have HS := Lib.hid hS; have HR := Lib.hid hR
  obtain ⟨A, c, rfl, _, _⟩ := hS.form
  obtain ⟨A2, c2, rfl, _, _⟩ := hR.form
  clear hS hR
  go_enter Try.func6, Try.ntmps6
  go_wp2_with fail
  refine (lknown_any w).mono ?_
  rintro e w1 ⟨rfl, hb1⟩
  go_wp2_with fail
  have hsm := smallL_any _ _ rs l 200 w1 _ _ (HR.out.below hb1) hb1.size (HS.out.below hb1)
  by_cases hs : (smallB rs 200 && decide (l.length ≤ 20)) = true
  · rw [hs] at hsm
    have hl20 : l.length ≤ 20 := by
      rw [Bool.and_eq_true, decide_eq_true_eq] at hs
      exact hs.2
    refine hsm.mono ?_
    rintro e w2 ⟨rfl, hb2⟩
    have hB2 := bthen hb1 hb2 hb1.size
    clear hb1 hb2 hs hsm
    have hft := lfits_any _ _ rs l w2 _ _ (HR.out.below hB2) hB2.size (HS.out.below hB2) hB2.size
    by_cases hf : (rowsW rs && mayLi l (rs.length : Nat)) = true
    · rw [hf] at hft
      rw [Bool.and_eq_true] at hf
      obtain ⟨hrw, hmy⟩ := hf
      have M := rowsOk_of hrw
      generalize lenB rs = n at *
      have hrs8 := M.chans
      have HLEN := Lib.hid (rows_len M)
      have hmy' : mayLi l.reverse (rs.length : Nat) = true := by rw [mayLi_rev]; exact hmy
      have h1 := fun w1 (h : Below w.heap.size w w1) => doL_any _ _ rs l w1 _ _ (HR.out.below h) h.size (HS.out.below h) h.size
      have h3 := fun w1 (h : Below w.heap.size w w1) => undoL_any _ _ rs l w1 _ _ (HR.out.below h) h.size (HS.out.below h) h.size (by omega)
      have hdu := fun r => undo_done (r := r) M hmy
      have hud := fun r => do_undone (r := r) M hmy
      have HDU := Lib.hid hdu; have HUD := Lib.hid hud
      clear hdu hud
      go_wp2_with fail
      refine hft.mono ?_
      rintro e w3 ⟨rfl, hb3⟩
      have hB3 := bthen hB2 hb3 hB2.size
      clear hB2 hb3 hft
      have hcd : (∃ r, doLi rs l = (r, 0)) ∨ doLi rs l = ([], 6) := by
        rcases opR_cases (s := 1) M hmy with ⟨r, _, h, _, _⟩ | ⟨_, h⟩
        · exact .inl ⟨r, h⟩
        · exact .inr h
      have hcu : (∃ r, undoLi rs l = (r, 0)) ∨ undoLi rs l = ([], 6) := by
        rcases opR_cases (s := -1) M hmy' with ⟨r, _, h, _, _⟩ | ⟨_, h⟩
        · exact .inl ⟨r, h⟩
        · exact .inr h
      have H1 := Lib.hid h1; have H3 := Lib.hid h3
      clear h1 h3 M hmy hmy' hrw
      rcases hcd with ⟨rdo, hDdo⟩ | hDdo
      · have hc := H1.out w3 hB3
        rw [hDdo] at hc
        go_wp2_with fail
        refine hc.mono ?_
        rintro e w4 ⟨udo, vsdo, rfl, hrdo, hb⟩
        obtain ⟨Ado, cdo, rfl⟩ := hrdo.shapeN
        have hB4 := bthen hB3 hb hB3.size
        clear hc hb hB3
        have hc := undoL_any _ _ rdo l w4 _ _ hrdo.rws (Nat.le_refl _) (HS.out.below hB4) hB4.size (by omega)
        rw [HDU.out rdo hDdo] at hc
        go_wp2_with fail
        refine hc.mono ?_
        rintro e w5 ⟨u2do, vs2do, rfl, hr2do, hb⟩
        obtain ⟨A2do, c2do, rfl⟩ := hr2do.shapeN
        have hB5 := bthen hB4 hb hB4.size
        clear hc hb hB4
        have hs := sameRows_any _ _ rs rs w5 _ _ hr2do.rws (HR.out.below hB5) HLEN.out HLEN.out (by omega)
        rw [decide_eq_true rfl] at hs
        clear hrdo hr2do
        go_wp2_with fail
        refine hs.mono ?_
        rintro e w' ⟨rfl, q3, rfl⟩
        clear hs
        have hB6 := below_drewN hB5 q3
        clear hB5
        obtain ⟨w6, hw⟩ : ∃ w', w5.drewN q3 = w' := ⟨_, rfl⟩
        rw [hw] at hB6 ⊢
        clear hw
        rcases hcu with ⟨rundo, hDundo⟩ | hDundo
        · have hc := H3.out w6 hB6
          rw [hDundo] at hc
          go_wp2_with fail
          refine hc.mono ?_
          rintro e w7 ⟨uundo, vsundo, rfl, hrundo, hb⟩
          obtain ⟨Aundo, cundo, rfl⟩ := hrundo.shapeN
          have hB7 := bthen hB6 hb hB6.size
          clear hc hb hB6
          have hc := doL_any _ _ rundo l w7 _ _ hrundo.rws (Nat.le_refl _) (HS.out.below hB7) hB7.size
          rw [HUD.out rundo hDundo] at hc
          go_wp2_with fail
          refine hc.mono ?_
          rintro e w8 ⟨u2undo, vs2undo, rfl, hr2undo, hb⟩
          obtain ⟨A2undo, c2undo, rfl⟩ := hr2undo.shapeN
          have hB8 := bthen hB7 hb hB7.size
          clear hc hb hB7
          have hs := sameRows_any _ _ rs rs w8 _ _ hr2undo.rws (HR.out.below hB8) HLEN.out HLEN.out (by omega)
          rw [decide_eq_true rfl] at hs
          clear hrundo hr2undo
          go_wp2_with fail
          refine hs.mono ?_
          rintro e w' ⟨rfl, q6, rfl⟩
          clear hs
          have hB9 := below_drewN hB8 q6
          clear hB8
          obtain ⟨w9, hw⟩ : ∃ w', w8.drewN q6 = w' := ⟨_, rfl⟩
          rw [hw] at hB9 ⊢
          clear hw
          go_wp2
          go_ret
          exact ⟨rfl, hB9⟩
        · have hc := H3.out w6 hB6
          rw [hDundo] at hc
          go_wp2_with fail
          refine hc.mono ?_
          rintro e w7 ⟨uundo, vsundo, rfl, hrundo, hb⟩
          obtain ⟨Aundo, cundo, rfl⟩ := hrundo.empty_shape
          have hB7 := bthen hB6 hb hB6.size
          clear hc hb hB6 hrundo
          go_wp2
          go_ret
          exact ⟨rfl, hB7⟩
      · have hc := H1.out w3 hB3
        rw [hDdo] at hc
        go_wp2_with fail
        refine hc.mono ?_
        rintro e w4 ⟨udo, vsdo, rfl, hrdo, hb⟩
        obtain ⟨Ado, cdo, rfl⟩ := hrdo.empty_shape
        have hB4 := bthen hB3 hb hB3.size
        clear hc hb hB3 hrdo
        rcases hcu with ⟨rundo, hDundo⟩ | hDundo
        · have hc := H3.out w4 hB4
          rw [hDundo] at hc
          go_wp2_with fail
          refine hc.mono ?_
          rintro e w5 ⟨uundo, vsundo, rfl, hrundo, hb⟩
          obtain ⟨Aundo, cundo, rfl⟩ := hrundo.shapeN
          have hB5 := bthen hB4 hb hB4.size
          clear hc hb hB4
          have hc := doL_any _ _ rundo l w5 _ _ hrundo.rws (Nat.le_refl _) (HS.out.below hB5) hB5.size
          rw [HUD.out rundo hDundo] at hc
          go_wp2_with fail
          refine hc.mono ?_
          rintro e w6 ⟨u2undo, vs2undo, rfl, hr2undo, hb⟩
          obtain ⟨A2undo, c2undo, rfl⟩ := hr2undo.shapeN
          have hB6 := bthen hB5 hb hB5.size
          clear hc hb hB5
          have hs := sameRows_any _ _ rs rs w6 _ _ hr2undo.rws (HR.out.below hB6) HLEN.out HLEN.out (by omega)
          rw [decide_eq_true rfl] at hs
          clear hrundo hr2undo
          go_wp2_with fail
          refine hs.mono ?_
          rintro e w' ⟨rfl, q4, rfl⟩
          clear hs
          have hB7 := below_drewN hB6 q4
          clear hB6
          obtain ⟨w7, hw⟩ : ∃ w', w6.drewN q4 = w' := ⟨_, rfl⟩
          rw [hw] at hB7 ⊢
          clear hw
          go_wp2
          go_ret
          exact ⟨rfl, hB7⟩
        · have hc := H3.out w4 hB4
          rw [hDundo] at hc
          go_wp2_with fail
          refine hc.mono ?_
          rintro e w5 ⟨uundo, vsundo, rfl, hrundo, hb⟩
          obtain ⟨Aundo, cundo, rfl⟩ := hrundo.empty_shape
          have hB5 := bthen hB4 hb hB4.size
          clear hc hb hB4 hrundo
          go_wp2
          go_ret
          exact ⟨rfl, hB5⟩
    · rw [Bool.eq_false_iff.2 hf] at hft
      go_wp2_with fail
      refine hft.mono ?_
      rintro e w3 ⟨rfl, hb3⟩
      have hB3 := bthen hB2 hb3 hB2.size
      clear hB2 hb3 hft
      go_wp2
      go_ret
      exact ⟨rfl, hB3⟩
  · rw [Bool.eq_false_iff.2 hs] at hsm
    refine hsm.mono ?_
    rintro e w2 ⟨rfl, hb2⟩
    have hB2 := bthen hb1 hb2 hb1.size
    clear hb1 hb2 hs hsm
    go_wp2
    go_ret
    exact ⟨rfl, hB2⟩
end Go.Proofs.Ytggddckckfilgaa
