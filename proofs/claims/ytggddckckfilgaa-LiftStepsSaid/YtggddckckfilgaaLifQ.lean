/- lift: the law LiftSteps. -/
import Derived.Test.YtggddckckfilgaaLifN
namespace Go.Proofs.Ytggddckckfilgaa
open Go.RowKit
set_option maxRecDepth 100000
set_option maxHeartbeats 16000000

theorem mayLi_app {a b : List Li} {ch : Int} (ha : mayLi a ch = true) (hb : mayLi b ch = true) (hn : a.length + b.length ≤ 16) : mayLi (a ++ b) ch = true := by
  obtain ⟨h1, h2, h3, h4⟩ := mayLi_iff.1 ha
  obtain ⟨_, _, _, h5⟩ := mayLi_iff.1 hb
  refine mayLi_iff.2 ⟨h1, h2, by rw [List.length_append]; exact hn, fun s hs => ?_⟩
  rcases List.mem_append.1 hs with h | h
  · exact h4 s h
  · exact h5 s h
theorem do_app {rs : List (List Int)} {a b : List Li} {n : Nat} (M : RowsOk rs n) (ha : mayLi a (rs.length : Nat) = true) (hb : mayLi b (rs.length : Nat) = true) (hn : a.length + b.length ≤ 16) :
    (doLi rs a = ([], 6) ∧ doLi rs (a ++ b) = ([], 6)) ∨ ∃ y, doLi rs a = (y, 0) ∧ doLi rs (a ++ b) = doLi y b := by
  have hab := mayLi_app ha hb hn
  rcases opR_cases (s := 1) M ha with ⟨y, h1, h2, h3, h4⟩ | ⟨h1, h2⟩
  · refine .inr ⟨y, h2, ?_⟩
    have hrun : runR 1 (a ++ b) rs = runR 1 b y := by rw [runR_append, h1]; rfl
    have hby : mayLi b (y.length : Nat) = true := by rw [h4]; exact hb
    unfold doLi
    cases hr : runR 1 b y with
    | none => rw [opR_none (of_rowsOk M) hab (hrun.trans hr), opR_none (of_rowsOk h3) hby hr]
    | some r => rw [opR_some (of_rowsOk M) hab (hrun.trans hr), opR_some (of_rowsOk h3) hby hr]
  · refine .inl ⟨h2, opR_none (of_rowsOk M) hab ?_⟩
    rw [runR_append, h1]; rfl
theorem liftSteps_walk (v : Value) (rs : List (List Int)) (va : Value) (a : List Li) (vb : Value) (b : List Li) (w : World) (hR : Rws w w.heap.size v rs) (hSa : Lis w w.heap.size va a) (hSb : Lis w w.heap.size vb b) :
    Calls Try.prog 7 #[v, va, vb] w fun e w' => e = .returned (.bool true) ∧ Below w.heap.size w w' := by
  have HSa := Lib.hid hSa; have HSb := Lib.hid hSb; have HR := Lib.hid hR
  obtain ⟨A, c, rfl, hla, hlam⟩ := hSa.form
  obtain ⟨B, cb, rfl, hlb, hlbm⟩ := hSb.form
  obtain ⟨A2, c2, rfl, _, _⟩ := hR.form
  clear hR hSa hSb
  go_enter Try.func7, Try.ntmps7
  go_wp2_with fail
  refine (lknown_any w).mono ?_
  rintro e w1 ⟨rfl, hb1⟩
  go_wp2_with fail
  have hsm := smallL_any _ _ rs a 200 w1 _ _ (HR.out.below hb1) hb1.size (HSa.out.below hb1)
  by_cases hs : (smallB rs 200 && decide (a.length ≤ 20)) = true
  · rw [hs] at hsm
    have hl20 : a.length ≤ 20 := by
      rw [Bool.and_eq_true, decide_eq_true_eq] at hs
      exact hs.2
    refine hsm.mono ?_
    rintro e w2 ⟨rfl, hb2⟩
    have hB2 := bthen hb1 hb2 hb1.size
    clear hb1 hb2 hs hsm
    by_cases hn : a.length + b.length ≤ 16
    · have hf1 := lfits_any _ _ rs a w2 _ _ (HR.out.below hB2) hB2.size (HSa.out.below hB2) hB2.size
      by_cases hf : (rowsW rs && mayLi a (rs.length : Nat)) = true
      · rw [hf] at hf1
        rw [Bool.and_eq_true] at hf
        obtain ⟨hrw, hma⟩ := hf
        go_wp2_with fail
        refine hf1.mono ?_
        rintro e w3 ⟨rfl, hb3⟩
        have hB3 := bthen hB2 hb3 hB2.size
        clear hB2 hb3 hf1
        have hf2 := lfits_any _ _ rs b w3 _ _ (HR.out.below hB3) hB3.size (HSb.out.below hB3) hB3.size
        by_cases hg : (rowsW rs && mayLi b (rs.length : Nat)) = true
        · rw [hg] at hf2
          rw [Bool.and_eq_true] at hg
          have hmb := hg.2
          have M := rowsOk_of hrw
          have hcs := do_app M hma hmb hn
          have HN := Lib.hid (fun _ : True => hn)
          clear hg M hma hmb hrw
          go_wp2_with fail
          refine hf2.mono ?_
          rintro e w4 ⟨rfl, hb4⟩
          have hB4 := bthen hB3 hb4 hB3.size
          clear hB3 hb4 hf2
          have hba := (Below.refl w4.heap.size w4).alloc (Nat.le_refl _) (.cells #[] 50)
          have hB4a := bthen hB4 hba hB4.size
          have HOE := Lib.hid (LiO.empty w4)
          have HSa4 := Lib.hid (HSa.out.below hB4a)
          have HSb4 := Lib.hid (HSb.out.below hB4a)
          have HBA := Lib.hid hba
          clear hba hB4a
          go_wp2_with (first
            | (at_builtin; refine wpl_appL HOE.out HSa4.out (by simp) (by simp; omega) rfl rfl rfl rfl ?_; intro v5 w5 ho5 hb5; rw [List.nil_append] at ho5; refine cut_here ?_)
            | fail)
          have hsz5 := hb5.size
          have hsz4 := HBA.out.size
          have HSb5 := Lib.hid (HSb4.out.below (hb5.mono hB4.size))
          have HO5 := Lib.hid ho5
          obtain ⟨A5, k5, rfl, _, _⟩ := ho5.form
          have HB5 := Lib.hid (HBA.out.trans hb5)
          clear ho5 hb5 HSa4 HSb4 HOE
          unfold CutHere
          go_wp2_with (at_builtin; refine wpl_appL HO5.out HSb5.out HB5.out.size (by omega) rfl rfl rfl rfl ?_; intro v6 w6 ho6 hb6; refine cut_here ?_)
          have hB6 := bthen hB4 (HB5.out.trans hb6) hB4.size
          have HO6 := Lib.hid ho6
          obtain ⟨A6, k6, rfl, _, _⟩ := ho6.form
          generalize hnab : (a ++ b).length = nab at *
          have HNAB := Lib.hid hnab
          clear hnab
          clear ho6 hb6 HSb5 HB5 HO5 hB4 HBA hsz5 hsz4
          have h1 := doL_any _ _ rs (a ++ b) w6 _ _ (HR.out.below hB6) hB6.size HO6.out.lis (Nat.le_refl _)
          have h2 := fun w1 (h : Below w.heap.size w w1) => doL_any _ _ rs a w1 _ _ (HR.out.below h) h.size (HSa.out.below h) h.size
          have H2 := Lib.hid h2
          clear h2
          rcases hcs with ⟨hc1, hc2⟩ | ⟨y, hc1, hc2⟩
          · rw [hc2] at h1
            unfold CutHere
            go_wp2_with fail
            refine h1.mono ?_
            rintro e w7 ⟨u7, vs7, rfl, hr7, hb7⟩
            have hB7 := bthen hB6 hb7 hB6.size
            clear hB6 hb7 h1 HO6 hr7
            have h2 := H2.out w7 hB7
            rw [hc1] at h2
            go_wp2_with fail
            refine h2.mono ?_
            rintro e w8 ⟨u8, vs8, rfl, hr8, hb8⟩
            have hB8 := bthen hB7 hb8 hB7.size
            clear hB7 hb8 h2 hr8
            go_wp2
            go_ret
            exact ⟨rfl, hB8⟩
          · rw [hc2] at h1
            have hsm := opR_small 1 y b
            rw [show opR 1 y b = doLi y b from rfl] at hsm
            have h3 := fun w1 (h : Below w.heap.size w w1) u vs (hr : RwG w1 w.heap.size u vs y) => doL_any u _ y b w1 _ _ hr.rws (Nat.le_refl _) (HSb.out.below h) h.size
            generalize doLi y b = D at *
            obtain ⟨dr, de⟩ := D
            simp only at hsm
            have HSM := Lib.hid hsm; have H3 := Lib.hid h3
            clear h3 hsm
            have hde : (de == de) = true := by simp
            unfold CutHere
            go_wp2_with fail
            refine h1.mono ?_
            rintro e w7 ⟨u7, vs7, rfl, hr7, hb7⟩
            have hB7 := bthen hB6 hb7 hB6.size
            have HR7 := Lib.hid hr7
            clear hB6 hb7 h1 HO6 hr7
            have h2 := H2.out w7 hB7
            rw [hc1] at h2
            go_wp2_with fail
            refine h2.mono ?_
            rintro e w8 ⟨u8, vs8, rfl, hr8, hb8⟩
            have hB8 := bthen hB7 hb8 hB7.size
            have HR78 := Lib.hid (HR7.out.kept hb8)
            have HR8 := Lib.hid (hr8.mono hB7.size)
            clear hB7 hb8 h2 hr8 HR7
            go_wp2_with fail
            refine (H3.out w8 hB8 _ _ HR8.out).mono ?_
            rintro e w9 ⟨u9, vs9, rfl, hr9, hb9⟩
            have hB9 := bthen hB8 hb9 hB8.size
            have hs := sameRows_any _ _ dr dr w9 _ _ (HR78.out.kept hb9).rws hr9.rws (fun r hr => by have := HSM.out.1 r hr; omega) (fun r hr => by have := HSM.out.1 r hr; omega) (by have := HSM.out.2; omega)
            rw [decide_eq_true rfl] at hs
            clear hB8 hb9 hr9 HR78 HR8
            go_wp2_with fail
            refine hs.mono ?_
            rintro e wz ⟨rfl, q, rfl⟩
            have hBz := below_drewN hB9 q
            clear hB9 hs
            go_wp2
            go_ret
            exact ⟨rfl, hBz⟩
        · rw [Bool.eq_false_iff.2 hg] at hf2
          go_wp2_with fail
          refine hf2.mono ?_
          rintro e w4 ⟨rfl, hb4⟩
          have hB4 := bthen hB3 hb4 hB3.size
          clear hB3 hb4 hf2
          go_wp2
          go_ret
          exact ⟨rfl, hB4⟩
      · rw [Bool.eq_false_iff.2 hf] at hf1
        go_wp2_with fail
        refine hf1.mono ?_
        rintro e w3 ⟨rfl, hb3⟩
        have hB3 := bthen hB2 hb3 hB2.size
        clear hB2 hb3 hf1
        go_wp2
        go_ret
        exact ⟨rfl, hB3⟩
    · obtain ⟨S, hS⟩ : ∃ S : Int, (a.length : Int) + (b.length : Int) = S := ⟨_, rfl⟩
      obtain ⟨U, hU⟩ : ∃ U : Int, IntKind.i64.wrap S = U := ⟨_, rfl⟩
      by_cases hd : 16 < U
      · have hd1 := decide_eq_true hd
        clear hn hlbm hlam hlb hla hl20 hd
        go_wp2
        go_ret
        exact ⟨rfl, hB2⟩
      · have hb16 : ¬ b.length ≤ 16 := fun h => hd (by rw [← hU, IntKind.wrap_i64]; omega)
        have hmb : mayLi b (rs.length : Nat) = false := Bool.eq_false_iff.2 (fun h => hb16 (mayLi_iff.1 h).2.2.1)
        have hd1 := decide_eq_false hd
        have hf1 := lfits_any _ _ rs a w2 _ _ (HR.out.below hB2) hB2.size (HSa.out.below hB2) hB2.size
        have hf2 := fun w1 (h : Below w.heap.size w w1) => lfits_any _ _ rs b w1 _ _ (HR.out.below h) h.size (HSb.out.below h) h.size
        rw [hmb, Bool.and_false] at hf2
        have HF2 := Lib.hid hf2
        generalize (rowsW rs && mayLi a (rs.length : Nat)) = fa at *
        clear hn hlbm hlam hlb hla hl20 hd hf2 hmb hb16
        cases fa
        · go_wp2_with fail
          refine hf1.mono ?_
          rintro e w3 ⟨rfl, hb3⟩
          have hB3 := bthen hB2 hb3 hB2.size
          clear hB2 hb3 hf1
          go_wp2
          go_ret
          exact ⟨rfl, hB3⟩
        · go_wp2_with fail
          refine hf1.mono ?_
          rintro e w3 ⟨rfl, hb3⟩
          have hB3 := bthen hB2 hb3 hB2.size
          clear hB2 hb3 hf1
          go_wp2_with fail
          refine (HF2.out w3 hB3).mono ?_
          rintro e w4 ⟨rfl, hb4⟩
          have hB4 := bthen hB3 hb4 hB3.size
          clear hB3 hb4
          go_wp2
          go_ret
          exact ⟨rfl, hB4⟩
  · rw [Bool.eq_false_iff.2 hs] at hsm
    refine hsm.mono ?_
    rintro e w2 ⟨rfl, hb2⟩
    have hB2 := bthen hb1 hb2 hb1.size
    clear hb1 hb2 hs hsm
    go_wp2
    go_ret
    exact ⟨rfl, hB2⟩
end Go.Proofs.Ytggddckckfilgaa
