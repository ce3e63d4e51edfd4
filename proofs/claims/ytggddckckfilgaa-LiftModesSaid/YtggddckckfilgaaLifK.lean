/- lift: the reference's Do and Undo. -/
import Derived.Test.YtggddckckfilgaaLifJ
namespace Go.Proofs.Ytggddckckfilgaa
open Go.RowKit
set_option maxRecDepth 100000
set_option maxHeartbeats 8000000

theorem qdoL_any (v vl : Value) (rs : List (List Int)) (l : List Li) (w : World) (B C : Nat) (hR : Rws w B v rs) (hB : B ≤ w.heap.size) (hS : Lis w C vl l) (hC : C ≤ w.heap.size) :
    Calls Try.prog 21 #[v, vl] w fun e w' => OpPost w (doLi rs l) e w' := by
  have hro := qrows_any v vl rs l w B C hR hB hS hC
  obtain ⟨A, c, rfl, hlc, hcm⟩ := hR.form
  obtain ⟨Al, cl, rfl, hll, _⟩ := hS.form
  have hcl := fun w1 (h : Rws w1 B (.slice A rs.length c) rs) hB h1 h2 => copied_any _ rs w1 B h hB h1 h2
  unfold doLi
  by_cases hgo : rowsW rs = true ∧ mayLi l (rs.length : Nat) = true
  · obtain ⟨hrw, hmy⟩ := hgo
    rw [hrw, hmy] at hro
    have M := rowsOk_of hrw
    obtain ⟨n, hn⟩ : ∃ n, lenB rs = n := ⟨_, rfl⟩
    rw [hn] at M
    have hmy' : mayLi l (rs.length : Nat) = true := hmy
    have hop1 := fun r => opR_some (s := 1) (r := r) hrw hmy'
    have hop2 := opR_none (s := 1) hrw hmy'
    have hli := (mayLi_iff.1 hmy').2.2.2
    have hl16 := (mayLi_iff.1 hmy).2.2.1
    have hm8 := M.chans
    have hnr : ∀ r ∈ rs, r.length ≤ 1000000 := fun r hr => by rw [M.rows r hr]; have := M.size; omega
    have hcur := fun k cur (h : runR 1 (l.take k) rs = some cur) => runR_ok M (fun x hx => hli x (List.mem_of_mem_take hx)) h
    obtain ⟨m, hm⟩ : ∃ m, rs.length = m := ⟨_, rfl⟩
    obtain ⟨nl, hnl⟩ : ∃ n, l.length = n := ⟨_, rfl⟩
    rw [hm] at hR hlc hm8 hcl hli hro ⊢
    rw [hnl] at hS hll hl16 hro ⊢
    have HRO := Lib.hid hro; have HOP1 := Lib.hid hop1; have HOP2 := Lib.hid hop2; have HR := Lib.hid hR; have HS := Lib.hid hS; have HCL := Lib.hid hcl; have HLI := Lib.hid hli; have HNR := Lib.hid hnr; have HCUR := Lib.hid hcur; have HM := Lib.hid hm; have HNL := Lib.hid hnl
    clear hro hop1 hop2 hR hS hcl hrw hm hnl hmy hmy' M hli hnr hcur hn
    go_enter Try.func21, Try.ntmps21
    go_wp2_with (go_at_call 33; refine HRO.out.mono ?_; rintro e w2 ⟨rfl, hb2⟩; refine cut_here ?_)
    have hcl3 := HCL.out w2 (HR.out.below (hb2.mono hB)) (Nat.le_trans hB hb2.size) (by omega) HNR.out
    have HCL3 := Lib.hid hcl3; have HB2 := Lib.hid hb2
    clear hcl3 HCL hb2
    unfold CutHere
    go_wp2_with (go_at_call 36; refine HCL3.out.mono ?_; rintro e w3 ⟨u, vs, rfl, hR3, hb3⟩; refine cut_here ?_)
    have hB3 := bthen HB2.out hb3 HB2.out.size
    obtain ⟨gS, cS, hu, _, hmc, _⟩ := hR3.top.at_ (by rw [hR3.len, HM.out]; omega)
    rw [hR3.len, HM.out] at hu hmc
    subst hu
    have HR3 := Lib.hid (hR3.mono HB2.out.size); have HB3 := Lib.hid hB3
    clear hR3 hb3 hB3
    unfold CutHere
    go_wp2
    go_loopw [7] (fun ii wr => ∃ (k : Nat) (cur : List (List Int)) (us : List Value), k ≤ nl ∧ ii = .int .i64 ((k : Nat)) ∧ Hid (runR 1 (l.take k) rs = some cur) ∧ Hid (RwG wr w.heap.size (.slice (some ⟨gS, 0, none⟩) m cS) us cur) ∧ Hid (Below w.heap.size w wr)) (fun ii _ => nl - (intOf ii).toNat)
    case atStart => exact ⟨0, rs, vs, Nat.zero_le _, rfl, Lib.hid rfl, HR3, HB3⟩
    case round =>
      obtain ⟨k, cur, us, hk, rfl, hrun, hRr, hbr⟩ := hrel
      by_cases hlt : k < nl
      · have hkl : k < l.length := by rw [HNL.out]; exact hlt
        have hel : l[k]? = l[k]? := rfl
        have hxe : l[k]? = some l[k] := by rw [← hel]; exact List.getElem?_eq_getElem hkl
        obtain ⟨i, hi⟩ : ∃ i : Nat, k = i := ⟨_, rfl⟩
        have hiI : ((k : Nat)) = (i : Nat) := by rw [hi]
        have hil : i < nl := by omega
        have hxo := HLI.out l[k] (List.getElem_mem hkl)
        have hstep := runR_take hkl hrun.out
        have hcok := HCUR.out k cur hrun.out
        generalize l[k] = x at *
        rw [hi] at hxe
        obtain ⟨bl, ol, rfl, ⟨c0, c1, c2⟩, hbl⟩ := (HS.out.below (hbr.out.mono hC)).get hxe
        have hcm2 : cur.length = m := by rw [hcok.2, HM.out]
        have hsz := hbr.out.size
        have hadd := qoneStep_any wr w.heap.size gS m cS n us cur x 1 hRr.out hsz hcok.1 (by rw [hcm2]; exact hxo) (.inl rfl) hcm2.symm hmc
        have HADD := Lib.hid hadd; have HSTEP := Lib.hid hstep; have HI := Lib.hid hi
        clear hadd hstep hxo hcok hel hxe hkl hi
        have HII := Lib.hid hiI; clear hiI; have hik := HI.out; subst hik
        cases hsr : stepR 1 cur x with
        | none =>
          have hnone : opR 1 rs l = ([], 6) := HOP2.out (runR_none (k := k + 1) (HSTEP.out.trans hsr))
          have HNO := Lib.hid hnone
          clear hnone
          go_wp2_with (go_at_call 37; refine HADD.out.mono ?_; rintro e w5 ⟨h1, hb5, _⟩; rw [hsr] at h1; subst h1)
          go_ret2
          rw [HNO.out]
          exact ⟨_, _, rfl, RwG.nil _ _, hbr.out.trans hb5⟩
        | some r =>
          have HSR := Lib.hid hsr
          clear hsr
          go_wp2_with (go_at_call 37; refine HADD.out.mono ?_; rintro e w5 ⟨h1, hb5, hr5⟩; rw [HSR.out] at h1; subst h1)
          exact ⟨⟨k + 1, r, us, by omega, by simp, HSTEP.out.trans HSR.out, hr5 _ HSR.out, hbr.out.trans hb5⟩, by simp [intOf]; omega⟩
      · have hkn : k = nl := by omega
        have hres : opR 1 rs l = (cur, 0) := HOP1.out cur (by have := hrun.out; rw [hkn, ← HNL.out, List.take_length] at this; exact this)
        have HRES := Lib.hid hres
        have hend : ¬ (k : Int) < (nl : Int) := by omega
        clear hres hkn
        go_wp2
        go_ret2
        rw [HRES.out]
        exact ⟨_, us, rfl, hRr.out, hbr.out⟩
  · have hbd : (rowsW rs && mayLi l (rs.length : Nat)) = false := by
      cases h1 : rowsW rs <;> cases h2 : mayLi l (rs.length : Nat)
      · rfl
      · rfl
      · rfl
      · exact absurd ⟨h1, h2⟩ hgo
    rw [hbd] at hro
    rw [opR_bad (fun h => hgo ⟨h.1, h.2⟩)]
    obtain ⟨m, hm⟩ : ∃ m, rs.length = m := ⟨_, rfl⟩
    obtain ⟨nl, hnl⟩ : ∃ n, l.length = n := ⟨_, rfl⟩
    rw [hm] at hR hlc hro ⊢
    rw [hnl] at hS hll hro ⊢
    have HRO := Lib.hid hro
    clear hro hR hS hcl hm hnl hgo hbd
    go_enter Try.func21, Try.ntmps21
    go_wp2_with (go_at_call 33; refine HRO.out.mono ?_; rintro e w2 ⟨rfl, hb2⟩)
    go_ret2
    exact ⟨_, _, rfl, RwG.nil _ _, hb2⟩
theorem qundoL_any (v vl : Value) (rs : List (List Int)) (l : List Li) (w : World) (B C : Nat) (hR : Rws w B v rs) (hB : B ≤ w.heap.size) (hS : Lis w C vl l) (hC : C ≤ w.heap.size) :
    Calls Try.prog 23 #[v, vl] w fun e w' => OpPost w (undoLi rs l) e w' := by
  have hro := qrows_any v vl rs l w B C hR hB hS hC
  obtain ⟨A, c, rfl, hlc, hcm⟩ := hR.form
  obtain ⟨Al, cl, rfl, hll, _⟩ := hS.form
  have hcl := fun w1 (h : Rws w1 B (.slice A rs.length c) rs) hB h1 h2 => copied_any _ rs w1 B h hB h1 h2
  unfold undoLi
  by_cases hgo : rowsW rs = true ∧ mayLi l (rs.length : Nat) = true
  · obtain ⟨hrw, hmy⟩ := hgo
    rw [hrw, hmy] at hro
    have M := rowsOk_of hrw
    obtain ⟨n, hn⟩ : ∃ n, lenB rs = n := ⟨_, rfl⟩
    rw [hn] at M
    have hmy' : mayLi l.reverse (rs.length : Nat) = true := by rw [mayLi_rev]; exact hmy
    have hop1 := fun r => opR_some (s := (-1)) (r := r) hrw hmy'
    have hop2 := opR_none (s := (-1)) hrw hmy'
    have hli := (mayLi_iff.1 hmy').2.2.2
    have hl16 := (mayLi_iff.1 hmy).2.2.1
    have hm8 := M.chans
    have hnr : ∀ r ∈ rs, r.length ≤ 1000000 := fun r hr => by rw [M.rows r hr]; have := M.size; omega
    have hcur := fun k cur (h : runR (-1) (l.reverse.take k) rs = some cur) => runR_ok M (fun x hx => hli x (List.mem_of_mem_take hx)) h
    obtain ⟨m, hm⟩ : ∃ m, rs.length = m := ⟨_, rfl⟩
    obtain ⟨nl, hnl⟩ : ∃ n, l.length = n := ⟨_, rfl⟩
    rw [hm] at hR hlc hm8 hcl hli hro ⊢
    rw [hnl] at hS hll hl16 hro ⊢
    have HRO := Lib.hid hro; have HOP1 := Lib.hid hop1; have HOP2 := Lib.hid hop2; have HR := Lib.hid hR; have HS := Lib.hid hS; have HCL := Lib.hid hcl; have HLI := Lib.hid hli; have HNR := Lib.hid hnr; have HCUR := Lib.hid hcur; have HM := Lib.hid hm; have HNL := Lib.hid hnl
    clear hro hop1 hop2 hR hS hcl hrw hm hnl hmy hmy' M hli hnr hcur hn
    go_enter Try.func23, Try.ntmps23
    go_wp2_with (go_at_call 33; refine HRO.out.mono ?_; rintro e w2 ⟨rfl, hb2⟩; refine cut_here ?_)
    have hcl3 := HCL.out w2 (HR.out.below (hb2.mono hB)) (Nat.le_trans hB hb2.size) (by omega) HNR.out
    have HCL3 := Lib.hid hcl3; have HB2 := Lib.hid hb2
    clear hcl3 HCL hb2
    unfold CutHere
    go_wp2_with (go_at_call 36; refine HCL3.out.mono ?_; rintro e w3 ⟨u, vs, rfl, hR3, hb3⟩; refine cut_here ?_)
    have hB3 := bthen HB2.out hb3 HB2.out.size
    obtain ⟨gS, cS, hu, _, hmc, _⟩ := hR3.top.at_ (by rw [hR3.len, HM.out]; omega)
    rw [hR3.len, HM.out] at hu hmc
    subst hu
    have HR3 := Lib.hid (hR3.mono HB2.out.size); have HB3 := Lib.hid hB3
    clear hR3 hb3 hB3
    unfold CutHere
    go_wp2
    go_loopw [7] (fun ii wr => ∃ (k : Nat) (cur : List (List Int)) (us : List Value), k ≤ nl ∧ ii = .int .i64 ((nl : Int) - 1 - (k : Nat)) ∧ Hid (runR (-1) (l.reverse.take k) rs = some cur) ∧ Hid (RwG wr w.heap.size (.slice (some ⟨gS, 0, none⟩) m cS) us cur) ∧ Hid (Below w.heap.size w wr)) (fun ii _ => (intOf ii + 1).toNat)
    case atStart => exact ⟨0, rs, vs, Nat.zero_le _, by simp, Lib.hid rfl, HR3, HB3⟩
    case round =>
      obtain ⟨k, cur, us, hk, rfl, hrun, hRr, hbr⟩ := hrel
      by_cases hlt : k < nl
      · have hkl : k < l.reverse.length := by rw [List.length_reverse, HNL.out]; exact hlt
        have hel : l.reverse[k]? = l[nl - 1 - k]? := by rw [List.getElem?_reverse (by rw [HNL.out]; exact hlt), HNL.out]
        have hxe : l[nl - 1 - k]? = some l.reverse[k] := by rw [← hel]; exact List.getElem?_eq_getElem hkl
        obtain ⟨i, hi⟩ : ∃ i : Nat, nl - 1 - k = i := ⟨_, rfl⟩
        have hiI : ((nl : Int) - 1 - (k : Nat)) = (i : Nat) := by omega
        have hil : i < nl := by omega
        have hxo := HLI.out l.reverse[k] (List.getElem_mem hkl)
        have hstep := runR_take hkl hrun.out
        have hcok := HCUR.out k cur hrun.out
        generalize l.reverse[k] = x at *
        rw [hi] at hxe
        obtain ⟨bl, ol, rfl, ⟨c0, c1, c2⟩, hbl⟩ := (HS.out.below (hbr.out.mono hC)).get hxe
        have hcm2 : cur.length = m := by rw [hcok.2, HM.out]
        have hsz := hbr.out.size
        have hadd := qoneStep_any wr w.heap.size gS m cS n us cur x (-1) hRr.out hsz hcok.1 (by rw [hcm2]; exact hxo) (.inr rfl) hcm2.symm hmc
        have HADD := Lib.hid hadd; have HSTEP := Lib.hid hstep; have HI := Lib.hid hi
        clear hadd hstep hxo hcok hel hxe hkl hi
        rw [hiI]; have HII := Lib.hid hiI; clear hiI
        cases hsr : stepR (-1) cur x with
        | none =>
          have hnone : opR (-1) rs l.reverse = ([], 6) := HOP2.out (runR_none (k := k + 1) (HSTEP.out.trans hsr))
          have HNO := Lib.hid hnone
          clear hnone
          go_wp2_with (go_at_call 37; refine HADD.out.mono ?_; rintro e w5 ⟨h1, hb5, _⟩; rw [hsr] at h1; subst h1)
          go_ret2
          rw [HNO.out]
          exact ⟨_, _, rfl, RwG.nil _ _, hbr.out.trans hb5⟩
        | some r =>
          have HSR := Lib.hid hsr
          clear hsr
          go_wp2_with (go_at_call 37; refine HADD.out.mono ?_; rintro e w5 ⟨h1, hb5, hr5⟩; rw [HSR.out] at h1; subst h1)
          exact ⟨⟨k + 1, r, us, by omega, by have := HII.out; first | (simp; done) | (simp; omega), HSTEP.out.trans HSR.out, hr5 _ HSR.out, hbr.out.trans hb5⟩, by have := HII.out; first | (simp [intOf]; done) | (simp [intOf]; omega)⟩
      · have hkn : k = nl := by omega
        have hres : opR (-1) rs l.reverse = (cur, 0) := HOP1.out cur (by have := hrun.out; rw [hkn, ← HNL.out, ← List.length_reverse, List.take_length] at this; exact this)
        have HRES := Lib.hid hres
        have hend : ¬ 0 ≤ (nl : Int) - 1 - (k : Nat) := by omega
        clear hres hkn
        go_wp2
        go_ret2
        rw [HRES.out]
        exact ⟨_, us, rfl, hRr.out, hbr.out⟩
  · have hbd : (rowsW rs && mayLi l (rs.length : Nat)) = false := by
      cases h1 : rowsW rs <;> cases h2 : mayLi l (rs.length : Nat)
      · rfl
      · rfl
      · rfl
      · exact absurd ⟨h1, h2⟩ hgo
    rw [hbd] at hro
    rw [opR_bad (fun h => hgo ⟨h.1, by have := h.2; rw [mayLi_rev] at this; exact this⟩)]
    obtain ⟨m, hm⟩ : ∃ m, rs.length = m := ⟨_, rfl⟩
    obtain ⟨nl, hnl⟩ : ∃ n, l.length = n := ⟨_, rfl⟩
    rw [hm] at hR hlc hro ⊢
    rw [hnl] at hS hll hro ⊢
    have HRO := Lib.hid hro
    clear hro hR hS hcl hm hnl hgo hbd
    go_enter Try.func23, Try.ntmps23
    go_wp2_with (go_at_call 33; refine HRO.out.mono ?_; rintro e w2 ⟨rfl, hb2⟩)
    go_ret2
    exact ⟨_, _, rfl, RwG.nil _ _, hb2⟩
end Go.Proofs.Ytggddckckfilgaa
