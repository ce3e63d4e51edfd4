/- lift: the law LiftPlaces. -/
import Derived.Test.YtggddckckfilgaaLifV
namespace Go.Proofs.Ytggddckckfilgaa
open Go.RowKit
set_option maxRecDepth 100000
set_option maxHeartbeats 16000000

theorem cutB_take {rs : List (List Int)} {a d j : Nat} (hj : j < rs.length) : (cutB rs a d).take (j + 1) = (cutB rs a d).take j ++ [(rs[j].drop a).take d] := by
  rw [List.take_succ_eq_append_getElem (by simp [cutB]; exact hj)]
  simp [cutB]
theorem Prt.shapeP {w : World} {base B : Nat} {u : Value} {ls : List (List Int)} (h : Prt w base B u ls) : ∃ A n c, u = .slice A n c := by
  obtain ⟨vs, h1, _⟩ := h
  exact h1.shape
theorem RwG.below4 {w w' : World} {base : Nat} {v : Value} {vs : List Value} {rs : List (List Int)} (h : RwG w base v vs rs) (hb : Below w.heap.size w w') : RwG w' base v vs rs := h.kept hb
theorem ci_dropP (l : List Int) (a d : Nat) : ((ci l).drop a).take d = ci ((l.drop a).take d) := by simp [ci, List.map_drop, List.map_take]
theorem Sli.nilN {w : World} {B n c : Nat} {xs : List Value} (h : Sli w B (.slice none n c) xs) : n = 0 ∧ c = 0 := by
  obtain ⟨A, c', e, hh, h1, h2, h3⟩ := h
  injection e with e1 e2 e3
  subst e1; subst e2; subst e3
  have := h3 rfl
  omega
theorem liftPlaces_walk (v : Value) (rs : List (List Int)) (vl : Value) (l : List Li) (fr tz : Int) (w : World) (hR : Rws w w.heap.size v rs) (hS : Lis w w.heap.size vl l) :
    Calls Try.prog 10 #[v, vl, .int .i64 fr, .int .i64 tz] w fun e w' => e = .returned (.bool true) ∧ Below w.heap.size w w' := by
  have HS := Lib.hid hS; have HR := Lib.hid hR
  obtain ⟨A, c, rfl, _, _⟩ := hS.form
  obtain ⟨A2, c2, rfl, hlc, hcm⟩ := hR.form
  clear hS hR
  go_enter Try.func10, Try.ntmps10
  go_wp2_with fail
  refine (lknown_any w).mono ?_
  rintro e w1 ⟨rfl, hb1⟩
  go_wp2_with fail
  have hsm := smallL_any _ _ rs l 150 w1 _ _ (HR.out.below hb1) hb1.size (HS.out.below hb1)
  by_cases hs : (smallB rs 150 && decide (l.length ≤ 20)) = true
  · rw [hs] at hsm
    refine hsm.mono ?_
    rintro e w2 ⟨rfl, hb2⟩
    have hB2 := bthen hb1 hb2 hb1.size
    clear hb1 hb2 hsm hs
    have hft := lfits_any _ _ rs l w2 _ _ (HR.out.below hB2) hB2.size (HS.out.below hB2) hB2.size
    by_cases hf : (rowsW rs && mayLi l (rs.length : Nat)) = true
    · rw [hf] at hft
      rw [Bool.and_eq_true] at hf
      obtain ⟨hrw, hmy⟩ := hf
      have M := rowsOk_of hrw
      obtain ⟨n, hn⟩ : ∃ n, lenB rs = n := ⟨_, rfl⟩
      rw [hn] at M
      have hn4 := M.size
      have hm8 := M.chans
      obtain ⟨a, ha, han⟩ := place_of fr n
      obtain ⟨d, hd, hdn⟩ := place_of tz (n - a)
      rw [show ((n - a : Nat) : Int) = (n : Int) - (a : Int) by omega] at hd
      have hM2 := rowsOk_cut M a d (by omega)
      have hcl : (cutB rs a d).length = rs.length := by simp [cutB]
      have hcd : (∃ r, doLi rs l = (r, 0) ∧ doLi (cutB rs a d) l = (cutB r a d, 0) ∧ RowsOk r n ∧ r.length = rs.length) ∨ (doLi rs l = ([], 6) ∧ ∃ r e, doLi (cutB rs a d) l = (r, e) ∧ (e = 0 ∨ e = 6)) := by
        rcases opR_cases (s := 1) M hmy with ⟨r, h1, h2, h3, h4⟩ | ⟨_, h2⟩
        · exact .inl ⟨r, h2, opR_some (of_rowsOk hM2) (by rw [hcl]; exact hmy) (run_cut a d h1), h3, h4⟩
        · refine .inr ⟨h2, ?_⟩
          rcases opR_cases (s := 1) hM2 (by rw [hcl]; exact hmy) with ⟨r, _, h3, _, _⟩ | ⟨_, h3⟩
          · exact ⟨r, 0, h3, .inl rfl⟩
          · exact ⟨[], 6, h3, .inr rfl⟩
      have hrn := M.rows
      have hml : (cutB rs a d).length ≤ 8 := by rw [hcl]; exact hm8.2
      obtain ⟨m, hm⟩ : ∃ m, rs.length = m := ⟨_, rfl⟩
      rw [hm] at hm8 hlc hft hcd hcl
      have h0 : ∀ w1, Below w.heap.size w w1 → ∃ b o A' c', A2 = some ⟨b, o, none⟩ ∧ w1.cell? ⟨b, o, none⟩ = some (.slice A' n c') := by
        intro w1 hb
        obtain ⟨b, o, A', c', hA, _, hcell, _⟩ := (HR.out.below hb).get (j := 0) (by omega)
        refine ⟨b, o, A', c', hA, ?_⟩
        rw [Nat.add_zero, hrn _ (List.getElem_mem _)] at hcell
        exact hcell
      have HRN := Lib.hid hrn; have HM := Lib.hid hm; have HCL := Lib.hid hcl; have HM2 := Lib.hid hM2
      have h1 := fun w1 (h : Below w.heap.size w w1) => doL_any _ _ rs l w1 _ _ (HR.out.below h) h.size (HS.out.below h) h.size
      have h2 := fun w1 (h : Below w.heap.size w w1) u C (hr : Rws w1 C u (cutB rs a d)) (hC : C ≤ w1.heap.size) => doL_any u _ (cutB rs a d) l w1 _ _ hr hC (HS.out.below h) h.size
      rw [hm] at h1 HR ⊢
      have H1 := Lib.hid h1; have H2 := Lib.hid h2
      clear h1 h2 hrn hrw hmy M hM2 hn hm hcl hml
      go_wp2_with fail
      refine hft.mono ?_
      rintro e w3 ⟨rfl, hb3⟩
      have hB3 := bthen hB2 hb3 hB2.size
      clear hB2 hb3 hft
      obtain ⟨b0, o0, A0, c0, e0, hc0⟩ := h0 w3 hB3
      subst e0
      clear h0
      have han2 : (a : Int) ≤ (n : Int) := by omega
      rcases hcd with ⟨r, hD, hD2, Mr, hrl⟩ | ⟨hD, r, e2, hD2, he2⟩
      · have hc := H1.out w3 hB3
        rw [hD] at hc
        go_wp2_with fail
        clear hc0
        refine hc.mono ?_
        rintro e w4 ⟨u4, vs4, rfl, hr4, hb4⟩
        obtain ⟨A4, c4, rfl⟩ := hr4.shapeN
        have hB4 := bthen hB3 hb4 hB3.size
        have hsz4 := hB4.size
        clear hc hb4 hB3
        rw [hrl] at hr4 ⊢
        have HRL := Lib.hid hrl; have HRR := Lib.hid Mr.rows
        have HLN : Hid (∀ q ∈ cutB r a d, q.length ≤ 1099511627776) := Lib.hid (fun q hq => by
          obtain ⟨q', hq', rfl⟩ := List.mem_map.1 hq
          rw [List.length_take, List.length_drop]; omega)
        go_wp2
        go_loopw [12, 16] (fun u ii wr => ∃ j : Nat, j ≤ m ∧ ii = .int .i64 j ∧ Hid (Prt wr w4.heap.size w.heap.size u ((cutB rs a d).take j)) ∧ Hid (Below w4.heap.size w4 wr)) (fun _ ii _ => m - (intOf ii).toNat)
        case atStart => exact ⟨0, Nat.zero_le _, rfl, Prt.nil _ _ _, Below.refl _ _⟩
        case round =>
          obtain ⟨j, hj, rfl, hp, hb⟩ := hrel
          by_cases hjm : j < m
          · have hjl : j < rs.length := by rw [HM.out]; exact hjm
            obtain ⟨bq, oq, Aq, cq, e1, hbq, hcell, hSq, g1, g2⟩ := ((HR.out.below hB4).below (hb.out.mono hsz4)).get hjl
            first
              | subst e1
              | (injection e1 with e1; injection e1 with e1 e1'; subst e1; subst e1')
            have hct := cutB_take (a := a) (d := d) hjl
            have hrn := HRN.out rs[j] (List.getElem_mem hjl)
            generalize rs[j] = r0 at *
            rw [hrn] at hcell hSq g1
            obtain ⟨vs, p1, p2, p3⟩ := hp.out
            have hroom : vs.length + 1 ≤ 1099511627776 := by rw [p2, List.length_take]; omega
            have HCT := Lib.hid hct; have HSQ := Lib.hid hSq; have HP1 := Lib.hid p1; have HP2 := Lib.hid p2; have HP3 := Lib.hid p3; have HROOM := Lib.hid hroom
            have hszr := hb.out.size
            clear hct hrn hSq p1 p2 p3 hroom hp hjl
            by_cases hca : cq = a
            · have hd0 : d = 0 := by omega
              have hca2 := hca.symm
              subst hca2
              have hvd := HSQ.out.void
              have hsl : Sli wr w.heap.size (.slice Aq d 0) (ci ((r0.drop a).take d)) := by
                rw [hd0]
                exact hvd
              have HSL := Lib.hid hsl
              clear hd0 hvd hsl hca
              rcases Aq with _ | ⟨bz, oz, sz⟩
              · go_wp2_with (at_builtin; refine wpl_pushS HP1.out (hszr) HROOM.out Try.underlying23 info_sIntB rfl (by decide) rfl rfl rfl rfl rfl (h := ?_); intro v7 w7 ho7 hm7)
                have hP7 := Prt.push HP1.out HP2.out HP3.out hsz4 (hszr) ho7 hm7 (l := (r0.drop a).take d) (HSL.out)
                rw [← HCT.out] at hP7
                exact ⟨⟨j + 1, by omega, by simp, hP7.1, hb.out.trans (hP7.2.mono (by omega))⟩, by simp [intOf]; omega⟩
              · go_wp2_with (at_builtin; refine wpl_pushS HP1.out (hszr) HROOM.out Try.underlying23 info_sIntB rfl (by decide) rfl rfl rfl rfl rfl (h := ?_); intro v7 w7 ho7 hm7)
                have hP7 := Prt.push HP1.out HP2.out HP3.out hsz4 (hszr) ho7 hm7 (l := (r0.drop a).take d) (HSL.out)
                rw [← HCT.out] at hP7
                exact ⟨⟨j + 1, by omega, by simp, hP7.1, hb.out.trans (hP7.2.mono (by omega))⟩, by simp [intOf]; omega⟩
            · rcases Aq with _ | ⟨bz, oz, sz⟩
              · have hz := HSQ.out.nilN
                exact absurd (by omega) hca
              · have hsl := HSQ.out.mid2 a d (by omega)
                rw [ci_dropP] at hsl
                simp only [Option.map_some, Addr.add_lit] at hsl
                have HSL := Lib.hid hsl
                clear hsl
                go_wp2_with (at_builtin; refine wpl_pushS HP1.out (hszr) HROOM.out Try.underlying23 info_sIntB rfl (by decide) rfl rfl rfl rfl rfl (h := ?_); intro v7 w7 ho7 hm7)
                have hP7 := Prt.push HP1.out HP2.out HP3.out hsz4 (hszr) ho7 hm7 (l := (r0.drop a).take d) (HSL.out)
                rw [← HCT.out] at hP7
                exact ⟨⟨j + 1, by omega, by simp, hP7.1, hb.out.trans (hP7.2.mono (by omega))⟩, by simp [intOf]; omega⟩
          · have hjj : (cutB rs a d).take j = cutB rs a d := List.take_of_length_le (by rw [HCL.out]; omega)
            have hpp := hp.out
            rw [hjj] at hpp
            have hBr := bthen hB4 hb.out hB4.size
            have hszr := hb.out.size
            have hc := H2.out wr hBr _ _ (hpp.rws (by omega)) (Nat.le_refl _)
            have HP := Lib.hid hpp; have HBR := Lib.hid hBr
            clear hjj hpp hBr
            rw [hD2] at hc
            obtain ⟨Ap, np, cp, hup⟩ := HP.out.shapeP
            subst hup
            have HR4 := Lib.hid (hr4.below4 hb.out)
            go_wp2_with fail
            refine hc.mono ?_
            rintro e w6 ⟨u6, vs6, rfl, hr6, hb6⟩
            have hB6 := bthen HBR.out hb6 HBR.out.size
            have HX6 := Lib.hid (HR4.out.kept hb6)
            have HY6 := Lib.hid hr6
            have hsz6 := hb6.size
            clear hb6 hr6 hc HR4 hr4 HP hb
            go_wp2
            go_loopw [13, 19] (fun u ii wr => ∃ j : Nat, j ≤ m ∧ ii = .int .i64 j ∧ Hid (Prt wr w6.heap.size w6.heap.size u ((cutB r a d).take j)) ∧ Hid (Below w6.heap.size w6 wr)) (fun _ ii _ => m - (intOf ii).toNat)
            case atStart => exact ⟨0, Nat.zero_le _, rfl, Prt.nil _ _ _, Below.refl _ _⟩
            case round =>
              obtain ⟨j, hj, rfl, hp, hb⟩ := hrel
              by_cases hjm : j < m
              · have hjl : j < r.length := by rw [HRL.out]; exact hjm
                obtain ⟨bq, oq, Aq, cq, e1, hbq, hcell, hSq, g1, g2⟩ := (HX6.out.rws.below hb.out).get hjl
                first
                  | subst e1
                  | (injection e1 with e1; injection e1 with e1 e1'; subst e1; subst e1')
                have hct := cutB_take (a := a) (d := d) hjl
                have hrn := HRR.out r[j] (List.getElem_mem hjl)
                generalize r[j] = r0 at *
                rw [hrn] at hcell hSq g1
                obtain ⟨vs, p1, p2, p3⟩ := hp.out
                have hroom : vs.length + 1 ≤ 1099511627776 := by rw [p2, List.length_take]; omega
                have HCT := Lib.hid hct; have HSQ := Lib.hid hSq; have HP1 := Lib.hid p1; have HP2 := Lib.hid p2; have HP3 := Lib.hid p3; have HROOM := Lib.hid hroom
                have hszr := hb.out.size
                clear hct hrn hSq p1 p2 p3 hroom hp hjl
                by_cases hca : cq = a
                · have hd0 : d = 0 := by omega
                  have hca2 := hca.symm
                  subst hca2
                  have hvd := HSQ.out.void
                  have hsl : Sli wr w6.heap.size (.slice Aq d 0) (ci ((r0.drop a).take d)) := by
                    rw [hd0]
                    exact hvd
                  have HSL := Lib.hid hsl
                  clear hd0 hvd hsl hca
                  rcases Aq with _ | ⟨bz, oz, sz⟩
                  · go_wp2_with (at_builtin; refine wpl_pushS HP1.out (hb.out.size) HROOM.out Try.underlying23 info_sIntB rfl (by decide) rfl rfl rfl rfl rfl (h := ?_); intro v7 w7 ho7 hm7)
                    have hP7 := Prt.push HP1.out HP2.out HP3.out (Nat.le_refl _) (hb.out.size) ho7 hm7 (l := (r0.drop a).take d) (HSL.out)
                    rw [← HCT.out] at hP7
                    exact ⟨⟨j + 1, by omega, by simp, hP7.1, hb.out.trans (hP7.2.mono (by omega))⟩, by simp [intOf]; omega⟩
                  · go_wp2_with (at_builtin; refine wpl_pushS HP1.out (hb.out.size) HROOM.out Try.underlying23 info_sIntB rfl (by decide) rfl rfl rfl rfl rfl (h := ?_); intro v7 w7 ho7 hm7)
                    have hP7 := Prt.push HP1.out HP2.out HP3.out (Nat.le_refl _) (hb.out.size) ho7 hm7 (l := (r0.drop a).take d) (HSL.out)
                    rw [← HCT.out] at hP7
                    exact ⟨⟨j + 1, by omega, by simp, hP7.1, hb.out.trans (hP7.2.mono (by omega))⟩, by simp [intOf]; omega⟩
                · rcases Aq with _ | ⟨bz, oz, sz⟩
                  · have hz := HSQ.out.nilN
                    exact absurd (by omega) hca
                  · have hsl := HSQ.out.mid2 a d (by omega)
                    rw [ci_dropP] at hsl
                    simp only [Option.map_some, Addr.add_lit] at hsl
                    have HSL := Lib.hid hsl
                    clear hsl
                    go_wp2_with (at_builtin; refine wpl_pushS HP1.out (hb.out.size) HROOM.out Try.underlying23 info_sIntB rfl (by decide) rfl rfl rfl rfl rfl (h := ?_); intro v7 w7 ho7 hm7)
                    have hP7 := Prt.push HP1.out HP2.out HP3.out (Nat.le_refl _) (hb.out.size) ho7 hm7 (l := (r0.drop a).take d) (HSL.out)
                    rw [← HCT.out] at hP7
                    exact ⟨⟨j + 1, by omega, by simp, hP7.1, hb.out.trans (hP7.2.mono (by omega))⟩, by simp [intOf]; omega⟩
              · have hjj : (cutB r a d).take j = cutB r a d := List.take_of_length_le (by simp only [cutB, List.length_map]; have := HRL.out; omega)
                have hpp := hp.out
                rw [hjj] at hpp
                obtain ⟨Ap, np, cp, hup⟩ := hpp.shapeP
                subst hup
                have hsr := sameRows_any _ _ (cutB r a d) (cutB r a d) wr _ _ (HY6.out.kept hb.out).rws (hpp.rws hb.out.size) HLN.out HLN.out (by simp only [cutB, List.length_map]; have := HRL.out; omega)
                rw [decide_eq_true rfl] at hsr
                have HB7 := Lib.hid (bthen hB6 hb.out hB6.size)
                clear hjj hpp hp hb
                go_wp2_with fail
                refine hsr.mono ?_
                rintro e wz ⟨rfl, q, rfl⟩
                go_wp2
                go_ret
                exact ⟨rfl, below_drewN HB7.out q⟩
      · have hc := H1.out w3 hB3
        rw [hD] at hc
        go_wp2_with fail
        clear hc0
        refine hc.mono ?_
        rintro e w4 ⟨u4, vs4, rfl, hr4, hb4⟩
        obtain ⟨A4, c4, rfl⟩ := hr4.shapeN
        have hB4 := bthen hB3 hb4 hB3.size
        have hsz4 := hB4.size
        clear hc hb4 hB3
        go_wp2
        go_loopw [12, 16] (fun u ii wr => ∃ j : Nat, j ≤ m ∧ ii = .int .i64 j ∧ Hid (Prt wr w4.heap.size w.heap.size u ((cutB rs a d).take j)) ∧ Hid (Below w4.heap.size w4 wr)) (fun _ ii _ => m - (intOf ii).toNat)
        case atStart => exact ⟨0, Nat.zero_le _, rfl, Prt.nil _ _ _, Below.refl _ _⟩
        case round =>
          obtain ⟨j, hj, rfl, hp, hb⟩ := hrel
          by_cases hjm : j < m
          · have hjl : j < rs.length := by rw [HM.out]; exact hjm
            obtain ⟨bq, oq, Aq, cq, e1, hbq, hcell, hSq, g1, g2⟩ := ((HR.out.below hB4).below (hb.out.mono hsz4)).get hjl
            first
              | subst e1
              | (injection e1 with e1; injection e1 with e1 e1'; subst e1; subst e1')
            have hct := cutB_take (a := a) (d := d) hjl
            have hrn := HRN.out rs[j] (List.getElem_mem hjl)
            generalize rs[j] = r0 at *
            rw [hrn] at hcell hSq g1
            obtain ⟨vs, p1, p2, p3⟩ := hp.out
            have hroom : vs.length + 1 ≤ 1099511627776 := by rw [p2, List.length_take]; omega
            have HCT := Lib.hid hct; have HSQ := Lib.hid hSq; have HP1 := Lib.hid p1; have HP2 := Lib.hid p2; have HP3 := Lib.hid p3; have HROOM := Lib.hid hroom
            have hszr := hb.out.size
            clear hct hrn hSq p1 p2 p3 hroom hp hjl
            by_cases hca : cq = a
            · have hd0 : d = 0 := by omega
              have hca2 := hca.symm
              subst hca2
              have hvd := HSQ.out.void
              have hsl : Sli wr w.heap.size (.slice Aq d 0) (ci ((r0.drop a).take d)) := by
                rw [hd0]
                exact hvd
              have HSL := Lib.hid hsl
              clear hd0 hvd hsl hca
              rcases Aq with _ | ⟨bz, oz, sz⟩
              · go_wp2_with (at_builtin; refine wpl_pushS HP1.out (hszr) HROOM.out Try.underlying23 info_sIntB rfl (by decide) rfl rfl rfl rfl rfl (h := ?_); intro v7 w7 ho7 hm7)
                have hP7 := Prt.push HP1.out HP2.out HP3.out hsz4 (hszr) ho7 hm7 (l := (r0.drop a).take d) (HSL.out)
                rw [← HCT.out] at hP7
                exact ⟨⟨j + 1, by omega, by simp, hP7.1, hb.out.trans (hP7.2.mono (by omega))⟩, by simp [intOf]; omega⟩
              · go_wp2_with (at_builtin; refine wpl_pushS HP1.out (hszr) HROOM.out Try.underlying23 info_sIntB rfl (by decide) rfl rfl rfl rfl rfl (h := ?_); intro v7 w7 ho7 hm7)
                have hP7 := Prt.push HP1.out HP2.out HP3.out hsz4 (hszr) ho7 hm7 (l := (r0.drop a).take d) (HSL.out)
                rw [← HCT.out] at hP7
                exact ⟨⟨j + 1, by omega, by simp, hP7.1, hb.out.trans (hP7.2.mono (by omega))⟩, by simp [intOf]; omega⟩
            · rcases Aq with _ | ⟨bz, oz, sz⟩
              · have hz := HSQ.out.nilN
                exact absurd (by omega) hca
              · have hsl := HSQ.out.mid2 a d (by omega)
                rw [ci_dropP] at hsl
                simp only [Option.map_some, Addr.add_lit] at hsl
                have HSL := Lib.hid hsl
                clear hsl
                go_wp2_with (at_builtin; refine wpl_pushS HP1.out (hszr) HROOM.out Try.underlying23 info_sIntB rfl (by decide) rfl rfl rfl rfl rfl (h := ?_); intro v7 w7 ho7 hm7)
                have hP7 := Prt.push HP1.out HP2.out HP3.out hsz4 (hszr) ho7 hm7 (l := (r0.drop a).take d) (HSL.out)
                rw [← HCT.out] at hP7
                exact ⟨⟨j + 1, by omega, by simp, hP7.1, hb.out.trans (hP7.2.mono (by omega))⟩, by simp [intOf]; omega⟩
          · have hjj : (cutB rs a d).take j = cutB rs a d := List.take_of_length_le (by rw [HCL.out]; omega)
            have hpp := hp.out
            rw [hjj] at hpp
            have hBr := bthen hB4 hb.out hB4.size
            have hszr := hb.out.size
            have hc := H2.out wr hBr _ _ (hpp.rws (by omega)) (Nat.le_refl _)
            have HP := Lib.hid hpp; have HBR := Lib.hid hBr
            clear hjj hpp hBr
            rw [hD2] at hc
            obtain ⟨Ap, np, cp, hup⟩ := HP.out.shapeP
            subst hup
            rcases he2 with rfl | rfl
            · go_wp2_with fail
              refine hc.mono ?_
              rintro e w6 ⟨u6, vs6, rfl, hr6, hb6⟩
              have hB6 := bthen HBR.out hb6 HBR.out.size
              clear hb6 hr6 hc
              go_wp2
              go_ret
              exact ⟨rfl, hB6⟩
            · go_wp2_with fail
              refine hc.mono ?_
              rintro e w6 ⟨u6, vs6, rfl, hr6, hb6⟩
              have hB6 := bthen HBR.out hb6 HBR.out.size
              clear hb6 hr6 hc
              go_wp2
              go_ret
              exact ⟨rfl, hB6⟩
    · rw [Bool.eq_false_iff.2 hf] at hft
      go_wp2_with fail
      refine hft.mono ?_
      rintro e w3 ⟨rfl, hb3⟩
      have hB3 := bthen hB2 hb3 hB2.size
      clear hB2 hb3 hft
      go_wp2
      go_ret
      exact ⟨rfl, hB3⟩
  · rw [Bool.eq_false_iff.2 hs] at hsm
    refine hsm.mono ?_
    rintro e w2 ⟨rfl, hb2⟩
    have hB2 := bthen hb1 hb2 hb1.size
    clear hb1 hb2 hs hsm
    go_wp2
    go_ret
    exact ⟨rfl, hB2⟩
end Go.Proofs.Ytggddckckfilgaa
