/- block: the reference's Join. -/
import Derived.Test.YtfbhiaoodompdaaBloE
import Derived.Test.YtfbhiaoodompdaaBloD
import Derived.Test.YtfbhiaoodompdaaBloH
import Derived.Deep.RegionLaw
namespace Go.Proofs.Ytfbhiaoodompdaa
open Go.RowKit
set_option maxRecDepth 100000
set_option maxHeartbeats 8000000

theorem join_next {rs ss : List (List Int)} {j : Nat} (hj : j < rs.length) (hs : j < ss.length) (hl : rs.length = ss.length) : (joinB rs ss).take j ++ [rs[j] ++ ss[j]] = (joinB rs ss).take (j + 1) := by
  rw [List.take_add_one]
  congr 1
  rw [List.getElem?_eq_getElem (by rw [joinB_len _ _ hl]; exact hj)]
  simp [joinB, List.getElem_zipWith]
theorem qjoinBk_good (b : Int) (v u : Value) (rs ss : List (List Int)) (n k : Nat) (w : World) (B : Nat) (hR : Rws w B v rs) (hS : Rws w B u ss) (hB : B ≤ w.heap.size) (M : MayBk b rs n) (N : MayBk b ss k) (hl : rs.length = ss.length) (hnk : n + k ≤ 4096) :
    Calls Try.prog 34 #[.agg #[.int .i64 b, v], .agg #[.int .i64 b, u]] w (BkPost (b, joinB rs ss, 0) w) := by
  obtain ⟨A, c, rfl, hlc, hcm⟩ := hR.form
  obtain ⟨A2, c2, rfl, hlc2, hcm2⟩ := hS.form
  obtain ⟨m, hm⟩ : ∃ m, rs.length = m := ⟨_, rfl⟩
  have hm2 : ss.length = m := by rw [← hl, hm]
  have hmay1 := fun (w1 : World) (h : Rws w1 B (.slice A rs.length c) rs) (h2 : B ≤ w1.heap.size) => qmayBk_any b _ rs w1 B h h2
  have hmay2 := fun (w1 : World) (h : Rws w1 B (.slice A2 ss.length c2) ss) (h2 : B ≤ w1.heap.size) => qmayBk_any b _ ss w1 B h h2
  have hlen1 := fun (w1 : World) (h : Rws w1 B (.slice A rs.length c) rs) (h2 : B ≤ w1.heap.size) => qlenBk_any b _ rs w1 B h h2
  have hlen2 := fun (w1 : World) (h : Rws w1 B (.slice A2 ss.length c2) ss) (h2 : B ≤ w1.heap.size) => qlenBk_any b _ ss w1 B h h2
  rw [of_mayBk M] at hmay1
  rw [of_mayBk N] at hmay2
  rw [M.len] at hlen1
  rw [N.len] at hlen2
  have hm8 := M.chans
  have hn8 := M.size
  have hk8 := N.size
  rw [hm] at hR hlc hmay1 hlen1 hm8 ⊢
  rw [hm2] at hS hlc2 hmay2 hlen2 ⊢
  obtain ⟨wA, hwA, hsA, hbA, hab, hbb, hrb⟩ := three_boxes w #[.int .i64 b, .slice A m c] #[.int .i64 b, .slice A2 m c2] #[.int .i64 0, .slice none 0 0] 26 26 26
  have hRA := hR.below (hbA.mono hB)
  have hSA := hS.below (hbA.mono hB)
  have HWA := Lib.hid hwA
  have HMAY1 := Lib.hid hmay1; have HMAY2 := Lib.hid hmay2; have HLEN1 := Lib.hid hlen1; have HLEN2 := Lib.hid hlen2
  have HM := Lib.hid M; have HN := Lib.hid N; have HML := Lib.hid hm; have HML2 := Lib.hid hm2; have HLL := Lib.hid hl
  clear hwA hmay1 hmay2 hlen1 hlen2 M N hm hm2 hl hR hS
  go_enter Try.func34, Try.ntmps34
  go_wp2_with fail
  rw [HWA.out]
  obtain ⟨x0, x1, xf⟩ := two_in hab
  go_wp2_with fail
  refine (HMAY1.out wA hRA (by omega)).mono ?_
  rintro e w1 ⟨rfl, hb1⟩
  rw [hsA] at hb1
  have hK1 := hb1.size
  rw [hsA] at hK1
  clear x0 x1 xf
  obtain ⟨y0, y1, yf⟩ := two_in (box_at hb1 hbb (by omega))
  have hS1 := hSA.below (hb1.mono (by omega))
  go_wp2_with fail
  refine (HMAY2.out w1 hS1 (by omega)).mono ?_
  rintro e w2 ⟨rfl, hb2⟩
  have hb12 := hb1.trans (hb2.mono hK1)
  have hK2 := hb12.size
  rw [hsA] at hK2
  clear y0 y1 yf hb1 hb2 hS1 hK1
  obtain ⟨x0, x1, xf⟩ := two_in (box_at hb12 hab (by omega))
  obtain ⟨y0, y1, yf⟩ := two_in (box_at hb12 hbb (by omega))
  have hbb1 : (b != b) = false := by simp
  have hmm1 : ((m : Int) != (m : Int)) = false := by simp
  have hR2 := hRA.below (hb12.mono (by omega))
  have hS2 := hSA.below (hb12.mono (by omega))
  have hBw : B ≤ w2.heap.size := by omega
  have hR2d : Rws w2.drew B (.slice A m c) rs := hR2.keep fun _ _ => rfl
  have hwr : IntKind.i64.wrap ((n : Int) + (k : Int)) = ((n + k : Nat) : Int) := by rw [IntKind.wrap_i64]; omega
  go_upto_region 5 with (fail)
  go_cut [34] (fun p wx => p = .bool false ∧ Below (w.heap.size + 3) wA wx)
  case first =>
    go_region_held3 (fun w' => w'.cell? ⟨w.heap.size, 0, none⟩ = some (.int .i64 b) ∧ w'.cell? ⟨w.heap.size, 1, none⟩ = some (.slice A m c) ∧ w'.cell? ⟨w.heap.size + 1, 0, none⟩ = some (.int .i64 b) ∧ w'.cell? ⟨w.heap.size + 1, 1, none⟩ = some (.slice A2 m c2))
      (first | go_keep | exact ⟨p0, p1, p2, p3⟩ | exact ⟨q0, q1, q2, q3⟩)
      (first
        | (go_at_call_of 21 (Value.agg #[.int .i64 b, .slice A m c]); refine (HLEN1.out w2.drew hR2d hBw).mono ?_; rintro e w3 ⟨rfl, hb3⟩; have hb13 := hb12.trans ((Below.refl w2.heap.size w2).drew.trans hb3 |>.mono hK2); obtain ⟨p0, p1, pf⟩ := two_in (box_at hb13 hab (by omega)); obtain ⟨p2, p3, pf2⟩ := two_in (box_at hb13 hbb (by omega)); have hS3 := hSA.below (hb13.mono (by omega)); have hB3 : B ≤ w3.heap.size := Nat.le_trans hBw hb3.size)
        | (go_at_call_of 21 (Value.agg #[.int .i64 b, .slice A2 m c2]); refine (HLEN2.out w3 hS3 hB3).mono ?_; rintro e w4 ⟨rfl, hb4⟩; have hb14 := hb13.trans (hb4.mono (by have := hb13.size; omega)); obtain ⟨q0, q1, qf⟩ := two_in (box_at hb14 hab (by omega)); obtain ⟨q2, q3, qf2⟩ := two_in (box_at hb14 hbb (by omega))))
    all_goals
      go_wp2_with fail
      go_meet
      case rel => exact ⟨by congr 1; rw [decide_eq_false_iff_not]; omega, hb14⟩
  case rest =>
    obtain ⟨rfl, hb2⟩ := hcut
    obtain ⟨w3, hw3⟩ : ∃ w3, w3 = wc := ⟨_, rfl⟩
    subst hw3
    have hK3 := hb2.size
    rw [hsA] at hK3
    clear x0 x1 xf y0 y1 yf hb12 hR2 hS2 hR2d hK2 hBw
    obtain ⟨x0, x1, xf⟩ := two_in (box_at hb2 hab (by omega))
    have hbn := below_new w3 #[.int .i64 b, .slice none 0 0] 26
    have hbx0 := boxed w3 #[.int .i64 b, .slice none 0 0] 26
    have hb3 := hb2.trans (hbn.mono hK3)
    obtain ⟨gO, hgO⟩ : ∃ gO, w3.heap.size = gO := ⟨_, rfl⟩
    rw [hgO] at hbx0
    obtain ⟨w4, hw4⟩ : ∃ w4, w3.alloc (.cells #[.int .i64 b, .slice none 0 0] 26) = w4 := ⟨_, rfl⟩
    rw [hw4] at hbx0 hb3
    have hgK : w.heap.size + 3 ≤ gO := by omega
    have HGO := Lib.hid hgO; have HW4 := Lib.hid hw4
    clear hbn hK3 hgO hw4
    go_wp2
    rw [HW4.out, HGO.out]
    clear x0 x1 xf
    go_loopw [7] (fun jj wr => ∃ j : Nat, j ≤ m ∧ jj = .int .i64 j ∧ Below (w.heap.size + 3) wA wr ∧ ∃ At nt ct vs, wr.heap[gO]? = some (.cells #[.int .i64 b, .slice At nt ct] 26 (0, 0)) ∧ RwG wr (w.heap.size + 3) (.slice At nt ct) vs ((joinB rs ss).take j)) (fun jj _ => m - (intOf jj).toNat)
    case atStart => exact ⟨0, Nat.zero_le _, rfl, hb3, _, _, _, _, hbx0, by simpa using RwG.nil _ _⟩
    case round =>
      clear hb3 hbx0 hb2 HW4 HGO
      obtain ⟨j, hj, rfl, hb, At, nt, ct, vs, hbx, hRg⟩ := hrel
      have hKr := hb.size
      rw [hsA] at hKr
      obtain ⟨x0, x1, xf⟩ := two_in (box_at hb hab (by omega))
      by_cases hjm : j < m
      · have hjl : j < rs.length := by rw [HML.out]; exact hjm
        have hjl2 : j < ss.length := by rw [HML2.out]; exact hjm
        obtain ⟨bq, oq, Aq, cq, rfl, hbq, hcell, hS, g1, g2⟩ := (hRA.below (hb.mono (by omega))).get hjl
        obtain ⟨bp, op, Ap, cp, rfl, hbp, hcell2, hS2, g3, g4⟩ := (hSA.below (hb.mono (by omega))).get hjl2
        have hrn := HM.out.rows _ (List.getElem_mem hjl)
        have hsn := HN.out.rows _ (List.getElem_mem hjl2)
        have hct := join_next hjl hjl2 HLL.out
        have hvl : vs.length = j := by have h1 := hRg.len; rw [h1, List.length_take]; simp [joinB, HML.out, HML2.out]; omega
        rw [hrn] at hcell hS g1
        rw [hsn] at hcell2 hS2 g3
        have hl1 : (ci rs[j]).length ≤ 8796093022208 := by rw [ci_len]; omega
        have hl2 : (ci rs[j]).length + (ci ss[j]).length ≤ 8796093022208 := by rw [ci_len, ci_len]; omega
        have hone1 := ci_one rs[j]
        have hone2 := ci_one ss[j]
        generalize rs[j] = ra at *
        generalize ss[j] = sb at *
        have HCT := Lib.hid hct; have HL1 := Lib.hid hl1; have HL2 := Lib.hid hl2
        clear hct hl1 hl2 hrn hsn
        obtain ⟨q0, q1, qf⟩ := two_in hbx
        obtain ⟨y0, y1, yf⟩ := two_in (box_at hb hbb (by omega))
        have hrm : vs.length + 1 ≤ 1099511627776 := by omega
        have hz4 : gO < wr.heap.size := (Array.getElem?_eq_some_iff.1 hbx).1
        have HRG := Lib.hid hRg
        have hjI : (j : Int) < (m : Int) := by omega
        have hBr : B ≤ wr.heap.size := by omega
        have HKEEP : Hid (∀ w' : World, Below wr.heap.size wr w' → (fun w' => w'.cell? ⟨w.heap.size, 1, none⟩ = some (.slice (some ⟨bq, oq, none⟩) m c) ∧ w'.cell? ⟨bq, oq + j, none⟩ = some (.slice Aq n cq) ∧ w'.cell? ⟨w.heap.size + 1, 1, none⟩ = some (.slice (some ⟨bp, op, none⟩) m c2) ∧ w'.cell? ⟨bp, op + j, none⟩ = some (.slice Ap k cp)) w') := Lib.hid fun w' h' => ⟨(h'.cell (p := ⟨w.heap.size, 1, none⟩) (show w.heap.size < wr.heap.size by omega)).trans x1, (h'.cell (p := ⟨bq, oq + j, none⟩) (show bq < wr.heap.size by omega)).trans hcell, (h'.cell (p := ⟨w.heap.size + 1, 1, none⟩) (show w.heap.size + 1 < wr.heap.size by omega)).trans y1, (h'.cell (p := ⟨bp, op + j, none⟩) (show bp < wr.heap.size by omega)).trans hcell2⟩
        have HKEEP2 : Hid (∀ w' : World, Below (w.heap.size + 3) wA w' → (fun w' => w'.cell? ⟨w.heap.size, 1, none⟩ = some (.slice (some ⟨bq, oq, none⟩) m c) ∧ w'.cell? ⟨bq, oq + j, none⟩ = some (.slice Aq n cq) ∧ w'.cell? ⟨w.heap.size + 1, 1, none⟩ = some (.slice (some ⟨bp, op, none⟩) m c2) ∧ w'.cell? ⟨bp, op + j, none⟩ = some (.slice Ap k cp)) w') := Lib.hid fun w' h' => ⟨(h'.cell (p := ⟨w.heap.size, 1, none⟩) (show w.heap.size < w.heap.size + 3 by omega)).trans ((hb.cell (p := ⟨w.heap.size, 1, none⟩) (show w.heap.size < w.heap.size + 3 by omega)).symm.trans x1), (h'.cell (p := ⟨bq, oq + j, none⟩) (show bq < w.heap.size + 3 by omega)).trans ((hb.cell (p := ⟨bq, oq + j, none⟩) (show bq < w.heap.size + 3 by omega)).symm.trans hcell), (h'.cell (p := ⟨w.heap.size + 1, 1, none⟩) (show w.heap.size + 1 < w.heap.size + 3 by omega)).trans ((hb.cell (p := ⟨w.heap.size + 1, 1, none⟩) (show w.heap.size + 1 < w.heap.size + 3 by omega)).symm.trans y1), (h'.cell (p := ⟨bp, op + j, none⟩) (show bp < w.heap.size + 3 by omega)).trans ((hb.cell (p := ⟨bp, op + j, none⟩) (show bp < w.heap.size + 3 by omega)).symm.trans hcell2)⟩
        have HS1' := Lib.hid (HKEEP.out (wr.drew.alloc (.cells #[] 3)) ((Below.refl wr.heap.size wr).drew.trans (below_new wr.drew _ _)))
        have hq1' : (wr.drew.alloc (.cells #[] 3)).cell? ⟨gO, 1, none⟩ = some (.slice At nt ct) := (World.cell?_alloc_lt wr.drew _ _ hz4).trans q1
        have hb6A2 : Hid (∀ w' : World, Below wr.heap.size wr w' → Below (w.heap.size + 3) wA w') := Lib.hid fun w' h' => hb.trans (h'.mono hKr)
        clear hRg
        go_wp2_with fail
        refine wp_region_held_drew (S := fun w' => w'.cell? ⟨w.heap.size, 1, none⟩ = some (.slice (some ⟨bq, oq, none⟩) m c) ∧ w'.cell? ⟨bq, oq + j, none⟩ = some (.slice Aq n cq) ∧ w'.cell? ⟨w.heap.size + 1, 1, none⟩ = some (.slice (some ⟨bp, op, none⟩) m c2) ∧ w'.cell? ⟨bp, op + j, none⟩ = some (.slice Ap k cp)) (by kernel_rfl) ⟨x1, hcell, y1, hcell2⟩ (fun hHeld => ?_)
        refine wpAnyH_take (i := 0) (v := ?_) rfl (by kernel_rfl) (by kernel_rfl) (by kernel_rfl) (fun _ _ _ h => h) (Or.inl ⟨by rfl, ?_⟩) hHeld ?_
        rotate_left 1
        · (intro w' hSw; obtain ⟨s1, s2, s3, s4⟩ := hSw; go_simp; try with_reducible rfl)
        try simp only [Act.put, List.setIfInBounds_toArray, List.set_cons_zero, List.set_cons_succ]
        refine wpAnyH_take (i := 3) (v := ?_) rfl (by kernel_rfl) (by kernel_rfl) (by kernel_rfl) (fun _ _ _ h => h) (Or.inl ⟨by rfl, ?_⟩) hHeld ?_
        rotate_left 1
        · (intro w' hSw; obtain ⟨s1, s2, s3, s4⟩ := hSw; go_simp; try with_reducible rfl)
        try simp only [Act.put, List.setIfInBounds_toArray, List.set_cons_zero, List.set_cons_succ]
        refine wpAnyH_take (i := 4) (v := ?_) rfl (by kernel_rfl) (by kernel_rfl) (by kernel_rfl) (fun _ _ _ h => h) (Or.inl ⟨by rfl, ?_⟩) hHeld ?_
        rotate_left 1
        · (intro w' hSw; obtain ⟨s1, s2, s3, s4⟩ := hSw; go_simp; try with_reducible rfl)
        try simp only [Act.put, List.setIfInBounds_toArray, List.set_cons_zero, List.set_cons_succ]
        refine wpAnyH_take (i := 5) (v := ?_) rfl (by kernel_rfl) (by kernel_rfl) (by kernel_rfl) (fun _ _ _ h => h) (Or.inl ⟨by rfl, ?_⟩) hHeld ?_
        rotate_left 1
        · (intro w' hSw; obtain ⟨s1, s2, s3, s4⟩ := hSw; go_simp; try with_reducible rfl)
        try simp only [Act.put, List.setIfInBounds_toArray, List.set_cons_zero, List.set_cons_succ]
        refine wpAnyH_take (i := 6) (v := ?_) rfl (by kernel_rfl) (by kernel_rfl) (by kernel_rfl) (fun _ _ _ h => h) (Or.inl ⟨by rfl, ?_⟩) hHeld ?_
        rotate_left 1
        · (intro w' hSw; obtain ⟨s1, s2, s3, s4⟩ := hSw; go_simp; try with_reducible rfl)
        try simp only [Act.put, List.setIfInBounds_toArray, List.set_cons_zero, List.set_cons_succ]
        refine wpAnyH_take (i := 7) (v := ?_) rfl (by kernel_rfl) (by kernel_rfl) (by kernel_rfl) (fun _ _ _ h => h) (Or.inl ⟨by rfl, ?_⟩) hHeld ?_
        rotate_left 1
        · (intro w' hSw; obtain ⟨s1, s2, s3, s4⟩ := hSw; go_simp; try with_reducible rfl)
        try simp only [Act.put, List.setIfInBounds_toArray, List.set_cons_zero, List.set_cons_succ]
        refine wpAnyH_take (i := 9) (v := ?_) rfl (by kernel_rfl) (by kernel_rfl) (by kernel_rfl) (fun _ _ _ h => h) (Or.inl ⟨by rfl, ?_⟩) hHeld ?_
        rotate_left 1
        · (intro w' hSw; obtain ⟨s1, s2, s3, s4⟩ := hSw; go_simp; try with_reducible rfl)
        try simp only [Act.put, List.setIfInBounds_toArray, List.set_cons_zero, List.set_cons_succ]
        refine wpAnyH_take (i := 10) (v := ?_) rfl (by kernel_rfl) (by kernel_rfl) (by kernel_rfl) (fun _ _ _ h => h) (Or.inl ⟨by rfl, ?_⟩) hHeld ?_
        rotate_left 1
        · (intro w' hSw; obtain ⟨s1, s2, s3, s4⟩ := hSw; go_simp; try with_reducible rfl)
        try simp only [Act.put, List.setIfInBounds_toArray, List.set_cons_zero, List.set_cons_succ]
        refine wpAnyH_take (i := 11) (v := ?_) rfl (by kernel_rfl) (by kernel_rfl) (by kernel_rfl) (fun _ _ _ h => h) (Or.inl ⟨by rfl, ?_⟩) hHeld ?_
        rotate_left 1
        · (intro w' hSw; obtain ⟨s1, s2, s3, s4⟩ := hSw; go_simp; try with_reducible rfl)
        try simp only [Act.put, List.setIfInBounds_toArray, List.set_cons_zero, List.set_cons_succ]
        refine wpAnyH_take (i := 12) (v := ?_) rfl (by kernel_rfl) (by kernel_rfl) (by kernel_rfl) (fun _ _ _ h => h) (Or.inl ⟨by rfl, ?_⟩) hHeld ?_
        rotate_left 1
        · (intro w' hSw; obtain ⟨s1, s2, s3, s4⟩ := hSw; go_simp; try with_reducible rfl)
        try simp only [Act.put, List.setIfInBounds_toArray, List.set_cons_zero, List.set_cons_succ]
        refine wpAnyH_take (i := 13) (v := ?_) rfl (by kernel_rfl) (by kernel_rfl) (by kernel_rfl) (fun _ _ _ h => h) (Or.inl ⟨by rfl, ?_⟩) hHeld ?_
        rotate_left 1
        · (intro w' hSw; obtain ⟨s1, s2, s3, s4⟩ := hSw; go_simp; try with_reducible rfl)
        try simp only [Act.put, List.setIfInBounds_toArray, List.set_cons_zero, List.set_cons_succ]
        refine wpAnyH_ready (rs := [1, 2]) (by kernel_rfl) (by simp) ?_
        refine AllReadyH.cons rfl (fun K hK => ?way1) (AllReadyH.cons rfl (fun K hK => ?way2) AllReadyH.nil)
        case' way1 =>
          go_simp
          refine hK.out _ _ hHeld (fun hHeld => ?_)
          clear hK K
          try simp only [Act.put, List.setIfInBounds_toArray, List.set_cons_zero, List.set_cons_succ]
          refine wpAnyH_ready (rs := [2]) (by kernel_rfl) (by simp) ?_
          refine AllReadyH.cons rfl (fun K hK => ?_) AllReadyH.nil
          go_simp
          refine hK.out _ _ HS1'.out (fun hHeld => ?_)
          clear hK K
          try simp only [Act.put, List.setIfInBounds_toArray, List.set_cons_zero, List.set_cons_succ]
          refine wpAnyH_ready (rs := [8]) (by kernel_rfl) (by simp) ?_
          refine AllReadyH.cons rfl (fun K hK => ?_) AllReadyH.nil
          refine step_copy (w := wr.drew) (show Sli wr.drew B _ (ci ra) from hS) hBr HL1.out Try.underlying37 info_int rfl (by decide) hone1 rfl rfl rfl rfl (h := ?_)
          intro v6 w6 ho6 hb6
          obtain ⟨A6, n6, k6, rfl⟩ := ho6.shape
          have hb6w : Below wr.heap.size wr w6 := (Below.refl wr.heap.size wr).drew.trans hb6
          have hs6 := HKEEP.out w6 hb6w
          have hq6 : w6.cell? ⟨gO, 1, none⟩ = some (.slice At nt ct) := (hb6w.cell (p := ⟨gO, 1, none⟩) hz4).trans q1
          refine hK.out _ _ hs6 (fun hHeld => ?_)
          clear hK K
          try simp only [Act.put, List.setIfInBounds_toArray, List.set_cons_zero, List.set_cons_succ]
          refine wpAnyH_ready (rs := [14]) (by kernel_rfl) (by simp) ?_
          refine AllReadyH.cons rfl (fun K hK => ?_) AllReadyH.nil
          refine step_appB (w := w6) (show Own w6 wr.heap.size 3 (.slice A6 n6 k6) (ci ra) from ho6) (hS2.below (hb6w.mono hBr)) hb6w.size HL2.out Try.underlying37 info_int rfl (by decide) hone2 rfl rfl rfl rfl (h := ?_)
          intro v8 w8 ho8 hb8
          obtain ⟨A8, n8, k8, rfl⟩ := ho8.shape
          have hb8w : Below wr.heap.size wr w8 := hb6w.trans hb8
          have hs8 := HKEEP.out w8 hb8w
          have hq8 : w8.cell? ⟨gO, 1, none⟩ = some (.slice At nt ct) := (hb8w.cell (p := ⟨gO, 1, none⟩) hz4).trans q1
          refine hK.out _ _ hs8 (fun hHeld => ?_)
          clear hK K
          try simp only [Act.put, List.setIfInBounds_toArray, List.set_cons_zero, List.set_cons_succ]
          refine wpAnyH_ready (rs := [15]) (by kernel_rfl) (by simp) ?_
          refine AllReadyH.cons rfl (fun K hK => ?_) AllReadyH.nil
          go_simp
          have hb8y : Below wr.heap.size wr (w8.alloc (.cells #[.slice A8 n8 k8] 37)) := hb8w.trans ((below_new w8 _ _).mono hb8w.size)
          have hs9 := HKEEP.out _ hb8y
          have hq9 : (w8.alloc (.cells #[.slice A8 n8 k8] 37)).cell? ⟨gO, 1, none⟩ = some (.slice At nt ct) := (hb8y.cell (p := ⟨gO, 1, none⟩) hz4).trans q1
          refine hK.out _ _ hs9 (fun hHeld => ?_)
          clear hK K
          try simp only [Act.put, List.setIfInBounds_toArray, List.set_cons_zero, List.set_cons_succ]
        case' way2 =>
          go_simp
          refine hK.out _ _ HS1'.out (fun hHeld => ?_)
          clear hK K
          try simp only [Act.put, List.setIfInBounds_toArray, List.set_cons_zero, List.set_cons_succ]
          refine wpAnyH_ready (rs := [1, 8]) (by kernel_rfl) (by simp) ?_
          refine AllReadyH.cons rfl (fun K hK => ?way3) (AllReadyH.cons rfl (fun K hK => ?way4) AllReadyH.nil)
          case' way3 =>
            go_simp
            refine hK.out _ _ hHeld (fun hHeld => ?_)
            clear hK K
            try simp only [Act.put, List.setIfInBounds_toArray, List.set_cons_zero, List.set_cons_succ]
            refine wpAnyH_ready (rs := [8]) (by kernel_rfl) (by simp) ?_
            refine AllReadyH.cons rfl (fun K hK => ?_) AllReadyH.nil
            refine step_copy (w := wr.drew) (show Sli wr.drew B _ (ci ra) from hS) hBr HL1.out Try.underlying37 info_int rfl (by decide) hone1 rfl rfl rfl rfl (h := ?_)
            intro v6 w6 ho6 hb6
            obtain ⟨A6, n6, k6, rfl⟩ := ho6.shape
            have hb6w : Below wr.heap.size wr w6 := (Below.refl wr.heap.size wr).drew.trans hb6
            have hs6 := HKEEP.out w6 hb6w
            have hq6 : w6.cell? ⟨gO, 1, none⟩ = some (.slice At nt ct) := (hb6w.cell (p := ⟨gO, 1, none⟩) hz4).trans q1
            refine hK.out _ _ hs6 (fun hHeld => ?_)
            clear hK K
            try simp only [Act.put, List.setIfInBounds_toArray, List.set_cons_zero, List.set_cons_succ]
            refine wpAnyH_ready (rs := [14]) (by kernel_rfl) (by simp) ?_
            refine AllReadyH.cons rfl (fun K hK => ?_) AllReadyH.nil
            refine step_appB (w := w6) (show Own w6 wr.heap.size 3 (.slice A6 n6 k6) (ci ra) from ho6) (hS2.below (hb6w.mono hBr)) hb6w.size HL2.out Try.underlying37 info_int rfl (by decide) hone2 rfl rfl rfl rfl (h := ?_)
            intro v8 w8 ho8 hb8
            obtain ⟨A8, n8, k8, rfl⟩ := ho8.shape
            have hb8w : Below wr.heap.size wr w8 := hb6w.trans hb8
            have hs8 := HKEEP.out w8 hb8w
            have hq8 : w8.cell? ⟨gO, 1, none⟩ = some (.slice At nt ct) := (hb8w.cell (p := ⟨gO, 1, none⟩) hz4).trans q1
            refine hK.out _ _ hs8 (fun hHeld => ?_)
            clear hK K
            try simp only [Act.put, List.setIfInBounds_toArray, List.set_cons_zero, List.set_cons_succ]
            refine wpAnyH_ready (rs := [15]) (by kernel_rfl) (by simp) ?_
            refine AllReadyH.cons rfl (fun K hK => ?_) AllReadyH.nil
            go_simp
            have hb8y : Below wr.heap.size wr (w8.alloc (.cells #[.slice A8 n8 k8] 37)) := hb8w.trans ((below_new w8 _ _).mono hb8w.size)
            have hs9 := HKEEP.out _ hb8y
            have hq9 : (w8.alloc (.cells #[.slice A8 n8 k8] 37)).cell? ⟨gO, 1, none⟩ = some (.slice At nt ct) := (hb8y.cell (p := ⟨gO, 1, none⟩) hz4).trans q1
            refine hK.out _ _ hs9 (fun hHeld => ?_)
            clear hK K
            try simp only [Act.put, List.setIfInBounds_toArray, List.set_cons_zero, List.set_cons_succ]
          case' way4 =>
            refine step_copy (w := wr.drew) (show Sli wr.drew B _ (ci ra) from hS) hBr HL1.out Try.underlying37 info_int rfl (by decide) hone1 rfl rfl rfl rfl (h := ?_)
            intro v6 w6 ho6 hb6
            obtain ⟨A6, n6, k6, rfl⟩ := ho6.shape
            have hb6w : Below wr.heap.size wr w6 := (Below.refl wr.heap.size wr).drew.trans hb6
            have hs6 := HKEEP.out w6 hb6w
            have hq6 : w6.cell? ⟨gO, 1, none⟩ = some (.slice At nt ct) := (hb6w.cell (p := ⟨gO, 1, none⟩) hz4).trans q1
            refine hK.out _ _ hs6 (fun hHeld => ?_)
            clear hK K
            try simp only [Act.put, List.setIfInBounds_toArray, List.set_cons_zero, List.set_cons_succ]
            refine wpAnyH_ready (rs := [1, 14]) (by kernel_rfl) (by simp) ?_
            refine AllReadyH.cons rfl (fun K hK => ?way5) (AllReadyH.cons rfl (fun K hK => ?way6) AllReadyH.nil)
            case' way5 =>
              go_simp
              refine hK.out _ _ hHeld (fun hHeld => ?_)
              clear hK K
              try simp only [Act.put, List.setIfInBounds_toArray, List.set_cons_zero, List.set_cons_succ]
              refine wpAnyH_ready (rs := [14]) (by kernel_rfl) (by simp) ?_
              refine AllReadyH.cons rfl (fun K hK => ?_) AllReadyH.nil
              refine step_appB (w := w6) (show Own w6 wr.heap.size 3 (.slice A6 n6 k6) (ci ra) from ho6) (hS2.below (hb6w.mono hBr)) hb6w.size HL2.out Try.underlying37 info_int rfl (by decide) hone2 rfl rfl rfl rfl (h := ?_)
              intro v8 w8 ho8 hb8
              obtain ⟨A8, n8, k8, rfl⟩ := ho8.shape
              have hb8w : Below wr.heap.size wr w8 := hb6w.trans hb8
              have hs8 := HKEEP.out w8 hb8w
              have hq8 : w8.cell? ⟨gO, 1, none⟩ = some (.slice At nt ct) := (hb8w.cell (p := ⟨gO, 1, none⟩) hz4).trans q1
              refine hK.out _ _ hs8 (fun hHeld => ?_)
              clear hK K
              try simp only [Act.put, List.setIfInBounds_toArray, List.set_cons_zero, List.set_cons_succ]
              refine wpAnyH_ready (rs := [15]) (by kernel_rfl) (by simp) ?_
              refine AllReadyH.cons rfl (fun K hK => ?_) AllReadyH.nil
              go_simp
              have hb8y : Below wr.heap.size wr (w8.alloc (.cells #[.slice A8 n8 k8] 37)) := hb8w.trans ((below_new w8 _ _).mono hb8w.size)
              have hs9 := HKEEP.out _ hb8y
              have hq9 : (w8.alloc (.cells #[.slice A8 n8 k8] 37)).cell? ⟨gO, 1, none⟩ = some (.slice At nt ct) := (hb8y.cell (p := ⟨gO, 1, none⟩) hz4).trans q1
              refine hK.out _ _ hs9 (fun hHeld => ?_)
              clear hK K
              try simp only [Act.put, List.setIfInBounds_toArray, List.set_cons_zero, List.set_cons_succ]
            case' way6 =>
              refine step_appB (w := w6) (show Own w6 wr.heap.size 3 (.slice A6 n6 k6) (ci ra) from ho6) (hS2.below (hb6w.mono hBr)) hb6w.size HL2.out Try.underlying37 info_int rfl (by decide) hone2 rfl rfl rfl rfl (h := ?_)
              intro v8 w8 ho8 hb8
              obtain ⟨A8, n8, k8, rfl⟩ := ho8.shape
              have hb8w : Below wr.heap.size wr w8 := hb6w.trans hb8
              have hs8 := HKEEP.out w8 hb8w
              have hq8 : w8.cell? ⟨gO, 1, none⟩ = some (.slice At nt ct) := (hb8w.cell (p := ⟨gO, 1, none⟩) hz4).trans q1
              refine hK.out _ _ hs8 (fun hHeld => ?_)
              clear hK K
              try simp only [Act.put, List.setIfInBounds_toArray, List.set_cons_zero, List.set_cons_succ]
              refine wpAnyH_ready (rs := [1, 15]) (by kernel_rfl) (by simp) ?_
              refine AllReadyH.cons rfl (fun K hK => ?way7) (AllReadyH.cons rfl (fun K hK => ?way8) AllReadyH.nil)
              case' way7 =>
                go_simp
                refine hK.out _ _ hHeld (fun hHeld => ?_)
                clear hK K
                try simp only [Act.put, List.setIfInBounds_toArray, List.set_cons_zero, List.set_cons_succ]
                refine wpAnyH_ready (rs := [15]) (by kernel_rfl) (by simp) ?_
                refine AllReadyH.cons rfl (fun K hK => ?_) AllReadyH.nil
                go_simp
                have hb8y : Below wr.heap.size wr (w8.alloc (.cells #[.slice A8 n8 k8] 37)) := hb8w.trans ((below_new w8 _ _).mono hb8w.size)
                have hs9 := HKEEP.out _ hb8y
                have hq9 : (w8.alloc (.cells #[.slice A8 n8 k8] 37)).cell? ⟨gO, 1, none⟩ = some (.slice At nt ct) := (hb8y.cell (p := ⟨gO, 1, none⟩) hz4).trans q1
                refine hK.out _ _ hs9 (fun hHeld => ?_)
                clear hK K
                try simp only [Act.put, List.setIfInBounds_toArray, List.set_cons_zero, List.set_cons_succ]
              case' way8 =>
                go_simp
                have hb8y : Below wr.heap.size wr (w8.alloc (.cells #[.slice A8 n8 k8] 37)) := hb8w.trans ((below_new w8 _ _).mono hb8w.size)
                have hs9 := HKEEP.out _ hb8y
                have hq9 : (w8.alloc (.cells #[.slice A8 n8 k8] 37)).cell? ⟨gO, 1, none⟩ = some (.slice At nt ct) := (hb8y.cell (p := ⟨gO, 1, none⟩) hz4).trans q1
                refine hK.out _ _ hs9 (fun hHeld => ?_)
                clear hK K
                try simp only [Act.put, List.setIfInBounds_toArray, List.set_cons_zero, List.set_cons_succ]
                refine wpAnyH_ready (rs := [1]) (by kernel_rfl) (by simp) ?_
                refine AllReadyH.cons rfl (fun K hK => ?_) AllReadyH.nil
                go_simp
                refine hK.out _ _ hHeld (fun hHeld => ?_)
                clear hK K
                try simp only [Act.put, List.setIfInBounds_toArray, List.set_cons_zero, List.set_cons_succ]
        all_goals
          refine wpAnyH_ready (rs := [16]) (by kernel_rfl) (by simp) ?_
          refine AllReadyH.cons rfl (fun K hK => ?_) AllReadyH.nil
          refine step_pushS (w := w8) (u := .slice A8 n8 k8) (show Own w8 (w.heap.size + 3) 37 (.slice At nt ct) vs from HRG.out.top.kept hb8w) (Nat.le_trans hKr hb8w.size) hrm Try.underlying24 info_sIntB rfl (by decide) rfl rfl rfl rfl rfl (h := ?_)
          intro v7 w7 ho7 hm7
          obtain ⟨A7, n7, k7, rfl⟩ := ho7.shape
          have hb7A := hb6A2.out w8 hb8w |>.trans (Mov.belowK hm7 (fun k hk => (HRG.out.top.lt k hk).1) (Nat.le_trans hKr hb8w.size))
          have hb7B : w7.heap[gO]? = some (.cells #[.int .i64 b, .slice At nt ct] 26 (0, 0)) := ((hm7 (gO + 1)).block gO (Nat.lt_of_lt_of_le hz4 hb8w.size) (by omega) ((HRG.out.top.kept hb8w).ne ((hb8w.block gO hz4).trans hbx) (by decide))).trans ((hb8w.block gO hz4).trans hbx)
          obtain ⟨t0, t1, tf⟩ := two_in hb7B
          have hR7 := HRG.out.push hKr hb8w (show Own w8 wr.heap.size 3 (.slice A8 n8 k8) (ci (ra ++ sb)) by rw [ci_app]; exact ho8) ho7 hm7
          have hs11 := HKEEP2.out w7 hb7A
          have hR9 := hR7.far hb7B (by decide) (by decide) (grown_set w7 gO 1 (.slice A7 n7 k7))
          have hb9 := hb7A.setCell (p := ⟨gO, 1, none⟩) (by omega) (.slice A7 n7 k7)
          have hbx9 := heap_setCell_same w7 gO 1 _ _ (.slice A7 n7 k7) hb7B
          have hs10 := HKEEP2.out _ hb9
          rw [HCT.out] at hR9
          have HR9 := Lib.hid hR9; have HB9 := Lib.hid hb9; have HBX9 := Lib.hid hbx9; have HS10 := Lib.hid hs10
          clear hR9 hb9 hbx9 hR7 hb7A hb7B hs10
          refine hK.out _ _ hs11 (fun hHeld => ?_)
          clear hK K
          try simp only [Act.put, List.setIfInBounds_toArray, List.set_cons_zero, List.set_cons_succ]
          refine wpAnyH_take (i := 17) (v := ?_) rfl (by kernel_rfl) (by kernel_rfl) (by kernel_rfl) (fun _ _ _ h => h) (Or.inl ⟨by rfl, ?_⟩) hHeld ?_
          rotate_left 1
          · (intro w' hSw; obtain ⟨s1, s2, s3, s4⟩ := hSw; go_simp; try with_reducible rfl)
          try simp only [Act.put, List.setIfInBounds_toArray, List.set_cons_zero, List.set_cons_succ]
          refine wpAnyH_ready (rs := [18]) (by kernel_rfl) (by simp) ?_
          refine AllReadyH.cons rfl (fun K hK => ?_) AllReadyH.nil
          go_simp
          refine hK.out _ _ HS10.out (fun hHeld => ?_)
          clear hK K hHeld
          try simp only [Act.put, List.setIfInBounds_toArray, List.set_cons_zero, List.set_cons_succ]
          refine wpAnyH_done (by kernel_rfl) ?_ _
          clear t0 t1 tf hs11 x1 hcell y1 hcell2 q0 q1 qf
          go_wp2_with fail
          exact ⟨⟨j + 1, by omega, by simp, HB9.out, ⟨_, _, _, _, HBX9.out, HR9.out⟩⟩, by simp [intOf]; omega⟩
      · have hjj : j = m := by omega
        rw [hjj, List.take_of_length_le (by rw [joinB_len _ _ HLL.out, HML.out]; exact Nat.le_refl _)] at hRg
        obtain ⟨q0, q1, qf⟩ := two_in hbx
        obtain ⟨r0, r1, rf⟩ := two_in (box_at hb hrb (by omega))
        go_wp2
        refine bodyPost_ret (results_two rfl _ _ (w.heap.size + 2) 26 #[.int .i64 b, .slice At nt ct] (0, 0) _ rfl (two_set (box_at hb hrb (by omega))) Try.underlying26 rfl (by kernel_rfl)) rfl ?_
        obtain ⟨e1, e2⟩ := box_done (x := b) hbA hb hrb (by omega) (by omega) hRg
        exact ⟨_, _, _, _, rfl, e1, e2⟩
theorem qjoinBk_any (b b2 : Int) (v u : Value) (rs ss : List (List Int)) (w : World) (B : Nat) (hR : Rws w B v rs) (hS : Rws w B u ss) (hB : B ≤ w.heap.size) :
    Calls Try.prog 34 #[.agg #[.int .i64 b, v], .agg #[.int .i64 b2, u]] w (BkPost (joinR b rs b2 ss) w) := by
  by_cases hgood : mayBk b rs = true ∧ mayBk b2 ss = true ∧ b = b2 ∧ rs.length = ss.length ∧ lenB rs + lenB ss ≤ 4096
  · obtain ⟨h1, h2, rfl, h4, h5⟩ := hgood
    have hres : joinR b rs b ss = (b, joinB rs ss, 0) := by unfold joinR; rw [if_pos ⟨h1, h2⟩, if_pos ⟨rfl, h4⟩, if_pos h5]
    rw [hres]
    exact qjoinBk_good b v u rs ss _ _ w B hR hS hB (mayBk_of h1) (mayBk_of h2) h4 h5
  · obtain ⟨A, c, rfl, hlc, hcm⟩ := hR.form
    obtain ⟨A2, c2, rfl, hlc2, hcm2⟩ := hS.form
    have hmay1 := fun (w1 : World) (h : Rws w1 B (.slice A rs.length c) rs) (h2 : B ≤ w1.heap.size) => qmayBk_any b _ rs w1 B h h2
    have hmay2 := fun (w1 : World) (h : Rws w1 B (.slice A2 ss.length c2) ss) (h2 : B ≤ w1.heap.size) => qmayBk_any b2 _ ss w1 B h h2
    have hlen1 := fun (w1 : World) (h : Rws w1 B (.slice A rs.length c) rs) (h2 : B ≤ w1.heap.size) => qlenBk_any b _ rs w1 B h h2
    have hlen2 := fun (w1 : World) (h : Rws w1 B (.slice A2 ss.length c2) ss) (h2 : B ≤ w1.heap.size) => qlenBk_any b2 _ ss w1 B h h2
    obtain ⟨wA, hwA, hsA, hbA, hab, hbb, hrb⟩ := three_boxes w #[.int .i64 b, .slice A rs.length c] #[.int .i64 b2, .slice A2 ss.length c2] #[.int .i64 0, .slice none 0 0] 26 26 26
    have hRA := hR.below (hbA.mono hB)
    have hSA := hS.below (hbA.mono hB)
    have HWA := Lib.hid hwA
    have HLEN1 := Lib.hid hlen1; have HLEN2 := Lib.hid hlen2
    clear hwA hlen1 hlen2 hR hS
    by_cases h1 : mayBk b rs = true
    · rw [h1] at hmay1
      have HMAY1 := Lib.hid hmay1
      by_cases h2 : mayBk b2 ss = true
      · rw [h2] at hmay2
        have HMAY2 := Lib.hid hmay2
        have hrl := (mayBk_of h1).chans
        have hsl := (mayBk_of h2).chans
        have hrn := (mayBk_of h1).size
        have hsn := (mayBk_of h2).size
        clear hmay1 hmay2
        by_cases h3 : b = b2 ∧ rs.length = ss.length
        · have h5 : ¬ lenB rs + lenB ss ≤ 4096 := fun h => hgood ⟨h1, h2, h3.1, h3.2, h⟩
          have hres : joinR b rs b2 ss = (0, [], 4) := by unfold joinR; rw [if_pos ⟨h1, h2⟩, if_pos h3, if_neg h5]
          rw [hres]
          obtain ⟨rfl, hll⟩ := h3
          have hbb1 : (b != b) = false := by simp
          have hmm1 : ((rs.length : Int) != (ss.length : Int)) = false := by rw [hll]; simp
          have hwr : IntKind.i64.wrap ((lenB rs : Int) + (lenB ss : Int)) = ((lenB rs + lenB ss : Nat) : Int) := by rw [IntKind.wrap_i64]; omega
          generalize lenB rs = n at *
          generalize lenB ss = k at *
          generalize rs.length = m at *
          generalize ss.length = m2 at *
          clear hgood h1 h2 hres hll
          go_enter Try.func34, Try.ntmps34
          go_wp2_with fail
          rw [HWA.out]
          obtain ⟨x0, x1, xf⟩ := two_in hab
          go_wp2_with fail
          refine (HMAY1.out wA hRA (by omega)).mono ?_
          rintro e w1 ⟨rfl, hb1⟩
          rw [hsA] at hb1
          have hK1 := hb1.size
          rw [hsA] at hK1
          clear x0 x1 xf
          obtain ⟨y0, y1, yf⟩ := two_in (box_at hb1 hbb (by omega))
          have hS1 := hSA.below (hb1.mono (by omega))
          go_wp2_with fail
          refine (HMAY2.out w1 hS1 (by omega)).mono ?_
          rintro e w2 ⟨rfl, hb2⟩
          have hb12 := hb1.trans (hb2.mono hK1)
          have hK2 := hb12.size
          rw [hsA] at hK2
          clear y0 y1 yf hb1 hb2 hS1 hK1
          obtain ⟨x0, x1, xf⟩ := two_in (box_at hb12 hab (by omega))
          obtain ⟨y0, y1, yf⟩ := two_in (box_at hb12 hbb (by omega))
          have hR2 := hRA.below (hb12.mono (by omega))
          have hBw : B ≤ w2.heap.size := by omega
          have hR2d : Rws w2.drew B (.slice A m c) rs := hR2.keep fun _ _ => rfl
          go_upto_region 5 with (fail)
          go_cut [34] (fun p wx => p = .bool true ∧ Below (w.heap.size + 3) wA wx)
          case first =>
            go_region_held3 (fun w' => w'.cell? ⟨w.heap.size, 0, none⟩ = some (.int .i64 b) ∧ w'.cell? ⟨w.heap.size, 1, none⟩ = some (.slice A m c) ∧ w'.cell? ⟨w.heap.size + 1, 0, none⟩ = some (.int .i64 b) ∧ w'.cell? ⟨w.heap.size + 1, 1, none⟩ = some (.slice A2 m2 c2))
              (first | go_keep | exact ⟨p0, p1, p2, p3⟩ | exact ⟨q0, q1, q2, q3⟩)
              (first
                | (go_at_call_of 21 (Value.agg #[.int .i64 b, .slice A m c]); refine (HLEN1.out w2.drew hR2d hBw).mono ?_; rintro e w3 ⟨rfl, hb3⟩; have hb13 := hb12.trans ((Below.refl w2.heap.size w2).drew.trans hb3 |>.mono hK2); obtain ⟨p0, p1, pf⟩ := two_in (box_at hb13 hab (by omega)); obtain ⟨p2, p3, pf2⟩ := two_in (box_at hb13 hbb (by omega)); have hS3 := hSA.below (hb13.mono (by omega)); have hB3 : B ≤ w3.heap.size := Nat.le_trans hBw hb3.size)
                | (go_at_call_of 21 (Value.agg #[.int .i64 b, .slice A2 m2 c2]); refine (HLEN2.out w3 hS3 hB3).mono ?_; rintro e w4 ⟨rfl, hb4⟩; have hb14 := hb13.trans (hb4.mono (by have := hb13.size; omega)); obtain ⟨q0, q1, qf⟩ := two_in (box_at hb14 hab (by omega)); obtain ⟨q2, q3, qf2⟩ := two_in (box_at hb14 hbb (by omega))))
            all_goals
              go_wp2_with fail
              go_meet
              case rel => exact ⟨by congr 1; rw [decide_eq_true_iff]; omega, hb14⟩
          case rest =>
            obtain ⟨rfl, hb2⟩ := hcut
            obtain ⟨r0, r1, rf⟩ := two_in (box_at hb2 hrb (by omega))
            go_wp2
            refine bodyPost_ret (results_two rfl _ _ (w.heap.size + 2) 26 #[.int .i64 0, .slice none 0 0] (0, 0) _ rfl (two_set (box_at hb2 hrb (by omega))) Try.underlying26 rfl (by kernel_rfl)) rfl ?_
            obtain ⟨q1, q2⟩ := box_done (x := 0) hbA hb2 hrb (by omega) (by omega) (RwG.nil _ _)
            exact ⟨_, _, _, _, rfl, q1, q2⟩
        · have hres : joinR b rs b2 ss = (0, [], 2) := by unfold joinR; rw [if_pos ⟨h1, h2⟩, if_neg h3]
          rw [hres]
          by_cases hbe : b = b2
          · have hll : rs.length ≠ ss.length := fun h => h3 ⟨hbe, h⟩
            have hbb1 : (b != b2) = false := by rw [hbe]; simp
            have hmm1 : ((rs.length : Int) != (ss.length : Int)) = true := by rw [bne_iff_ne]; omega
            generalize rs.length = m at *
            generalize ss.length = m2 at *
            clear hgood h1 h2 h3 hres hll hbe
            go_enter Try.func34, Try.ntmps34
            go_wp2_with fail
            rw [HWA.out]
            obtain ⟨x0, x1, xf⟩ := two_in hab
            go_wp2_with fail
            refine (HMAY1.out wA hRA (by omega)).mono ?_
            rintro e w1 ⟨rfl, hb1⟩
            rw [hsA] at hb1
            have hK1 := hb1.size
            rw [hsA] at hK1
            clear x0 x1 xf
            obtain ⟨y0, y1, yf⟩ := two_in (box_at hb1 hbb (by omega))
            have hS1 := hSA.below (hb1.mono (by omega))
            go_wp2_with fail
            refine (HMAY2.out w1 hS1 (by omega)).mono ?_
            rintro e w2 ⟨rfl, hb2⟩
            have hb12 := hb1.trans (hb2.mono hK1)
            have hK2 := hb12.size
            rw [hsA] at hK2
            clear y0 y1 yf hb1 hb2 hS1 hK1
            obtain ⟨x0, x1, xf⟩ := two_in (box_at hb12 hab (by omega))
            obtain ⟨y0, y1, yf⟩ := two_in (box_at hb12 hbb (by omega))
            obtain ⟨r0, r1, rf⟩ := two_in (box_at hb12 hrb (by omega))
            go_wp2
            refine bodyPost_ret (results_two rfl _ _ (w.heap.size + 2) 26 #[.int .i64 0, .slice none 0 0] (0, 0) _ rfl (two_set (box_at hb12 hrb (by omega))) Try.underlying26 rfl (by kernel_rfl)) rfl ?_
            obtain ⟨q1, q2⟩ := box_done (x := 0) hbA hb12 hrb (by omega) (by omega) (RwG.nil _ _)
            exact ⟨_, _, _, _, rfl, q1, q2⟩
          · have hbb1 : (b != b2) = true := by rw [bne_iff_ne]; exact hbe
            generalize rs.length = m at *
            generalize ss.length = m2 at *
            clear hgood h1 h2 h3 hres hbe
            go_enter Try.func34, Try.ntmps34
            go_wp2_with fail
            rw [HWA.out]
            obtain ⟨x0, x1, xf⟩ := two_in hab
            go_wp2_with fail
            refine (HMAY1.out wA hRA (by omega)).mono ?_
            rintro e w1 ⟨rfl, hb1⟩
            rw [hsA] at hb1
            have hK1 := hb1.size
            rw [hsA] at hK1
            clear x0 x1 xf
            obtain ⟨y0, y1, yf⟩ := two_in (box_at hb1 hbb (by omega))
            have hS1 := hSA.below (hb1.mono (by omega))
            go_wp2_with fail
            refine (HMAY2.out w1 hS1 (by omega)).mono ?_
            rintro e w2 ⟨rfl, hb2⟩
            have hb12 := hb1.trans (hb2.mono hK1)
            have hK2 := hb12.size
            rw [hsA] at hK2
            clear y0 y1 yf hb1 hb2 hS1 hK1
            obtain ⟨x0, x1, xf⟩ := two_in (box_at hb12 hab (by omega))
            obtain ⟨y0, y1, yf⟩ := two_in (box_at hb12 hbb (by omega))
            obtain ⟨r0, r1, rf⟩ := two_in (box_at hb12 hrb (by omega))
            go_wp2
            refine bodyPost_ret (results_two rfl _ _ (w.heap.size + 2) 26 #[.int .i64 0, .slice none 0 0] (0, 0) _ rfl (two_set (box_at hb12 hrb (by omega))) Try.underlying26 rfl (by kernel_rfl)) rfl ?_
            obtain ⟨q1, q2⟩ := box_done (x := 0) hbA hb12 hrb (by omega) (by omega) (RwG.nil _ _)
            exact ⟨_, _, _, _, rfl, q1, q2⟩
      · have hres : joinR b rs b2 ss = (0, [], 1) := by unfold joinR; rw [if_neg (fun h => h2 h.2)]
        rw [hres]
        rw [Bool.eq_false_iff.2 h2] at hmay2
        have HMAY2 := Lib.hid hmay2
        generalize rs.length = m at *
        generalize ss.length = m2 at *
        clear hgood h1 h2 hres hmay1 hmay2
        go_enter Try.func34, Try.ntmps34
        go_wp2_with fail
        rw [HWA.out]
        obtain ⟨x0, x1, xf⟩ := two_in hab
        go_wp2_with fail
        refine (HMAY1.out wA hRA (by omega)).mono ?_
        rintro e w1 ⟨rfl, hb1⟩
        rw [hsA] at hb1
        have hK1 := hb1.size
        rw [hsA] at hK1
        clear x0 x1 xf
        obtain ⟨y0, y1, yf⟩ := two_in (box_at hb1 hbb (by omega))
        have hS1 := hSA.below (hb1.mono (by omega))
        go_wp2_with fail
        refine (HMAY2.out w1 hS1 (by omega)).mono ?_
        rintro e w2 ⟨rfl, hb2⟩
        have hb12 := hb1.trans (hb2.mono hK1)
        have hK2 := hb12.size
        rw [hsA] at hK2
        clear y0 y1 yf hb1 hb2 hS1 hK1
        obtain ⟨r0, r1, rf⟩ := two_in (box_at hb12 hrb (by omega))
        go_wp2
        refine bodyPost_ret (results_two rfl _ _ (w.heap.size + 2) 26 #[.int .i64 0, .slice none 0 0] (0, 0) _ rfl (two_set (box_at hb12 hrb (by omega))) Try.underlying26 rfl (by kernel_rfl)) rfl ?_
        obtain ⟨q1, q2⟩ := box_done (x := 0) hbA hb12 hrb (by omega) (by omega) (RwG.nil _ _)
        exact ⟨_, _, _, _, rfl, q1, q2⟩
    · have hres : joinR b rs b2 ss = (0, [], 1) := by unfold joinR; rw [if_neg (fun h => h1 h.1)]
      rw [hres]
      rw [Bool.eq_false_iff.2 h1] at hmay1
      have HMAY1 := Lib.hid hmay1
      generalize rs.length = m at *
      generalize ss.length = m2 at *
      clear hgood h1 hres hmay1 hmay2
      go_enter Try.func34, Try.ntmps34
      go_wp2_with fail
      rw [HWA.out]
      obtain ⟨x0, x1, xf⟩ := two_in hab
      go_wp2_with fail
      refine (HMAY1.out wA hRA (by omega)).mono ?_
      rintro e w1 ⟨rfl, hb1⟩
      rw [hsA] at hb1
      have hK1 := hb1.size
      rw [hsA] at hK1
      clear x0 x1 xf
      obtain ⟨r0, r1, rf⟩ := two_in (box_at hb1 hrb (by omega))
      go_wp2
      refine bodyPost_ret (results_two rfl _ _ (w.heap.size + 2) 26 #[.int .i64 0, .slice none 0 0] (0, 0) _ rfl (two_set (box_at hb1 hrb (by omega))) Try.underlying26 rfl (by kernel_rfl)) rfl ?_
      obtain ⟨q1, q2⟩ := box_done (x := 0) hbA hb1 hrb (by omega) (by omega) (RwG.nil _ _)
      exact ⟨_, _, _, _, rfl, q1, q2⟩
end Go.Proofs.Ytfbhiaoodompdaa
