/- block: the reference's Cut. -/
import Derived.Test.YtfbhiaoodompdaaBloE
import Derived.Test.YtfbhiaoodompdaaBloH
import Derived.Deep.RegionLaw
namespace Go.Proofs.Ytfbhiaoodompdaa
open Go.RowKit
set_option maxRecDepth 100000
set_option maxHeartbeats 8000000

theorem cut_next {rs : List (List Int)} {F m j : Nat} (hj : j < rs.length) : (cutB rs F m).take j ++ [(rs[j].drop F).take m] = (cutB rs F m).take (j + 1) := by
  rw [List.take_add_one]
  congr 1
  simp [cutB, hj]
theorem qcutBk_any (b : Int) (v : Value) (rs : List (List Int)) (f t : Int) (w : World) (B : Nat) (hR : Rws w B v rs) (hB : B ≤ w.heap.size) :
    Calls Try.prog 32 #[.agg #[.int .i64 b, v], .agg #[.int .i64 f, .int .i64 t]] w (BkPost (cutR b rs f t) w) := by
  obtain ⟨A, c, rfl, hlc, hcm⟩ := hR.form
  obtain ⟨m, hm⟩ : ∃ m, rs.length = m := ⟨_, rfl⟩
  have hmay := fun (w1 : World) (h : Rws w1 B (.slice A rs.length c) rs) (h2 : B ≤ w1.heap.size) => qmayBk_any b _ rs w1 B h h2
  have hlen := fun (w1 : World) (h : Rws w1 B (.slice A rs.length c) rs) (h2 : B ≤ w1.heap.size) => qlenBk_any b _ rs w1 B h h2
  rw [hm] at hR hlc hmay hlen ⊢
  obtain ⟨wA, hwA, hsA, hbA, hbb, hsb, hrb⟩ := three_boxes w #[.int .i64 b, .slice A m c] #[.int .i64 f, .int .i64 t] #[.int .i64 0, .slice none 0 0] 26 48 26
  have hRA := hR.below (hbA.mono hB)
  have HWA := Lib.hid hwA
  clear hwA
  by_cases hmy : mayBk b rs = true
  · have M := mayBk_of hmy
    rw [hmy] at hmay
    obtain ⟨n, hn⟩ : ∃ n, lenB rs = n := ⟨_, rfl⟩
    rw [hn] at M hlen
    have hm8 := M.chans
    rw [hm] at hm8
    have hn8 := M.size
    have HMAY := Lib.hid hmay; have HLEN := Lib.hid hlen
    by_cases hft : 0 ≤ f ∧ f < t ∧ t ≤ (n : Nat)
    · obtain ⟨hf0, hft, htn⟩ := hft
      have hres : cutR b rs f t = (b, cutB rs f.toNat (t - f).toNat, 0) := by unfold cutR; rw [if_pos hmy, hn, if_pos ⟨hf0, hft, htn⟩]
      rw [hres]
      obtain ⟨F, rfl⟩ := Int.eq_ofNat_of_zero_le hf0
      obtain ⟨T, rfl⟩ := Int.eq_ofNat_of_zero_le (show 0 ≤ t by omega)
      rw [Int.toNat_natCast, show ((T : Int) - (F : Int)).toNat = T - F by omega]
      have HM := Lib.hid M; have HML := Lib.hid hm
      clear hmy M hmay hlen hn hm hres
      go_enter Try.func32, Try.ntmps32
      go_wp2_with fail
      rw [HWA.out]
      obtain ⟨x0, x1, xf⟩ := two_in hbb
      go_wp2_with fail
      refine (HMAY.out wA hRA (by omega)).mono ?_
      rintro e w1 ⟨rfl, hb1⟩
      rw [hsA] at hb1
      have hK1 := hb1.size
      rw [hsA] at hK1
      clear x0 x1 xf
      obtain ⟨x0, x1, xf⟩ := two_in (box_at hb1 hbb (by omega))
      obtain ⟨s0, s1, sf⟩ := two_in (box_at hb1 hsb (by omega))
      have hR1 := hRA.below (hb1.mono (by omega))
      have hBw : B ≤ w1.heap.size := by omega
      have hd3 : decide (T ≤ F) = false := by rw [decide_eq_false_iff_not]; omega
      have hd4 : decide (n < T) = false := by rw [decide_eq_false_iff_not]; omega
      go_upto_region 3 with (fail)
      go_cut [28] (fun p wx => p = .bool false ∧ Below (w.heap.size + 3) wA wx)
      case first =>
        go_region_with (go_at_call 21; refine (HLEN.out w1.drew (hR1.keep fun _ _ => rfl) hBw).mono ?_; rintro e w2 ⟨rfl, hb2⟩; have hb12 := hb1.trans ((Below.refl w1.heap.size w1).drew.trans hb2 |>.mono hK1); obtain ⟨y0, y1, yf⟩ := two_in (box_at hb12 hsb (by omega)))
        all_goals
          go_wp2_with fail
          go_meet
          case rel => exact ⟨rfl, hb12⟩
      case rest =>
        obtain ⟨rfl, hb2⟩ := hcut
        obtain ⟨w2, hw2⟩ : ∃ w2, w2 = wc := ⟨_, rfl⟩
        subst hw2
        have hK2 := hb2.size
        rw [hsA] at hK2
        clear x0 x1 xf s0 s1 sf hd3 hd4 hb1 hR1
        obtain ⟨x0, x1, xf⟩ := two_in (box_at hb2 hbb (by omega))
        have hbn := below_new w2 #[.int .i64 b, .slice none 0 0] 26
        have hbx0 := boxed w2 #[.int .i64 b, .slice none 0 0] 26
        have hb3 := hb2.trans (hbn.mono hK2)
        obtain ⟨gO, hgO⟩ : ∃ gO, w2.heap.size = gO := ⟨_, rfl⟩
        rw [hgO] at hbx0
        obtain ⟨w3, hw3⟩ : ∃ w3, w2.alloc (.cells #[.int .i64 b, .slice none 0 0] 26) = w3 := ⟨_, rfl⟩
        rw [hw3] at hbx0 hb3
        have hgK : w.heap.size + 3 ≤ gO := by omega
        have HGO := Lib.hid hgO; have HW3 := Lib.hid hw3
        clear hbn hK2 hgO hw3
        go_wp2
        rw [HW3.out, HGO.out]
        clear x0 x1 xf
        go_loopw [7] (fun jj wr => ∃ j : Nat, j ≤ m ∧ jj = .int .i64 j ∧ Below (w.heap.size + 3) wA wr ∧ ∃ At nt ct vs, wr.heap[gO]? = some (.cells #[.int .i64 b, .slice At nt ct] 26 (0, 0)) ∧ RwG wr (w.heap.size + 3) (.slice At nt ct) vs ((cutB rs F (T - F)).take j)) (fun jj _ => m - (intOf jj).toNat)
        case atStart => exact ⟨0, Nat.zero_le _, rfl, hb3, _, _, _, _, hbx0, by simpa using RwG.nil _ _⟩
        case round =>
          clear hb3 hbx0 hb2 HW3 HGO
          obtain ⟨j, hj, rfl, hb, At, nt, ct, vs, hbx, hRg⟩ := hrel
          have hKr := hb.size
          rw [hsA] at hKr
          obtain ⟨x0, x1, xf⟩ := two_in (box_at hb hbb (by omega))
          by_cases hjm : j < m
          · have hjl : j < rs.length := by rw [HML.out]; exact hjm
            obtain ⟨bq, oq, Aq, cq, rfl, hbq, hcell, hS, g1, g2⟩ := (hRA.below (hb.mono (by omega))).get hjl
            have hrn := HM.out.rows _ (List.getElem_mem hjl)
            have hct := cut_next (F := F) (m := T - F) hjl
            rw [hrn] at hcell hS g1
            have hFl : F < rs[j].length := by rw [hrn]; omega
            obtain ⟨b5, o5, rfl, hb5, hc5⟩ := hS.atI hFl
            have hSl := hS.mid2 F (T - F) (by omega)
            rw [ci_dropB] at hSl
            have hlen : (ci ((rs[j].drop F).take (T - F))).length ≤ 8796093022208 := by rw [ci_len, List.length_take]; omega
            generalize (rs[j].drop F).take (T - F) = cutr at *
            have HCT := Lib.hid hct; have HLEN2 := Lib.hid hlen
            clear hct hlen hrn hFl hc5 hS
            simp only [Option.map_some, Addr.add_lit] at hSl
            obtain ⟨q0, q1, qf⟩ := two_in hbx
            obtain ⟨s0, s1, sf⟩ := two_in (box_at hb hsb (by omega))
            have hvl : vs.length = j := by have h1 := hRg.len; rw [h1, List.length_take]; simp [cutB, HML.out]; omega
            have hrm : vs.length + 1 ≤ 1099511627776 := by omega
            have hz4 : gO < wr.heap.size := (Array.getElem?_eq_some_iff.1 hbx).1
            have hz6 : bq < wr.heap.size := by omega
            have HRG := Lib.hid hRg
            have hcF : ¬ cq = F := by omega
            have hq1 : (F : Int) ≤ (T : Int) := by omega
            have hq2 : (T : Int) ≤ (cq : Int) := by omega
            have hjI : (j : Int) < (m : Int) := by omega
            have hone := ci_one cutr
            have hBr : B ≤ wr.drew.heap.size := (show B ≤ wr.heap.size by omega)
            have HKEEP : Hid (∀ w' : World, Below wr.heap.size wr w' → (fun w' => w'.cell? ⟨w.heap.size, 1, none⟩ = some (.slice (some ⟨bq, oq, none⟩) m c) ∧ w'.cell? ⟨bq, oq + j, none⟩ = some (.slice (some ⟨b5, o5, none⟩) n cq) ∧ w'.cell? ⟨w.heap.size + 1, 0, none⟩ = some (.int .i64 (F : Nat)) ∧ w'.cell? ⟨w.heap.size + 1, 1, none⟩ = some (.int .i64 (T : Nat))) w') := Lib.hid fun w' h' => ⟨(h'.cell (p := ⟨w.heap.size, 1, none⟩) (show w.heap.size < wr.heap.size by omega)).trans x1, (h'.cell (p := ⟨bq, oq + j, none⟩) hz6).trans hcell, (h'.cell (p := ⟨w.heap.size + 1, 0, none⟩) (show w.heap.size + 1 < wr.heap.size by omega)).trans s0, (h'.cell (p := ⟨w.heap.size + 1, 1, none⟩) (show w.heap.size + 1 < wr.heap.size by omega)).trans s1⟩
            have HKEEP2 : Hid (∀ w' : World, Below (w.heap.size + 3) wA w' → (fun w' => w'.cell? ⟨w.heap.size, 1, none⟩ = some (.slice (some ⟨bq, oq, none⟩) m c) ∧ w'.cell? ⟨bq, oq + j, none⟩ = some (.slice (some ⟨b5, o5, none⟩) n cq) ∧ w'.cell? ⟨w.heap.size + 1, 0, none⟩ = some (.int .i64 (F : Nat)) ∧ w'.cell? ⟨w.heap.size + 1, 1, none⟩ = some (.int .i64 (T : Nat))) w') := Lib.hid fun w' h' => ⟨(h'.cell (p := ⟨w.heap.size, 1, none⟩) (show w.heap.size < w.heap.size + 3 by omega)).trans ((hb.cell (p := ⟨w.heap.size, 1, none⟩) (show w.heap.size < w.heap.size + 3 by omega)).symm.trans x1), (h'.cell (p := ⟨bq, oq + j, none⟩) (show bq < w.heap.size + 3 by omega)).trans ((hb.cell (p := ⟨bq, oq + j, none⟩) (show bq < w.heap.size + 3 by omega)).symm.trans hcell), (h'.cell (p := ⟨w.heap.size + 1, 0, none⟩) (show w.heap.size + 1 < w.heap.size + 3 by omega)).trans ((hb.cell (p := ⟨w.heap.size + 1, 0, none⟩) (show w.heap.size + 1 < w.heap.size + 3 by omega)).symm.trans s0), (h'.cell (p := ⟨w.heap.size + 1, 1, none⟩) (show w.heap.size + 1 < w.heap.size + 3 by omega)).trans ((hb.cell (p := ⟨w.heap.size + 1, 1, none⟩) (show w.heap.size + 1 < w.heap.size + 3 by omega)).symm.trans s1)⟩
            have HS1' := Lib.hid (HKEEP.out (wr.drew.alloc (.cells #[] 3)) ((Below.refl wr.heap.size wr).drew.trans (below_new wr.drew _ _)))
            have hq1' : (wr.drew.alloc (.cells #[] 3)).cell? ⟨gO, 1, none⟩ = some (.slice At nt ct) := (World.cell?_alloc_lt wr.drew _ _ hz4).trans q1
            have hb6A2 : Hid (∀ w' : World, Below wr.heap.size wr w' → Below (w.heap.size + 3) wA w') := Lib.hid fun w' h' => hb.trans (h'.mono hKr)
            clear hRg
            go_wp2_with fail
            refine wp_region_held_drew (S := fun w' => w'.cell? ⟨w.heap.size, 1, none⟩ = some (.slice (some ⟨bq, oq, none⟩) m c) ∧ w'.cell? ⟨bq, oq + j, none⟩ = some (.slice (some ⟨b5, o5, none⟩) n cq) ∧ w'.cell? ⟨w.heap.size + 1, 0, none⟩ = some (.int .i64 (F : Nat)) ∧ w'.cell? ⟨w.heap.size + 1, 1, none⟩ = some (.int .i64 (T : Nat))) (by kernel_rfl) ⟨x1, hcell, s0, s1⟩ (fun hHeld => ?_)
            refine wpAnyH_take (i := 0) (v := ?_) rfl (by kernel_rfl) (by kernel_rfl) (by kernel_rfl) (fun _ _ _ h => h) (Or.inl ⟨by rfl, ?_⟩) hHeld ?_
            rotate_left 1
            · (intro w' hSw; obtain ⟨s1, s2, s3, s4⟩ := hSw; go_simp; try with_reducible rfl)
            try simp only [Act.put, List.setIfInBounds_toArray, List.set_cons_zero, List.set_cons_succ]
            refine wpAnyH_take (i := 3) (v := ?_) rfl (by kernel_rfl) (by kernel_rfl) (by kernel_rfl) (fun _ _ _ h => h) (Or.inl ⟨by rfl, ?_⟩) hHeld ?_
            rotate_left 1
            · (intro w' hSw; obtain ⟨s1, s2, s3, s4⟩ := hSw; go_simp; try with_reducible rfl)
            try simp only [Act.put, List.setIfInBounds_toArray, List.set_cons_zero, List.set_cons_succ]
            refine wpAnyH_take (i := 4) (v := ?_) rfl (by kernel_rfl) (by kernel_rfl) (by kernel_rfl) (fun _ _ _ h => h) (Or.inl ⟨by rfl, ?_⟩) hHeld ?_
            rotate_left 1
            · (intro w' hSw; obtain ⟨s1, s2, s3, s4⟩ := hSw; go_simp; try with_reducible rfl)
            try simp only [Act.put, List.setIfInBounds_toArray, List.set_cons_zero, List.set_cons_succ]
            refine wpAnyH_take (i := 5) (v := ?_) rfl (by kernel_rfl) (by kernel_rfl) (by kernel_rfl) (fun _ _ _ h => h) (Or.inl ⟨by rfl, ?_⟩) hHeld ?_
            rotate_left 1
            · (intro w' hSw; obtain ⟨s1, s2, s3, s4⟩ := hSw; go_simp; try with_reducible rfl)
            try simp only [Act.put, List.setIfInBounds_toArray, List.set_cons_zero, List.set_cons_succ]
            refine wpAnyH_take (i := 6) (v := ?_) rfl (by kernel_rfl) (by kernel_rfl) (by kernel_rfl) (fun _ _ _ h => h) (Or.inl ⟨by rfl, ?_⟩) hHeld ?_
            rotate_left 1
            · (intro w' hSw; obtain ⟨s1, s2, s3, s4⟩ := hSw; go_simp; try with_reducible rfl)
            try simp only [Act.put, List.setIfInBounds_toArray, List.set_cons_zero, List.set_cons_succ]
            refine wpAnyH_take (i := 7) (v := ?_) rfl (by kernel_rfl) (by kernel_rfl) (by kernel_rfl) (fun _ _ _ h => h) (Or.inl ⟨by rfl, ?_⟩) hHeld ?_
            rotate_left 1
            · (intro w' hSw; obtain ⟨s1, s2, s3, s4⟩ := hSw; go_simp; try with_reducible rfl)
            try simp only [Act.put, List.setIfInBounds_toArray, List.set_cons_zero, List.set_cons_succ]
            refine wpAnyH_take (i := 8) (v := ?_) rfl (by kernel_rfl) (by kernel_rfl) (by kernel_rfl) (fun _ _ _ h => h) (Or.inl ⟨by rfl, ?_⟩) hHeld ?_
            rotate_left 1
            · (intro w' hSw; obtain ⟨s1, s2, s3, s4⟩ := hSw; go_simp; try with_reducible rfl)
            try simp only [Act.put, List.setIfInBounds_toArray, List.set_cons_zero, List.set_cons_succ]
            refine wpAnyH_take (i := 9) (v := ?_) rfl (by kernel_rfl) (by kernel_rfl) (by kernel_rfl) (fun _ _ _ h => h) (Or.inl ⟨by rfl, ?_⟩) hHeld ?_
            rotate_left 1
            · (intro w' hSw; obtain ⟨s1, s2, s3, s4⟩ := hSw; go_simp; try with_reducible rfl)
            try simp only [Act.put, List.setIfInBounds_toArray, List.set_cons_zero, List.set_cons_succ]
            refine wpAnyH_take (i := 10) (v := ?_) rfl (by kernel_rfl) (by kernel_rfl) (by kernel_rfl) (fun _ _ _ h => h) (Or.inl ⟨by rfl, ?_⟩) hHeld ?_
            rotate_left 1
            · (intro w' hSw; obtain ⟨s1, s2, s3, s4⟩ := hSw; go_simp; try with_reducible rfl)
            try simp only [Act.put, List.setIfInBounds_toArray, List.set_cons_zero, List.set_cons_succ]
            refine wpAnyH_take (i := 11) (v := ?_) rfl (by kernel_rfl) (by kernel_rfl) (by kernel_rfl) (fun _ _ _ h => h) (Or.inl ⟨by rfl, ?_⟩) hHeld ?_
            rotate_left 1
            · (intro w' hSw; obtain ⟨s1, s2, s3, s4⟩ := hSw; go_simp; try with_reducible rfl)
            try simp only [Act.put, List.setIfInBounds_toArray, List.set_cons_zero, List.set_cons_succ]
            refine wpAnyH_take (i := 12) (v := ?_) rfl (by kernel_rfl) (by kernel_rfl) (by kernel_rfl) (fun _ _ _ h => h) (Or.inl ⟨by rfl, ?_⟩) hHeld ?_
            rotate_left 1
            · (intro w' hSw; obtain ⟨s1, s2, s3, s4⟩ := hSw; go_simp; try with_reducible rfl)
            try simp only [Act.put, List.setIfInBounds_toArray, List.set_cons_zero, List.set_cons_succ]
            refine wpAnyH_ready (rs := [1, 2]) (by kernel_rfl) (by simp) ?_
            refine AllReadyH.cons rfl (fun K hK => ?way1) (AllReadyH.cons rfl (fun K hK => ?way2) AllReadyH.nil)
            case' way1 =>
              go_simp
              refine hK.out _ _ hHeld (fun hHeld => ?_)
              clear hK K
              try simp only [Act.put, List.setIfInBounds_toArray, List.set_cons_zero, List.set_cons_succ]
              refine wpAnyH_ready (rs := [2]) (by kernel_rfl) (by simp) ?_
              refine AllReadyH.cons rfl (fun K hK => ?_) AllReadyH.nil
              go_simp
              refine hK.out _ _ HS1'.out (fun hHeld => ?_)
              clear hK K
              try simp only [Act.put, List.setIfInBounds_toArray, List.set_cons_zero, List.set_cons_succ]
              refine wpAnyH_ready (rs := [13]) (by kernel_rfl) (by simp) ?_
              refine AllReadyH.cons rfl (fun K hK => ?_) AllReadyH.nil
              refine step_copy (w := wr.drew) (show Sli wr.drew B _ (ci cutr) from hSl) hBr HLEN2.out Try.underlying37 info_int rfl (by decide) hone rfl rfl rfl rfl (h := ?_)
              intro v6 w6 ho6 hb6
              obtain ⟨A6, n6, k6, rfl⟩ := ho6.shape
              have hb6w : Below wr.heap.size wr w6 := (Below.refl wr.heap.size wr).drew.trans hb6
              have hs6 := HKEEP.out w6 hb6w
              have hq6 : w6.cell? ⟨gO, 1, none⟩ = some (.slice At nt ct) := (hb6w.cell (p := ⟨gO, 1, none⟩) hz4).trans q1
              refine hK.out _ _ hs6 (fun hHeld => ?_)
              clear hK K
              try simp only [Act.put, List.setIfInBounds_toArray, List.set_cons_zero, List.set_cons_succ]
              refine wpAnyH_ready (rs := [14]) (by kernel_rfl) (by simp) ?_
              refine AllReadyH.cons rfl (fun K hK => ?_) AllReadyH.nil
              go_simp
              have hb6y : Below wr.heap.size wr (w6.alloc (.cells #[.slice A6 n6 k6] 37)) := hb6w.trans ((below_new w6 _ _).mono hb6w.size)
              have hs8 := HKEEP.out _ hb6y
              have hq8 : (w6.alloc (.cells #[.slice A6 n6 k6] 37)).cell? ⟨gO, 1, none⟩ = some (.slice At nt ct) := (hb6y.cell (p := ⟨gO, 1, none⟩) hz4).trans q1
              refine hK.out _ _ hs8 (fun hHeld => ?_)
              clear hK K
              try simp only [Act.put, List.setIfInBounds_toArray, List.set_cons_zero, List.set_cons_succ]
            case' way2 =>
              go_simp
              refine hK.out _ _ HS1'.out (fun hHeld => ?_)
              clear hK K
              try simp only [Act.put, List.setIfInBounds_toArray, List.set_cons_zero, List.set_cons_succ]
              refine wpAnyH_ready (rs := [1, 13]) (by kernel_rfl) (by simp) ?_
              refine AllReadyH.cons rfl (fun K hK => ?way3) (AllReadyH.cons rfl (fun K hK => ?way4) AllReadyH.nil)
              case' way3 =>
                go_simp
                refine hK.out _ _ hHeld (fun hHeld => ?_)
                clear hK K
                try simp only [Act.put, List.setIfInBounds_toArray, List.set_cons_zero, List.set_cons_succ]
                refine wpAnyH_ready (rs := [13]) (by kernel_rfl) (by simp) ?_
                refine AllReadyH.cons rfl (fun K hK => ?_) AllReadyH.nil
                refine step_copy (w := wr.drew) (show Sli wr.drew B _ (ci cutr) from hSl) hBr HLEN2.out Try.underlying37 info_int rfl (by decide) hone rfl rfl rfl rfl (h := ?_)
                intro v6 w6 ho6 hb6
                obtain ⟨A6, n6, k6, rfl⟩ := ho6.shape
                have hb6w : Below wr.heap.size wr w6 := (Below.refl wr.heap.size wr).drew.trans hb6
                have hs6 := HKEEP.out w6 hb6w
                have hq6 : w6.cell? ⟨gO, 1, none⟩ = some (.slice At nt ct) := (hb6w.cell (p := ⟨gO, 1, none⟩) hz4).trans q1
                refine hK.out _ _ hs6 (fun hHeld => ?_)
                clear hK K
                try simp only [Act.put, List.setIfInBounds_toArray, List.set_cons_zero, List.set_cons_succ]
                refine wpAnyH_ready (rs := [14]) (by kernel_rfl) (by simp) ?_
                refine AllReadyH.cons rfl (fun K hK => ?_) AllReadyH.nil
                go_simp
                have hb6y : Below wr.heap.size wr (w6.alloc (.cells #[.slice A6 n6 k6] 37)) := hb6w.trans ((below_new w6 _ _).mono hb6w.size)
                have hs8 := HKEEP.out _ hb6y
                have hq8 : (w6.alloc (.cells #[.slice A6 n6 k6] 37)).cell? ⟨gO, 1, none⟩ = some (.slice At nt ct) := (hb6y.cell (p := ⟨gO, 1, none⟩) hz4).trans q1
                refine hK.out _ _ hs8 (fun hHeld => ?_)
                clear hK K
                try simp only [Act.put, List.setIfInBounds_toArray, List.set_cons_zero, List.set_cons_succ]
              case' way4 =>
                refine step_copy (w := wr.drew) (show Sli wr.drew B _ (ci cutr) from hSl) hBr HLEN2.out Try.underlying37 info_int rfl (by decide) hone rfl rfl rfl rfl (h := ?_)
                intro v6 w6 ho6 hb6
                obtain ⟨A6, n6, k6, rfl⟩ := ho6.shape
                have hb6w : Below wr.heap.size wr w6 := (Below.refl wr.heap.size wr).drew.trans hb6
                have hs6 := HKEEP.out w6 hb6w
                have hq6 : w6.cell? ⟨gO, 1, none⟩ = some (.slice At nt ct) := (hb6w.cell (p := ⟨gO, 1, none⟩) hz4).trans q1
                refine hK.out _ _ hs6 (fun hHeld => ?_)
                clear hK K
                try simp only [Act.put, List.setIfInBounds_toArray, List.set_cons_zero, List.set_cons_succ]
                refine wpAnyH_ready (rs := [1, 14]) (by kernel_rfl) (by simp) ?_
                refine AllReadyH.cons rfl (fun K hK => ?way5) (AllReadyH.cons rfl (fun K hK => ?way6) AllReadyH.nil)
                case' way5 =>
                  go_simp
                  refine hK.out _ _ hHeld (fun hHeld => ?_)
                  clear hK K
                  try simp only [Act.put, List.setIfInBounds_toArray, List.set_cons_zero, List.set_cons_succ]
                  refine wpAnyH_ready (rs := [14]) (by kernel_rfl) (by simp) ?_
                  refine AllReadyH.cons rfl (fun K hK => ?_) AllReadyH.nil
                  go_simp
                  have hb6y : Below wr.heap.size wr (w6.alloc (.cells #[.slice A6 n6 k6] 37)) := hb6w.trans ((below_new w6 _ _).mono hb6w.size)
                  have hs8 := HKEEP.out _ hb6y
                  have hq8 : (w6.alloc (.cells #[.slice A6 n6 k6] 37)).cell? ⟨gO, 1, none⟩ = some (.slice At nt ct) := (hb6y.cell (p := ⟨gO, 1, none⟩) hz4).trans q1
                  refine hK.out _ _ hs8 (fun hHeld => ?_)
                  clear hK K
                  try simp only [Act.put, List.setIfInBounds_toArray, List.set_cons_zero, List.set_cons_succ]
                case' way6 =>
                  go_simp
                  have hb6y : Below wr.heap.size wr (w6.alloc (.cells #[.slice A6 n6 k6] 37)) := hb6w.trans ((below_new w6 _ _).mono hb6w.size)
                  have hs8 := HKEEP.out _ hb6y
                  have hq8 : (w6.alloc (.cells #[.slice A6 n6 k6] 37)).cell? ⟨gO, 1, none⟩ = some (.slice At nt ct) := (hb6y.cell (p := ⟨gO, 1, none⟩) hz4).trans q1
                  refine hK.out _ _ hs8 (fun hHeld => ?_)
                  clear hK K
                  try simp only [Act.put, List.setIfInBounds_toArray, List.set_cons_zero, List.set_cons_succ]
                  refine wpAnyH_ready (rs := [1]) (by kernel_rfl) (by simp) ?_
                  refine AllReadyH.cons rfl (fun K hK => ?_) AllReadyH.nil
                  go_simp
                  refine hK.out _ _ hHeld (fun hHeld => ?_)
                  clear hK K
                  try simp only [Act.put, List.setIfInBounds_toArray, List.set_cons_zero, List.set_cons_succ]
            all_goals
              have hRy := HRG.out
              refine wpAnyH_ready (rs := [15]) (by kernel_rfl) (by simp) ?_
              refine AllReadyH.cons rfl (fun K hK => ?_) AllReadyH.nil
              refine step_pushS (w := w6) (u := .slice A6 n6 k6) (show Own w6 (w.heap.size + 3) 37 (.slice At nt ct) vs from HRG.out.top.kept hb6w) (Nat.le_trans hKr hb6w.size) hrm Try.underlying24 info_sIntB rfl (by decide) rfl rfl rfl rfl rfl (h := ?_)
              intro v7 w7 ho7 hm7
              obtain ⟨A7, n7, k7, rfl⟩ := ho7.shape
              have hb7A := hb6A2.out w6 hb6w |>.trans (Mov.belowK hm7 (fun k hk => (HRG.out.top.lt k hk).1) (Nat.le_trans hKr hb6w.size))
              have hb7B : w7.heap[gO]? = some (.cells #[.int .i64 b, .slice At nt ct] 26 (0, 0)) := ((hm7 (gO + 1)).block gO (Nat.lt_of_lt_of_le hz4 hb6w.size) (by omega) ((HRG.out.top.kept hb6w).ne ((hb6w.block gO hz4).trans hbx) (by decide))).trans ((hb6w.block gO hz4).trans hbx)
              obtain ⟨t0, t1, tf⟩ := two_in hb7B
              have hR7 := HRG.out.push hKr hb6w (show Own w6 wr.heap.size 3 (.slice A6 n6 k6) (ci cutr) from ho6) ho7 hm7
              have hs9 := HKEEP2.out w7 hb7A
              have hR9 := hR7.far hb7B (by decide) (by decide) (grown_set w7 gO 1 (.slice A7 n7 k7))
              have hb9 := hb7A.setCell (p := ⟨gO, 1, none⟩) (by omega) (.slice A7 n7 k7)
              have hbx9 := heap_setCell_same w7 gO 1 _ _ (.slice A7 n7 k7) hb7B
              have hs10 := HKEEP2.out _ hb9
              rw [HCT.out] at hR9
              have HR9 := Lib.hid hR9; have HB9 := Lib.hid hb9; have HBX9 := Lib.hid hbx9; have HS10 := Lib.hid hs10
              clear hR9 hb9 hbx9 hR7 hb7A hb7B hs10 hRy
              refine hK.out _ _ hs9 (fun hHeld => ?_)
              clear hK K
              try simp only [Act.put, List.setIfInBounds_toArray, List.set_cons_zero, List.set_cons_succ]
              refine wpAnyH_take (i := 16) (v := ?_) rfl (by kernel_rfl) (by kernel_rfl) (by kernel_rfl) (fun _ _ _ h => h) (Or.inl ⟨by rfl, ?_⟩) hHeld ?_
              rotate_left 1
              · (intro w' hSw; obtain ⟨s1, s2, s3, s4⟩ := hSw; go_simp; try with_reducible rfl)
              try simp only [Act.put, List.setIfInBounds_toArray, List.set_cons_zero, List.set_cons_succ]
              refine wpAnyH_ready (rs := [17]) (by kernel_rfl) (by simp) ?_
              refine AllReadyH.cons rfl (fun K hK => ?_) AllReadyH.nil
              go_simp
              refine hK.out _ _ HS10.out (fun hHeld => ?_)
              clear hK K hHeld
              try simp only [Act.put, List.setIfInBounds_toArray, List.set_cons_zero, List.set_cons_succ]
              refine wpAnyH_done (by kernel_rfl) ?_ _
              clear t0 t1 tf hs9 x1 hcell s0 s1 q0 q1 qf
              go_wp2_with fail
              exact ⟨⟨j + 1, by omega, by simp, HB9.out, ⟨_, _, _, _, HBX9.out, HR9.out⟩⟩, by simp [intOf]; omega⟩
          · have hjj : j = m := by omega
            rw [hjj, List.take_of_length_le (by simp [cutB, HML.out])] at hRg
            obtain ⟨q0, q1, qf⟩ := two_in hbx
            obtain ⟨r0, r1, rf⟩ := two_in (box_at hb hrb (by omega))
            go_wp2
            refine bodyPost_ret (results_two rfl _ _ (w.heap.size + 2) 26 #[.int .i64 b, .slice At nt ct] (0, 0) _ rfl (two_set (box_at hb hrb (by omega))) Try.underlying26 rfl (by kernel_rfl)) rfl ?_
            obtain ⟨e1, e2⟩ := box_done (x := b) hbA hb hrb (by omega) (by omega) hRg
            exact ⟨_, _, _, _, rfl, e1, e2⟩
    · have hres : cutR b rs f t = (0, [], 6) := by unfold cutR; rw [if_pos hmy, hn, if_neg hft]
      rw [hres]
      clear hmy M hmay hlen hn hm hres
      go_enter Try.func32, Try.ntmps32
      go_wp2_with fail
      rw [HWA.out]
      obtain ⟨x0, x1, xf⟩ := two_in hbb
      go_wp2_with fail
      refine (HMAY.out wA hRA (by omega)).mono ?_
      rintro e w1 ⟨rfl, hb1⟩
      rw [hsA] at hb1
      have hK1 := hb1.size
      rw [hsA] at hK1
      clear x0 x1 xf
      obtain ⟨x0, x1, xf⟩ := two_in (box_at hb1 hbb (by omega))
      obtain ⟨s0, s1, sf⟩ := two_in (box_at hb1 hsb (by omega))
      have hR1 := hRA.below (hb1.mono (by omega))
      have hBw : B ≤ w1.heap.size := by omega
      go_upto_region 3 with (fail)
      go_cut [28] (fun p wx => p = .bool true ∧ Below (w.heap.size + 3) wA wx)
      case first =>
        by_cases hf0 : f < 0
        · have hd1 : decide (f < 0) = true := decide_eq_true hf0
          go_wp2_with fail
          go_quiet (fail)
          go_wp2_with fail
          go_meet
          case rel => exact ⟨rfl, below_drewN hb1 _⟩
        · have hd1 : decide (f < 0) = false := decide_eq_false hf0
          by_cases hft2 : t ≤ f
          · have hd2 : decide (t ≤ f) = true := decide_eq_true hft2
            go_wp2_with fail
            go_quiet (fail)
            go_wp2_with fail
            go_meet
            case rel => exact ⟨rfl, below_drewN hb1 _⟩
          · have hd2 : decide (t ≤ f) = false := decide_eq_false hft2
            have hd3 : decide ((n : Int) < t) = true := decide_eq_true (by omega)
            go_region_with (go_at_call 21; refine (HLEN.out w1.drew (hR1.keep fun _ _ => rfl) hBw).mono ?_; rintro e w2 ⟨rfl, hb2⟩; have hb12 := hb1.trans ((Below.refl w1.heap.size w1).drew.trans hb2 |>.mono hK1); obtain ⟨y0, y1, yf⟩ := two_in (box_at hb12 hsb (by omega)))
            all_goals
              go_wp2_with fail
              go_meet
              case rel => exact ⟨rfl, hb12⟩
      case rest =>
        obtain ⟨rfl, hb2⟩ := hcut
        obtain ⟨r0, r1, rf⟩ := two_in (box_at hb2 hrb (by omega))
        go_wp2
        refine bodyPost_ret (results_two rfl _ _ (w.heap.size + 2) 26 #[.int .i64 0, .slice none 0 0] (0, 0) _ rfl (two_set (box_at hb2 hrb (by omega))) Try.underlying26 rfl (by kernel_rfl)) rfl ?_
        obtain ⟨q1, q2⟩ := box_done (x := 0) hbA hb2 hrb (by omega) (by omega) (RwG.nil _ _)
        exact ⟨_, _, _, _, rfl, q1, q2⟩
  · have hres : cutR b rs f t = (0, [], 1) := by unfold cutR; rw [if_neg hmy]
    rw [hres]
    rw [Bool.eq_false_iff.2 hmy] at hmay
    have HMAY := Lib.hid hmay
    clear hmy hmay hlen hm hres
    go_enter Try.func32, Try.ntmps32
    go_wp2_with fail
    rw [HWA.out]
    obtain ⟨x0, x1, xf⟩ := two_in hbb
    go_wp2_with fail
    refine (HMAY.out wA hRA (by omega)).mono ?_
    rintro e w1 ⟨rfl, hb1⟩
    rw [hsA] at hb1
    clear x0 x1 xf
    obtain ⟨r0, r1, rf⟩ := two_in (box_at hb1 hrb (by omega))
    go_wp2
    refine bodyPost_ret (results_two rfl _ _ (w.heap.size + 2) 26 #[.int .i64 0, .slice none 0 0] (0, 0) _ rfl (two_set (box_at hb1 hrb (by omega))) Try.underlying26 rfl (by kernel_rfl)) rfl ?_
    obtain ⟨q1, q2⟩ := box_done (x := 0) hbA hb1 hrb (by omega) (by omega) (RwG.nil _ _)
    exact ⟨_, _, _, _, rfl, q1, q2⟩
end Go.Proofs.Ytfbhiaoodompdaa
