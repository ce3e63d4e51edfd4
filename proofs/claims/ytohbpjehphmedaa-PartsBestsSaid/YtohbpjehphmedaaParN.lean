/- parts: Best. -/
import Derived.Test.YtohbpjehphmedaaParB
namespace Go.Proofs.Ytohbpjehphmedaa
open Go.RowKit
set_option maxRecDepth 100000
set_option maxHeartbeats 3200000

theorem bestO_succ (n warm : Int) (l : List Int) (m : Nat) : bestO n warm l (m + 1) = if planB ((m + 1 : Nat) : Int) n warm = true ∧ bestC n warm l (m + 1) < bestC n warm l (bestO n warm l m) then m + 1 else bestO n warm l m := rfl
/-- Best: order, Ks, error. -/
def bestR (n warm most : Int) (l : List Int) : Int × List Int × Int :=
  if rowB n warm = true ∧ rowOkB n warm l = true then (((bestO n warm l (mostN most) : Nat) : Int), bestKs (bestO n warm l (mostN most) : Nat) n warm l, 0) else (0, [], 1)
def BestPost (r : Int × List Int × Int) (w : World) (e : Ending) (w' : World) : Prop :=
  ∃ kv, e = .returned (.tuple #[.agg #[.int .i64 r.1, kv], .int .i64 r.2.2]) ∧ Own w' w.heap.size 3 kv (ci r.2.1) ∧ Below w.heap.size w w'
/-- The best of the orders below q: order, Ks, cost. -/
def soFar (n warm : Int) (l : List Int) : Nat → Int × List Int × Int
  | 0 => (0, [], 9223372036854775807)
  | q + 1 => (((bestO n warm l q : Nat) : Int), bestKs (bestO n warm l q : Nat) n warm l, ((bestC n warm l (bestO n warm l q) : Nat) : Int))
theorem soFar_no {n warm : Int} {l : List Int} {q : Nat} (hrow : rowB n warm = true) (h : ¬ planB (q : Int) n warm = true) : soFar n warm l (q + 1) = soFar n warm l q := by
  rcases q with _ | q
  · exact absurd (plan0 hrow) h
  · simp only [soFar, bestO_succ]
    rw [if_neg fun h2 => h h2.1]
theorem soFar_yes {n warm : Int} {l : List Int} {q : Nat} (h : planB (q : Int) n warm = true) (hc : bestC n warm l q ≤ 70000000) : soFar n warm l (q + 1) = if ((bestC n warm l q : Nat) : Int) < (soFar n warm l q).2.2 then ((q : Int), bestKs (q : Nat) n warm l, ((bestC n warm l q : Nat) : Int)) else soFar n warm l q := by
  by_cases h2 : ((bestC n warm l q : Nat) : Int) < (soFar n warm l q).2.2
  · rw [if_pos h2]
    rcases q with _ | q
    · rfl
    · have h3 : bestC n warm l (q + 1) < bestC n warm l (bestO n warm l q) := by
        have h4 : ((bestC n warm l (q + 1) : Nat) : Int) < ((bestC n warm l (bestO n warm l q) : Nat) : Int) := h2
        omega
      show (((bestO n warm l (q + 1) : Nat) : Int), bestKs (bestO n warm l (q + 1) : Nat) n warm l, ((bestC n warm l (bestO n warm l (q + 1)) : Nat) : Int)) = _
      rw [bestO_succ, if_pos ⟨h, h3⟩]
  · rw [if_neg h2]
    rcases q with _ | q
    · exact absurd (show ((bestC n warm l 0 : Nat) : Int) < 9223372036854775807 by omega) h2
    · have h3 : ¬ bestC n warm l (q + 1) < bestC n warm l (bestO n warm l q) := fun h4 => by
        have h5 : ((bestC n warm l (q + 1) : Nat) : Int) < ((bestC n warm l (bestO n warm l q) : Nat) : Int) := by omega
        exact h2 h5
      show (((bestO n warm l (q + 1) : Nat) : Int), bestKs (bestO n warm l (q + 1) : Nat) n warm l, ((bestC n warm l (bestO n warm l (q + 1)) : Nat) : Int)) = _
      rw [bestO_succ, if_neg fun h4 => h3 h4.2]
      rfl
theorem best_any2 (n warm most : Int) (va : Value) (l : List Int) (w : World) (B : Nat) (hS : Sli w B va (ci l)) (hB : B ≤ w.heap.size) (hl : l.length ≤ 1099511627776) :
    Calls Try.prog 36 #[.int .i64 n, .int .i64 warm, .int .i64 most, va] w (BestPost (bestR n warm most l) w) := by
  have hi := fun w => isRow_any n warm w
  have hb0 := below_box w (.int .i64 0) (.slice none 0 0) 24
  have hbx0 := box_new w (.int .i64 0) (.slice none 0 0) 24
  obtain ⟨q0, q1, hq⟩ := blk2 hbx0
  obtain ⟨wA, hwA⟩ : ∃ wA, w.alloc (.cells #[.int .i64 0, .slice none 0 0] 24) = wA := ⟨_, rfl⟩
  have HWA := Lib.hid hwA
  rw [hwA] at hb0 hbx0 q0 q1 hq
  clear hwA
  have hltA := (Array.getElem?_eq_some_iff.1 hbx0).1
  obtain ⟨A2, c2, rfl, hlc2, hcm2⟩ := hS.formI
  by_cases hrow : rowB n warm = true
  · obtain ⟨r1, r2, r3, r4⟩ := rowB_iff.1 hrow
    have har := areRes_any _ l n warm wA B (hS.below (hb0.mono hB)) hl r1 r2 r3 r4
    rw [hrow] at hi
    by_cases hr : rowOkB n warm l = true
    · have hres : bestR n warm most l = ((soFar n warm l (mostN most + 1)).1, (soFar n warm l (mostN most + 1)).2.1, 0) := by unfold bestR; rw [if_pos ⟨hrow, hr⟩]; rfl
      rw [hres]
      rw [hr] at har
      have hmax : max most 0 = ((max most 0).toNat : Nat) := by omega
      have hmin : min (((max most 0).toNat : Nat) : Int) 8 = (mostN most : Nat) := by unfold mostN; omega
      have hM8 : mostN most ≤ 8 := by unfold mostN; omega
      generalize (max most 0).toNat = X at *
      generalize mostN most = M at *
      have hr2 := hr
      rw [rowOkB, Bool.and_eq_true, decide_eq_true_eq] at hr2
      have hl4096 : l.length ≤ 4096 := by omega
      have hno := fun q => @soFar_no n warm l q hrow
      have hyes := fun (q : Nat) (hp : planB (q : Int) n warm = true) => @soFar_yes n warm l q hp (by rw [← bestC_cost hp hr]; exact costP_le _ _ _ _ _)
      have hsz := fun (q : Nat) (hq : q ≤ 8) w => sizes_any (q : Int) n warm w (by omega) (by omega)
      have hsp := fun (q : Nat) (hp : planB (q : Int) n warm = true) (w1 : World) (v1 : Value) (B1 : Nat) (h1 : Sli w1 B (.slice A2 l.length c2) (ci l)) (hBw : B ≤ w1.heap.size) (h2 : Sli w1 B1 v1 (ci (sizesI q n warm))) (hBw2 : B1 ≤ w1.heap.size) =>
        split_any _ v1 l (sizesN q n warm) w1 B B1 h1 hBw h2 hBw2 hl (by rw [sizesN_len hp]; have := two_256 hp; omega) (by have := sizesN_sum hp; omega)
      have hple : ∀ (ks : List Int) (ss : List Nat) i, ks.length ≤ 256 → planCost (ks.take i) ((cuts ss l).take i) ≤ 68400000 := fun ks ss i hk => by
        have h1 := planCost_le (M := 4096) (ks.take i) ((cuts ss l).take i) fun p hp => by have := mem_take_cuts p hp; omega
        have h2 : (ks.take i).length * (10 + 65 * 4096) ≤ 256 * (10 + 65 * 4096) := Nat.mul_le_mul_right _ (by rw [List.length_take]; omega)
        omega
      have hmx : max most 0 = (X : Nat) := hmax
      have hSF0 : soFar n warm l 0 = (0, [], 9223372036854775807) := rfl
      obtain ⟨SF, hSF⟩ : ∃ SF, soFar n warm l = SF := ⟨_, rfl⟩
      rw [hSF] at hno hyes hSF0 ⊢
      have HSF0 := Lib.hid hSF0
      clear hSF hSF0
      have HI := Lib.hid hi; have HAR := Lib.hid har; have HNO := Lib.hid hno; have HYES := Lib.hid hyes; have HSZ := Lib.hid hsz; have HSP := Lib.hid hsp; have HPLE := Lib.hid hple; have HS := Lib.hid hS
      clear hi har hno hyes hsz hsp hple hS hres hr hr2 hrow hmx
      go_enter Try.func36, Try.ntmps36
      go_wp2_with fail
      rw [HWA.out]
      refine (HI.out _).mono ?_
      rintro e w1 ⟨rfl, rfl⟩
      go_wp2_with fail
      refine HAR.out.mono ?_
      rintro e w1 ⟨rfl, rfl⟩
      go_wp2
      have hQ0 : w.heap.size ≤ wA.heap.size := hb0.size
      have hbB := hb0.trans ((below_box wA (.int .i64 0) (.slice none 0 0) 24).mono hb0.size)
      have hQB := box_new wA (.int .i64 0) (.slice none 0 0) 24
      have hRB := ((below_box wA (.int .i64 0) (.slice none 0 0) 24).block w.heap.size hltA).trans hbx0
      clear q0 q1 hq HAR HI hmin hmax
      obtain ⟨Q, hQ⟩ : ∃ Q, wA.heap.size = Q := ⟨_, rfl⟩
      have HQ := Lib.hid hQ
      obtain ⟨wB, hwB⟩ : ∃ wB, wA.alloc (.cells #[.int .i64 0, .slice none 0 0] 24) = wB := ⟨_, rfl⟩
      rw [hwB] at hbB hQB hRB ⊢
      rw [hQ] at hQB hQ0 hltA ⊢
      clear hwB hQ
      go_loopw [11, 35] (fun le ii wr => ∃ (q : Nat) (bv : Value), q ≤ M + 1 ∧ ii = .int .i64 q ∧ le = .int .i64 (SF q).2.2 ∧ Own wr w.heap.size 3 bv (ci (SF q).2.1) ∧ wr.heap[Q]? = some (.cells #[.int .i64 (SF q).1, bv] 24 (0, 0)) ∧ wr.heap[w.heap.size]? = some (.cells #[.int .i64 0, .slice none 0 0] 24 (0, 0)) ∧ Below w.heap.size w wr) (fun _ ii _ => M + 1 - (intOf ii).toNat)
      case atStart => exact ⟨0, .slice none 0 0, by omega, rfl, by rw [HSF0.out], by rw [HSF0.out]; exact Own.nil _ _ _, by rw [HSF0.out]; exact hQB, hRB, hbB⟩
      case round =>
        clear hbB hQB hRB
        obtain ⟨q, bv, hq, rfl, rfl, hbo, hbQ, hbR, hbw⟩ := hrel
        obtain ⟨bA, bn, bc, rfl⟩ := hbo.shape
        have hsw := hbw.size
        by_cases hqM : q < M + 1
        · go_wp2_with fail
          refine (HSZ.out q (by omega) _).mono ?_
          rintro e w2 ⟨v2, rfl, hso, hb2⟩
          have hb02 := bthen hbw hb2 hsw
          have hbo2 := hbo.kept hb2
          have hbQ2 := (hb2.block Q (Array.getElem?_eq_some_iff.1 hbQ).1).trans hbQ
          have hbR2 := (hb2.block w.heap.size (Array.getElem?_eq_some_iff.1 hbR).1).trans hbR
          have hsz2 : w.heap.size ≤ w2.heap.size := hb02.size
          by_cases hp : planB (q : Int) n warm = true
          · have h256 := two_256 hp
            have hsn := sizesN_len hp
            have hY := HYES.out q hp
            have hsp := HSP.out q hp
            rw [show sizesI (q : Int) n warm = ints (sizesN (q : Int) n warm) from rfl] at hso hsp
            have hcl : (cuts (sizesN (q : Int) n warm) l).length = 2 ^ (q : Int).toNat := by rw [cuts_len, hsn]
            have hbk : bestKs (q : Nat) n warm l = (cuts (sizesN (q : Int) n warm) l).map bestK := rfl
            have hbc : bestC n warm l q = 4 + planCost ((cuts (sizesN (q : Int) n warm) l).map bestK) (cuts (sizesN (q : Int) n warm) l) := rfl
            have hple := fun i => HPLE.out ((cuts (sizesN (q : Int) n warm) l).map bestK) (sizesN (q : Int) n warm) i (by rw [List.length_map, hcl]; omega)
            have hpart : ∀ p ∈ cuts (sizesN (q : Int) n warm) l, p.length ≤ 4096 := fun p hp => by have := cuts_part_le hp; omega
            rw [hbk] at hY
            rw [hbc] at hY
            generalize cuts (sizesN (q : Int) n warm) l = ps at *
            generalize sizesN (q : Int) n warm = ss at *
            generalize 2 ^ (q : Int).toNat = m at *
            obtain ⟨A3, c3, rfl, _, _⟩ := hso.formI
            rw [ints_len, hsn] at hso ⊢
            have hm0 : ((m : Int) == 0) = false := by simp only [beq_eq_false_iff_ne, ne_eq]; omega
            have HY := Lib.hid hY; have HSP2 := Lib.hid hsp; have HCL := Lib.hid hcl; have HPL := Lib.hid hple; have HPART := Lib.hid hpart
            clear hY hsp hcl hple hpart hbk hbc hp hsn hbo hbQ hbR
            have hbx3 := below_box w2 (.int .i64 (q : Int)) (.slice none 0 0) 24
            have hP3 := box_new w2 (.int .i64 (q : Int)) (.slice none 0 0) 24
            have hbo3 := hbo2.kept hbx3
            have hbQ3 := (hbx3.block Q (Array.getElem?_eq_some_iff.1 hbQ2).1).trans hbQ2
            have hbR3 := (hbx3.block w.heap.size (Array.getElem?_eq_some_iff.1 hbR2).1).trans hbR2
            have hb03 := bthen hb02 hbx3 hsz2
            have hso3 := hso.sli.below hbx3
            have hltQ2 := (Array.getElem?_eq_some_iff.1 hbQ2).1
            have hltR2 := (Array.getElem?_eq_some_iff.1 hbR2).1
            have hsz3 := hb03.size
            have HSP3 := Lib.hid (HSP2.out _ _ _ (HS.out.below (hb03.mono hB)) (Nat.le_trans hB hsz3) hso3 hbx3.size)
            clear hso3 hso
            go_wp2_with fail
            refine HSP3.out.mono ?_
            rintro e w4 ⟨v4, vals, rfl, ho4, hz4, hb4⟩
            obtain ⟨A4, c4, rfl, hlc4, hcm4⟩ := ho4.form
            have hvl : vals.length = m := by rw [hz4.1, HCL.out]
            rw [hvl] at ho4 hlc4 ⊢
            have hP4 := (hb4.block w2.heap.size (Array.getElem?_eq_some_iff.1 hP3).1).trans hP3
            have hBest : Besting w w4 w.heap.size Q w2.heap.size (SF q).1 (q : Int) (.slice bA bn bc) (.slice none 0 0) (SF q).2.1 ([] : List Int) :=
              ⟨hbo3.kept hb4, Own.nil _ _ _, apart_nil _, (hb4.block Q (Array.getElem?_eq_some_iff.1 hbQ3).1).trans hbQ3, hP4, (hb4.block w.heap.size (Array.getElem?_eq_some_iff.1 hbR3).1).trans hbR3, bthen hb03 hb4 hsz3, by omega, by omega, by omega, hsz2, hQ0, Nat.le_refl _⟩
            have ho4' : Own w4 w.heap.size 22 (.slice A4 m c4) vals := ho4.mono hsz3
            have hB4 : B ≤ w.heap.size := hB
            clear hP4 ho4 hb4 hbo3 hbQ3 hbR3 hb03 hP3 hbx3 hbo2 hbQ2 hbR2 hb02 hb2 HSP3 hbw
            go_wp2
            go_loopw [15, 51] (fun cc jj wi => ∃ (j : Nat) (pv : Value), j ≤ m ∧ jj = .int .i64 j ∧ cc = .int .i64 (4 + planCost ((ps.map bestK).take j) (ps.take j) : Nat) ∧ Besting w wi w.heap.size Q w2.heap.size (SF q).1 (q : Int) (.slice bA bn bc) pv (SF q).2.1 ((ps.map bestK).take j) ∧ Own wi w.heap.size 22 (.slice A4 m c4) vals ∧ Below w4.heap.size w4 w4 ∧ Slz wi B vals ps) (fun _ jj _ => m - (intOf jj).toNat)
            case atStart => exact ⟨0, _, by omega, rfl, by simp [planCost], by simpa using hBest, ho4', Below.refl _ _, hz4⟩
            case round =>
              clear hBest ho4' hz4
              obtain ⟨j, pv, hj, rfl, rfl, hBe, hov, _, hzz⟩ := hrel
              obtain ⟨pA, pn, pc, rfl⟩ := hBe.pown.shape
              by_cases hjm : j < m
              · have hjp : j < ps.length := by rw [HCL.out]; exact hjm
                have hjk : j < (ps.map bestK).length := by rw [List.length_map]; exact hjp
                obtain ⟨u, hu, hSu⟩ := hzz.get hjp
                obtain ⟨b1, o1, y, hA1, hbB1, hcell1, hy⟩ := hov.sli.hasn.get hjm
                rw [hu] at hy
                injection hy with hy
                subst hy
                subst hA1
                have hpl := HPART.out _ (List.getElem_mem hjp)
                have hsn := planCost_snoc (ps.map bestK) ps j hjk hjp
                have hgm : (ps.map bestK)[j] = bestK ps[j] := List.getElem_map ..
                have htk : (ps.map bestK).take (j + 1) = (ps.map bestK).take j ++ [bestK ps[j]] := by rw [List.take_succ_eq_append_getElem hjk, hgm]
                rw [hgm] at hsn
                have hle := HPL.out j
                have hlek : ((ps.map bestK).take j).length ≤ 256 := by rw [List.length_take]; omega
                have hbk := bestK_any u ps[j] wr B hSu (by omega)
                have hpcw := fun (w9 : World) (h : Sli w9 B u (ci ps[j])) => partCost_any (bestK ps[j]) u ps[j] w9 B h (by omega)
                have hpc := partCost_le (bestK ps[j]) ps[j]
                obtain ⟨A5, c5, rfl, _, _⟩ := hSu.formI
                generalize ps[j] = p at *
                generalize bestK p = k at *
                generalize partCost k p = d at *
                obtain ⟨S, hSs⟩ : ∃ S, 4 + planCost ((ps.map bestK).take j) (ps.take j) = S := ⟨_, rfl⟩
                rw [hSs]
                have hSn : 4 + planCost ((ps.map bestK).take (j + 1)) (ps.take (j + 1)) = S + (5 + d) := by rw [hsn]; omega
                have hS68 : S ≤ 68400004 := by omega
                have HSN := Lib.hid hSn; have HBK := Lib.hid hbk; have HPC := Lib.hid hpcw; have HTK := Lib.hid htk; have HSU := Lib.hid hSu
                clear hSn hbk hpcw htk hsn hle hSs hgm hu hSu hjk hjp
                go_wp2_with fail
                refine HBK.out.mono ?_
                rintro e w5 ⟨rfl, rfl⟩
                obtain ⟨d0, d1, hf⟩ := blk2 hBe.box
                have hcl : (ci ((ps.map bestK).take j)).length + 1 ≤ 8796093022208 := by rw [ci_len]; omega
                go_wp2_with (at_builtin; refine wpl_push hBe.pown hBe.be.size hcl Try.underlying22 info_int rfl (by decide) rfl rfl rfl rfl rfl (h := ?_); intro v6 w6 ho6 hm6; refine cut_here ?_)
                unfold CutHere
                obtain ⟨A7, n7, c7, rfl⟩ := ho6.shape
                obtain ⟨d0', d1', hf'⟩ := blk2 (hBe.boxP hm6)
                have hBe7 := hBe.push ho6 hm6
                have hov7 := hBe.rest hm6 hov
                have hSB := (mov_below hBe.be hm6 fun k hk => (hBe.pown.lt k hk).1)
                have hbw67 : Below B wr (w6.setCell ⟨w2.heap.size, 1, none⟩ (.slice A7 n7 c7)) := by
                  have h1 : Below B wr w6 := (hm6 w.heap.size).below hB (fun k hk => Nat.le_trans hB (hBe.pown.lt k hk).1) (Nat.le_trans hB hBe.be.size)
                  exact h1.trans (below_of_only (grown_set w6 w2.heap.size 1 _) (Nat.le_trans hB hsz2) (Nat.le_trans hB hSB.size))
                have HPC7 := Lib.hid (HPC.out _ (HSU.out.below hbw67))
                have hzz7 := hzz.below hbw67
                rw [← HTK.out] at hBe7
                clear d0 d1 hf
                go_wp2_with fail
                refine HPC7.out.mono ?_
                rintro e w8 ⟨rfl, rfl⟩
                go_wp2
                exact ⟨⟨j + 1, _, by omega, by simp, by rw [HSN.out]; simp, hBe7, hov7, Below.refl _ _, hzz7⟩, by simp [intOf]; omega⟩
              · have hjm2 : j = m := by omega
                have t1 : (ps.map bestK).take j = ps.map bestK := by rw [List.take_of_length_le (by rw [List.length_map, HCL.out]; omega)]
                have t2 : ps.take j = ps := by rw [hjm2, ← HCL.out, List.take_length]
                have hle := HPL.out j
                rw [t1, t2] at hle ⊢
                rw [t1] at hBe
                have hY := HY.out
                obtain ⟨C, hC⟩ : ∃ C, 4 + planCost (ps.map bestK) ps = C := ⟨_, rfl⟩
                rw [hC] at hY ⊢
                have HC := Lib.hid hC
                obtain ⟨d0, d1, hf⟩ := blk2 hBe.box
                obtain ⟨c0, c1, hf1⟩ := blk2 hBe.best
                clear hC t1 t2
                by_cases hlt : (C : Int) < (SF q).2.2
                · rw [if_pos hlt] at hY
                  have HYY := Lib.hid hY
                  clear hY
                  go_wp2
                  have hg2 := two_grown wr Q (.int .i64 (q : Int)) (.slice pA pn pc)
                  exact ⟨⟨q + 1, .slice pA pn pc, by omega, by simp, by rw [HYY.out], by rw [HYY.out]; exact hBe.pown.far hBe.best (by decide) hg2, by rw [HYY.out]; exact two_blk hBe.best, (hg2.block w.heap.size (Array.getElem?_eq_some_iff.1 hBe.res).1 (by simp; omega)).trans hBe.res, hBe.be.trans (below_of_only hg2 hQ0 hBe.be.size)⟩, by simp [intOf]; omega⟩
                · rw [if_neg hlt] at hY
                  have HYY := Lib.hid hY
                  clear hY
                  go_wp2
                  exact ⟨⟨q + 1, _, by omega, by simp, by rw [HYY.out], by rw [HYY.out]; exact hBe.bown, by rw [HYY.out]; exact hBe.best, hBe.res, hBe.be⟩, by simp [intOf]; omega⟩
          · have hno := sizesI_no (o := (q : Int)) (n := n) (warm := warm) hp
            have hN := HNO.out q hp
            rw [hno] at hso
            obtain ⟨A3, c3, rfl, _, _⟩ := hso.formI
            have HN := Lib.hid hN
            clear hno hN hp hso
            go_wp2
            exact ⟨⟨q + 1, _, by omega, by simp, by rw [HN.out], by rw [HN.out]; exact hbo2, by rw [HN.out]; exact hbQ2, hbR2, hb02⟩, by simp [intOf]; omega⟩
        · have hqM2 : q = M + 1 := by omega
          subst hqM2
          obtain ⟨c0, c1, hf1⟩ := blk2 hbR
          obtain ⟨d0, d1, hf⟩ := blk2 hbQ
          go_wp2
          try simp only [Exit.inBlock, Exit.then]
          refine bodyPost_ret (results_row2 rfl _ _ w.heap.size 24 #[.int .i64 (SF (M + 1)).1, .slice bA bn bc] (0, 0) _ rfl (two_blk hbR) Try.underlying24 rfl (by kernel_rfl)) rfl ?_
          have hg4 := two_grown wr w.heap.size (.int .i64 (SF (M + 1)).1) (.slice bA bn bc)
          exact ⟨_, rfl, hbo.far hbR (by decide) hg4, hbw.trans (below_of_only hg4 (Nat.le_refl _) hbw.size)⟩
    · have hres : bestR n warm most l = (0, [], 1) := by unfold bestR; rw [if_neg fun h => hr h.2]
      rw [hres]
      rw [Bool.eq_false_iff.2 hr] at har
      have HI := Lib.hid hi; have HAR := Lib.hid har
      clear hi har hres hr hrow hS
      go_enter Try.func36, Try.ntmps36
      go_wp2_with fail
      rw [HWA.out]
      refine (HI.out _).mono ?_
      rintro e w1 ⟨rfl, rfl⟩
      go_wp2_with fail
      refine HAR.out.mono ?_
      rintro e w1 ⟨rfl, rfl⟩
      go_wp2
      try simp only [Exit.inBlock, Exit.then]
      refine bodyPost_ret (results_row2 rfl _ _ w.heap.size 24 #[.int .i64 0, .slice none 0 0] (0, 0) _ rfl (two_blk hbx0) Try.underlying24 rfl (by kernel_rfl)) rfl ?_
      exact ⟨_, rfl, Own.nil _ _ _, hb0.trans (below_of_only (two_grown wA w.heap.size _ _) (Nat.le_refl _) hb0.size)⟩
  · have hres : bestR n warm most l = (0, [], 1) := by unfold bestR; rw [if_neg fun h => hrow h.1]
    rw [hres]
    rw [Bool.eq_false_iff.2 hrow] at hi
    have HI := Lib.hid hi
    clear hi hres hrow hS
    go_enter Try.func36, Try.ntmps36
    go_wp2_with fail
    rw [HWA.out]
    refine (HI.out _).mono ?_
    rintro e w1 ⟨rfl, rfl⟩
    go_wp2
    try simp only [Exit.inBlock, Exit.then]
    refine bodyPost_ret (results_row2 rfl _ _ w.heap.size 24 #[.int .i64 0, .slice none 0 0] (0, 0) _ rfl (two_blk hbx0) Try.underlying24 rfl (by kernel_rfl)) rfl ?_
    exact ⟨_, rfl, Own.nil _ _ _, hb0.trans (below_of_only (two_grown wA w.heap.size _ _) (Nat.le_refl _) hb0.size)⟩
end Go.Proofs.Ytohbpjehphmedaa
