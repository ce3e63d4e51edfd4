/- block: Join. -/
import Derived.Test.YtfbhiaoodompdaaBloC
namespace Go.Proofs.Ytfbhiaoodompdaa
open Go.RowKit
set_option maxRecDepth 100000
set_option maxHeartbeats 4000000

/-- 'append(v, x...)', v a row of one's own, one operation of a region that draws its order. -/
theorem step_appB {P : Program} {w : World} {base B : Nat} {e t : TypeId} {z v vx : Value} {bytes : Nat} {xs ys : List Value} (hown : Own w base e v xs) (hr : Sli w B vx ys) (hbase : base ≤ w.heap.size) (hroom : xs.length + ys.length ≤ 8796093022208)
    (ht : P.underlying t = some (.slice e)) (hinf : (P.info? e).map (fun i => (i.zero, i.size, i.bytes)) = some (some z, 1, bytes)) (hzs : z.cells.size = 1) (hb16 : bytes ≤ 16) (hone : ∀ u ∈ ys, u.oneCell' = true)
    {ops : Array Oper} {o : Oper} {a : Act} {K : Act → World → Prop} {Q : Exit → Act → World → Prop} {E : Prop} {s x : Operand} (hgd : o.guard = none)
    (ho : o.op = .call { callee := .builtin .append, args := #[s, x], argTypes := #[t, t] })
    (hs : a.eval s = v) (hx : a.eval x = vx)
    (h : ∀ v' w', Own w' base e v' (xs ++ ys) → Below base w w' → K (a.put o.dst v') w') : if Region.wanted o (yielded ops a.tmps) = true then Oper.wp P o a w K Q else E := by
  rw [if_pos (by simp [Region.wanted, hgd])]
  exact wp_appN hown hr hbase hroom ht hinf hzs hb16 hone ho hs hx h
theorem joinB_len (rs ss : List (List Int)) (h : rs.length = ss.length) : (joinB rs ss).length = rs.length := by simp [joinB, h]
theorem joinB_take {rs ss : List (List Int)} {j k : Nat} (hj : j < rs.length) (hs : j < ss.length) (hk : rs.length = k) (hl : rs.length = ss.length) : ((joinB rs ss).take j ++ List.replicate (k - j) []).set j (rs[j] ++ ss[j]) = (joinB rs ss).take (j + 1) ++ List.replicate (k - (j + 1)) [] := by
  have h1 : ((joinB rs ss).take j).length = j := by rw [List.length_take, joinB_len _ _ hl]; omega
  rw [List.set_append_right _ _ (by omega), h1, Nat.sub_self, show k - j = (k - (j + 1)) + 1 by omega, List.replicate_succ, List.set_cons_zero, List.take_add_one, List.append_assoc]
  congr 1
  rw [List.getElem?_eq_getElem (by rw [joinB_len _ _ hl]; exact hj)]
  simp [joinB, List.getElem_zipWith]

theorem joinBk_good (b : Int) (v u : Value) (rs ss : List (List Int)) (n k : Nat) (w : World) (B : Nat) (hR : Rws w B v rs) (hS : Rws w B u ss) (hB : B ≤ w.heap.size) (M : MayBk b rs n) (N : MayBk b ss k) (hl : rs.length = ss.length) (hnk : n + k ≤ 4096) :
    Calls Try.prog 33 #[.agg #[.int .i64 b, v], .agg #[.int .i64 b, u]] w (BkPost (b, joinB rs ss, 0) w) := by
  obtain ⟨A, c, rfl, hlc, hcm⟩ := hR.form
  obtain ⟨A2, c2, rfl, hlc2, hcm2⟩ := hS.form
  obtain ⟨m, hm⟩ : ∃ m, rs.length = m := ⟨_, rfl⟩
  have hm2 : ss.length = m := by rw [← hl, hm]
  have hmay1 := fun (w1 : World) (h : Rws w1 B (.slice A rs.length c) rs) (h2 : B ≤ w1.heap.size) => mayBk_any b _ rs w1 B h h2
  have hmay2 := fun (w1 : World) (h : Rws w1 B (.slice A2 ss.length c2) ss) (h2 : B ≤ w1.heap.size) => mayBk_any b _ ss w1 B h h2
  have hlen1 := fun (w1 : World) (h : Rws w1 B (.slice A rs.length c) rs) (h2 : B ≤ w1.heap.size) => lenBk_any b _ rs w1 B h h2
  have hlen2 := fun (w1 : World) (h : Rws w1 B (.slice A2 ss.length c2) ss) (h2 : B ≤ w1.heap.size) => lenBk_any b _ ss w1 B h h2
  rw [of_mayBk M] at hmay1
  rw [of_mayBk N] at hmay2
  rw [M.len] at hlen1
  rw [N.len] at hlen2
  have hm8 := M.chans
  have hn8 := M.size
  have hk8 := N.size
  rw [hm] at hR hlc hmay1 hlen1 hm8 ⊢
  rw [hm2] at hS hlc2 hmay2 hlen2 ⊢
  obtain ⟨wA, hwA, hsA, hbA, hab, hbb, hrb⟩ := three_boxes w #[.int .i64 b, .slice A m c] #[.int .i64 b, .slice A2 m c2] #[.int .i64 0, .slice none 0 0] 26 26 26
  have hRA := hR.below (hbA.mono hB)
  have hSA := hS.below (hbA.mono hB)
  have HWA := Lib.hid hwA
  have HMAY1 := Lib.hid hmay1; have HMAY2 := Lib.hid hmay2; have HLEN1 := Lib.hid hlen1; have HLEN2 := Lib.hid hlen2
  have HM := Lib.hid M; have HN := Lib.hid N; have HML := Lib.hid hm; have HML2 := Lib.hid hm2; have HLL := Lib.hid hl
  clear hwA hmay1 hmay2 hlen1 hlen2 M N hm hm2 hl hR hS
  go_enter Try.func33, Try.ntmps33
  go_wp2_with fail
  rw [HWA.out]
  obtain ⟨x0, x1, xf⟩ := two_in hab
  go_wp2_with fail
  refine (HMAY1.out wA hRA (by omega)).mono ?_
  rintro e w1 ⟨rfl, hb1⟩
  rw [hsA] at hb1
  have hK1 := hb1.size
  rw [hsA] at hK1
  clear x0 x1 xf
  obtain ⟨y0, y1, yf⟩ := two_in (box_at hb1 hbb (by omega))
  have hS1 := hSA.below (hb1.mono (by omega))
  go_wp2_with fail
  refine (HMAY2.out w1 hS1 (by omega)).mono ?_
  rintro e w2 ⟨rfl, hb2⟩
  have hb12 := hb1.trans (hb2.mono hK1)
  have hK2 := hb12.size
  rw [hsA] at hK2
  clear y0 y1 yf hb1 hb2 hS1 hK1
  obtain ⟨x0, x1, xf⟩ := two_in (box_at hb12 hab (by omega))
  obtain ⟨y0, y1, yf⟩ := two_in (box_at hb12 hbb (by omega))
  have hbb1 : (b != b) = false := by simp
  have hmm1 : ((m : Int) != (m : Int)) = false := by simp
  have hR2 := hRA.below (hb12.mono (by omega))
  have hS2 := hSA.below (hb12.mono (by omega))
  have hBw : B ≤ w2.heap.size := by omega
  have hR2d : Rws w2.drew B (.slice A m c) rs := hR2.keep fun _ _ => rfl
  have hwr : IntKind.i64.wrap ((n : Int) + (k : Int)) = ((n + k : Nat) : Int) := by rw [IntKind.wrap_i64]; omega
  go_upto_region 5 with (fail)
  go_cut [35] (fun p wx => p = .bool false ∧ Below (w.heap.size + 3) wA wx)
  case first =>
    go_region_held3 (fun w' => w'.cell? ⟨w.heap.size, 0, none⟩ = some (.int .i64 b) ∧ w'.cell? ⟨w.heap.size, 1, none⟩ = some (.slice A m c) ∧ w'.cell? ⟨w.heap.size + 1, 0, none⟩ = some (.int .i64 b) ∧ w'.cell? ⟨w.heap.size + 1, 1, none⟩ = some (.slice A2 m c2))
      (first | go_keep | exact ⟨p0, p1, p2, p3⟩ | exact ⟨q0, q1, q2, q3⟩)
      (first
        | (go_at_call_of 20 (Value.agg #[.int .i64 b, .slice A m c]); refine (HLEN1.out w2.drew hR2d hBw).mono ?_; rintro e w3 ⟨rfl, hb3⟩; have hb13 := hb12.trans ((Below.refl w2.heap.size w2).drew.trans hb3 |>.mono hK2); obtain ⟨p0, p1, pf⟩ := two_in (box_at hb13 hab (by omega)); obtain ⟨p2, p3, pf2⟩ := two_in (box_at hb13 hbb (by omega)); have hS3 := hSA.below (hb13.mono (by omega)); have hB3 : B ≤ w3.heap.size := Nat.le_trans hBw hb3.size)
        | (go_at_call_of 20 (Value.agg #[.int .i64 b, .slice A2 m c2]); refine (HLEN2.out w3 hS3 hB3).mono ?_; rintro e w4 ⟨rfl, hb4⟩; have hb14 := hb13.trans (hb4.mono (by have := hb13.size; omega)); obtain ⟨q0, q1, qf⟩ := two_in (box_at hb14 hab (by omega)); obtain ⟨q2, q3, qf2⟩ := two_in (box_at hb14 hbb (by omega))))
    all_goals
      go_wp2_with fail
      go_meet
      case rel => exact ⟨by congr 1; rw [decide_eq_false_iff_not]; omega, hb14⟩
  case rest =>
    obtain ⟨rfl, hb2⟩ := hcut
    obtain ⟨w3, hw3⟩ : ∃ w3, w3 = wc := ⟨_, rfl⟩
    subst hw3
    have hK3 := hb2.size
    rw [hsA] at hK3
    clear x0 x1 xf y0 y1 yf hb12 hR2 hS2 hR2d hK2 hBw
    obtain ⟨x0, x1, xf⟩ := two_in (box_at hb2 hab (by omega))
    have hrun := makeN m (by omega)
    have hz2 : w.heap.size < w3.heap.size := by omega
    go_upto_region 7 with (fail)
    go_cut [6] (fun p wx => ∃ gB gS, p = .pointer (some ⟨gB, 0, none⟩) ∧ w3.heap.size ≤ gB ∧ wx.heap[gB]? = some (.cells #[.int .i64 b, .slice (some ⟨gS, 0, none⟩) m m] 26 (0, 0)) ∧ Own wx w3.heap.size 37 (.slice (some ⟨gS, 0, none⟩) m m) (List.replicate m (.slice none 0 0)) ∧ Below w3.heap.size w3 wx)
    case first =>
      go_region
      all_goals
        go_wp2_with fail
        go_meet
        case rel =>
          first
            | exact ⟨_, _, rfl, Nat.le_succ _, two_ways_a w3 m (by omega) b⟩
            | exact ⟨_, _, rfl, Nat.le_refl _, two_ways_b w3 m (by omega) b⟩
    case rest =>
      obtain ⟨gB, gS, rfl, hgB, hbx, hos, hb3⟩ := hcut
      have hb23 := hb2.trans (hb3.mono hK3)
      have hR2 := RwG.made (hos.mono hK3)
      have hgS := (hos.lt gS rfl).1
      have hne : gB ≠ gS := by
        obtain ⟨cs, hc⟩ := hos.blk (k := gS) rfl
        intro e; subst e
        rw [hbx] at hc; injection hc with hc; injection hc with _ hc
        exact absurd hc (by decide)
      clear x0 x1 xf hos hb2 hb3 hrun
      obtain ⟨c0, c1, cf⟩ := two_in hbx
      go_wp2
      clear c0 c1 cf
      go_loopw [53] (fun jj wr => ∃ j : Nat, j ≤ m ∧ jj = .int .i64 j ∧ Below (w.heap.size + 3) wA wr ∧ wr.heap[gB]? = some (.cells #[.int .i64 b, .slice (some ⟨gS, 0, none⟩) m m] 26 (0, 0)) ∧ ∃ vs, RwG wr (w.heap.size + 3) (.slice (some ⟨gS, 0, none⟩) m m) vs ((joinB rs ss).take j ++ List.replicate (m - j) [])) (fun jj _ => m - (intOf jj).toNat)
      case atStart => exact ⟨0, Nat.zero_le _, rfl, hb23, hbx, _, by simpa using hR2⟩
      case round =>
        clear hb23 hbx hR2
        obtain ⟨j, hj, rfl, hb, hbx, vs, hRg⟩ := hrel
        have hKr := hb.size
        rw [hsA] at hKr
        by_cases hjm : j < m
        · have hjl : j < rs.length := by rw [HML.out]; exact hjm
          have hjl2 : j < ss.length := by rw [HML2.out]; exact hjm
          obtain ⟨bq, oq, Aq, cq, rfl, hbq, hcell, hS, g1, g2⟩ := (hRA.below (hb.mono (by omega))).get hjl
          obtain ⟨bp, op, Ap, cp, rfl, hbp, hcell2, hS2, g3, g4⟩ := (hSA.below (hb.mono (by omega))).get hjl2
          have hrn := HM.out.rows _ (List.getElem_mem hjl)
          have hsn := HN.out.rows _ (List.getElem_mem hjl2)
          have hct := joinB_take hjl hjl2 HML.out HLL.out
          have hvl : j < vs.length := by have := hRg.len; rw [this]; simp [joinB, HML.out, HML2.out]; omega
          have hjs : j < ((joinB rs ss).take j ++ List.replicate (m - j) []).length := by simp [joinB, HML.out, HML2.out]; omega
          rw [hrn] at hcell hS g1
          rw [hsn] at hcell2 hS2 g3
          have hl1 : (ci rs[j]).length ≤ 8796093022208 := by rw [ci_len]; omega
          have hl2 : (ci rs[j]).length + (ci ss[j]).length ≤ 8796093022208 := by rw [ci_len, ci_len]; omega
          have hone1 := ci_one rs[j]
          have hone2 := ci_one ss[j]
          generalize rs[j] = ra at *
          generalize ss[j] = sb at *
          have HCT := Lib.hid hct; have HL1 := Lib.hid hl1; have HL2 := Lib.hid hl2
          clear hct hl1 hl2 hrn hsn
          obtain ⟨c0, c1, cf⟩ := two_in hbx
          obtain ⟨x0, x1, xf⟩ := two_in (box_at hb hab (by omega))
          obtain ⟨gq, cc, hv, hg2, _, _, hcells, hfro, hset⟩ := hRg.top.at_ (by omega)
          injection hv with e1 e2 e3
          injection e1 with e1; injection e1 with e1
          subst e1
          have hck := hcells j hvl
          rw [List.getElem?_eq_getElem hvl] at hck
          have hfi := hfro j
          have HRG := Lib.hid hRg
          have hz4 : gB < wr.heap.size := (Array.getElem?_eq_some_iff.1 hbx).1
          have hz5 : gS < wr.heap.size := by obtain ⟨cs, hc⟩ := hRg.top.blk (k := gS) rfl; exact (Array.getElem?_eq_some_iff.1 hc).1
          have hjI : (j : Int) < (m : Int) := by omega
          clear hcells hfro hset e2 e3 hRg
          obtain ⟨wo, hwo⟩ : ∃ wo, wo = wr := ⟨_, rfl⟩
          subst hwo
          go_wp2_with (at_builtin; refine wpl_appN (Own.nil wo wo.heap.size 3) hS (Nat.le_refl _) (by simpa using HL1.out) Try.underlying37 info_int rfl (by decide) hone1 rfl rfl rfl rfl (h := ?_); intro v5 w5 ho5 hb5; refine cut_here ?_)
          rw [List.nil_append] at ho5
          obtain ⟨A5, n5, k5, rfl⟩ := ho5.shape
          have hbx5 := (hb5.block gB hz4).trans hbx
          have hb5A := hb.trans (hb5.mono hKr)
          have hS5 := hS2.below (hb5.mono (by omega))
          have hck5 := (hb5.cell (p := ⟨gS, j, none⟩) hz5).trans hck
          have hfi5 := (hb5.frozen (p := ⟨gS, j, none⟩) hz5).trans hfi
          have hz7 : bp < wo.heap.size := by omega
          have hcell5 := (hb5.cell (p := ⟨bp, op + j, none⟩) hz7).trans hcell2
          clear c0 c1 cf x0 x1 xf hck hfi
          obtain ⟨c0, c1, cf⟩ := two_in hbx5
          obtain ⟨y0, y1, yf⟩ := two_in (box_at hb5A hbb (by omega))
          have hz6 := hb5.size
          unfold CutHere
          go_wp2_with fail
          go_region_held3 (fun w' => w'.cell? ⟨gB, 1, none⟩ = some (.slice (some ⟨gS, 0, none⟩) m m) ∧ w'.cell? ⟨w.heap.size + 1, 1, none⟩ = some (.slice (some ⟨bp, op, none⟩) m c2) ∧ w'.cell? ⟨bp, op + j, none⟩ = some (.slice Ap k cp))
            (first | go_keep | exact ⟨c1', y1', p1'⟩ | exact ⟨c1'', y1'', p1''⟩)
            ((refine step_appB (w := w5.drew) (show Own w5.drew wo.heap.size 3 (.slice A5 n5 k5) (ci ra) from ho5) (show Sli w5.drew B _ (ci sb) from hS5) hz6 HL2.out Try.underlying37 info_int rfl (by decide) hone2 rfl rfl rfl rfl (h := ?_); intro v6 w6 ho6 hb6; obtain ⟨A6, n6, k6, rfl⟩ := ho6.shape; have hb6w : Below wo.heap.size wo w6 := hb5.trans ((Below.refl wo.heap.size w5).drew.trans hb6); have hbx6 := (hb6w.block gB hz4).trans hbx; obtain ⟨c0', c1', cf'⟩ := two_in hbx6; have hb6A := hb.trans (hb6w.mono hKr); obtain ⟨y0', y1', yf'⟩ := two_in (box_at hb6A hbb (by omega)); have hk6 := (hb6w.cell (p := ⟨gS, j, none⟩) hz5).trans ((hb5.cell (p := ⟨gS, j, none⟩) hz5).symm.trans hck5); have hf6 := (hb6w.frozen (p := ⟨gS, j, none⟩) hz5).trans ((hb5.frozen (p := ⟨gS, j, none⟩) hz5).symm.trans hfi5); have p1' := (hb6w.cell (p := ⟨bp, op + j, none⟩) hz7).trans hcell2; have c1'' := (World.cell?_setCell_other w6 ⟨gS, j, none⟩ ⟨gB, 1, none⟩ (.slice A6 n6 k6) (fun e => by injection e with e; omega)).trans c1'; have y1'' := (World.cell?_setCell_other w6 ⟨gS, j, none⟩ ⟨w.heap.size + 1, 1, none⟩ (.slice A6 n6 k6) (fun e => by injection e with e; omega)).trans y1'; have p1'' := (World.cell?_setCell_other w6 ⟨gS, j, none⟩ ⟨bp, op + j, none⟩ (.slice A6 n6 k6) (fun e => by injection e with e; omega)).trans p1'))
          all_goals
            have hR7 := HRG.out.put (i := j) hKr hb6w (show Own w6 wo.heap.size 3 (.slice A6 n6 k6) (ci (ra ++ sb)) by rw [ci_app]; exact ho6) hjs
            rw [HCT.out] at hR7
            have hb7 := hb6A.setCell (p := ⟨gS, j, none⟩) (by omega) (.slice A6 n6 k6)
            have hbx7 := ((grown_set w6 gS j (.slice A6 n6 k6)).block _ (Array.getElem?_eq_some_iff.1 hbx6).1 (by simp; omega)).trans hbx6
            have HR7 := Lib.hid hR7; have HB7 := Lib.hid hb7; have HBX7 := Lib.hid hbx7
            clear hR7 hb7 hbx7
            go_wp2
            exact ⟨⟨j + 1, by omega, by simp, HB7.out, HBX7.out, _, HR7.out⟩, by simp [intOf]; omega⟩
        · have hjj : j = m := by omega
          have hall : (joinB rs ss).take j ++ List.replicate (m - j) [] = joinB rs ss := by rw [hjj, Nat.sub_self, List.replicate_zero, List.append_nil, List.take_of_length_le (by rw [joinB_len _ _ HLL.out, HML.out]; exact Nat.le_refl _)]
          rw [hall] at hRg
          obtain ⟨c0, c1, cf⟩ := two_in hbx
          obtain ⟨r0, r1, rf⟩ := two_in (box_at hb hrb (by omega))
          go_wp2
          refine bodyPost_ret (results_two rfl _ _ (w.heap.size + 2) 26 #[.int .i64 b, .slice (some ⟨gS, 0, none⟩) m m] (0, 0) _ rfl (two_set (box_at hb hrb (by omega))) Try.underlying26 rfl (by kernel_rfl)) rfl ?_
          obtain ⟨q1, q2⟩ := box_done (x := b) hbA hb hrb (by omega) (by omega) hRg
          exact ⟨_, _, _, _, rfl, q1, q2⟩
theorem joinBk_any (b b2 : Int) (v u : Value) (rs ss : List (List Int)) (w : World) (B : Nat) (hR : Rws w B v rs) (hS : Rws w B u ss) (hB : B ≤ w.heap.size) :
    Calls Try.prog 33 #[.agg #[.int .i64 b, v], .agg #[.int .i64 b2, u]] w (BkPost (joinR b rs b2 ss) w) := by
  by_cases hgood : mayBk b rs = true ∧ mayBk b2 ss = true ∧ b = b2 ∧ rs.length = ss.length ∧ lenB rs + lenB ss ≤ 4096
  · obtain ⟨h1, h2, rfl, h4, h5⟩ := hgood
    have hres : joinR b rs b ss = (b, joinB rs ss, 0) := by unfold joinR; rw [if_pos ⟨h1, h2⟩, if_pos ⟨rfl, h4⟩, if_pos h5]
    rw [hres]
    exact joinBk_good b v u rs ss _ _ w B hR hS hB (mayBk_of h1) (mayBk_of h2) h4 h5
  · obtain ⟨A, c, rfl, hlc, hcm⟩ := hR.form
    obtain ⟨A2, c2, rfl, hlc2, hcm2⟩ := hS.form
    have hmay1 := fun (w1 : World) (h : Rws w1 B (.slice A rs.length c) rs) (h2 : B ≤ w1.heap.size) => mayBk_any b _ rs w1 B h h2
    have hmay2 := fun (w1 : World) (h : Rws w1 B (.slice A2 ss.length c2) ss) (h2 : B ≤ w1.heap.size) => mayBk_any b2 _ ss w1 B h h2
    have hlen1 := fun (w1 : World) (h : Rws w1 B (.slice A rs.length c) rs) (h2 : B ≤ w1.heap.size) => lenBk_any b _ rs w1 B h h2
    have hlen2 := fun (w1 : World) (h : Rws w1 B (.slice A2 ss.length c2) ss) (h2 : B ≤ w1.heap.size) => lenBk_any b2 _ ss w1 B h h2
    obtain ⟨wA, hwA, hsA, hbA, hab, hbb, hrb⟩ := three_boxes w #[.int .i64 b, .slice A rs.length c] #[.int .i64 b2, .slice A2 ss.length c2] #[.int .i64 0, .slice none 0 0] 26 26 26
    have hRA := hR.below (hbA.mono hB)
    have hSA := hS.below (hbA.mono hB)
    have HWA := Lib.hid hwA
    have HLEN1 := Lib.hid hlen1; have HLEN2 := Lib.hid hlen2
    clear hwA hlen1 hlen2 hR hS
    by_cases h1 : mayBk b rs = true
    · rw [h1] at hmay1
      have HMAY1 := Lib.hid hmay1
      by_cases h2 : mayBk b2 ss = true
      · rw [h2] at hmay2
        have HMAY2 := Lib.hid hmay2
        have hrl := (mayBk_of h1).chans
        have hsl := (mayBk_of h2).chans
        have hrn := (mayBk_of h1).size
        have hsn := (mayBk_of h2).size
        clear hmay1 hmay2
        by_cases h3 : b = b2 ∧ rs.length = ss.length
        · have h5 : ¬ lenB rs + lenB ss ≤ 4096 := fun h => hgood ⟨h1, h2, h3.1, h3.2, h⟩
          have hres : joinR b rs b2 ss = (0, [], 4) := by unfold joinR; rw [if_pos ⟨h1, h2⟩, if_pos h3, if_neg h5]
          rw [hres]
          obtain ⟨rfl, hll⟩ := h3
          have hbb1 : (b != b) = false := by simp
          have hmm1 : ((rs.length : Int) != (ss.length : Int)) = false := by rw [hll]; simp
          have hwr : IntKind.i64.wrap ((lenB rs : Int) + (lenB ss : Int)) = ((lenB rs + lenB ss : Nat) : Int) := by rw [IntKind.wrap_i64]; omega
          generalize lenB rs = n at *
          generalize lenB ss = k at *
          generalize rs.length = m at *
          generalize ss.length = m2 at *
          clear hgood h1 h2 hres hll
          go_enter Try.func33, Try.ntmps33
          go_wp2_with fail
          rw [HWA.out]
          obtain ⟨x0, x1, xf⟩ := two_in hab
          go_wp2_with fail
          refine (HMAY1.out wA hRA (by omega)).mono ?_
          rintro e w1 ⟨rfl, hb1⟩
          rw [hsA] at hb1
          have hK1 := hb1.size
          rw [hsA] at hK1
          clear x0 x1 xf
          obtain ⟨y0, y1, yf⟩ := two_in (box_at hb1 hbb (by omega))
          have hS1 := hSA.below (hb1.mono (by omega))
          go_wp2_with fail
          refine (HMAY2.out w1 hS1 (by omega)).mono ?_
          rintro e w2 ⟨rfl, hb2⟩
          have hb12 := hb1.trans (hb2.mono hK1)
          have hK2 := hb12.size
          rw [hsA] at hK2
          clear y0 y1 yf hb1 hb2 hS1 hK1
          obtain ⟨x0, x1, xf⟩ := two_in (box_at hb12 hab (by omega))
          obtain ⟨y0, y1, yf⟩ := two_in (box_at hb12 hbb (by omega))
          have hR2 := hRA.below (hb12.mono (by omega))
          have hBw : B ≤ w2.heap.size := by omega
          have hR2d : Rws w2.drew B (.slice A m c) rs := hR2.keep fun _ _ => rfl
          go_upto_region 5 with (fail)
          go_cut [35] (fun p wx => p = .bool true ∧ Below (w.heap.size + 3) wA wx)
          case first =>
            go_region_held3 (fun w' => w'.cell? ⟨w.heap.size, 0, none⟩ = some (.int .i64 b) ∧ w'.cell? ⟨w.heap.size, 1, none⟩ = some (.slice A m c) ∧ w'.cell? ⟨w.heap.size + 1, 0, none⟩ = some (.int .i64 b) ∧ w'.cell? ⟨w.heap.size + 1, 1, none⟩ = some (.slice A2 m2 c2))
              (first | go_keep | exact ⟨p0, p1, p2, p3⟩ | exact ⟨q0, q1, q2, q3⟩)
              (first
                | (go_at_call_of 20 (Value.agg #[.int .i64 b, .slice A m c]); refine (HLEN1.out w2.drew hR2d hBw).mono ?_; rintro e w3 ⟨rfl, hb3⟩; have hb13 := hb12.trans ((Below.refl w2.heap.size w2).drew.trans hb3 |>.mono hK2); obtain ⟨p0, p1, pf⟩ := two_in (box_at hb13 hab (by omega)); obtain ⟨p2, p3, pf2⟩ := two_in (box_at hb13 hbb (by omega)); have hS3 := hSA.below (hb13.mono (by omega)); have hB3 : B ≤ w3.heap.size := Nat.le_trans hBw hb3.size)
                | (go_at_call_of 20 (Value.agg #[.int .i64 b, .slice A2 m2 c2]); refine (HLEN2.out w3 hS3 hB3).mono ?_; rintro e w4 ⟨rfl, hb4⟩; have hb14 := hb13.trans (hb4.mono (by have := hb13.size; omega)); obtain ⟨q0, q1, qf⟩ := two_in (box_at hb14 hab (by omega)); obtain ⟨q2, q3, qf2⟩ := two_in (box_at hb14 hbb (by omega))))
            all_goals
              go_wp2_with fail
              go_meet
              case rel => exact ⟨by congr 1; rw [decide_eq_true_iff]; omega, hb14⟩
          case rest =>
            obtain ⟨rfl, hb2⟩ := hcut
            obtain ⟨r0, r1, rf⟩ := two_in (box_at hb2 hrb (by omega))
            go_wp2
            refine bodyPost_ret (results_two rfl _ _ (w.heap.size + 2) 26 #[.int .i64 0, .slice none 0 0] (0, 0) _ rfl (two_set (box_at hb2 hrb (by omega))) Try.underlying26 rfl (by kernel_rfl)) rfl ?_
            obtain ⟨q1, q2⟩ := box_done (x := 0) hbA hb2 hrb (by omega) (by omega) (RwG.nil _ _)
            exact ⟨_, _, _, _, rfl, q1, q2⟩
        · have hres : joinR b rs b2 ss = (0, [], 2) := by unfold joinR; rw [if_pos ⟨h1, h2⟩, if_neg h3]
          rw [hres]
          by_cases hbe : b = b2
          · have hll : rs.length ≠ ss.length := fun h => h3 ⟨hbe, h⟩
            have hbb1 : (b != b2) = false := by rw [hbe]; simp
            have hmm1 : ((rs.length : Int) != (ss.length : Int)) = true := by rw [bne_iff_ne]; omega
            generalize rs.length = m at *
            generalize ss.length = m2 at *
            clear hgood h1 h2 h3 hres hll hbe
            go_enter Try.func33, Try.ntmps33
            go_wp2_with fail
            rw [HWA.out]
            obtain ⟨x0, x1, xf⟩ := two_in hab
            go_wp2_with fail
            refine (HMAY1.out wA hRA (by omega)).mono ?_
            rintro e w1 ⟨rfl, hb1⟩
            rw [hsA] at hb1
            have hK1 := hb1.size
            rw [hsA] at hK1
            clear x0 x1 xf
            obtain ⟨y0, y1, yf⟩ := two_in (box_at hb1 hbb (by omega))
            have hS1 := hSA.below (hb1.mono (by omega))
            go_wp2_with fail
            refine (HMAY2.out w1 hS1 (by omega)).mono ?_
            rintro e w2 ⟨rfl, hb2⟩
            have hb12 := hb1.trans (hb2.mono hK1)
            have hK2 := hb12.size
            rw [hsA] at hK2
            clear y0 y1 yf hb1 hb2 hS1 hK1
            obtain ⟨x0, x1, xf⟩ := two_in (box_at hb12 hab (by omega))
            obtain ⟨y0, y1, yf⟩ := two_in (box_at hb12 hbb (by omega))
            obtain ⟨r0, r1, rf⟩ := two_in (box_at hb12 hrb (by omega))
            go_wp2
            refine bodyPost_ret (results_two rfl _ _ (w.heap.size + 2) 26 #[.int .i64 0, .slice none 0 0] (0, 0) _ rfl (two_set (box_at hb12 hrb (by omega))) Try.underlying26 rfl (by kernel_rfl)) rfl ?_
            obtain ⟨q1, q2⟩ := box_done (x := 0) hbA hb12 hrb (by omega) (by omega) (RwG.nil _ _)
            exact ⟨_, _, _, _, rfl, q1, q2⟩
          · have hbb1 : (b != b2) = true := by rw [bne_iff_ne]; exact hbe
            generalize rs.length = m at *
            generalize ss.length = m2 at *
            clear hgood h1 h2 h3 hres hbe
            go_enter Try.func33, Try.ntmps33
            go_wp2_with fail
            rw [HWA.out]
            obtain ⟨x0, x1, xf⟩ := two_in hab
            go_wp2_with fail
            refine (HMAY1.out wA hRA (by omega)).mono ?_
            rintro e w1 ⟨rfl, hb1⟩
            rw [hsA] at hb1
            have hK1 := hb1.size
            rw [hsA] at hK1
            clear x0 x1 xf
            obtain ⟨y0, y1, yf⟩ := two_in (box_at hb1 hbb (by omega))
            have hS1 := hSA.below (hb1.mono (by omega))
            go_wp2_with fail
            refine (HMAY2.out w1 hS1 (by omega)).mono ?_
            rintro e w2 ⟨rfl, hb2⟩
            have hb12 := hb1.trans (hb2.mono hK1)
            have hK2 := hb12.size
            rw [hsA] at hK2
            clear y0 y1 yf hb1 hb2 hS1 hK1
            obtain ⟨x0, x1, xf⟩ := two_in (box_at hb12 hab (by omega))
            obtain ⟨y0, y1, yf⟩ := two_in (box_at hb12 hbb (by omega))
            obtain ⟨r0, r1, rf⟩ := two_in (box_at hb12 hrb (by omega))
            go_wp2
            refine bodyPost_ret (results_two rfl _ _ (w.heap.size + 2) 26 #[.int .i64 0, .slice none 0 0] (0, 0) _ rfl (two_set (box_at hb12 hrb (by omega))) Try.underlying26 rfl (by kernel_rfl)) rfl ?_
            obtain ⟨q1, q2⟩ := box_done (x := 0) hbA hb12 hrb (by omega) (by omega) (RwG.nil _ _)
            exact ⟨_, _, _, _, rfl, q1, q2⟩
      · have hres : joinR b rs b2 ss = (0, [], 1) := by unfold joinR; rw [if_neg (fun h => h2 h.2)]
        rw [hres]
        rw [Bool.eq_false_iff.2 h2] at hmay2
        have HMAY2 := Lib.hid hmay2
        generalize rs.length = m at *
        generalize ss.length = m2 at *
        clear hgood h1 h2 hres hmay1 hmay2
        go_enter Try.func33, Try.ntmps33
        go_wp2_with fail
        rw [HWA.out]
        obtain ⟨x0, x1, xf⟩ := two_in hab
        go_wp2_with fail
        refine (HMAY1.out wA hRA (by omega)).mono ?_
        rintro e w1 ⟨rfl, hb1⟩
        rw [hsA] at hb1
        have hK1 := hb1.size
        rw [hsA] at hK1
        clear x0 x1 xf
        obtain ⟨y0, y1, yf⟩ := two_in (box_at hb1 hbb (by omega))
        have hS1 := hSA.below (hb1.mono (by omega))
        go_wp2_with fail
        refine (HMAY2.out w1 hS1 (by omega)).mono ?_
        rintro e w2 ⟨rfl, hb2⟩
        have hb12 := hb1.trans (hb2.mono hK1)
        have hK2 := hb12.size
        rw [hsA] at hK2
        clear y0 y1 yf hb1 hb2 hS1 hK1
        obtain ⟨r0, r1, rf⟩ := two_in (box_at hb12 hrb (by omega))
        go_wp2
        refine bodyPost_ret (results_two rfl _ _ (w.heap.size + 2) 26 #[.int .i64 0, .slice none 0 0] (0, 0) _ rfl (two_set (box_at hb12 hrb (by omega))) Try.underlying26 rfl (by kernel_rfl)) rfl ?_
        obtain ⟨q1, q2⟩ := box_done (x := 0) hbA hb12 hrb (by omega) (by omega) (RwG.nil _ _)
        exact ⟨_, _, _, _, rfl, q1, q2⟩
    · have hres : joinR b rs b2 ss = (0, [], 1) := by unfold joinR; rw [if_neg (fun h => h1 h.1)]
      rw [hres]
      rw [Bool.eq_false_iff.2 h1] at hmay1
      have HMAY1 := Lib.hid hmay1
      generalize rs.length = m at *
      generalize ss.length = m2 at *
      clear hgood h1 hres hmay1 hmay2
      go_enter Try.func33, Try.ntmps33
      go_wp2_with fail
      rw [HWA.out]
      obtain ⟨x0, x1, xf⟩ := two_in hab
      go_wp2_with fail
      refine (HMAY1.out wA hRA (by omega)).mono ?_
      rintro e w1 ⟨rfl, hb1⟩
      rw [hsA] at hb1
      have hK1 := hb1.size
      rw [hsA] at hK1
      clear x0 x1 xf
      obtain ⟨r0, r1, rf⟩ := two_in (box_at hb1 hrb (by omega))
      go_wp2
      refine bodyPost_ret (results_two rfl _ _ (w.heap.size + 2) 26 #[.int .i64 0, .slice none 0 0] (0, 0) _ rfl (two_set (box_at hb1 hrb (by omega))) Try.underlying26 rfl (by kernel_rfl)) rfl ?_
      obtain ⟨q1, q2⟩ := box_done (x := 0) hbA hb1 hrb (by omega) (by omega) (RwG.nil _ _)
      exact ⟨_, _, _, _, rfl, q1, q2⟩
end Go.Proofs.Ytfbhiaoodompdaa
