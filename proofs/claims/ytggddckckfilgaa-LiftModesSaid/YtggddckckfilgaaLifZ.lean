/- lift: the law LiftModes, walked. -/
import Derived.Test.YtggddckckfilgaaLifY
import Derived.Test.YtggddckckfilgaaByt
import Derived.Deep.RegionHeld3
namespace Go.Proofs.Ytggddckckfilgaa
open Go.RowKit
set_option maxRecDepth 100000
set_option maxHeartbeats 16000000
set_option linter.unusedSimpArgs false

theorem liftModes_walk (v1 : Value) (xs : List Int) (v2 : Value) (ys : List Int) (w : World) (hS1 : Sli w w.heap.size v1 (ci16 xs)) (hx : ∀ x ∈ xs, i16I x) (hS2 : Sli w w.heap.size v2 (ci16 ys)) (hy : ∀ x ∈ ys, i16I x) :
    Calls Try.prog 8 #[v1, v2] w fun e w' => e = .returned (.bool true) ∧ Below w.heap.size w w' := by
  obtain ⟨A, c, rfl, hl1, hm1⟩ := hS1.form16
  obtain ⟨A2, c2, rfl, hl2, hm2⟩ := hS2.form16
  obtain ⟨n, hn⟩ : ∃ n, min xs.length ys.length = n := ⟨_, rfl⟩
  have hnx : n ≤ xs.length := by omega
  have hny : n ≤ ys.length := by omega
  have hmn : min (xs.length : Int) (ys.length : Int) = (n : Nat) := by omega
  have HX := Lib.hid hx; have HY := Lib.hid hy; have HS1 := Lib.hid hS1; have HS2 := Lib.hid hS2
  obtain ⟨nx, hnx'⟩ : ∃ k, xs.length = k := ⟨_, rfl⟩
  obtain ⟨ny, hny'⟩ : ∃ k, ys.length = k := ⟨_, rfl⟩
  rw [hnx'] at hmn hnx HS1 hl1 ⊢
  rw [hny'] at hmn hny HS2 hl2 ⊢
  have HNX := Lib.hid hnx'; have HNY := Lib.hid hny'
  clear hx hy hS1 hS2 hn hnx' hny' hm1 hm2
  go_enter Try.func8, Try.ntmps8
  go_wp2_with fail
  refine (lknown_any w).mono ?_
  rintro e w1 ⟨rfl, hb1⟩
  by_cases hn2 : n ≤ 200
  · have HB1 := Lib.hid hb1
    have hmk := makeI n (by omega)
    clear hb1
    go_upto_region 6 with (fail)
    go_cut [6] (fun p wx => ∃ gS g0 g1, p = .slice (some ⟨gS, 0, none⟩) 2 2 ∧ Hid (RwG wx w1.heap.size (.slice (some ⟨gS, 0, none⟩) 2 2) [sl g0 n, sl g1 n] [List.replicate n 0, List.replicate n 0]) ∧ Hid (Below w1.heap.size w1 wx))
    case first =>
      go_region
      all_goals
        go_wp2_with fail
        go_meet
        case rel =>
          first
            | (obtain ⟨q1, q2⟩ := two_rows w1 n w1.heap.size (w1.heap.size + 1) (by omega) (.inl ⟨rfl, rfl⟩); exact ⟨_, _, _, rfl, q1, q2⟩)
            | (obtain ⟨q1, q2⟩ := two_rows w1 n (w1.heap.size + 1) w1.heap.size (by omega) (.inr ⟨rfl, rfl⟩); exact ⟨_, _, _, rfl, q1, q2⟩)
    case rest =>
      obtain ⟨gS, g0, g1, rfl, hr2, hb2⟩ := hcut
      have HB2 := Lib.hid (bthen HB1.out hb2.out HB1.out.size)
      have hsz1 := HB1.out.size
      clear hmk
      have hxt : (xs.take n).length = n := by rw [List.length_take, HNX.out]; omega
      have hyt : (ys.take n).length = n := by rw [List.length_take, HNY.out]; omega
      have HXT := Lib.hid hxt; have HYT := Lib.hid hyt
      clear hxt hyt
      go_wp2
      go_loopw [7] (fun ii wr => ∃ j : Nat, j ≤ n ∧ ii = .int .i64 j ∧ Hid (RwG wr w1.heap.size (.slice (some ⟨gS, 0, none⟩) 2 2) [sl g0 n, sl g1 n] [fillZ (xs.take n) n j, fillZ (ys.take n) n j]) ∧ Hid (Below w.heap.size w wr) ∧ Hid (w1.heap.size ≤ wr.heap.size)) (fun ii _ => n - (intOf ii).toNat)
      case atStart => exact ⟨0, Nat.zero_le _, rfl, Lib.hid (by rw [fillZ_zero, fillZ_zero]; exact hr2.out), HB2, Lib.hid hb2.out.size⟩
      case round =>
        clear hr2 hb2 HB2
        obtain ⟨j, hj, rfl, hr, hb, hsw⟩ := hrel
        by_cases hjn : j < n
        · have hp : 0 < n := by omega
          obtain ⟨x, hxj⟩ : ∃ x, (xs.take n)[j]? = some x := ⟨_, List.getElem?_eq_getElem (by rw [HXT.out]; exact hjn)⟩
          obtain ⟨y, hyj⟩ : ∃ x, (ys.take n)[j]? = some x := ⟨_, List.getElem?_eq_getElem (by rw [HYT.out]; exact hjn)⟩
          have hx1 : xs[j]? = some x := by rw [List.getElem?_take, if_pos hjn] at hxj; exact hxj
          have hy1 : ys[j]? = some y := by rw [List.getElem?_take, if_pos hjn] at hyj; exact hyj
          have bx := HX.out x (List.mem_of_getElem? hx1)
          have by' := HY.out y (List.mem_of_getElem? hy1)
          unfold i16I at bx by'
          obtain ⟨ba, oa, rfl, hba, ca⟩ := (HS1.out.below hb.out).at16 hx1
          obtain ⟨bb, ob, rfl, hbb, cb⟩ := (HS2.out.below hb.out).at16 hy1
          obtain ⟨t0, _, hO0, hf0, hz0⟩ := hr.out.row_cells (i := 0) rfl rfl (fillZ_len HXT.out hj) hp
          obtain ⟨t1, _, hO1, hf1, hz1⟩ := hr.out.row_cells (i := 1) rfl rfl (fillZ_len HYT.out hj) hp
          obtain ⟨z0, z0c⟩ := hz0 j hjn
          obtain ⟨z1, z1c⟩ := hz1 j hjn
          have hf0' := hf0 j
          have hf1' := hf1 j
          have hg0 := (hO0.lt g0 rfl).1
          have hg1 := (hO1.lt g1 rfl).1
          have hne : g0 ≠ g1 := by
            have := hr.out.ap 0 1 _ _ (by omega) rfl rfl
            intro e
            exact this g0 rfl (by rw [e]; rfl)
          have hr3 := (hr.out.cell (i := 0) (k := j) rfl rfl x).cell (i := 1) (k := j) rfl rfl y
          simp only [List.set_cons_zero, List.set_cons_succ] at hr3
          rw [fillZ_set HXT.out hxj, fillZ_set HYT.out hyj] at hr3
          have hlo : w.heap.size ≤ w1.heap.size := hsz1
          have hb3 := (hb.out.setCell (p := ⟨g0, j, none⟩) (by show w.heap.size ≤ g0; omega) (.int .i64 x)).setCell (p := ⟨g1, j, none⟩) (by show w.heap.size ≤ g1; omega) (.int .i64 y)
          have HR3 := Lib.hid hr3.drew; have HB3 := Lib.hid hb3.drew
          have HSW := Lib.hid (show w1.heap.size ≤ ((wr.setCell ⟨g0, j, none⟩ (.int .i64 x)).setCell ⟨g1, j, none⟩ (.int .i64 y)).drew.heap.size by simpa using hsw.out)
          have hjx : j < nx := by omega
          have hjy : j < ny := by omega
          have hz1c' : (wr.setCell ⟨g0, j, none⟩ (.int .i64 x)).cell? ⟨g1, j, none⟩ = some (.int .i64 z1) := (World.cell?_setCell_other wr ⟨g0, j, none⟩ ⟨g1, j, none⟩ (.int .i64 x) (fun e => by injection e with e; exact hne e)).trans z1c
          clear hr hb hr3 hb3 hO0 hO1 hf0 hf1 hz0 hz1 hxj hyj hx1 hy1 hsw hlo
          go_wp2_with fail
          go_region
          all_goals
            go_wp2
            exact ⟨⟨j + 1, by omega, by simp, HR3, HB3, HSW⟩, by simp [intOf]; omega⟩
        · have hj2 : j = n := by omega
          have hr3 := hr.out
          rw [hj2, fillZ_all HXT.out, fillZ_all HYT.out] at hr3
          obtain ⟨p1, p2, p3, p4⟩ := modes_plain (n := n) HXT.out HYT.out (by omega) (fun x h => HX.out x (List.mem_of_mem_take h)) (fun x h => HY.out x (List.mem_of_mem_take h))
          have hr4 := hr3.mono hsz1
          have HCX := Lib.hid (fun x (h : x ∈ xs.take n) => HX.out x (List.mem_of_mem_take h))
          have HCY := Lib.hid (fun x (h : x ∈ ys.take n) => HY.out x (List.mem_of_mem_take h))
          generalize xs.take n = cx at *
          generalize ys.take n = cy at *
          have hd := fun (m : Int) (w2 : World) (h : Below wr.heap.size wr w2) u (hu : Lis w2 w2.heap.size u (namedLi m)) => doL_any _ u [cx, cy] (namedLi m) w2 _ _ (hr4.kept h).rws (Nat.le_refl _) hu (Nat.le_refl _)
          have HD := Lib.hid hd; have HR4 := Lib.hid hr4; have P2 := Lib.hid p2; have P3 := Lib.hid p3; have P4 := Lib.hid p4
          have HBR := Lib.hid hb.out
          clear hd hr3 hr4 p1 p2 p3 p4 hr hb hsw
          go_wp2_with fail
          clear hmn hjn hj2
          refine (named_any 1 wr).mono ?_
          rintro e wn1 ⟨un1, rfl, hon1, hbn1⟩
          have HBn1 := Lib.hid (hbn1)
          obtain ⟨An1, nn1, cn1, e1⟩ := hon1.shapeL
          have hd := HD.out 1 wn1 HBn1.out un1 hon1.lis
          rw [P2.out] at hd
          have HDD := Lib.hid hd
          subst e1
          clear hd hon1
          go_wp2_with fail
          refine HDD.out.mono ?_
          rintro e wd1 ⟨ud1, vs1, rfl, hrd1, hbd1⟩
          have HBd1 := Lib.hid (bthen HBn1.out hbd1 HBn1.out.size)
          have HR1a := Lib.hid hrd1
          clear hrd1 HDD
          clear hbn1 hbd1
          go_wp2_with fail
          refine (named_any 2 wd1).mono ?_
          rintro e wn2 ⟨un2, rfl, hon2, hbn2⟩
          have HBn2 := Lib.hid (bthen HBd1.out hbn2 HBd1.out.size)
          obtain ⟨An2, nn2, cn2, e1⟩ := hon2.shapeL
          have hd := HD.out 2 wn2 HBn2.out un2 hon2.lis
          rw [P3.out] at hd
          have HDD := Lib.hid hd
          subst e1
          clear hd hon2
          go_wp2_with fail
          refine HDD.out.mono ?_
          rintro e wd2 ⟨ud2, vs2, rfl, hrd2, hbd2⟩
          have HBd2 := Lib.hid (bthen HBn2.out hbd2 HBn2.out.size)
          have HR2a := Lib.hid hrd2
          clear hrd2 HDD
          have HR1b := Lib.hid ((HR1a.out.kept hbn2).kept hbd2)
          clear hbn2 hbd2 HR1a
          go_wp2_with fail
          refine (named_any 3 wd2).mono ?_
          rintro e wn3 ⟨un3, rfl, hon3, hbn3⟩
          have HBn3 := Lib.hid (bthen HBd2.out hbn3 HBd2.out.size)
          obtain ⟨An3, nn3, cn3, e1⟩ := hon3.shapeL
          have hd := HD.out 3 wn3 HBn3.out un3 hon3.lis
          rw [P4.out] at hd
          have HDD := Lib.hid hd
          subst e1
          clear hd hon3
          go_wp2_with fail
          refine HDD.out.mono ?_
          rintro e wd3 ⟨ud3, vs3, rfl, hrd3, hbd3⟩
          have HBd3 := Lib.hid (bthen HBn3.out hbd3 HBn3.out.size)
          have HR3a := Lib.hid hrd3
          clear hrd3 HDD
          have HR1c := Lib.hid ((HR1b.out.kept hbn3).kept hbd3)
          have HR2c := Lib.hid ((HR2a.out.kept hbn3).kept hbd3)
          have HRc := Lib.hid (HR4.out.kept HBd3.out)
          have HBz := Lib.hid (bthen HBR.out HBd3.out HBR.out.size)
          clear hbn3 hbd3 HR1b HR2a HBn1 HBn2 HBn3 HBd1 HBd2 HD P2 P3 P4 HR4
          have la := addL_len (s := 1) (g := -256) HYT.out HXT.out
          have lb := addL_len (s := 1) (g := -256) HXT.out HYT.out
          have lm := addL_len (s := 1) (g := 128) HYT.out lb
          obtain ⟨gc, oc, kc, Ac0, kc0, Ac1, kc1, ec, hkc, tc0, tc1, sc0, sc1, lc0, lc1⟩ := HRc.out.rws.two HXT.out HYT.out
          injection ec with ec _ ec3; injection ec with ec; injection ec with ec1 ec2
          subst ec1; subst ec2; subst ec3
          obtain ⟨ga, oa, ka, Aa0, ka0, Aa1, ka1, rfl, hka, ta0, ta1, sa0, sa1, la0, la1⟩ := HR1c.out.rws.two HXT.out la
          obtain ⟨gb, ob, kb, Ab0, kb0, Ab1, kb1, rfl, hkb, tb0, tb1, sb0, sb1, lb0, lb1⟩ := HR2c.out.rws.two lb HYT.out
          obtain ⟨gm, om, km, Am0, km0, Am1, km1, rfl, hkm, tm0, tm1, sm0, sm1, lm0, lm1⟩ := HR3a.out.rws.two lb lm
          have SC0 := Lib.hid sc0; have SC1 := Lib.hid sc1; have SA0 := Lib.hid sa0; have SA1 := Lib.hid sa1; have SB0 := Lib.hid sb0; have SB1 := Lib.hid sb1; have SM0 := Lib.hid sm0; have SM1 := Lib.hid sm1
          have LA := Lib.hid la; have LB := Lib.hid lb; have LM := Lib.hid lm
          clear sc0 sc1 sa0 sa1 sb0 sb1 sm0 sm1 la lb lm HRc HR1c HR2c HR3a
          go_wp2
          go_loopw [14] (fun ii wr2 => ∃ j : Nat, j ≤ n ∧ ii = .int .i64 j ∧ Hid (∃ q, wr2 = wd3.drewN q)) (fun ii _ => n - (intOf ii).toNat)
          case atStart => exact ⟨0, Nat.zero_le _, rfl, Lib.hid ⟨0, rfl⟩⟩
          case round =>
            obtain ⟨i, hi, rfl, hq⟩ := hrel
            have HW : Hid (∀ p, wr.cell? p = wd3.cell? p) := Lib.hid (by obtain ⟨q, e⟩ := hq.out; exact fun p => by rw [e]; rfl)
            have HN2 : Hid (∀ nq, ∃ q, wr.drewN nq = wd3.drewN q) := Lib.hid (by obtain ⟨q, h⟩ := hq.out; exact fun nq => ⟨q + nq, by rw [h, World.drewN_drewN]⟩)
            have uc0 := (HW.out _).trans tc0
            have uc1 := (HW.out _).trans tc1
            have ua0 := (HW.out _).trans ta0
            have ua1 := (HW.out _).trans ta1
            have ub0 := (HW.out _).trans tb0
            have ub1 := (HW.out _).trans tb1
            have um0 := (HW.out _).trans tm0
            have um1 := (HW.out _).trans tm1
            clear tc0 tc1 ta0 ta1 tb0 tb1 tm0 tm1
            by_cases hin : i < n
            · obtain ⟨x, hx⟩ : ∃ x, cx[i]? = some x := ⟨_, List.getElem?_eq_getElem (by rw [HXT.out]; exact hin)⟩
              obtain ⟨y, hy⟩ : ∃ x, cy[i]? = some x := ⟨_, List.getElem?_eq_getElem (by rw [HYT.out]; exact hin)⟩
              have h1 := addL_at (s := 1) (g := -256) hy hx
              have h2 := addL_at (s := 1) (g := -256) hx hy
              have h3 := addL_at (s := 1) (g := 128) hy h2
              rw [addI_diff] at h1 h2 h3
              rw [addI_mid] at h3
              have bx := HCX.out x (List.mem_of_getElem? hx)
              have by' := HCY.out y (List.mem_of_getElem? hy)
              unfold i16I at bx by'
              obtain ⟨_, _, rfl, _, kc0'⟩ := (SC0.out.keep fun p _ => HW.out p).atI' hx
              obtain ⟨_, _, rfl, _, kc1'⟩ := (SC1.out.keep fun p _ => HW.out p).atI' hy
              obtain ⟨_, _, rfl, _, ka1'⟩ := (SA1.out.keep fun p _ => HW.out p).atI' h1
              obtain ⟨_, _, rfl, _, kb0'⟩ := (SB0.out.keep fun p _ => HW.out p).atI' h2
              obtain ⟨_, _, rfl, _, km0'⟩ := (SM0.out.keep fun p _ => HW.out p).atI' h2
              obtain ⟨_, _, rfl, _, km1'⟩ := (SM1.out.keep fun p _ => HW.out p).atI' h3
              clear h1 h2 h3 hx hy HW hq
              go_wp2
              go_quiet (fail)
              go_wp2
              exact ⟨⟨i + 1, by omega, by simp, Lib.hid (HN2.out _)⟩, by simp [intOf]; omega⟩
            · have HE1 := fun q : Nat => sameInts_self _ _ cx (wr.drewN q) _ _ ((SA0.out.keep fun p _ => HW.out p).keep fun _ _ => rfl) ((SC0.out.keep fun p _ => HW.out p).keep fun _ _ => rfl) (by rw [HXT.out]; omega)
              have HE2 := fun q : Nat => sameInts_self _ _ cy (wr.drewN q) _ _ ((SB1.out.keep fun p _ => HW.out p).keep fun _ _ => rfl) ((SC1.out.keep fun p _ => HW.out p).keep fun _ _ => rfl) (by rw [HYT.out]; omega)
              have HF1 : Hid (∀ W, (∃ q, W = wr.drewN q) → Calls Try.prog 29 #[.slice Aa0 n ka0, .slice Ac0 n kc0] W fun e w' => e = .returned (.bool true) ∧ ∃ q, w' = W.drewN q) := Lib.hid (by rintro _ ⟨q, rfl⟩; exact HE1 q)
              have HF2 : Hid (∀ W, (∃ q, W = wr.drewN q) → Calls Try.prog 29 #[.slice Ab1 n kb1, .slice Ac1 n kc1] W fun e w' => e = .returned (.bool true) ∧ ∃ q, w' = W.drewN q) := Lib.hid (by rintro _ ⟨q, rfl⟩; exact HE2 q)
              have HD1 : Hid (∃ q, wr.drew = wr.drewN q) := Lib.hid ⟨1, rfl⟩
              clear HE1 HE2 HW hq
              have hlt3 : ¬ (i : Int) < (n : Int) := by omega
              have uc1' : wr.cell? ⟨gS, 1, none⟩ = some (.slice Ac1 n kc1) := uc1
              clear ua1 ub0 um0 um1
              go_wp2_with fail
              refine wp_region_held_drew (S := fun w' => w'.cell? ⟨ga, oa, none⟩ = some (.slice Aa0 n ka0) ∧ w'.cell? ⟨gb, ob + 1, none⟩ = some (.slice Ab1 n kb1) ∧ w'.cell? ⟨gS, 0, none⟩ = some (.slice Ac0 n kc0) ∧ w'.cell? ⟨gS, 1, none⟩ = some (.slice Ac1 n kc1)) (by kernel_rfl) ⟨ua0, ub1, uc0, uc1'⟩ (fun hHeld => ?_)
              refine wpAnyH_take (i := 0) (v := ?_) rfl (by kernel_rfl) (by kernel_rfl) (by kernel_rfl) (fun _ _ _ h => h) (Or.inl ⟨by rfl, ?_⟩) hHeld ?_
              rotate_left 1
              · (intro w' hSw; obtain ⟨s1, s2, s3, s4⟩ := hSw; go_simp; try with_reducible rfl)
              try simp only [Act.put, List.setIfInBounds_toArray, List.set_cons_zero, List.set_cons_succ]
              refine wpAnyH_take (i := 1) (v := ?_) rfl (by kernel_rfl) (by kernel_rfl) (by kernel_rfl) (fun _ _ _ h => h) (Or.inl ⟨by rfl, ?_⟩) hHeld ?_
              rotate_left 1
              · (intro w' hSw; obtain ⟨s1, s2, s3, s4⟩ := hSw; go_simp; try with_reducible rfl)
              try simp only [Act.put, List.setIfInBounds_toArray, List.set_cons_zero, List.set_cons_succ]
              refine wpAnyH_take (i := 2) (v := ?_) rfl (by kernel_rfl) (by kernel_rfl) (by kernel_rfl) (fun _ _ _ h => h) (Or.inl ⟨by rfl, ?_⟩) hHeld ?_
              rotate_left 1
              · (intro w' hSw; obtain ⟨s1, s2, s3, s4⟩ := hSw; go_simp; try with_reducible rfl)
              try simp only [Act.put, List.setIfInBounds_toArray, List.set_cons_zero, List.set_cons_succ]
              refine wpAnyH_take (i := 3) (v := ?_) rfl (by kernel_rfl) (by kernel_rfl) (by kernel_rfl) (fun _ _ _ h => h) (Or.inl ⟨by rfl, ?_⟩) hHeld ?_
              rotate_left 1
              · (intro w' hSw; obtain ⟨s1, s2, s3, s4⟩ := hSw; go_simp; try with_reducible rfl)
              try simp only [Act.put, List.setIfInBounds_toArray, List.set_cons_zero, List.set_cons_succ]
              refine wpAnyH_take (i := 4) (v := ?_) rfl (by kernel_rfl) (by kernel_rfl) (by kernel_rfl) (fun _ _ _ h => h) (Or.inl ⟨by rfl, ?_⟩) hHeld ?_
              rotate_left 1
              · (intro w' hSw; obtain ⟨s1, s2, s3, s4⟩ := hSw; go_simp; try with_reducible rfl)
              try simp only [Act.put, List.setIfInBounds_toArray, List.set_cons_zero, List.set_cons_succ]
              refine wpAnyH_take (i := 5) (v := ?_) rfl (by kernel_rfl) (by kernel_rfl) (by kernel_rfl) (fun _ _ _ h => h) (Or.inl ⟨by rfl, ?_⟩) hHeld ?_
              rotate_left 1
              · (intro w' hSw; obtain ⟨s1, s2, s3, s4⟩ := hSw; go_simp; try with_reducible rfl)
              try simp only [Act.put, List.setIfInBounds_toArray, List.set_cons_zero, List.set_cons_succ]
              refine wpAnyH_ready (rs := [6]) (by kernel_rfl) (by simp) ?_
              refine AllReadyH.cons rfl (fun K hK => ?_) AllReadyH.nil
              go_simp
              go_at_call 29
              refine (HF1.out wr.drew HD1.out).mono ?_
              rintro e w5 ⟨rfl, q5, hw5⟩
              have k5 : w5.cell? ⟨ga, oa, none⟩ = some (.slice Aa0 n ka0) ∧ w5.cell? ⟨gb, ob + 1, none⟩ = some (.slice Ab1 n kb1) ∧ w5.cell? ⟨gS, 0, none⟩ = some (.slice Ac0 n kc0) ∧ w5.cell? ⟨gS, 1, none⟩ = some (.slice Ac1 n kc1) := by { subst hw5; exact ⟨ua0, ub1, uc0, uc1'⟩ }
              have HW5 := Lib.hid (show ∃ q, w5 = wr.drewN q by { subst hw5; obtain ⟨q, h⟩ := HD1.out; exact ⟨q + q5, by rw [h, World.drewN_drewN]⟩ })
              clear hw5
              go_wp2_with fail
              refine hK.out _ _ k5 (fun hHeld => ?_)
              clear hK K
              try simp only [Act.put, List.setIfInBounds_toArray, List.set_cons_zero, List.set_cons_succ]
              refine wpAnyH_take (i := 7) (v := ?_) rfl (by kernel_rfl) (by kernel_rfl) (by kernel_rfl) (fun _ _ _ h => h) (Or.inl ⟨by rfl, ?_⟩) hHeld ?_
              rotate_left 1
              · (intro w' hSw; obtain ⟨s1, s2, s3, s4⟩ := hSw; go_simp; try with_reducible rfl)
              try simp only [Act.put, List.setIfInBounds_toArray, List.set_cons_zero, List.set_cons_succ]
              refine wpAnyH_take (i := 8) (v := ?_) rfl (by kernel_rfl) (by kernel_rfl) (by kernel_rfl) (fun _ _ _ h => h) (Or.inl ⟨by rfl, ?_⟩) hHeld ?_
              rotate_left 1
              · (intro w' hSw; obtain ⟨s1, s2, s3, s4⟩ := hSw; go_simp; try with_reducible rfl)
              try simp only [Act.put, List.setIfInBounds_toArray, List.set_cons_zero, List.set_cons_succ]
              refine wpAnyH_take (i := 9) (v := ?_) rfl (by kernel_rfl) (by kernel_rfl) (by kernel_rfl) (fun _ _ _ h => h) (Or.inl ⟨by rfl, ?_⟩) hHeld ?_
              rotate_left 1
              · (intro w' hSw; obtain ⟨s1, s2, s3, s4⟩ := hSw; go_simp; try with_reducible rfl)
              try simp only [Act.put, List.setIfInBounds_toArray, List.set_cons_zero, List.set_cons_succ]
              refine wpAnyH_take (i := 10) (v := ?_) rfl (by kernel_rfl) (by kernel_rfl) (by kernel_rfl) (fun _ _ _ h => h) (Or.inl ⟨by rfl, ?_⟩) hHeld ?_
              rotate_left 1
              · (intro w' hSw; obtain ⟨s1, s2, s3, s4⟩ := hSw; go_simp; try with_reducible rfl)
              try simp only [Act.put, List.setIfInBounds_toArray, List.set_cons_zero, List.set_cons_succ]
              refine wpAnyH_take (i := 11) (v := ?_) rfl (by kernel_rfl) (by kernel_rfl) (by kernel_rfl) (fun _ _ _ h => h) (Or.inl ⟨by rfl, ?_⟩) hHeld ?_
              rotate_left 1
              · (intro w' hSw; obtain ⟨s1, s2, s3, s4⟩ := hSw; go_simp; try with_reducible rfl)
              try simp only [Act.put, List.setIfInBounds_toArray, List.set_cons_zero, List.set_cons_succ]
              refine wpAnyH_take (i := 12) (v := ?_) rfl (by kernel_rfl) (by kernel_rfl) (by kernel_rfl) (fun _ _ _ h => h) (Or.inl ⟨by rfl, ?_⟩) hHeld ?_
              rotate_left 1
              · (intro w' hSw; obtain ⟨s1, s2, s3, s4⟩ := hSw; go_simp; try with_reducible rfl)
              try simp only [Act.put, List.setIfInBounds_toArray, List.set_cons_zero, List.set_cons_succ]
              refine wpAnyH_take (i := 13) (v := ?_) rfl (by kernel_rfl) (by kernel_rfl) (by kernel_rfl) (fun _ _ _ h => h) (Or.inl ⟨by rfl, ?_⟩) hHeld ?_
              rotate_left 1
              · (intro w' hSw; obtain ⟨s1, s2, s3, s4⟩ := hSw; go_simp; try with_reducible rfl)
              try simp only [Act.put, List.setIfInBounds_toArray, List.set_cons_zero, List.set_cons_succ]
              refine wpAnyH_ready (rs := [14]) (by kernel_rfl) (by simp) ?_
              refine AllReadyH.cons rfl (fun K hK => ?_) AllReadyH.nil
              go_simp
              go_at_call 29
              refine (HF2.out w5 HW5.out).mono ?_
              rintro e w6 ⟨rfl, q6, hw6⟩
              have k6 : w6.cell? ⟨ga, oa, none⟩ = some (.slice Aa0 n ka0) ∧ w6.cell? ⟨gb, ob + 1, none⟩ = some (.slice Ab1 n kb1) ∧ w6.cell? ⟨gS, 0, none⟩ = some (.slice Ac0 n kc0) ∧ w6.cell? ⟨gS, 1, none⟩ = some (.slice Ac1 n kc1) := by { subst hw6; exact k5 }
              have HBF : Hid (Below w.heap.size w w6) := Lib.hid (by obtain ⟨q, h⟩ := HW5.out; rw [hw6, h, World.drewN_drewN]; obtain ⟨q2, h2⟩ := HN2.out (q + q6); rw [h2]; exact below_drewN HBz.out q2)
              clear hw6
              go_wp2_with fail
              refine hK.out _ _ k6 (fun hHeld => ?_)
              clear hK K
              try simp only [Act.put, List.setIfInBounds_toArray, List.set_cons_zero, List.set_cons_succ]
              refine wpAnyH_ready (rs := [15]) (by kernel_rfl) (by simp) ?_
              refine AllReadyH.cons rfl (fun K hK => ?_) AllReadyH.nil
              go_simp
              refine hK.out _ _ k6 (fun hHeld => ?_)
              clear hK K
              try simp only [Act.put, List.setIfInBounds_toArray, List.set_cons_zero, List.set_cons_succ]
              refine wpAnyH_ready (rs := [16]) (by kernel_rfl) (by simp) ?_
              refine AllReadyH.cons rfl (fun K hK => ?_) AllReadyH.nil
              go_simp
              refine hK.out _ _ k6 (fun hHeld => ?_)
              clear hK K
              try simp only [Act.put, List.setIfInBounds_toArray, List.set_cons_zero, List.set_cons_succ]
              refine wpAnyH_done (by kernel_rfl) ?_ _
              go_wp2
              go_ret
              exact ⟨rfl, HBF.out⟩
  · have hgt : (200 : Int) < (n : Int) := by omega
    go_wp2
    go_ret
    exact ⟨rfl, hb1⟩
end Go.Proofs.Ytggddckckfilgaa
