/- block: the law BlockBack. -/
import Derived.Test.YtfbhiaoodompdaaBloRo
import Derived.Test.YtfbhiaoodompdaaBloU
namespace Go.Proofs.Ytfbhiaoodompdaa
open Go.RowKit
set_option maxRecDepth 100000
set_option maxHeartbeats 8000000

theorem mask20 (c : Int) : bits .and .i64 c 1048575 = c % 1048576 := i64_mask 20 (by omega) c
theorem far_two {w : World} {g : Nat} {a b u : Value} {p : Addr} (h : w.cell? p = some u) (hg : p.block ≠ g) : ((w.setCell ⟨g, 0, none⟩ a).setCell ⟨g, 1, none⟩ b).cell? p = some u := by
  rw [World.cell?_setCell_other _ _ _ _ (fun e => hg (by rw [← e])), World.cell?_setCell_other _ _ _ _ (fun e => hg (by rw [← e]))]; exact h
theorem blockBack_walk (bo : Int) (bv : Value) (rs : List (List Int)) (rate : Int) (w : World) (hR : Rws w w.heap.size bv rs) :
    Calls Try.prog 8 #[.agg #[.int .i64 bo, bv], .int .i64 rate] w fun e w' => e = .returned (.bool true) ∧ Below w.heap.size w w' := by
  obtain ⟨A, c, rfl, hlc, hcm⟩ := hR.form
  have hX0 := Bxd.new (b := bo) hR
  have hb0 := below_new w #[.int .i64 bo, .slice A rs.length c] 26
  have st0 := (stab_be w).and (stab_bxd w.heap.size w.heap.size bo (.slice A rs.length c) rs)
  have hsm := fun (w1 : World) (h : Rws w1 w.heap.size (.slice A rs.length c) rs) (h2 : w.heap.size ≤ w1.heap.size) => smallBk_any bo _ rs 300 w1 _ h h2
  have hmy := fun (w1 : World) (h : Rws w1 w.heap.size (.slice A rs.length c) rs) (h2 : w.heap.size ≤ w1.heap.size) => qmayBk_any bo _ rs w1 _ h h2
  have hwv := fun (w1 : World) (h : Rws w1 w.heap.size (.slice A rs.length c) rs) (h2 : w.heap.size ≤ w1.heap.size) => weaveBk_any bo _ rs w1 _ h h2
  have hpk := fun (w1 : World) (h : Rws w1 w.heap.size (.slice A rs.length c) rs) (h2 : w.heap.size ≤ w1.heap.size) => packBk_any bo _ rs w1 _ h h2
  have HSM0 := Lib.hid hsm; have HMY0 := Lib.hid hmy; have HWV0 := Lib.hid hwv; have HPK0 := Lib.hid hpk
  clear hsm hmy hwv hpk
  have hP0 := And.intro hb0 hX0
  obtain ⟨wA, hwA⟩ : ∃ wA, w.alloc (.cells #[.int .i64 bo, .slice A rs.length c] 26) = wA := ⟨_, rfl⟩
  rw [hwA] at hP0
  have HWA := Lib.hid hwA
  clear hwA hX0 hb0
  by_cases hs : smallB rs 300 = true ∧ mayBk bo rs = true
  · obtain ⟨hs1, hs2⟩ := hs
    rw [hs1] at HSM0
    rw [hs2] at HMY0
    have M := mayBk_of hs2
    have hwr : weaveR bo rs = weaveB rs (lenB rs) := by unfold weaveR; rw [if_pos hs2]
    have hpb := packBl_may M
    rw [hwr] at HWV0
    rw [hpb] at HPK0
    obtain ⟨r, hr⟩ : ∃ r : Int, rate % 1048576 + 1 = r := ⟨_, rfl⟩
    have hr1 : 1 ≤ r := by have := Int.emod_nonneg rate (show (1048576 : Int) ≠ 0 by decide); omega
    have hr2 : r ≤ 1048576 := by have := Int.emod_lt_of_pos rate (show (0 : Int) < 1048576 by decide); omega
    have hmask := mask20 rate
    have hpr := partR_weave M ⟨hr1, hr2⟩
    have hup := unpack_pack M ⟨hr1, hr2⟩
    have hm8 := M.chans
    have hrt : rightB r (rs.length : Nat) bo = true := rightB_iff.2 ⟨hr1, hr2, by omega, by omega, M.bits⟩
    have hwl : (weaveB rs (lenB rs)).length ≤ 1099511627776 := by have := weaveB_small M (lenB rs) (Nat.le_refl _); omega
    have hpl : (packL bo (weaveB rs (lenB rs))).length ≤ 1099511627776 := by
      have := packBl_len bo rs
      rw [hpb] at this; dsimp only at this; omega
    have hbyte := packL_byte bo (weaveB rs (lenB rs))
    have h1 := fun (w1 : World) (v : Value) (h : Sli w1 w1.heap.size v (ci (weaveB rs (lenB rs)))) => partBk_any v _ r (rs.length : Nat) bo w1 _ h (Nat.le_refl _) hwl
    rw [hpr] at h1
    have h2 := fun (w1 : World) (v : Value) (h : Sli w1 w1.heap.size v (cu8 (packL bo (weaveB rs (lenB rs))))) => unpackBk_any v _ r (rs.length : Nat) bo w1 _ h (Nat.le_refl _) hbyte hpl
    rw [hup] at h2
    have h3 := fun w1 => right_any r (rs.length : Nat) bo w1
    rw [hrt] at h3
    have hsb := M.smb
    generalize packL bo (weaveB rs (lenB rs)) = pl at *
    generalize weaveB rs (lenB rs) = wl at *
    have hrw : wrap64 (rate % 1048576 + 1) = r := by rw [hr]; exact wrap_in (by omega) (by omega)
    have H1 := Lib.hid h1; have H2 := Lib.hid h2; have H3 := Lib.hid h3; have HSB := Lib.hid hsb; have HMASK := Lib.hid hmask; have HRR := Lib.hid hr; have HRW := Lib.hid hrw
    clear h1 h2 h3 hsb hs1 hs2 hwr hpb hpr hup hrt hwl hpl hbyte hmask hr hrw hR
    clear M
    generalize rs.length = m at *
    go_enter Try.func8, Try.ntmps8
    go_wp2_with fail
    rw [HWA.out]
    refine (knownBk_any wA).mono ?_
    rintro e w1 ⟨rfl, hb1⟩
    have hP1 := st0 _ _ hb1 hP0
    obtain ⟨x0, x1⟩ := hP1.2.cs
    go_wp2_with fail
    refine (HSM0.out w1 hP1.2.2.2 hP1.2.2.1).mono ?_
    rintro e w2 ⟨rfl, hb2⟩
    have hP2 := st0 _ _ hb2 hP1
    clear x0 x1
    obtain ⟨x0, x1⟩ := hP2.2.cs
    go_wp2_with fail
    refine (HMY0.out w2 hP2.2.2.2 hP2.2.2.1).mono ?_
    rintro e w3 ⟨rfl, hb3⟩
    have hP3 := st0 _ _ hb3 hP2
    clear x0 x1
    obtain ⟨x0, x1⟩ := hP3.2.cs
    have hmk := HMASK.out
    have hrr := HRR.out
    have hbn4 := below_new w3 #[.int .i64 r, .int .i64 (m : Nat), .int .i64 bo] 23
    have hF4 := boxed w3 #[.int .i64 r, .int .i64 (m : Nat), .int .i64 bo] 23
    have hP4a := st0 _ _ hbn4 hP3
    obtain ⟨w4, hw4⟩ : ∃ w4, w3.alloc (.cells #[.int .i64 r, .int .i64 (m : Nat), .int .i64 bo] 23) = w4 := ⟨_, rfl⟩
    rw [hw4] at hF4 hP4a
    go_upto_region 6 with (fail)
    have st1 := st0.and (stab_box w3.heap.size (.cells #[.int .i64 r, .int .i64 (m : Nat), .int .i64 bo] 23 (0, 0)))
    have hP4 : (Below w.heap.size w w4 ∧ Bxd w.heap.size w.heap.size bo (.slice A m c) rs w4) ∧ w4.heap[w3.heap.size]? = some (.cells #[.int .i64 r, .int .i64 (m : Nat), .int .i64 bo] 23 (0, 0)) := ⟨hP4a, hF4⟩
    clear hw4 hbn4 hF4 hP4a hP3 hP2 hP1 x0 x1 hmk hrr
    have st2 := st1.and (stab_be w4)
    have hP4d := st2.drew ⟨hP4, Below.refl w4.heap.size w4⟩
    have hP4e := st2 _ _ (below_new w4.drew #[.int .i64 0, .slice none 0 0] 26) hP4d
    obtain ⟨x0, x1⟩ := hP4.1.2.cs
    obtain ⟨f0, f1, f2, ff⟩ := three_in hP4.2
    have hz1 : w.heap.size < w4.heap.size := (Array.getElem?_eq_some_iff.1 hP4.1.2.1).1
    have hz2 : w3.heap.size < w4.heap.size := (Array.getElem?_eq_some_iff.1 hP4.2).1
    go_cut [6, 7] (fun p e wx => ∃ g A n c, p = .pointer (some ⟨g, 0, none⟩) ∧ e = .int .i64 0 ∧ wx.heap[g]? = some (.cells #[.int .i64 bo, .slice A n c] 26 (0, 0)) ∧ Rws wx wx.heap.size (.slice A n c) rs ∧ Below w4.heap.size w4 wx)
    case first =>
      go_region_held3 (fun w' => w'.cell? ⟨w.heap.size, 0, none⟩ = some (.int .i64 bo) ∧ w'.cell? ⟨w.heap.size, 1, none⟩ = some (.slice A m c) ∧ w'.cell? ⟨w3.heap.size, 0, none⟩ = some (.int .i64 r) ∧ w'.cell? ⟨w3.heap.size, 1, none⟩ = some (.int .i64 (m : Nat)) ∧ w'.cell? ⟨w3.heap.size, 2, none⟩ = some (.int .i64 bo))
        (first | go_keep | exact ⟨l0, l1, l2, l3, l4⟩ | exact ⟨k0, k1, k2, k3, k4⟩ | exact ⟨far_two l0 (by simp; omega), far_two l1 (by simp; omega), far_two l2 (by simp; omega), far_two l3 (by simp; omega), far_two l4 (by simp; omega)⟩)
        (first
          | (go_at_call 23; (first | refine (HWV0.out _ hP4d.1.1.2.2.2 hP4d.1.1.2.2.1).mono ?_ | refine (HWV0.out _ hP4e.1.1.2.2.2 hP4e.1.1.2.2.1).mono ?_); rintro e w6 ⟨v6, rfl, ho6, hb6⟩; (first | have hP6 := st2 _ _ hb6 hP4d | have hP6 := st2 _ _ hb6 hP4e); obtain ⟨k0, k1⟩ := hP6.1.1.2.cs; obtain ⟨k2, k3, k4, kf⟩ := three_in hP6.1.2; have z6 := hP6.2.size; (first | have hz6 : w6.heap[w4.heap.size]? = some (.cells #[.int .i64 0, .slice none 0 0] 26 (0, 0)) := boxed_on (w := w4.drew) hb6 | skip))
          | (go_at_call 28; (first | refine (H1.out _ _ ho6.sli).mono ?_ | refine (H1.out _ _ (ho6.alloc _).sli).mono ?_); rintro e w7 ⟨A7, n7, c7, vs7, rfl, hR7, hb7⟩; (first | (have hz7 := (hb7.block _ (Array.getElem?_eq_some_iff.1 hz6).1).trans hz6; have ht := two_in hz7; have t0 := ht.1; have t1 := ht.2.1; have tf := ht.2.2; have hP7 := st2 _ _ hb7 hP6) | (have hz7 := boxed_on hb7; have ht := two_in hz7; have t0 := ht.1; have t1 := ht.2.1; have tf := ht.2.2; have hP7 := st2 _ _ hb7 (st2 _ _ (below_new w6 #[.int .i64 0, .slice none 0 0] 26) hP6)) | have hP7 := st2 _ _ hb7 hP6); have hl := hP7.1.1.2.cs; have l0 := hl.1; have l1 := hl.2; have hl2 := three_in hP7.1.2; have l2 := hl2.1; have l3 := hl2.2.1; have l4 := hl2.2.2.1))
      all_goals
        go_wp2_with fail
        go_meet
        case rel =>
          first
            | exact ⟨_, _, _, _, rfl, rfl, boxed w7 _ _, (hR7.rws.below (below_new w7 _ _)).more (by simp), hP7.2.trans ((below_new w7 _ _).mono hP7.2.size)⟩
            | exact ⟨_, _, _, _, rfl, rfl, two_set hz7, (hR7.far hz7 (by decide) (by decide) (two_gr w7 _ _ _)).rws, hP7.2.trans (below_of_only (two_gr w7 _ _ _) z6 hP7.2.size)⟩
            | exact ⟨_, _, _, _, rfl, rfl, two_set hz7, (hR7.far hz7 (by decide) (by decide) (two_gr w7 _ _ _)).rws, hP7.2.trans (below_of_only (two_gr w7 _ _ _) (Nat.le_refl _) hP7.2.size)⟩
    case rest =>
      obtain ⟨g, Ag, ng, cg, rfl, rfl, hgb, hgr, hgbe⟩ := hcut
      have hP5 := st1 _ _ hgbe hP4
      have hC5 : Bxd g wc.heap.size bo (.slice Ag ng cg) rs wc := ⟨hgb, Nat.le_refl _, hgr⟩
      have st3 := st1.and (stab_bxd g wc.heap.size bo (.slice Ag ng cg) rs)
      clear x0 x1 f0 f1 f2 ff hP4d hP4e st2 hgb hgr hgbe
      obtain ⟨x0, x1⟩ := hP5.1.2.cs
      go_wp2_with fail
      refine (HPK0.out wc hP5.1.2.2.2 hP5.1.2.2.1).mono ?_
      rintro e w6 ⟨v6, rfl, ho6, hb6⟩
      have hP6 := st3 _ _ hb6 ⟨hP5, hC5⟩
      clear x0 x1 hP5
      obtain ⟨f0, f1, f2, ff⟩ := three_in hP6.1.2
      go_wp2_with fail
      refine (H2.out w6 _ ho6.sli).mono ?_
      rintro e w7 ⟨A7, n7, c7, vs7, rfl, hR7, hb7⟩
      have hP7 := st3 _ _ hb7 hP6
      have hbn7 := below_new w7 #[.int .i64 bo, .slice A7 n7 c7] 26
      have hD8 := Bxd.new (b := bo) hR7.rws
      have hP8 := st3 _ _ hbn7 hP7
      obtain ⟨w8, hw8⟩ : ∃ w8, w7.alloc (.cells #[.int .i64 bo, .slice A7 n7 c7] 26) = w8 := ⟨_, rfl⟩
      rw [hw8] at hD8 hP8
      have st4 := st3.and (stab_bxd w7.heap.size w7.heap.size bo (.slice A7 n7 c7) rs)
      clear f0 f1 f2 ff hP6 hP7 hbn7 hR7
      obtain ⟨f0, f1, f2, ff⟩ := three_in hP8.1.2
      go_wp2_with fail
      refine (H3.out w8).mono ?_
      rintro e w9 ⟨rfl, hb9⟩
      have hP9 := st4 _ _ hb9 ⟨hP8, hD8⟩
      clear f0 f1 f2 ff hP8 hD8
      obtain ⟨x0, x1⟩ := hP9.1.1.1.2.cs
      obtain ⟨y0, y1⟩ := hP9.1.2.cs
      go_wp2_with fail
      refine (same_two hP9.1.1.1.2.2.2 hP9.1.2.2.2 hP9.1.1.1.2.2.1 hP9.1.2.2.1 HSB.out).mono ?_
      rintro e w10 ⟨rfl, hb10⟩
      have hP10 := st4 _ _ hb10 hP9
      clear x0 x1 y0 y1
      obtain ⟨x0, x1⟩ := hP10.1.1.1.2.cs
      obtain ⟨y0, y1⟩ := hP10.2.cs
      go_wp2_with fail
      refine (same_two hP10.1.1.1.2.2.2 hP10.2.2.2 hP10.1.1.1.2.2.1 hP10.2.2.1 HSB.out).mono ?_
      rintro e w11 ⟨rfl, hb11⟩
      have hP11 := st4 _ _ hb11 hP10
      clear x0 x1 y0 y1
      go_wp2
      go_ret
      exact ⟨rfl, hP11.1.1.1.1⟩
  · by_cases hs1 : smallB rs 300 = true
    · have hs2 : ¬ mayBk bo rs = true := fun h => hs ⟨hs1, h⟩
      rw [hs1] at HSM0
      rw [Bool.eq_false_iff.2 hs2] at HMY0
      clear hs hs1 hs2 hR
      go_enter Try.func8, Try.ntmps8
      go_wp2_with fail
      rw [HWA.out]
      refine (knownBk_any wA).mono ?_
      rintro e w1 ⟨rfl, hb1⟩
      have hP1 := st0 _ _ hb1 hP0
      obtain ⟨x0, x1⟩ := hP1.2.cs
      go_wp2_with fail
      refine (HSM0.out w1 hP1.2.2.2 hP1.2.2.1).mono ?_
      rintro e w2 ⟨rfl, hb2⟩
      have hP2 := st0 _ _ hb2 hP1
      clear x0 x1
      obtain ⟨x0, x1⟩ := hP2.2.cs
      go_wp2_with fail
      refine (HMY0.out w2 hP2.2.2.2 hP2.2.2.1).mono ?_
      rintro e w3 ⟨rfl, hb3⟩
      have hP3 := st0 _ _ hb3 hP2
      go_wp2
      go_ret
      exact ⟨rfl, hP3.1⟩
    · rw [Bool.eq_false_iff.2 hs1] at HSM0
      clear hs hs1 hR
      go_enter Try.func8, Try.ntmps8
      go_wp2_with fail
      rw [HWA.out]
      refine (knownBk_any wA).mono ?_
      rintro e w1 ⟨rfl, hb1⟩
      have hP1 := st0 _ _ hb1 hP0
      obtain ⟨x0, x1⟩ := hP1.2.cs
      go_wp2_with fail
      refine (HSM0.out w1 hP1.2.2.2 hP1.2.2.1).mono ?_
      rintro e w2 ⟨rfl, hb2⟩
      have hP2 := st0 _ _ hb2 hP1
      go_wp2
      go_ret
      exact ⟨rfl, hP2.1⟩
end Go.Proofs.Ytfbhiaoodompdaa
