/- block: the law BlockCuts. -/
import Derived.Test.YtfbhiaoodompdaaBloBa
import Derived.Test.YtfbhiaoodompdaaBloCq
namespace Go.Proofs.Ytfbhiaoodompdaa
open Go.RowKit
set_option maxRecDepth 100000
set_option maxHeartbeats 8000000

theorem cutR_smb (b : Int) (rs : List (List Int)) (f t : Int) : SmB (cutR b rs f t).2.1 := by
  unfold cutR
  split
  next h =>
    have M := mayBk_of h
    split
    next h2 =>
      refine ⟨fun r hr => ?_, by simp only [cutB, List.length_map]; have := M.chans; omega⟩
      simp only [cutB, List.mem_map] at hr
      obtain ⟨x, hx, rfl⟩ := hr
      have h1 := M.rows x hx
      have h3 := M.size
      rw [List.length_take, List.length_drop]; omega
    next => exact SmB.nil
  next => exact SmB.nil
theorem blockCuts_walk (bo : Int) (bv : Value) (rs : List (List Int)) (f t : Int) (w : World) (hR : Rws w w.heap.size bv rs) :
    Calls Try.prog 5 #[.agg #[.int .i64 bo, bv], .agg #[.int .i64 f, .int .i64 t]] w fun e w' => e = .returned (.bool true) ∧ Below w.heap.size w w' := by
  obtain ⟨A, c, rfl, hlc, hcm⟩ := hR.form
  obtain ⟨m, hm⟩ : ∃ m, rs.length = m := ⟨_, rfl⟩
  rw [hm] at hR hlc ⊢
  obtain ⟨wA, hwA, hsA, hbA, hab, hsb⟩ := two_boxes w #[.int .i64 bo, .slice A m c] #[.int .i64 f, .int .i64 t] 26 48
  have st0 := (stab_be w).and ((stab_bxd w.heap.size w.heap.size bo (.slice A m c) rs).and (stab_box (w.heap.size + 1) (.cells #[.int .i64 f, .int .i64 t] 48 (0, 0))))
  have hP0 : Below w.heap.size w wA ∧ Bxd w.heap.size w.heap.size bo (.slice A m c) rs wA ∧ wA.heap[w.heap.size + 1]? = some (.cells #[.int .i64 f, .int .i64 t] 48 (0, 0)) := ⟨hbA, ⟨hab, by omega, hR.below hbA⟩, hsb⟩
  have HWA := Lib.hid hwA
  have hsm := fun (w1 : World) (h : Rws w1 w.heap.size (.slice A m c) rs) (h2 : w.heap.size ≤ w1.heap.size) => smallBk_any bo _ rs 300 w1 _ h h2
  have h1 := fun (w1 : World) (h : Rws w1 w.heap.size (.slice A m c) rs) (h2 : w.heap.size ≤ w1.heap.size) => cutBk_any bo _ rs f t w1 _ h h2
  have h2 := fun (w1 : World) (h : Rws w1 w.heap.size (.slice A m c) rs) (h2 : w.heap.size ≤ w1.heap.size) => qcutBk_any bo _ rs f t w1 _ h h2
  have hsb := cutR_smb bo rs f t
  generalize cutR bo rs f t = res at *
  obtain ⟨rb, rr, re⟩ := res
  have hee : (re == re) = true := by simp
  have H1 := Lib.hid h1; have H2 := Lib.hid h2; have HSB := Lib.hid hsb
  clear hwA hsA hbA hab h1 h2 hsb hR
  by_cases hs : smallB rs 300 = true
  · rw [hs] at hsm
    have HSM := Lib.hid hsm
    clear hsm hs hm
    go_enter Try.func5, Try.ntmps5
    go_wp2_with fail
    rw [HWA.out]
    refine (knownBk_any wA).mono ?_
    rintro e w1 ⟨rfl, hb1⟩
    have hP1 := st0 _ _ hb1 hP0
    obtain ⟨x0, x1⟩ := hP1.2.1.cs
    go_wp2_with fail
    refine (HSM.out w1 hP1.2.1.2.2 hP1.2.1.2.1).mono ?_
    rintro e w2 ⟨rfl, hb2⟩
    have hP2 := st0 _ _ hb2 hP1
    clear x0 x1
    obtain ⟨x0, x1⟩ := hP2.2.1.cs
    obtain ⟨y0, y1, yf⟩ := two_in hP2.2.2
    go_wp2_with fail
    refine (H1.out w2 hP2.2.1.2.2 hP2.2.1.2.1).mono ?_
    rintro e w3 ⟨A3, n3, c3, vs3, rfl, hR3, hb3⟩
    have hP3 := st0 _ _ hb3 hP2
    have hC4 := Bxd.new (b := rb) hR3.rws
    have hP4 := st0 _ _ (below_new w3 #[.int .i64 rb, .slice A3 n3 c3] 26) hP3
    obtain ⟨w4, hw4⟩ : ∃ w4, w3.alloc (.cells #[.int .i64 rb, .slice A3 n3 c3] 26) = w4 := ⟨_, rfl⟩
    rw [hw4] at hC4 hP4
    clear x0 x1 y0 y1 yf hP3 hR3
    obtain ⟨x0, x1⟩ := hP4.2.1.cs
    obtain ⟨y0, y1, yf⟩ := two_in hP4.2.2
    go_wp2_with fail
    refine (H2.out w4 hP4.2.1.2.2 hP4.2.1.2.1).mono ?_
    rintro e w5 ⟨A5, n5, c5, vs5, rfl, hR5, hb5⟩
    have st1 := st0.and (stab_bxd w3.heap.size w3.heap.size rb (.slice A3 n3 c3) rr)
    have hP5 := st1 _ _ hb5 ⟨hP4, hC4⟩
    have hC6 := Bxd.new (b := rb) hR5.rws
    have hP6 := st1 _ _ (below_new w5 #[.int .i64 rb, .slice A5 n5 c5] 26) hP5
    obtain ⟨w6, hw6⟩ : ∃ w6, w5.alloc (.cells #[.int .i64 rb, .slice A5 n5 c5] 26) = w6 := ⟨_, rfl⟩
    rw [hw6] at hC6 hP6
    clear x0 x1 y0 y1 yf hP4 hC4 hP5 hR5
    obtain ⟨x0, x1⟩ := hP6.2.cs
    obtain ⟨y0, y1⟩ := hC6.cs
    go_wp2_with fail
    refine (same_two hP6.2.2.2 hC6.2.2 hP6.2.2.1 hC6.2.1 HSB.out).mono ?_
    rintro e w7 ⟨rfl, hb7⟩
    have hP7 := st1 _ _ hb7 hP6
    go_wp2
    go_ret
    exact ⟨rfl, hP7.1.1⟩
  · rw [Bool.eq_false_iff.2 hs] at hsm
    have HSM := Lib.hid hsm
    clear hsm hs hm
    go_enter Try.func5, Try.ntmps5
    go_wp2_with fail
    rw [HWA.out]
    refine (knownBk_any wA).mono ?_
    rintro e w1 ⟨rfl, hb1⟩
    have hP1 := st0 _ _ hb1 hP0
    obtain ⟨x0, x1⟩ := hP1.2.1.cs
    go_wp2_with fail
    refine (HSM.out w1 hP1.2.1.2.2 hP1.2.1.2.1).mono ?_
    rintro e w2 ⟨rfl, hb2⟩
    have hP2 := st0 _ _ hb2 hP1
    go_wp2
    go_ret
    exact ⟨rfl, hP2.1⟩
end Go.Proofs.Ytfbhiaoodompdaa
