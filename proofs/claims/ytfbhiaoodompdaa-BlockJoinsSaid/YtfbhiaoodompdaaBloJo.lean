/- block: the law BlockJoins. -/
import Derived.Test.YtfbhiaoodompdaaBloBa
import Derived.Test.YtfbhiaoodompdaaBloDq
namespace Go.Proofs.Ytfbhiaoodompdaa
open Go.RowKit
set_option maxRecDepth 100000
set_option maxHeartbeats 8000000

theorem joinR_smb (b : Int) (rs : List (List Int)) (c : Int) (ss : List (List Int)) : SmB (joinR b rs c ss).2.1 := by
  unfold joinR
  split
  next h =>
    have M := mayBk_of h.1
    have N := mayBk_of h.2
    split
    next h2 =>
      split
      next h3 => exact (join_may M (by rw [h2.1]; exact N) h2.2 h3).smb
      next => exact SmB.nil
    next => exact SmB.nil
  next => exact SmB.nil
theorem blockJoins_walk (ao : Int) (av : Value) (ra : List (List Int)) (bo : Int) (bv : Value) (rb_ : List (List Int)) (w : World) (hR : Rws w w.heap.size av ra) (hS : Rws w w.heap.size bv rb_) :
    Calls Try.prog 6 #[.agg #[.int .i64 ao, av], .agg #[.int .i64 bo, bv]] w fun e w' => e = .returned (.bool true) ∧ Below w.heap.size w w' := by
  obtain ⟨A, c, rfl, hlc, hcm⟩ := hR.form
  obtain ⟨A2, c2, rfl, hlc2, hcm2⟩ := hS.form
  obtain ⟨m, hm⟩ : ∃ m, ra.length = m := ⟨_, rfl⟩
  obtain ⟨m2, hm2⟩ : ∃ m2, rb_.length = m2 := ⟨_, rfl⟩
  rw [hm] at hR hlc ⊢
  rw [hm2] at hS hlc2 ⊢
  obtain ⟨wA, hwA, hsA, hbA, hab, hbb⟩ := two_boxes w #[.int .i64 ao, .slice A m c] #[.int .i64 bo, .slice A2 m2 c2] 26 26
  have st0 := (stab_be w).and ((stab_bxd w.heap.size w.heap.size ao (.slice A m c) ra).and (stab_bxd (w.heap.size + 1) w.heap.size bo (.slice A2 m2 c2) rb_))
  have hP0 : Below w.heap.size w wA ∧ Bxd w.heap.size w.heap.size ao (.slice A m c) ra wA ∧ Bxd (w.heap.size + 1) w.heap.size bo (.slice A2 m2 c2) rb_ wA := ⟨hbA, ⟨hab, by omega, hR.below hbA⟩, ⟨hbb, by omega, hS.below hbA⟩⟩
  have HWA := Lib.hid hwA
  have HSA := Lib.hid (fun (w1 : World) (h : Rws w1 w.heap.size (.slice A m c) ra) (h2 : w.heap.size ≤ w1.heap.size) => smallBk_any ao _ ra 4100 w1 _ h h2)
  have HSB := Lib.hid (fun (w1 : World) (h : Rws w1 w.heap.size (.slice A2 m2 c2) rb_) (h2 : w.heap.size ≤ w1.heap.size) => smallBk_any bo _ rb_ 4100 w1 _ h h2)
  have h1 := fun (w1 : World) (h : Rws w1 w.heap.size (.slice A m c) ra) (g : Rws w1 w.heap.size (.slice A2 m2 c2) rb_) (h2 : w.heap.size ≤ w1.heap.size) => joinBk_any ao bo _ _ ra rb_ w1 _ h g h2
  have h2 := fun (w1 : World) (h : Rws w1 w.heap.size (.slice A m c) ra) (g : Rws w1 w.heap.size (.slice A2 m2 c2) rb_) (h2 : w.heap.size ≤ w1.heap.size) => qjoinBk_any ao bo _ _ ra rb_ w1 _ h g h2
  have hsm := joinR_smb ao ra bo rb_
  generalize joinR ao ra bo rb_ = res at *
  obtain ⟨rb, rr, re⟩ := res
  have hee : (re == re) = true := by simp
  have H1 := Lib.hid h1; have H2 := Lib.hid h2; have HSM := Lib.hid hsm
  clear hwA hsA hbA hab hbb hR hS h1 h2 hsm
  by_cases h1 : smallB ra 4100 = true
  · rw [h1] at HSA
    by_cases h2 : smallB rb_ 4100 = true
    · rw [h2] at HSB
      clear h1 h2 hm hm2
      go_enter Try.func6, Try.ntmps6
      go_wp2_with fail
      rw [HWA.out]
      refine (knownBk_any wA).mono ?_
      rintro e w1 ⟨rfl, hb1⟩
      have hP1 := st0 _ _ hb1 hP0
      obtain ⟨x0, x1⟩ := hP1.2.1.cs
      obtain ⟨y0, y1⟩ := hP1.2.2.cs
      go_wp2_with fail
      refine (HSA.out w1 hP1.2.1.2.2 hP1.2.1.2.1).mono ?_
      rintro e w2 ⟨rfl, hb2⟩
      have hP2 := st0 _ _ hb2 hP1
      clear x0 x1 y0 y1
      obtain ⟨x0, x1⟩ := hP2.2.1.cs
      obtain ⟨y0, y1⟩ := hP2.2.2.cs
      go_wp2_with fail
      refine (HSB.out w2 hP2.2.2.2.2 hP2.2.2.2.1).mono ?_
      rintro e w3 ⟨rfl, hb3⟩
      have hP3 := st0 _ _ hb3 hP2
      clear x0 x1 y0 y1
      obtain ⟨x0, x1⟩ := hP3.2.1.cs
      obtain ⟨y0, y1⟩ := hP3.2.2.cs
      go_wp2_with fail
      refine (H1.out w3 hP3.2.1.2.2 hP3.2.2.2.2 hP3.2.1.2.1).mono ?_
      rintro e w4 ⟨A4, n4, c4, vs4, rfl, hR4, hb4⟩
      have hP4 := st0 _ _ hb4 hP3
      have hC5 := Bxd.new (b := rb) hR4.rws
      have hP5 := st0 _ _ (below_new w4 #[.int .i64 rb, .slice A4 n4 c4] 26) hP4
      obtain ⟨w5, hw5⟩ : ∃ w5, w4.alloc (.cells #[.int .i64 rb, .slice A4 n4 c4] 26) = w5 := ⟨_, rfl⟩
      rw [hw5] at hC5 hP5
      clear x0 x1 y0 y1 hP4 hR4
      obtain ⟨x0, x1⟩ := hP5.2.1.cs
      obtain ⟨y0, y1⟩ := hP5.2.2.cs
      go_wp2_with fail
      refine (H2.out w5 hP5.2.1.2.2 hP5.2.2.2.2 hP5.2.1.2.1).mono ?_
      rintro e w6 ⟨A6, n6, c6, vs6, rfl, hR6, hb6⟩
      have st1 := st0.and (stab_bxd w4.heap.size w4.heap.size rb (.slice A4 n4 c4) rr)
      have hP6 := st1 _ _ hb6 ⟨hP5, hC5⟩
      have hC7 := Bxd.new (b := rb) hR6.rws
      have hP7 := st1 _ _ (below_new w6 #[.int .i64 rb, .slice A6 n6 c6] 26) hP6
      obtain ⟨w7, hw7⟩ : ∃ w7, w6.alloc (.cells #[.int .i64 rb, .slice A6 n6 c6] 26) = w7 := ⟨_, rfl⟩
      rw [hw7] at hC7 hP7
      clear x0 x1 y0 y1 hP5 hC5 hP6 hR6
      obtain ⟨x0, x1⟩ := hP7.2.cs
      obtain ⟨y0, y1⟩ := hC7.cs
      go_wp2_with fail
      refine (same_two hP7.2.2.2 hC7.2.2 hP7.2.2.1 hC7.2.1 HSM.out).mono ?_
      rintro e w8 ⟨rfl, hb8⟩
      have hP8 := st1 _ _ hb8 hP7
      go_wp2
      go_ret
      exact ⟨rfl, hP8.1.1⟩
    · rw [Bool.eq_false_iff.2 h2] at HSB
      clear h1 h2 hm hm2
      go_enter Try.func6, Try.ntmps6
      go_wp2_with fail
      rw [HWA.out]
      refine (knownBk_any wA).mono ?_
      rintro e w1 ⟨rfl, hb1⟩
      have hP1 := st0 _ _ hb1 hP0
      obtain ⟨x0, x1⟩ := hP1.2.1.cs
      obtain ⟨y0, y1⟩ := hP1.2.2.cs
      go_wp2_with fail
      refine (HSA.out w1 hP1.2.1.2.2 hP1.2.1.2.1).mono ?_
      rintro e w2 ⟨rfl, hb2⟩
      have hP2 := st0 _ _ hb2 hP1
      clear x0 x1 y0 y1
      obtain ⟨x0, x1⟩ := hP2.2.1.cs
      obtain ⟨y0, y1⟩ := hP2.2.2.cs
      go_wp2_with fail
      refine (HSB.out w2 hP2.2.2.2.2 hP2.2.2.2.1).mono ?_
      rintro e w3 ⟨rfl, hb3⟩
      have hP3 := st0 _ _ hb3 hP2
      clear x0 x1 y0 y1
      obtain ⟨x0, x1⟩ := hP3.2.1.cs
      obtain ⟨y0, y1⟩ := hP3.2.2.cs
      go_wp2
      go_ret
      exact ⟨rfl, hP3.1⟩
  · rw [Bool.eq_false_iff.2 h1] at HSA
    clear h1 hm hm2
    go_enter Try.func6, Try.ntmps6
    go_wp2_with fail
    rw [HWA.out]
    refine (knownBk_any wA).mono ?_
    rintro e w1 ⟨rfl, hb1⟩
    have hP1 := st0 _ _ hb1 hP0
    obtain ⟨x0, x1⟩ := hP1.2.1.cs
    obtain ⟨y0, y1⟩ := hP1.2.2.cs
    go_wp2_with fail
    refine (HSA.out w1 hP1.2.1.2.2 hP1.2.1.2.1).mono ?_
    rintro e w2 ⟨rfl, hb2⟩
    have hP2 := st0 _ _ hb2 hP1
    clear x0 x1 y0 y1
    obtain ⟨x0, x1⟩ := hP2.2.1.cs
    obtain ⟨y0, y1⟩ := hP2.2.2.cs
    go_wp2
    go_ret
    exact ⟨rfl, hP2.1⟩
end Go.Proofs.Ytfbhiaoodompdaa
