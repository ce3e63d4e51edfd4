/- lift: the law LiftBests. -/
import Derived.Test.YtggddckckfilgaaLifS
namespace Go.Proofs.Ytggddckckfilgaa
open Go.RowKit
set_option maxRecDepth 100000
set_option maxHeartbeats 8000000

theorem bestLi_len (b : Int) (rs : List (List Int)) : (bestLi b rs).length ≤ 12 := by
  unfold bestLi
  split
  next h =>
    have M := mayBk_of h
    have := M.chans
    have := bestsLi_len rs (rs.length / 2)
    omega
  next => simp
theorem liftBests_walk (bo : Int) (bv : Value) (rs : List (List Int)) (w : World) (hR : Rws w w.heap.size bv rs) :
    Calls Try.prog 5 #[.agg #[.int .i64 bo, bv]] w fun e w' => e = .returned (.bool true) ∧ Below w.heap.size w w' := by
  obtain ⟨A, c, rfl, hlc, hcm⟩ := hR.form
  have hX := Bx.start (b := bo) hR
  obtain ⟨wA, hwA⟩ : ∃ wA, w.alloc (.cells #[.int .i64 bo, .slice A rs.length c] 37) = wA := ⟨_, rfl⟩
  rw [hwA] at hX
  have HWA := Lib.hid hwA
  have hsm := fun (w1 : World) (h : Bx w w1 w.heap.size bo (.slice A rs.length c) rs) => smallBk_any bo _ rs 120 w1 _ h.r h.size
  have h1 := fun (w1 : World) (h : Bx w w1 w.heap.size bo (.slice A rs.length c) rs) => bestL_any bo _ rs w1 _ h.r h.size
  have h2 := fun (w1 : World) (h : Bx w w1 w.heap.size bo (.slice A rs.length c) rs) => qbestL_any bo _ rs w1 _ h.r h.size
  have hbl := bestLi_len bo rs
  generalize bestLi bo rs = bl at *
  have H1 := Lib.hid h1; have H2 := Lib.hid h2; have HBL := Lib.hid (fun _ : True => hbl)
  by_cases hs : smallB rs 120 = true
  · rw [hs] at hsm
    have HSM := Lib.hid hsm
    clear hsm h1 h2 hs hwA hR hbl
    go_enter Try.func5, Try.ntmps5
    go_wp2_with fail
    rw [HWA.out]
    refine (lknown_any wA).mono ?_
    rintro e w1 ⟨rfl, hb1⟩
    have hX1 := hX.on hb1
    have x0 := hX1.c0
    have x1 := hX1.c1
    go_wp2_with fail
    refine (HSM.out w1 hX1).mono ?_
    rintro e w2 ⟨rfl, hb2⟩
    have hX2 := hX1.on hb2
    clear x0 x1
    have x0 := hX2.c0
    have x1 := hX2.c1
    have hX2d := hX2.drew
    go_wp2
    go_region_held3 (fun w' => w'.cell? ⟨w.heap.size, 0, none⟩ = some (.int .i64 bo) ∧ w'.cell? ⟨w.heap.size, 1, none⟩ = some (.slice A rs.length c))
      (first | go_keep | exact ⟨hX3.c0, hX3.c1⟩ | exact ⟨hX4.c0, hX4.c1⟩ | exact ⟨hX5.c0, hX5.c1⟩)
      (first
        | (go_at_call 26; refine (H1.out _ hX2d).mono ?_; rintro e w3 ⟨u3, rfl, ho3, hb3⟩; have hX3 := hX2d.on hb3)
        | (go_at_call 27; refine (H2.out _ hX3).mono ?_; rintro e w4 ⟨u4, rfl, ho4, hb4⟩; have hX4 := hX3.on hb4)
        | (go_at_call 15; refine (sameL_any u3 u4 bl w4 _ _ (ho3.below hb4).lis ho4.lis (by have := HBL.out trivial; omega)).mono ?_; rintro e w5 ⟨rfl, q5, rfl⟩; have hX5 := hX4.drewN q5))
    all_goals
      go_wp2
      go_ret
      exact ⟨rfl, hX5.be⟩
  · rw [Bool.eq_false_iff.2 hs] at hsm
    have HSM := Lib.hid hsm
    clear hsm h1 h2 hs hwA hR hbl
    go_enter Try.func5, Try.ntmps5
    go_wp2_with fail
    rw [HWA.out]
    refine (lknown_any wA).mono ?_
    rintro e w1 ⟨rfl, hb1⟩
    have hX1 := hX.on hb1
    have x0 := hX1.c0
    have x1 := hX1.c1
    go_wp2_with fail
    refine (HSM.out w1 hX1).mono ?_
    rintro e w2 ⟨rfl, hb2⟩
    have hX2 := hX1.on hb2
    go_wp2
    go_ret
    exact ⟨rfl, hX2.be⟩
end Go.Proofs.Ytggddckckfilgaa
