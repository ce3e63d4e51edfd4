/- block: known. -/
import Derived.Test.YtfbhiaoodompdaaBloN
import Derived.Test.YtfbhiaoodompdaaBloK
namespace Go.Proofs.Ytfbhiaoodompdaa
open Go.RowKit
set_option maxRecDepth 100000
set_option maxHeartbeats 1600000

theorem kn1 : partR [1, 2, 3, -4] 8000 2 8 = (8, [[1, 3], [2, -4]], 0) := by decide +kernel
theorem kn2 : packBl 8 [[1, 3], [2, -4]] = ([1, 2, 3, 252], 0) := by decide +kernel
theorem kn3 : mayBk 8 [[1, 3], [2, -4]] = true := by decide +kernel
theorem kn4 : rightB 8000 2 8 = true := by decide +kernel
theorem lit_rows (w : World) (a b c d : Int) : Rws (((w.alloc (.cells #[.int .i64 a, .int .i64 b] 3)).alloc (.cells #[.int .i64 c, .int .i64 d] 3)).alloc (.cells #[.slice (some ⟨w.heap.size, 0, none⟩) 2 2, .slice (some ⟨w.heap.size + 1, 0, none⟩) 2 2] 37)) (w.heap.size + 3) (.slice (some ⟨w.heap.size + 1 + 1, 0, none⟩) 2 2) [[a, b], [c, d]] := by
  obtain ⟨w1, h1⟩ : ∃ w1, w.alloc (.cells #[.int .i64 a, .int .i64 b] 3) = w1 := ⟨_, rfl⟩
  have s1 : w1.heap.size = w.heap.size + 1 := by rw [← h1]; simp
  have q1 := Sli.lit w #[.int .i64 a, .int .i64 b] 3 2 rfl (by simp [maxLen])
  rw [h1] at q1 ⊢
  obtain ⟨w2, h2⟩ : ∃ w2, w1.alloc (.cells #[.int .i64 c, .int .i64 d] 3) = w2 := ⟨_, rfl⟩
  have s2 : w2.heap.size = w.heap.size + 2 := by rw [← h2]; simp [s1]
  have q2 := Sli.lit w1 #[.int .i64 c, .int .i64 d] 3 2 rfl (by simp [maxLen])
  have b2 := below_new w1 #[.int .i64 c, .int .i64 d] 3
  rw [h2] at q2 b2 ⊢
  have q3 := Sli.lit w2 #[.slice (some ⟨w.heap.size, 0, none⟩) 2 2, .slice (some ⟨w.heap.size + 1, 0, none⟩) 2 2] 37 2 rfl (by simp [maxLen])
  have b3 := below_new w2 #[.slice (some ⟨w.heap.size, 0, none⟩) 2 2, .slice (some ⟨w.heap.size + 1, 0, none⟩) 2 2] 37
  rw [s1] at q2; rw [s2] at q3
  refine ⟨_, q3.more (Nat.le_refl _), rfl, fun j x l hx hl => ?_⟩
  match j, hx, hl with
  | 0, hx, hl =>
    simp at hx hl
    subst hx; subst hl
    exact ((q1.below (b2.mono (by omega))).below (b3.mono (by omega))).more (by omega)
  | 1, hx, hl =>
    simp at hx hl
    subst hx; subst hl
    exact (q2.below (b3.mono (by omega))).more (by omega)
  | j + 2, hx, hl => simp at hx
theorem knownBk_any (w : World) : Calls Try.prog 12 #[] w fun e w' => e = .returned (.bool true) ∧ Below w.heap.size w w' := by
  go_enter Try.func12, Try.ntmps12
  go_wp2_with fail
  obtain ⟨wB, hwB⟩ : ∃ wB, (w.alloc (.cells #[.int .i64 8000, .int .i64 2, .int .i64 8] 23)).alloc (.cells #[.int .i64 1, .int .i64 2, .int .i64 3, .int .i64 (-4)] 3) = wB := ⟨_, rfl⟩
  have hS : Sli wB (w.heap.size + 2) (.slice (some ⟨w.heap.size + 1, 0, none⟩) 4 4) (ci [1, 2, 3, -4]) := by
    rw [← hwB]
    have := Sli.lit (w.alloc (.cells #[.int .i64 8000, .int .i64 2, .int .i64 8] 23)) #[.int .i64 1, .int .i64 2, .int .i64 3, .int .i64 (-4)] 3 4 rfl (by simp [maxLen])
    have e : (w.alloc (.cells #[.int .i64 8000, .int .i64 2, .int .i64 8] 23)).heap.size = w.heap.size + 1 := by simp
    rw [e] at this
    exact this
  have hsz : wB.heap.size = w.heap.size + 2 := by rw [← hwB]; simp
  have hbB : Below w.heap.size w wB := by rw [← hwB]; exact ((Below.refl _ w).alloc (Nat.le_refl _) _).alloc (by simp) _
  have hF : wB.heap[w.heap.size]? = some (.cells #[.int .i64 8000, .int .i64 2, .int .i64 8] 23 (0, 0)) := by rw [← hwB]; exact boxed_on (below_new _ _ _)
  rw [hwB]
  have hpt := partBk_any _ [1, 2, 3, -4] 8000 2 8 wB _ hS (by omega) (by decide)
  rw [kn1] at hpt
  refine hpt.mono ?_
  rintro e w1 ⟨A, n, c, vs, rfl, hR, hb1⟩
  have hR1 := hR.rws
  obtain ⟨A', c', hv, hc1, hc2⟩ := hR1.form
  injection hv with e1 e2 e3
  subst e1; subst e2; subst e3
  have hB1 := hbB.trans (hb1.mono (by omega))
  have hF1 := (hb1.block _ (by omega)).trans hF
  simp only [List.length_cons, List.length_nil, Nat.zero_add, Nat.reduceAdd] at hR1 hR ⊢
  clear hpt hS hbB hF hb1 hR hwB hsz
  go_wp2_with fail
  obtain ⟨wC, hwC⟩ : ∃ wC, w1.alloc (.cells #[.int .i64 8, .slice A 2 c] 26) = wC := ⟨_, rfl⟩
  have hX := Bx.start (b := 8) hR1
  have hbn := below_new w1 #[.int .i64 8, .slice A 2 c] 26
  rw [hwC] at hX hbn ⊢
  have hlt : w.heap.size < w1.heap.size := (Array.getElem?_eq_some_iff.1 hF1).1
  have hFC := (hbn.block _ hlt).trans hF1
  have hpk := packBk_any 8 _ _ wC _ hX.r hX.size
  rw [kn2] at hpk
  refine hpk.mono ?_
  rintro e w2 ⟨v2, rfl, ho2, hb2⟩
  obtain ⟨A2, n2, c2, rfl⟩ := ho2.shape
  have hX2 := hX.on hb2
  have hlt2 : w.heap.size < wC.heap.size := (Array.getElem?_eq_some_iff.1 hFC).1
  have hF2 := (hb2.block _ hlt2).trans hFC
  have ho2' := ho2
  clear hpk hFC hbn hwC
  have x0 := hX2.c0
  have x1 := hX2.c1
  go_wp2_with fail
  have hmy := mayBk_any 8 _ _ w2 _ hX2.r hX2.size
  rw [kn3] at hmy
  refine hmy.mono ?_
  rintro e w3 ⟨rfl, hb3⟩
  have hX3 := hX2.on hb3
  have ho3 := ho2.kept hb3
  have hF3 := (hb3.block _ (by have := (Array.getElem?_eq_some_iff.1 hF2).1; exact this)).trans hF2
  clear x0 x1 hmy
  obtain ⟨f0, f1, f2, ff⟩ := three_in hF3
  go_wp2_with fail
  have hrt := right_any 8000 2 8 w3
  rw [kn4] at hrt
  refine hrt.mono ?_
  rintro e w4 ⟨rfl, hb4⟩
  have hX4 := hX3.on hb4
  have ho4 := ho3.kept hb4
  clear f0 f1 f2 ff hrt
  have x0 := hX4.c0
  have x1 := hX4.c1
  go_wp2_with fail
  refine (lenBk_any 8 _ _ w4 _ hX4.r hX4.size).mono ?_
  rintro e w5 ⟨rfl, hb5⟩
  have hX5 := hX4.on hb5
  have ho5 := ho4.kept hb5
  clear x0 x1
  have x0 := hX5.c0
  have x1 := hX5.c1
  rw [show lenB [[1, 3], [2, -4]] = 2 from rfl]
  go_wp2_with fail
  have hlit := lit_rows w5 1 3 2 (-4)
  have hb67 : Below w5.heap.size w5 (((w5.alloc (.cells #[.int .i64 1, .int .i64 3] 3)).alloc (.cells #[.int .i64 2, .int .i64 (-4)] 3)).alloc (.cells #[.slice (some ⟨w5.heap.size, 0, none⟩) 2 2, .slice (some ⟨w5.heap.size + 1, 0, none⟩) 2 2] 37)) := (((Below.refl _ w5).alloc (Nat.le_refl _) _).alloc (by simp) _).alloc (by simp; omega) _
  obtain ⟨w6, hw6⟩ : ∃ w6, (((w5.alloc (.cells #[.int .i64 1, .int .i64 3] 3)).alloc (.cells #[.int .i64 2, .int .i64 (-4)] 3)).alloc (.cells #[.slice (some ⟨w5.heap.size, 0, none⟩) 2 2, .slice (some ⟨w5.heap.size + 1, 0, none⟩) 2 2] 37)) = w6 := ⟨_, rfl⟩
  rw [hw6] at hlit hb67 ⊢
  have hX6 := hX5.on hb67
  have ho6 := ho5.kept hb67
  have hsr := sameRows_any _ _ _ _ w6 _ _ hX6.r hlit (by decide) (by decide) (by decide)
  rw [decide_eq_true rfl] at hsr
  refine hsr.mono ?_
  rintro e w7 ⟨rfl, q, rfl⟩
  have hX7 := hX6.drewN q
  have ho7 := ho6.drewN q
  obtain ⟨W7, hW7⟩ : ∃ W7, w6.drewN q = W7 := ⟨_, rfl⟩
  rw [hW7] at hX7 ho7 ⊢
  have hst := run_str (P := Try.prog) ho7.sli (src := 29) (dst := 9) Try.underlying29 Try.underlying5 Try.underlying9
  have hbs : bstr [1, 2, 3, 252] = ⟨#[1, 2, 3, 252]⟩ := by decide +kernel
  rw [hbs] at hst
  have hbe := hB1.trans (hX7.be.mono hB1.size)
  clear hsr hlit x0 x1
  go_wp2
  go_ret
  exact ⟨rfl, hbe⟩
end Go.Proofs.Ytfbhiaoodompdaa
