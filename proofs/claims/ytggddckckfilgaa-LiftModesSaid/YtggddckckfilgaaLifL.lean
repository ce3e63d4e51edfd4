/- lift: known. -/
import Derived.Test.YtggddckckfilgaaLifK
import Derived.Test.YtggddckckfilgaaBloL
namespace Go.Proofs.Ytggddckckfilgaa
open Go.RowKit
set_option maxRecDepth 100000
set_option maxHeartbeats 8000000

theorem kl1 : doLi [[10, -3], [7, 4]] (namedLi 3) = ([[3, -7], [8, 0]], 0) := by decide +kernel
theorem kl2 : undoLi [[3, -7], [8, 0]] (namedLi 3) = ([[10, -3], [7, 4]], 0) := by decide +kernel
theorem kl3 : mayLi (namedLi 4) 2 = true := by decide +kernel
theorem kl4 : mayLi (namedLi 4) 1 = false := by decide +kernel
def lit4 (w : World) (a b c d : Int) : World := ((w.alloc (.cells #[.int .i64 a, .int .i64 b] 3)).alloc (.cells #[.int .i64 c, .int .i64 d] 3)).alloc (.cells #[.slice (some ⟨w.heap.size, 0, none⟩) 2 2, .slice (some ⟨w.heap.size + 1, 0, none⟩) 2 2] 43)
theorem lit4_rws (w : World) (a b c d : Int) : Rws (lit4 w a b c d) (lit4 w a b c d).heap.size (.slice (some ⟨w.heap.size + 1 + 1, 0, none⟩) 2 2) [[a, b], [c, d]] := (lit_rows w a b c d).more (by simp [lit4])
theorem lit4_below (w : World) (a b c d : Int) : Below w.heap.size w (lit4 w a b c d) := (((Below.refl _ w).alloc (Nat.le_refl _) _).alloc (by simp) _).alloc (by simp; omega) _
theorem lknown_any (w : World) : Calls Try.prog 11 #[] w fun e w' => e = .returned (.bool true) ∧ Below w.heap.size w w' := by
  go_enter Try.func11, Try.ntmps11
  go_wp2_with fail
  have hl := lit4_rws w 10 (-3) 7 4
  have hb := lit4_below w 10 (-3) 7 4
  obtain ⟨w1, hw1⟩ : ∃ w1, lit4 w 10 (-3) 7 4 = w1 := ⟨_, rfl⟩
  rw [hw1] at hl hb
  unfold lit4 at hw1
  rw [hw1]
  clear hw1
  refine (named_any 3 w1).mono ?_
  rintro e w2 ⟨u2, rfl, ho2, hb2⟩
  obtain ⟨A2, c2, rfl, _, _⟩ := ho2.form
  have hl2 := hl.below hb2
  have hB2 := bthen hb hb2 hb.size
  clear hl hb
  go_wp2_with fail
  have hd := doL_any _ _ _ _ w2 _ _ hl2 hb2.size ho2.lis (Nat.le_refl _)
  rw [kl1] at hd
  refine hd.mono ?_
  rintro e w3 ⟨u3, vs3, rfl, hr3, hb3⟩
  obtain ⟨A3, c3, rfl, _, _⟩ := hr3.rws.form
  have hB3 := bthen hB2 hb3 hB2.size
  have HR3 := Lib.hid hr3
  clear hd hr3 hl2 ho2 hb2 hB2 hb3
  go_wp2_with fail
  refine (named_any 3 w3).mono ?_
  rintro e w4 ⟨u4, rfl, ho4, hb4⟩
  obtain ⟨A4, c4, rfl, _, _⟩ := ho4.form
  have hB4 := bthen hB3 hb4 hB3.size
  have HR4 := Lib.hid (HR3.out.kept hb4)
  have HO4 := Lib.hid ho4
  clear ho4 hb4 hB3 HR3
  go_wp2_with fail
  have hd := undoL_any _ _ _ _ w4 _ _ HR4.out.rws (Nat.le_refl _) HO4.out.lis (Nat.le_refl _) (by decide)
  rw [kl2] at hd
  refine hd.mono ?_
  rintro e w5 ⟨u5, vs5, rfl, hr5, hb5⟩
  obtain ⟨A5, c5, rfl, _, _⟩ := hr5.rws.form
  have hB5 := bthen hB4 hb5 hB4.size
  have HR5 := Lib.hid (HR4.out.kept hb5)
  have HS5 := Lib.hid hr5
  clear hd hr5 hb5 hB4 HR4 HO4
  go_wp2_with fail
  have hl := lit4_rws w5 3 (-7) 8 0
  have hb := lit4_below w5 3 (-7) 8 0
  obtain ⟨w6, hw6⟩ : ∃ w1, lit4 w5 3 (-7) 8 0 = w1 := ⟨_, rfl⟩
  rw [hw6] at hl hb
  unfold lit4 at hw6
  rw [hw6]
  clear hw6
  have hsr := sameRows_any _ _ _ _ w6 _ _ (HR5.out.kept hb).rws hl (by decide) (by decide) (by decide)
  rw [decide_eq_true rfl] at hsr
  refine hsr.mono ?_
  rintro e w7 ⟨rfl, q, rfl⟩
  have HS7 := Lib.hid (((HS5.out.kept hb).rws).drewN q)
  have hB7 := below_drewN (bthen hB5 hb hB5.size) q
  have HSZ := hb.size
  clear hsr hl hb HR5 HS5 hB5
  obtain ⟨w8, hw8⟩ : ∃ w8, w6.drewN q = w8 := ⟨_, rfl⟩
  rw [hw8] at HS7 hB7 ⊢
  have hz8 : Hid (w8.heap.size = w6.heap.size) := by rw [← hw8]; rfl
  clear hw8 HSZ
  go_wp2_with fail
  have hl := lit4_rws w8 10 (-3) 7 4
  have hb := lit4_below w8 10 (-3) 7 4
  obtain ⟨w9, hw9⟩ : ∃ w1, lit4 w8 10 (-3) 7 4 = w1 := ⟨_, rfl⟩
  rw [hw9] at hl hb
  unfold lit4 at hw9
  rw [hw9]
  clear hw9
  have hsr := sameRows_any _ _ _ _ w9 _ _ (HS7.out.below (hb.mono (by have := hz8.out; omega))) hl (by decide) (by decide) (by decide)
  rw [decide_eq_true rfl] at hsr
  refine hsr.mono ?_
  rintro e w10 ⟨rfl, q2, rfl⟩
  have hB10 := below_drewN (bthen hB7 hb hB7.size) q2
  clear hsr hl hb HS7 hB7 hz8
  obtain ⟨wa, hwa⟩ : ∃ w8, w9.drewN q2 = w8 := ⟨_, rfl⟩
  rw [hwa] at hB10 ⊢
  clear hwa
  go_wp2_with fail
  refine (named_any 4 wa).mono ?_
  rintro e wb ⟨ub, rfl, hob, hbb⟩
  obtain ⟨Ab, cb, rfl, _, _⟩ := hob.form
  have hBb := bthen hB10 hbb hB10.size
  clear hB10
  have HOb := Lib.hid hob
  clear hob
  go_wp2_with fail
  have hm := mayL_any _ (namedLi 4) 2 wb _ HOb.out.lis (Nat.le_refl _)
  rw [kl3] at hm
  refine hm.mono ?_
  rintro e wc ⟨rfl, hbc⟩
  have hBc := bthen hBb hbc hBb.size
  clear hm hBb hbc HOb hbb
  go_wp2_with fail
  refine (named_any 4 wc).mono ?_
  rintro e wd ⟨ud, rfl, hod, hbd⟩
  obtain ⟨Ad, cd, rfl, _, _⟩ := hod.form
  have hBd := bthen hBc hbd hBc.size
  have HOd := Lib.hid hod
  clear hod hBc
  go_wp2_with fail
  have hm := mayL_any _ (namedLi 4) 1 wd _ HOd.out.lis (Nat.le_refl _)
  rw [kl4] at hm
  refine hm.mono ?_
  rintro e we ⟨rfl, hbe⟩
  have hBe := bthen hBd hbe hBd.size
  clear hm hBd hbe HOd hbd
  go_wp2
  go_ret
  exact ⟨rfl, hBe⟩
end Go.Proofs.Ytggddckckfilgaa
