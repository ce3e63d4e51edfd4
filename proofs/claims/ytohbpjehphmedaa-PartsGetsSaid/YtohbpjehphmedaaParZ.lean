/- parts: 'known'. -/
import Derived.Test.YtohbpjehphmedaaParV
import Derived.Test.YtohbpjehphmedaaParI
import Derived.Test.YtohbpjehphmedaaSam
namespace Go.Proofs.Ytohbpjehphmedaa
open Go.RowKit
set_option maxRecDepth 100000
set_option maxHeartbeats 1600000

def knownBits : List Bool := [false, false, false, true, false, false, false, false, false, true, true, true, true, true, true, false, false, false, true, false, false, true, true, false]
theorem packed_known : Packed [16, 126, 38] knownBits := by
  refine ⟨rfl, by simp, fun i => ?_⟩
  by_cases hi : i < 24
  · have : ∀ j : Fin 24, bitAt [16, 126, 38] j.val = gb knownBits j.val := by decide +kernel
    exact this ⟨i, hi⟩
  · rw [gb_out (by simp [knownBits]; omega)]
    unfold bitAt
    rw [List.getD_eq_getElem?_getD, List.getElem?_eq_none (by simp; omega)]; simp
theorem knownP_any (w : World) : Calls Try.prog 12 #[] w fun e w' => e = .returned (.bool true) ∧ Below w.heap.size w w' := by
  have e1 : putP 1 [0, 31] 4 1 [0, 1, -2] [] = (knownBits, 0) := by decide +kernel
  have e2 : getP (bitAt [16, 126, 38]) (8 * [16, 126, 38].length) 0 0 4 1 = (1, [0, 31], [0, 1, -2], 24, 0) := by decide +kernel
  have e3 : costP 1 [0, 31] 4 1 [0, 1, -2] = 24 := by decide +kernel
  have e4 : sizesI 1 4 1 = [1, 2] := by decide +kernel
  have e5 : mayB 1 [0, 31] 5 1 = false := by decide +kernel
  have hk0 : Sli (w.alloc (.cells #[.int .i64 0, .int .i64 31] 3)) (w.heap.size + 1) (.slice (some ⟨w.heap.size, 0, none⟩) 2 2) (ci [0, 31]) := Sli.lit w #[.int .i64 0, .int .i64 31] 3 2 rfl (by simp [maxLen])
  have hb1 : Below w.heap.size w (w.alloc (.cells #[.int .i64 0, .int .i64 31] 3)) := (Below.refl _ _).alloc (Nat.le_refl _) _
  have hs1 : (w.alloc (.cells #[.int .i64 0, .int .i64 31] 3)).heap.size = w.heap.size + 1 := by simp
  obtain ⟨w1, hw1⟩ : ∃ w1, w.alloc (.cells #[.int .i64 0, .int .i64 31] 3) = w1 := ⟨_, rfl⟩
  rw [hw1] at hk0 hb1 hs1
  have hp0 := box_new w1 (.int .i64 1) (.slice (some ⟨w.heap.size, 0, none⟩) 2 2) 24
  have hb2 := below_box w1 (.int .i64 1) (.slice (some ⟨w.heap.size, 0, none⟩) 2 2) 24
  have hs2 : (w1.alloc (.cells #[.int .i64 1, .slice (some ⟨w.heap.size, 0, none⟩) 2 2] 24)).heap.size = w.heap.size + 1 + 1 := by simp; omega
  obtain ⟨w2, hw2⟩ : ∃ w2, w1.alloc (.cells #[.int .i64 1, .slice (some ⟨w.heap.size, 0, none⟩) 2 2] 24) = w2 := ⟨_, rfl⟩
  rw [hw2] at hp0 hb2 hs2
  have hl0 : Sli (w2.alloc (.cells #[.int .i64 0, .int .i64 1, .int .i64 (-2)] 3)) (w2.heap.size + 1) (.slice (some ⟨w2.heap.size, 0, none⟩) 3 3) (ci [0, 1, -2]) := Sli.lit w2 #[.int .i64 0, .int .i64 1, .int .i64 (-2)] 3 3 rfl (by simp [maxLen])
  have hb3 : Below w2.heap.size w2 (w2.alloc (.cells #[.int .i64 0, .int .i64 1, .int .i64 (-2)] 3)) := (Below.refl _ _).alloc (Nat.le_refl _) _
  have hs3 : (w2.alloc (.cells #[.int .i64 0, .int .i64 1, .int .i64 (-2)] 3)).heap.size = w.heap.size + 1 + 1 + 1 := by simp; omega
  obtain ⟨w3, hw3⟩ : ∃ w3, w2.alloc (.cells #[.int .i64 0, .int .i64 1, .int .i64 (-2)] 3) = w3 := ⟨_, rfl⟩
  rw [hw3] at hl0 hb3 hs3
  have hW0 := WrO.start w3 (Nat.le_refl _)
  have hb4 : Below w3.heap.size w3 (w3.alloc (.cells #[.slice none 0 0, .int .i64 0] 35)) := (Below.refl _ _).alloc (Nat.le_refl _) _
  obtain ⟨w4, hw4⟩ : ∃ w4, w3.alloc (.cells #[.slice none 0 0, .int .i64 0] 35) = w4 := ⟨_, rfl⟩
  rw [hw4] at hW0 hb4
  have hb34 := hb4
  have hk4 : Sli w4 w3.heap.size (.slice (some ⟨w.heap.size, 0, none⟩) 2 2) (ci [0, 31]) := (((hk0.more (by omega : w.heap.size + 1 ≤ w1.heap.size)).below hb2).more (by omega : w1.heap.size ≤ w2.heap.size) |>.below hb3).more (by omega : w2.heap.size ≤ w3.heap.size) |>.below hb4
  have hl4 : Sli w4 w3.heap.size (.slice (some ⟨w2.heap.size, 0, none⟩) 3 3) (ci [0, 1, -2]) := (hl0.more (by omega : w2.heap.size + 1 ≤ w3.heap.size)).below hb4
  have hp4 := (hb4.block w1.heap.size (by omega)).trans ((hb3.block w1.heap.size (by omega)).trans hp0)
  have hb04 : Below w.heap.size w w4 := bthen (bthen (bthen hb1 hb2 (by omega)) hb3 (by omega)) hb4 (by omega)
  have hp := putP_any hW0 1 _ _ [0, 31] [0, 1, -2] 4 1 hk4 hl4 (Nat.le_refl _) hb4.size (by simp) (by simp) (by simp) (by omega) (by omega)
  rw [e1] at hp
  obtain ⟨d0, d1, hd⟩ := blk2 hp4
  have HP := Lib.hid hp; have E2 := Lib.hid e2; have E3 := Lib.hid e3; have E4 := Lib.hid e4; have E5 := Lib.hid e5
  rw [hs3, hs2] at HP
  have hs43 : w.heap.size + 1 + 1 + 1 ≤ w4.heap.size := by have := hb4.size; omega
  rw [hs1] at d0 d1 hd hp4
  rw [hs3] at hW0 hk4 hl4 hb4
  rw [hs2] at hl4
  have HW4 := Lib.hid (show (((w.alloc (.cells #[.int .i64 0, .int .i64 31] 3)).alloc (.cells #[.int .i64 1, .slice (some ⟨w.heap.size, 0, none⟩) 2 2] 24)).alloc (.cells #[.int .i64 0, .int .i64 1, .int .i64 (-2)] 3)).alloc (.cells #[.slice none 0 0, .int .i64 0] 35) = w4 by rw [hw1, hw2, hw3, hw4])
  clear e1 e2 e3 e4 e5 hp hw1 hw2 hw3 hw4 hs1 hs2 hs3 hk0 hl0 hp0 hb1 hb2 hb3 hb34
  go_enter Try.func12, Try.ntmps12
  go_wp2_with fail
  rw [HW4.out]
  refine HP.out.mono ?_
  rintro e w5 ⟨rfl, v5, hW5, hm5⟩
  have hbP : w.heap.size + 1 < w4.heap.size := (Array.getElem?_eq_some_iff.1 hp4).1
  have hp5 := (hm5.block (w.heap.size + 1) hbP (by omega) (by simp [Value.ownBlock])).trans hp4
  have hb45 : Below (w.heap.size + 1 + 1 + 1) w4 w5 := hm5.below (Nat.le_refl _) (fun _ h => by simp [Value.ownBlock] at h) hs43
  have hb05 := hb04.trans (hb45.mono (by omega))
  have hk5 := hk4.below hb45
  have hl5 := hl4.below hb45
  go_wp2_with fail
  refine (wbytes_any hW5 (by simp [knownBits])).mono ?_
  rintro e w6 ⟨v6, l6, rfl, hP6, ho6, hb56⟩
  obtain rfl := hP6.uniq packed_known
  obtain ⟨A6, n6, c6, rfl⟩ := ho6.shape
  have hb06 := bthen hb05 hb56 hb05.size
  have hW6 := hW5.below hb56
  have hs6 := hb06.size
  go_wp2_with fail
  refine (bnew_any _ [16, 126, 38] _ ho6.sli (by simp) (by simp)).mono ?_
  rintro e w7 ⟨g7, rfl, hR7, hg7, hb67⟩
  have hb07 := bthen hb06 hb67 hb06.size
  have hW7 := hW6.below hb67
  have hp7 := (hb67.block (w.heap.size + 1) (by have := hb56.size; have := hb45.size; omega)).trans ((hb56.block (w.heap.size + 1) (by have := hb45.size; omega)).trans hp5)
  go_wp2_with fail
  refine (getP_any hR7 4 1).mono ?_
  rw [E2.out]
  rintro e w8 ⟨kv, vl, a8, e8, rfl, hko8, hlo8, hR8, hg8, hok⟩
  obtain ⟨kA, kc, rfl, _, _⟩ := hko8.formI
  obtain ⟨lA, lc, rfl, _, _⟩ := hlo8.formI
  simp only [List.length_cons, List.length_nil, Nat.reduceAdd] at hko8 hlo8 ⊢
  have hltw : w.heap.size + 1 + 1 + 1 ≤ w5.heap.size := Nat.le_trans hs43 hb45.size
  have hg7' : w5.heap.size ≤ g7 := Nat.le_trans hb56.size hg7
  obtain ⟨cs7, hk7⟩ := hR7.blk
  have hW8 := hW7.only hk7 (by decide) hg8 (by have := hW5.lt; omega)
  have hb08 := bonly hb07 hg8 (Nat.le_refl _) (by omega)
  have hp8 := (hg8.block (w.heap.size + 1) (Array.getElem?_eq_some_iff.1 hp7).1 (by simp; omega)).trans hp7
  have hb58 : Below (w.heap.size + 1 + 1 + 1) w5 w8 := (bthen (hb56.mono hltw) (hb67.mono (Nat.le_trans hltw hb56.size)) (Nat.le_refl _)).trans (below_of_only hg8 (by omega) (by have := hb67.size; have := hb56.size; omega))
  have hk8 := hk5.below hb58
  have hl8 := hl5.below hb58
  have hbx := below_box w8 (.int .i64 1) (.slice kA 2 kc) 24
  have hp9 := (hbx.block (w.heap.size + 1) (Array.getElem?_eq_some_iff.1 hp8).1).trans hp8
  have hq9 := box_new w8 (.int .i64 1) (.slice kA 2 kc) 24
  have hk9 := hk8.below (hbx.mono (by have := hb58.size; omega))
  have hl9 := hl8.below (hbx.mono (by have := hb58.size; omega))
  have hW9 := hW8.below hbx
  have hR9 := hR8.below hbx
  have hko9 := hko8.kept hbx
  have hlo9 := hlo8.kept hbx
  have hb09 := bthen hb08 hbx hb08.size
  obtain ⟨x0, x1, hxf⟩ := blk2 hp9
  obtain ⟨y0, y1, hyf⟩ := blk2 hq9
  have hs8 : w.heap.size + 1 + 1 + 1 ≤ (w8.alloc (.cells #[.int .i64 1, .slice kA 2 kc] 24)).heap.size := by have := hb58.size; have := hbx.size; omega
  clear d0 d1 hd
  go_wp2_with fail
  obtain ⟨w9, hw9⟩ : ∃ w9, w8.alloc (.cells #[.int .i64 1, .slice kA 2 kc] 24) = w9 := ⟨_, rfl⟩
  rw [hw9] at x0 x1 hxf y0 y1 hyf hp9 hq9 hk9 hl9 hW9 hR9 hko9 hlo9 hb09 hs8 ⊢
  clear hw9
  refine (sameParts_any 1 1 _ _ [0, 31] [0, 31] w9 _ _ hk9 hko9.sli hs8 (Nat.le_refl _) (by simp) (by simp)).mono ?_
  rintro e w10 ⟨rfl, hb910⟩
  have hb010 := bthen hb09 hb910 hb09.size
  have hl10 := hl9.below (hb910.mono hs8)
  have hlo10 := hlo9.kept hb910
  have hW10 := hW9.below hb910
  have hp10 := (hb910.block (w.heap.size + 1) (Array.getElem?_eq_some_iff.1 hp9).1).trans hp9
  have hk10 := hk9.below (hb910.mono hs8)
  have hs10 := Nat.le_trans hs8 hb910.size
  obtain ⟨z0, z1, hzf⟩ := blk2 hp10
  clear x0 x1 hxf y0 y1 hyf
  go_wp2_with fail
  refine (sameInts_self _ _ [0, 1, -2] w10 _ _ hl10 hlo10.sli (by simp)).mono ?_
  rintro e w11 ⟨rfl, q11, rfl⟩
  go_wp2_with fail
  obtain ⟨w12, hw12⟩ : ∃ w12, w10.drewN q11 = w12 := ⟨_, rfl⟩
  have hW12 : WrO w12 (w.heap.size + 1 + 1 + 1) (w.heap.size + 1 + 1 + 1) v5 knownBits := by rw [← hw12]; exact hW10
  have hl12 : Sli w12 (w.heap.size + 1 + 1 + 1) (.slice (some ⟨w.heap.size + 1 + 1, 0, none⟩) 3 3) (ci [0, 1, -2]) := by rw [← hw12]; exact hl10
  have hk12 : Sli w12 (w.heap.size + 1 + 1 + 1) (.slice (some ⟨w.heap.size, 0, none⟩) 2 2) (ci [0, 31]) := by rw [← hw12]; exact hk10
  have hp12 : w12.heap[w.heap.size + 1]? = some (.cells #[.int .i64 1, .slice (some ⟨w.heap.size, 0, none⟩) 2 2] 24 (0, 0)) := by rw [← hw12]; exact hp10
  have hb012 : Below w.heap.size w w12 := by rw [← hw12]; exact below_drewN hb010 q11
  have hs12 : w.heap.size + 1 + 1 + 1 ≤ w12.heap.size := by rw [← hw12]; exact hs10
  rw [hw12]
  clear hw12 z0 z1 hzf
  obtain ⟨z0, z1, hzf⟩ := blk2 hp12
  refine (wlen_any hW12).mono ?_
  rintro e w13 ⟨rfl, rfl⟩
  rw [show ((knownBits.length : Nat) : Int) = 24 from rfl]
  go_wp2_with fail
  refine (cost_any2 1 _ _ [0, 31] [0, 1, -2] 4 1 w12 _ _ hk12 hs12 hl12 hs12 (by simp) (by simp) (by omega) (by omega)).mono ?_
  rw [E3.out]
  rintro e w13 ⟨rfl, hb1213⟩
  have hb013 := bthen hb012 hb1213 hb012.size
  have hW13 := hW12.below hb1213
  have hk13 := hk12.below (hb1213.mono hs12)
  have hp13 := (hb1213.block (w.heap.size + 1) (Array.getElem?_eq_some_iff.1 hp12).1).trans hp12
  have hs13 := Nat.le_trans hs12 hb1213.size
  clear z0 z1 hzf
  go_wp2_with fail
  refine (wlen_any hW13).mono ?_
  rintro e w14 ⟨rfl, rfl⟩
  rw [show ((knownBits.length : Nat) : Int) = 24 from rfl]
  go_wp2_with fail
  refine (sizes_any 1 4 1 w13 (by omega) (by omega)).mono ?_
  rintro e w14 ⟨v14, rfl, ho14, hb1314⟩
  rw [E4.out] at ho14
  obtain ⟨A14, c14, rfl, _, _⟩ := ho14.formI
  have hb014 := bthen hb013 hb1314 hb013.size
  have hk14 := hk13.below (hb1314.mono hs13)
  have hp14 := (hb1314.block (w.heap.size + 1) (Array.getElem?_eq_some_iff.1 hp13).1).trans hp13
  have hs14 := Nat.le_trans hs13 hb1314.size
  go_wp2_with fail
  have hbl : Below w14.heap.size w14 (w14.alloc (.cells #[.int .i64 1, .int .i64 2] 3)) := (Below.refl _ _).alloc (Nat.le_refl _) _
  refine (sameInts_self _ _ [1, 2] _ _ _ (ho14.sli.below hbl) (Sli.lit w14 #[.int .i64 1, .int .i64 2] 3 2 rfl (by simp [maxLen])) (by simp)).mono ?_
  rintro e w15 ⟨rfl, q15, rfl⟩
  have hb015 := bthen hb014 hbl hb014.size
  have hk15 := hk14.below (hbl.mono hs14)
  have hp15 := (hbl.block (w.heap.size + 1) (Array.getElem?_eq_some_iff.1 hp14).1).trans hp14
  have hs15 := Nat.le_trans hs14 hbl.size
  obtain ⟨z0, z1, hzf⟩ := blk2 hp15
  obtain ⟨w16, hw16⟩ : ∃ w16, (w14.alloc (.cells #[.int .i64 1, .int .i64 2] 3)).drewN q15 = w16 := ⟨_, rfl⟩
  have hb016 : Below w.heap.size w w16 := by rw [← hw16]; exact below_drewN hb015 q15
  have hk16 : Sli w16 (w.heap.size + 1 + 1 + 1) (.slice (some ⟨w.heap.size, 0, none⟩) 2 2) (ci [0, 31]) := by rw [← hw16]; exact hk15
  have hs16 : w.heap.size + 1 + 1 + 1 ≤ w16.heap.size := by rw [← hw16]; exact hs15
  have z0' : w16.cell? ⟨w.heap.size + 1, 0, none⟩ = some (.int .i64 1) := by rw [← hw16]; exact z0
  have z1' : w16.cell? ⟨w.heap.size + 1, 1, none⟩ = some (.slice (some ⟨w.heap.size, 0, none⟩) 2 2) := by rw [← hw16]; exact z1
  rw [hw16]
  clear hw16 z0 z1 hzf
  go_wp2_with fail
  refine (may_any 1 _ [0, 31] 5 1 w16 _ hk16 hs16 (by simp) (by omega) (by omega)).mono ?_
  rw [E5.out]
  rintro e w17 ⟨rfl, hb1617⟩
  go_wp2
  go_ret
  exact ⟨rfl, bthen hb016 hb1617 hb016.size⟩
end Go.Proofs.Ytohbpjehphmedaa
