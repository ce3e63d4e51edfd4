/- arith: the coder's methods. -/
import Derived.Test.YtghbjlmbehljdaaAriB
import Derived.Test.YtghbjlmbehljdaaAriD
import Derived.Test.YtghbjlmbehljdaaClone
import Derived.Deep.OwnRows
import Derived.StillTailTactics
namespace Go.Proofs.Ytghbjlmbehljdaa
open Go.RowKit
set_option maxRecDepth 100000
set_option maxHeartbeats 400000

theorem own_zero {w : World} {base g n : Nat} (h : Own w base 5 (.slice (some ⟨g, 0, none⟩) 4 4) (List.replicate 4 (.int .u8 0))) : Own w base 5 (.slice (some ⟨g, 0, none⟩) 4 4) (cu8 (digs (start n).k (start n).lo)) := by
  show Own w base 5 _ (cu8 (digs 4 0))
  rw [show digs 4 0 = List.replicate 4 0 by decide]
  exact h
theorem make4 (W : World) : (Instr.makeSlice 39 (.int .i64 4) (.int .i64 4)).run Try.prog W = .ok (.slice (some ⟨W.heap.size, 0, none⟩) 4 4) (W.alloc (.cells (madeCells #[.int .u8 0] 4) 5)) :=
  run_make_row' 39 5 (.int .u8 0) 1 Try.underlying39 info_u8 rfl .i64 .i64 4 (by decide) (by decide) W
theorem own_made4 (W : World) {base : Nat} (hb : base ≤ W.heap.size) : Own (W.alloc (.cells (madeCells #[.int .u8 0] 4) 5)) base 5 (.slice (some ⟨W.heap.size, 0, none⟩) 4 4) (List.replicate 4 (.int .u8 0)) :=
  ⟨rfl, .inr ⟨W.heap.size, 4, _, rfl, hb, heap_alloc_new W _, Nat.le_refl _, by simp [maxLen], by rw [← Array.length_toList, toList_madeCells_one]; rfl, by rw [toList_madeCells_one]; rfl⟩⟩
theorem newc_bad (n : Int) (w : World) (h : areB n = false) : Calls Try.prog 11 #[.int .i64 n] w fun e w' => e = .returned (.tuple #[.pointer none, .int .i64 1]) ∧ w = w' := by
  have hA := arec_any n
  rw [h] at hA
  go_enter Try.func11, Try.ntmps11
  go_wp2_with (go_at_call 32; refine (hA _).mono ?_; rintro e w1 ⟨rfl, rfl⟩)
  go_ret2
  exact ⟨rfl, rfl⟩
theorem newc_good (n : Nat) (w : World) (h : areB n = true) : Calls Try.prog 11 #[.int .i64 n] w fun e w' => ∃ g F, e = .returned (.tuple #[.pointer (some ⟨g, 0, none⟩), .int .i64 0]) ∧ CoO w' F g (start n) ∧ (∀ k, F k → w.heap.size ≤ k) ∧ Below w.heap.size w w' := by
  have hA := arec_any n
  have hn : 1 ≤ n ∧ n ≤ 4096 := by simp [areB] at h; omega
  have hO := fun W : World => newod_any n W hn.1 (by omega)
  rw [h] at hA
  go_enter Try.func11, Try.ntmps11
  go_wp2_with (go_at_call 32; refine (hA _).mono ?_; rintro e w1 ⟨rfl, rfl⟩)
  have hmk := make4
  go_region_with (first
    | (go_at_call 33; refine (hO _).mono ?_; rintro e wo ⟨vo, rfl, hoo, hbo⟩; obtain ⟨Ao, no, co, rfl⟩ := hoo.shape)
    | fail)
  · have hom := own_made4 w (Nat.le_refl _)
    have hm0 : Below w.heap.size w (w.alloc (.cells (madeCells #[.int .u8 0] 4) 5)) := (Below.refl _ _).alloc (Nat.le_refl _) _
    have hom1 : Own wo w.heap.size 5 (.slice (some ⟨w.heap.size, 0, none⟩) 4 4) (List.replicate 4 (.int .u8 0)) := Own.kept (w := (w.alloc (.cells (madeCells #[.int .u8 0] 4) 5)).drew) hom hbo
    have hbo' : Below w.heap.size w wo := (hm0.drew).trans (hbo.mono (by simp))
    clear hO hA hmk hom
    go_wp2
    go_ret2
    refine ⟨_, _, rfl, ⟨_, _, heap_alloc_new wo _, (own_zero (n := n) (hom1.mono (Nat.zero_le _))).alloc _, (hoo.mono (Nat.zero_le _)).alloc _, rfl⟩, fun k hk => ?_, hbo'.alloc hbo'.size _⟩
    rcases hk with rfl | hk | hk
    · exact hbo'.size
    · exact (hom1.lt k hk).1
    · exact Nat.le_trans (by simp) (hoo.lt k hk).1
  · have hbo' : Below w.heap.size w wo := (Below.refl _ w).drew.trans hbo
    have hom := own_made4 wo hbo'.size
    have hm0 : Below wo.heap.size wo (wo.alloc (.cells (madeCells #[.int .u8 0] 4) 5)) := (Below.refl _ _).alloc (Nat.le_refl _) _
    have hoo1 := hoo.kept hm0
    have hb2 := hbo'.alloc hbo'.size (.cells (madeCells #[.int .u8 0] 4) 5)
    clear hO hA hmk
    go_wp2
    go_ret2
    rw [show wo.heap.size + 1 = (wo.alloc (.cells (madeCells #[.int .u8 0] 4) 5)).heap.size by simp]
    refine ⟨_, _, rfl, ⟨_, _, heap_alloc_new _ _, (own_zero (n := n) (hom.mono (Nat.zero_le _))).alloc _, (hoo1.mono (Nat.zero_le _)).alloc _, rfl⟩, fun k hk => ?_, hb2.alloc hb2.size _⟩
    rcases hk with rfl | hk | hk
    · exact hb2.size
    · exact (hom.lt k hk).1
    · exact (hoo1.lt k hk).1
theorem codds_any {w : World} {F : Nat → Prop} {g : Nat} {s : Co} (hC : CoO w F g s) (c : Int) : Calls Try.prog 19 #[.pointer (some ⟨g, 0, none⟩), .int .i64 c] w fun e w' => e = .returned (.int .i64 (atO s.od c : Nat)) ∧ w = w' := by
  obtain ⟨vl, vo, hblk, ho, hoo, rfl⟩ := hC
  have hA := oat_any hoo c
  obtain ⟨c0, c1, c2, hf⟩ := blk3 hblk
  obtain ⟨A2, n2, k2, rfl⟩ := hoo.shape
  generalize atO s.od c = z at *
  clear hblk ho hoo
  go_enter Try.func19, Try.ntmps19
  go_wp2_with (go_at_call 44; refine hA.mono ?_; rintro e w1 ⟨rfl, rfl⟩)
  go_ret
  exact ⟨rfl, rfl⟩
theorem cbytes_any {w : World} {F : Nat → Prop} {g : Nat} {s : Co} (hC : CoO w F g s) (hk : s.k ≤ 1099511627776) : Calls Try.prog 22 #[.pointer (some ⟨g, 0, none⟩)] w fun e w' => ∃ v', e = .returned v' ∧ Own w' w.heap.size 5 v' (cu8 (digs s.k s.lo)) ∧ Below w.heap.size w w' := by
  obtain ⟨vl, vo, hblk, ho, hoo, rfl⟩ := hC
  have hc := clone_any vl (digs s.k s.lo) w ho.sli (by rw [digs_len]; exact hk)
  obtain ⟨c0, c1, c2, hf⟩ := blk3 hblk
  obtain ⟨A1, n1, k1, rfl⟩ := ho.shape
  have HC := Lib.hid hc
  generalize digs s.k s.lo = l at *
  clear hc hblk ho hoo
  go_enter Try.func22, Try.ntmps22
  go_wp2_with (go_at_call 45; refine (HC.out).mono ?_; rintro e w1 ⟨v1, rfl, ho1, hb1⟩; obtain ⟨A1, n1, c1, rfl⟩ := ho1.shape)
  go_ret
  exact ⟨_, rfl, ho1, hb1⟩
def putB (n : Nat) (c b : Int) : Bool := hasB n c && (decide (0 ≤ b) && decide (b ≤ 1))
theorem cput_bad {w : World} {F : Nat → Prop} {g : Nat} {s : Co} (hC : CoO w F g s) (c b : Int) (h : putB s.od.length c b = false) : Calls Try.prog 13 #[.pointer (some ⟨g, 0, none⟩), .int .i64 c, .int .i64 b] w fun e w' => e = .returned (.int .i64 1) ∧ w = w' := by
  obtain ⟨vl, vo, hblk, ho, hoo, rfl⟩ := hC
  obtain ⟨c0, c1, c2, hf⟩ := blk3 hblk
  obtain ⟨A2, q2, rfl, _, _⟩ := hoo.form
  rw [cn_len] at *
  have hH := fun (W : World) => ohas_any (w := W) (A := A2) (n := s.od.length) (q := q2) c
  unfold putB at h
  generalize hasB s.od.length c = z at *
  clear hblk ho hoo
  cases z with
  | false =>
    clear h
    go_enter Try.func13, Try.ntmps13
    go_wp2_with (go_at_call 35; refine (hH _).mono ?_; rintro e w1 ⟨rfl, rfl⟩)
    go_ret
    exact ⟨rfl, rfl⟩
  | true =>
    have h : b < 0 ∨ 1 < b := by simp at h; omega
    by_cases hb : b < 0
    · clear h
      go_enter Try.func13, Try.ntmps13
      go_wp2_with (go_at_call 35; refine (hH _).mono ?_; rintro e w1 ⟨rfl, rfl⟩)
      go_ret
      exact ⟨rfl, rfl⟩
    · have hb1 : 1 < b := by omega
      clear h
      go_enter Try.func13, Try.ntmps13
      go_wp2_with (go_at_call 35; refine (hH _).mono ?_; rintro e w1 ⟨rfl, rfl⟩)
      go_ret
      exact ⟨rfl, rfl⟩
theorem cput_any {w : World} {F : Nat → Prop} {g n : Nat} {s : Co} (hC : CoO w F g s) (hK : Ok s n) (hk : s.k ≤ 1099511627700) (c b : Nat) (hc : c < n) (hb : b ≤ 1) :
    Calls Try.prog 13 #[.pointer (some ⟨g, 0, none⟩), .int .i64 c, .int .i64 b] w fun e w' => e = .returned (.int .i64 0) ∧ ∃ F', CoO w' F' g (step s (some c, b)) ∧ Chg w w' F F' := by
  have hg : good n (some c, b) := ⟨hb, fun c' e => by injection e with e; omega⟩
  obtain ⟨b1, b2⟩ := bound_in hK.len hK.odd hK.wlo hg
  have hE := cenc_any (w := w.drew) hC (boundOf s.w s.od (some c)) b hb b1 b2 hK.whi hK.top hk
  obtain ⟨vl, vo, hblk, ho, hoo, rfl⟩ := hC
  obtain ⟨c0, c1, c2, hf⟩ := blk3 hblk
  have hod := hK.odd _ (getD_mem (od := s.od) (c := c) (by rw [hK.len]; exact hc))
  obtain ⟨A2, q2, rfl, _, _⟩ := hoo.form
  rw [cn_len] at *
  have hH := fun (W : World) => ohas_any (w := W) (A := A2) (n := s.od.length) (q := q2) c
  have hh : hasB s.od.length c = true := has_iff.2 ⟨by omega, by rw [hK.len]; omega⟩
  rw [hh] at hH
  have HE := Lib.hid hE; have HB0 := Lib.hid (obound_any (w := w.drew) (od := s.od) (show Own w.drew 0 3 (.slice A2 s.od.length q2) (cn s.od) from hoo) s.w c (by rw [hK.len]; exact hc) hK.whi (by omega))
  have HK := Lib.hid hK
  obtain ⟨bd, hbd⟩ : ∃ bd, boundOf s.w s.od (some c) = bd := ⟨_, rfl⟩
  have HBD := Lib.hid hbd
  rw [hbd] at HE HB0
  clear hE hblk ho hoo b1 b2 hbd hK hh hod
  have hbI : (b : Int) ≤ 1 := by omega
  go_enter Try.func13, Try.ntmps13
  go_wp2_with (go_at_call 35; refine (hH _).mono ?_; rintro e w1 ⟨rfl, rfl⟩)
  have HB2 : Hid (Calls Try.prog 37 #[.slice A2 s.od.length q2, .int .u64 s.w, .int .i64 c] w.drew fun e w' => e = .returned (.int .u64 bd) ∧ w' = w.drew) := Lib.hid (HB0.out.mono fun _ _ h => ⟨h.1, h.2.symm⟩)
  go_still_tail 12, (by kernel_rfl)
  still_call HB2.out
  repeat still_step
  try refine wpStill_nil ?_
  change wpList _ _ _ _ _ w.drew
  go_wp2_with (first
    | (go_at_call 36; refine HE.out.mono ?_; rintro e w2 ⟨rfl, F2, ⟨vl2, vo2, hb2, ho2, hoo2, rfl⟩, hc2⟩; rw [enc_od] at hoo2; have HL := Lib.hid (olearn_any hoo2 c b (by rw [HK.out.len]; exact hc) hb (by have := HK.out.odd _ (getD_mem (od := s.od) (c := c) (by rw [HK.out.len]; exact hc)); omega)); obtain ⟨A3, n3, k3, rfl⟩ := hoo2.shape; obtain ⟨d0, d1, d2, hf2⟩ := blk3 hb2)
    | (go_at_call 38; refine HL.out.mono ?_; rintro e w3 ⟨rfl, ho3, hg3⟩))
  go_ret
  have hvg : (Value.slice A3 n3 k3).ownBlock ≠ some g := hoo2.ne hb2 (by decide)
  have hgl := (Array.getElem?_eq_some_iff.1 hb2).1
  refine ⟨rfl, fp g vl2 (.slice A3 n3 k3), ⟨vl2, .slice A3 n3 k3, ?_, ?_, ho3, rfl⟩, ?_⟩
  · rw [hg3.block g hgl (fun e => hvg e.symm), hb2]
    show _ = some (Obj.cells #[vl2, Value.int .u64 ((enc s (boundOf s.w s.od (some c)) b).w : Nat), _] _ _)
    rw [HBD.out]
  · show Own w3 0 5 vl2 (cu8 (digs (enc s (boundOf s.w s.od (some c)) b).k (enc s (boundOf s.w s.od (some c)) b).lo))
    rw [HBD.out]
    refine ho2.stay fun q e hq => hg3.block q hq fun e' => ?_
    obtain ⟨cs, h⟩ := ho2.blk e
    exact hoo2.ne h (by decide) e'.symm
  · have hc2' : Chg w w2 _ _ := ⟨hc2.os, hc2.tape, hc2.output, hc2.size, hc2.block, hc2.own⟩
    exact hc2'.trans ⟨hg3.os, hg3.tape, hg3.output, hg3.size, fun q hq hF => hg3.block q hq (fun e => hF (.inr (.inr e.symm))), fun _ e => .inl e⟩
end Go.Proofs.Ytghbjlmbehljdaa
