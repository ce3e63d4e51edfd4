/- arith: the decoder's methods. -/
import Derived.Test.YtghbjlmbehljdaaAriG
namespace Go.Proofs.Ytghbjlmbehljdaa
open Go.RowKit
set_option maxRecDepth 100000
set_option maxHeartbeats 400000

theorem dodds_any {w : World} {F : Nat → Prop} {g : Nat} {s : De} (hD : DeO w F g s) (c : Int) : Calls Try.prog 31 #[.pointer (some ⟨g, 0, none⟩), .int .i64 c] w fun e w' => e = .returned (.int .i64 (atO s.od c : Nat)) ∧ w = w' := by
  obtain ⟨b, vr, vo, hB, rfl⟩ := hD
  have hA := oat_any hB.own c
  obtain ⟨c0, c1, c2, c3, c4, hf⟩ := blk5 hB.blk
  obtain ⟨A2, n2, k2, rfl⟩ := hB.own.shape
  generalize atO s.od c = z at *
  clear hB
  go_enter Try.func31, Try.ntmps31
  go_wp2_with (go_at_call 44; refine hA.mono ?_; rintro e w1 ⟨rfl, rfl⟩)
  go_ret
  exact ⟨rfl, rfl⟩
theorem derr_any {w : World} {F : Nat → Prop} {g : Nat} {s : De} (hD : DeO w F g s) : Calls Try.prog 29 #[.pointer (some ⟨g, 0, none⟩)] w fun e w' => e = .returned (.int .i64 (s.er : Nat)) ∧ w = w' := by
  obtain ⟨b, vr, vo, hB, rfl⟩ := hD
  obtain ⟨c0, c1, c2, c3, c4, hf⟩ := blk5 hB.blk
  clear hB
  go_enter Try.func29, Try.ntmps29
  go_wp2
  go_ret
  exact ⟨rfl, rfl⟩
theorem dleft_any {w : World} {F : Nat → Prop} {g : Nat} {s : De} (hD : DeO w F g s) : Calls Try.prog 27 #[.pointer (some ⟨g, 0, none⟩)] w fun e w' => e = .returned (.int .i64 (s.rest.length : Nat)) ∧ w = w' := by
  obtain ⟨b, vr, vo, hB, rfl⟩ := hD
  obtain ⟨c0, c1, c2, c3, c4, hf⟩ := blk5 hB.blk
  obtain ⟨o, c, rfl, _⟩ := hB.row
  clear hB
  go_enter Try.func27, Try.ntmps27
  go_wp2
  go_ret
  exact ⟨rfl, rfl⟩

/-- The first error is set. -/
theorem DeO.setE {w : World} {F : Nat → Prop} {g : Nat} {s : De} (h : DeO w F g s) (e : Nat) : DeO (w.setCell ⟨g, 4, none⟩ (.int .i64 (e : Nat))) F g (withE s e) ∧ Chg w (w.setCell ⟨g, 4, none⟩ (.int .i64 (e : Nat))) F F := by
  obtain ⟨b, vr, vo, hB, rfl⟩ := h
  exact hB.done (t := withE s e) (Below.refl _ _) (grown_set w g 4 _) (heap_setCell_same w g 4 _ _ (.int .i64 (e : Nat)) hB.blk) hB.row rfl
theorem DeO.learn {w w' : World} {g b : Nat} {vr vo : Value} {s : De} {od : List Nat} (h : DeB w g b vr vo s) (ho : Own w' 0 3 vo (cn od)) (hg : w.grownBy w' vo.ownBlock) : DeO w' (fd g b vo) g (withO s od) ∧ Chg w w' (fd g b vo) (fd g b vo) := by
  have hog : vo.ownBlock ≠ some g := h.own.ne h.blk (by decide)
  refine ⟨⟨b, vr, vo, ⟨(hg.block g h.glt fun e => hog e.symm).trans h.blk, h.row.keep (hg.block b h.lt fun e => h.na e.symm), ho, h.ne, h.na, Nat.lt_of_lt_of_le h.lt hg.size⟩, rfl⟩, ⟨hg.os, hg.tape, hg.output, hg.size, fun k hk hF => hg.block k hk fun e => hF (.inr (.inr e.symm)), fun _ e => .inl e⟩⟩

theorem dget_any {w : World} {F : Nat → Prop} {g n : Nat} {s : De} (hD : DeO w F g s) (hK : DOk s n) (c : Int) :
    Calls Try.prog 30 #[.pointer (some ⟨g, 0, none⟩), .int .i64 c] w fun e w' => e = .returned (.int .i64 ((dget s c).2 : Nat)) ∧ DeO w' F g (dget s c).1 ∧ Chg w w' F F := by
  have HD := Lib.hid hD
  obtain ⟨b, vr, vo, hB, rfl⟩ := hD
  obtain ⟨c0, c1, c2, c3, c4, hf⟩ := blk5 hB.blk
  obtain ⟨A2, q2, rfl, _, _⟩ := hB.own.form
  rw [cn_len] at *
  have hH := fun (W : World) => ohas_any (w := W) (A := A2) (n := s.od.length) (q := q2) c
  by_cases he : s.er = 0
  · by_cases hh : hasB s.od.length c = true
    · have hci := has_iff.1 hh
      obtain ⟨i, rfl⟩ := Int.eq_ofNat_of_zero_le hci.1
      have hin : i < n := by have := hK.len; omega
      obtain ⟨b1, b2⟩ := bnd_in hK hin
      rw [hh] at hH
      have hde := ddec_any (w := w.drew) (F := fd g b (.slice A2 s.od.length q2)) (s := s) (HD.out.below (Below.refl _ _).drew) hK _ b1 b2
      have hod := hK.odd _ (getD_mem (od := s.od) (c := i) (by omega))
      have hBo := obound_any (w := w.drew) (od := s.od) (show Own w.drew 0 3 (.slice A2 s.od.length q2) (cn s.od) from hB.own) s.w i (by omega) hK.whi (by omega)
      have hr : dget s i = if (dec s (boundOf s.w s.od (some i))).1.er ≠ 0 then ((dec s (boundOf s.w s.od (some i))).1, 0)
          else (withO (dec s (boundOf s.w s.od (some i))).1 (learnt s.od i (dec s (boundOf s.w s.od (some i))).2), (dec s (boundOf s.w s.od (some i))).2) := by
        unfold dget
        rw [if_neg (by omega), if_neg (by rw [hh]; simp), Int.toNat_natCast]
      rw [hr]
      have hdk := dec_ok hK b1 b2
      obtain ⟨hdk1, hdk2, hdk3, _⟩ := hdk
      generalize boundOf s.w s.od (some i) = bd at *
      generalize dec s bd = t at *
      have HBo : Hid (Calls Try.prog 37 #[.slice A2 s.od.length q2, .int .u64 s.w, .int .i64 i] w.drew fun e w' => e = .returned (.int .u64 bd) ∧ w' = w.drew) := Lib.hid (hBo.mono fun _ _ h => ⟨h.1, h.2.symm⟩)
      have HDE := Lib.hid hde
      have HKL : Hid (True → i < s.od.length ∧ s.od.getD i 0 ≤ 4096 ∧ t.2 ≤ 1 ∧ t.1.od = s.od) := Lib.hid fun _ => ⟨by omega, by omega, hdk2, hdk3⟩
      clear hB hde hBo b1 b2 hod hr hdk1 hdk2 hdk3 hK hci hh hin
      have he' : (s.er : Int) = 0 := by omega
      by_cases ht : t.1.er = 0
      · rw [if_neg (by omega)]
        have ht' : (t.1.er : Int) = 0 := by omega
        go_enter Try.func30, Try.ntmps30
        go_wp2_with (go_at_call 35; refine (hH _).mono ?_; rintro e w1 ⟨rfl, rfl⟩)
        go_still_tail 11, (by kernel_rfl)
        still_call HBo.out
        repeat still_step
        try refine wpStill_nil ?_
        change wpList _ _ _ _ _ w.drew
        go_wp2_with (first
          | (go_at_call 48; refine HDE.out.mono ?_; rintro e w2 ⟨rfl, ⟨b3, vr3, vo3, hB3, hF3⟩, hc2⟩; obtain ⟨d0, d1, d2, d3, d4, hf2⟩ := blk5 hB3.blk; have hoo3 := hB3.own; rw [(HKL.out trivial).2.2.2] at hoo3; have HL := Lib.hid (olearn_any hoo3 i t.2 (HKL.out trivial).1 (HKL.out trivial).2.2.1 (HKL.out trivial).2.1); obtain ⟨A3, n3, k3, rfl⟩ := hoo3.shape; have HB3 := Lib.hid hB3; clear hB3 hoo3)
          | (go_at_call 38; refine HL.out.mono ?_; rintro e w3 ⟨rfl, ho3, hg3⟩))
        go_ret
        have hfin := DeO.learn HB3.out ho3 hg3
        rw [← hF3] at hfin
        exact ⟨rfl, hfin.1, Chg.trans (w := w) ⟨hc2.os, hc2.tape, hc2.output, hc2.size, hc2.block, hc2.own⟩ hfin.2⟩
      · rw [if_pos ht]
        have ht' : ((t.1.er : Int) != 0) = true := by rw [bne_iff_ne]; omega
        go_enter Try.func30, Try.ntmps30
        go_wp2_with (go_at_call 35; refine (hH _).mono ?_; rintro e w1 ⟨rfl, rfl⟩)
        go_still_tail 11, (by kernel_rfl)
        still_call HBo.out
        repeat still_step
        try refine wpStill_nil ?_
        change wpList _ _ _ _ _ w.drew
        go_wp2_with (go_at_call 48; refine HDE.out.mono ?_; rintro e w2 ⟨rfl, ⟨b3, vr3, vo3, hB3, hF3⟩, hc2⟩; obtain ⟨d0, d1, d2, d3, d4, hf2⟩ := blk5 hB3.blk; have HB3 := Lib.hid hB3; clear hB3)
        go_ret
        exact ⟨rfl, ⟨b3, vr3, vo3, HB3.out, hF3⟩, ⟨hc2.os, hc2.tape, hc2.output, hc2.size, hc2.block, hc2.own⟩⟩
    · have hh' : hasB s.od.length c = false := by simpa using hh
      have hr : dget s c = (withE s 1, 0) := by
        unfold dget
        rw [if_neg (by omega), if_pos hh']
      rw [hr]
      rw [hh'] at hH
      have hS := HD.out.setE 1
      have d4 := (blk5 (heap_setCell_same w g 4 _ _ (.int .i64 1) hB.blk)).2.2.2.2
      obtain ⟨d4, d5⟩ := d4
      have HS := Lib.hid hS
      have he' : (s.er : Int) = 0 := by omega
      clear hB hS hr hK hh hh'
      go_enter Try.func30, Try.ntmps30
      go_wp2_with (go_at_call 35; refine (hH _).mono ?_; rintro e w1 ⟨rfl, rfl⟩)
      go_ret
      exact ⟨rfl, HS.out.1, HS.out.2⟩
  · have hr : dget s c = (s, 0) := by unfold dget; rw [if_pos he]
    rw [hr]
    have he1 : ((s.er : Int) == 0) = false := by rw [beq_eq_false_iff_ne]; omega
    have he2 : ((s.er : Int) != 0) = true := by rw [bne_iff_ne]; omega
    clear hB hr hK
    go_enter Try.func30, Try.ntmps30
    go_wp2_with (go_at_call 35; refine (hH _).mono ?_; rintro e w1 ⟨rfl, rfl⟩)
    go_ret
    exact ⟨rfl, HD.out, Chg.refl _ _⟩
end Go.Proofs.Ytghbjlmbehljdaa
