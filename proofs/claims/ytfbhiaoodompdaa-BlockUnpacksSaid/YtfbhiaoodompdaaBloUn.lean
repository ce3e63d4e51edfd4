/- block: the reference's Unpack; the law BlockUnpacks. -/
import Derived.Test.YtfbhiaoodompdaaBloU
import Derived.Test.YtfbhiaoodompdaaBloUq
import Derived.Test.YtfbhiaoodompdaaBloPa
namespace Go.Proofs.Ytfbhiaoodompdaa
open Go.RowKit
set_option maxRecDepth 100000
set_option maxHeartbeats 4000000

theorem qunpackBk_any (v : Value) (l : List Nat) (r c b : Int) (w : World) (B : Nat) (hS : Sli w B v (cu8 l)) (hB : B ≤ w.heap.size) (hx : ∀ x ∈ l, x < 256) (hn : l.length ≤ 1099511627776) :
    Calls Try.prog 36 #[v, .agg #[.int .i64 r, .int .i64 c, .int .i64 b]] w (BkPost (unpackBl l r c b) w) := by
  obtain ⟨A, q, rfl, hlc, hcm⟩ := hS.form8
  have hr := fun w => qright_any r c b w
  have hup := fun (w1 : World) (h : Sli w1 B (.slice A l.length q) (cu8 l)) (h2 : B ≤ w1.heap.size) => qunpack_any _ l b w1 B h h2 hx hn
  have hpl := unpk_small (b := l) (n := b)
  obtain ⟨wA, hwA, hsA, hbA, hfb, hrb⟩ := two_boxes w #[.int .i64 r, .int .i64 c, .int .i64 b] #[.int .i64 0, .slice none 0 0] 23 26
  have hSA := hS.below (hbA.mono hB)
  have HWA := Lib.hid hwA
  clear hwA
  by_cases h1 : rightB r c b = true
  · rw [h1] at hr
    by_cases h2 : (unpackR l b).2 = 0
    · rw [unpackBl_ok h1 h2]
      have hpt := fun (w1 : World) (v : Value) (h : Sli w1 w1.heap.size v (ci (unpackR l b).1)) => qpartBk_any v _ r c b w1 _ h (Nat.le_refl _) (by omega)
      generalize partR (unpackR l b).1 r c b = res at *
      obtain ⟨ul, ue⟩ : ∃ u, u = unpackR l b := ⟨_, rfl⟩
      rw [← ue] at hup h2 hpt
      clear ue hpl
      obtain ⟨ur, ure⟩ := ul
      simp only at h2 hpt
      subst h2
      obtain ⟨rb, rr, re⟩ := res
      have HR := Lib.hid hr; have HUP := Lib.hid hup; have HPT := Lib.hid hpt
      clear hr hup hpt h1 hS
      generalize l.length = L at *
      go_enter Try.func36, Try.ntmps36
      go_wp2_with fail
      rw [HWA.out]
      obtain ⟨x0, x1, x2, xf⟩ := three_in hfb
      go_wp2_with fail
      refine (HR.out _).mono ?_
      rintro e w1 ⟨rfl, hb1⟩
      rw [hsA] at hb1
      have hK1 := hb1.size
      rw [hsA] at hK1
      clear x0 x1 x2 xf
      obtain ⟨x0, x1, x2, xf⟩ := three_in (box_at hb1 hfb (by omega))
      have hS1 := hSA.below (hb1.mono (by omega))
      go_wp2_with fail
      refine (HUP.out w1 hS1 (by omega)).mono ?_
      rintro e w2 ⟨v2, rfl, ho2, hb2⟩
      have hb12 := hb1.trans (hb2.mono hK1)
      have hK2 := hb12.size
      rw [hsA] at hK2
      clear x0 x1 x2 xf hb2 hS1
      obtain ⟨x0, x1, x2, xf⟩ := three_in (box_at hb12 hfb (by omega))
      go_wp2_with fail
      refine (HPT.out w2 v2 ho2.sli).mono ?_
      rintro e w3 ⟨A3, n3, c3, vs3, rfl, hR3, hb3⟩
      have hb13 := hb12.trans (hb3.mono hK2)
      have hR3' := hR3.mono hK2
      clear x0 x1 x2 xf hb3 hR3
      obtain ⟨r0, r1, rf⟩ := two_in (box_at hb13 hrb (by omega))
      go_wp2
      refine bodyPost_ret (results_two rfl _ _ (w.heap.size + 1) 26 #[.int .i64 rb, .slice A3 n3 c3] (0, 0) _ rfl (two_set (box_at hb13 hrb (by omega))) Try.underlying26 rfl (by kernel_rfl)) rfl ?_
      obtain ⟨q1, q2⟩ := box_done (x := rb) hbA hb13 hrb (by omega) (by omega) hR3'
      exact ⟨_, _, _, _, rfl, q1, q2⟩
    · rw [unpackBl_err h1 h2]
      generalize unpackR l b = u at *
      obtain ⟨ur, ure⟩ := u
      simp only at h2
      have hne : (ure != 0) = true := by rw [bne_iff_ne]; exact h2
      have HR := Lib.hid hr; have HUP := Lib.hid hup
      clear hr hup h1 hS h2 hpl
      generalize l.length = L at *
      go_enter Try.func36, Try.ntmps36
      go_wp2_with fail
      rw [HWA.out]
      obtain ⟨x0, x1, x2, xf⟩ := three_in hfb
      go_wp2_with fail
      refine (HR.out _).mono ?_
      rintro e w1 ⟨rfl, hb1⟩
      rw [hsA] at hb1
      have hK1 := hb1.size
      rw [hsA] at hK1
      clear x0 x1 x2 xf
      obtain ⟨x0, x1, x2, xf⟩ := three_in (box_at hb1 hfb (by omega))
      have hS1 := hSA.below (hb1.mono (by omega))
      go_wp2_with fail
      refine (HUP.out w1 hS1 (by omega)).mono ?_
      rintro e w2 ⟨v2, rfl, ho2, hb2⟩
      have hb12 := hb1.trans (hb2.mono hK1)
      have hK2 := hb12.size
      rw [hsA] at hK2
      clear x0 x1 x2 xf hb2 hS1
      obtain ⟨r0, r1, rf⟩ := two_in (box_at hb12 hrb (by omega))
      go_wp2
      refine bodyPost_ret (results_two rfl _ _ (w.heap.size + 1) 26 #[.int .i64 0, .slice none 0 0] (0, 0) _ rfl (two_set (box_at hb12 hrb (by omega))) Try.underlying26 rfl (by kernel_rfl)) rfl ?_
      obtain ⟨q1, q2⟩ := box_done (x := 0) hbA hb12 hrb (by omega) (by omega) (RwG.nil _ _)
      exact ⟨_, _, _, _, rfl, q1, q2⟩
  · rw [unpackBl_no h1]
    rw [Bool.eq_false_iff.2 h1] at hr
    have HR := Lib.hid hr
    clear hr hup h1 hS hpl
    generalize l.length = L at *
    go_enter Try.func36, Try.ntmps36
    go_wp2_with fail
    rw [HWA.out]
    obtain ⟨x0, x1, x2, xf⟩ := three_in hfb
    go_wp2_with fail
    refine (HR.out _).mono ?_
    rintro e w1 ⟨rfl, hb1⟩
    rw [hsA] at hb1
    clear x0 x1 x2 xf
    obtain ⟨r0, r1, rf⟩ := two_in (box_at hb1 hrb (by omega))
    go_wp2
    refine bodyPost_ret (results_two rfl _ _ (w.heap.size + 1) 26 #[.int .i64 0, .slice none 0 0] (0, 0) _ rfl (two_set (box_at hb1 hrb (by omega))) Try.underlying26 rfl (by kernel_rfl)) rfl ?_
    obtain ⟨q1, q2⟩ := box_done (x := 0) hbA hb1 hrb (by omega) (by omega) (RwG.nil _ _)
    exact ⟨_, _, _, _, rfl, q1, q2⟩
theorem unpackBl_smb (l : List Nat) (r c b : Int) : SmB (unpackBl l r c b).2.1 := by
  unfold unpackBl
  split
  next =>
    split
    next => exact partR_smb _ _ _ _
    next => exact SmB.nil
  next => exact SmB.nil
theorem blockUnpacks_walk (v : Value) (l : List Nat) (f0 f1 f2 : Int) (w : World) (hS : Sli w w.heap.size v (cu8 l)) (hx : ∀ x ∈ l, x < 256) :
    Calls Try.prog 7 #[v, .agg #[.int .i64 f0, .int .i64 f1, .int .i64 f2]] w fun e w' => e = .returned (.bool true) ∧ Below w.heap.size w w' := by
  obtain ⟨A, c, rfl, hlc, hcm⟩ := hS.form8
  obtain ⟨wA, hwA⟩ : ∃ wA, w.alloc (.cells #[.int .i64 f0, .int .i64 f1, .int .i64 f2] 23) = wA := ⟨_, rfl⟩
  have hX0 := Fx.start w f0 f1 f2
  rw [hwA] at hX0
  have HWA := Lib.hid hwA
  clear hwA
  obtain ⟨L, hL⟩ : ∃ L, l.length = L := ⟨_, rfl⟩
  by_cases hl : l.length ≤ 3000
  · have h1 := fun (w1 : World) (h : Fx w w1 f0 f1 f2) => unpackBk_any _ l f0 f1 f2 w1 _ (hS.below h.be) h.be.size hx (by omega)
    have h2 := fun (w1 : World) (h : Fx w w1 f0 f1 f2) => qunpackBk_any _ l f0 f1 f2 w1 _ (hS.below h.be) h.be.size hx (by omega)
    have hsm := unpackBl_smb l f0 f1 f2
    generalize unpackBl l f0 f1 f2 = res at *
    obtain ⟨rb, rr, re⟩ := res
    rw [hL] at hlc hl h1 h2 ⊢
    have hee : (re == re) = true := by simp
    have H1 := Lib.hid h1; have H2 := Lib.hid h2; have HSM := Lib.hid hsm
    clear h1 h2 hsm hS hL
    go_enter Try.func7, Try.ntmps7
    go_wp2_with fail
    rw [HWA.out]
    refine (knownBk_any wA).mono ?_
    rintro e w1 ⟨rfl, hb1⟩
    have hX1 := hX0.on hb1
    obtain ⟨x0, x1, x2, xf⟩ := three_in hX1.fb
    go_wp2_with fail
    refine (H1.out w1 hX1).mono ?_
    rintro e w2 ⟨A2, n2, c2, vs2, rfl, hR2, hb2⟩
    have hX2 := hX1.on hb2
    clear x0 x1 x2 xf
    have hbn := below_new w2 #[.int .i64 rb, .slice A2 n2 c2] 26
    have hbx := boxed w2 #[.int .i64 rb, .slice A2 n2 c2] 26
    obtain ⟨w3, hw3⟩ : ∃ w3, w2.alloc (.cells #[.int .i64 rb, .slice A2 n2 c2] 26) = w3 := ⟨_, rfl⟩
    have hX3 := hX2.on hbn
    have hR3 := hR2.rws.below hbn
    rw [hw3] at hX3 hR3 hbx hbn
    obtain ⟨x0, x1, x2, xf⟩ := three_in hX3.fb
    go_wp2_with fail
    refine (H2.out w3 hX3).mono ?_
    rintro e w4 ⟨A4, n4, c4, vs4, rfl, hR4, hb4⟩
    have hX4 := hX3.on hb4
    have hR34 := hR3.below (hb4.mono hbn.size)
    have hbx4 := (hb4.block _ (Array.getElem?_eq_some_iff.1 hbx).1).trans hbx
    have hbn4 := below_new w4 #[.int .i64 rb, .slice A4 n4 c4] 26
    have hbx44 := boxed w4 #[.int .i64 rb, .slice A4 n4 c4] 26
    obtain ⟨w5, hw5⟩ : ∃ w5, w4.alloc (.cells #[.int .i64 rb, .slice A4 n4 c4] 26) = w5 := ⟨_, rfl⟩
    have hz24 : w2.heap.size ≤ w4.heap.size := Nat.le_trans hbn.size hb4.size
    have hR35 := hR34.below (hbn4.mono hz24)
    have hR45 := hR4.rws.below hbn4
    have hbx5 := (hbn4.block _ (Array.getElem?_eq_some_iff.1 hbx4).1).trans hbx4
    have hX5 := hX4.on hbn4
    rw [hw5] at hR35 hR45 hbx5 hbx44 hX5 hbn4
    obtain ⟨y0, y1, yf⟩ := two_in hbx5
    obtain ⟨z0, z1, zf⟩ := two_in hbx44
    clear x0 x1 x2 xf hbx hbx4 hR34 hR3
    have HR35 := Lib.hid hR35; have HR45 := Lib.hid hR45
    have hz25 : w2.heap.size ≤ w5.heap.size := Nat.le_trans hz24 hbn4.size
    go_wp2_with fail
    refine (same_two HR35.out HR45.out hz25 hbn4.size HSM.out).mono ?_
    rintro e w6 ⟨rfl, hb6⟩
    have hX6 := hX5.on hb6
    go_wp2
    go_ret
    exact ⟨rfl, hX6.be⟩
  · rw [hL] at hlc hl ⊢
    have hlI : (3000 : Int) < (L : Int) := by omega
    clear hl hL hS
    go_enter Try.func7, Try.ntmps7
    go_wp2_with fail
    rw [HWA.out]
    refine (knownBk_any wA).mono ?_
    rintro e w1 ⟨rfl, hb1⟩
    have hX1 := hX0.on hb1
    go_wp2
    go_ret
    exact ⟨rfl, hX1.be⟩
end Go.Proofs.Ytfbhiaoodompdaa
