/- arith: a bit is encoded. -/
import Derived.Test.YtghbjlmbehljdaaAriA
namespace Go.Proofs.Ytghbjlmbehljdaa
open Go.RowKit
set_option maxRecDepth 100000
set_option maxHeartbeats 400000

theorem CoO.mk3 {w : World} {g : Nat} {vl vo : Value} {s : Co} (h1 : w.heap[g]? = some (.cells #[vl, .int .u64 (s.w : Nat), vo] 63 (0, 0))) (h2 : Own w 0 5 vl (cu8 (digs s.k s.lo))) (h3 : Own w 0 3 vo (cn s.od)) : CoO w (fp g vl vo) g s := ⟨vl, vo, h1, h2, h3, rfl⟩
theorem shft_big {lo k w : Nat} {od : List Nat} (h : ¬ w < 16777216) : shft ⟨lo, k, w, od⟩ = ⟨lo, k, w, od⟩ := by unfold shft; rw [if_neg (by exact h)]
theorem shft_small {lo k w : Nat} {od : List Nat} (h : w < 16777216) : shft ⟨lo, k, w, od⟩ = ⟨lo * 256, k + 1, w * 256, od⟩ := by unfold shft; rw [if_pos (by exact h)]

theorem cenc_any {w : World} {F : Nat → Prop} {g : Nat} {s : Co} (hC : CoO w F g s) (bd b : Nat) (hb : b ≤ 1) (h1 : 65536 ≤ bd) (h2 : bd + 65536 ≤ s.w) (hw : s.w < 4294967296) (ht : s.lo + s.w ≤ 256 ^ s.k) (hk : s.k ≤ 1099511627700) :
    Calls Try.prog 36 #[.pointer (some ⟨g, 0, none⟩), .int .u64 bd, .int .i64 b] w fun e w' => e = .returned (.tuple #[]) ∧ ∃ F', CoO w' F' g (enc s bd b) ∧ Chg w w' F F' := by
  obtain ⟨vl, vo, hblk, ho, hoo, rfl⟩ := hC
  obtain ⟨lo, k, W, od⟩ := s
  simp only at *
  have hvg : vl.ownBlock ≠ some g := ho.ne hblk (by decide)
  have hog : vo.ownBlock ≠ some g := hoo.ne hblk (by decide)
  have hlv : ∀ q, vl.ownBlock = some q → vo.ownBlock ≠ some q := fun q e e' => by
    obtain ⟨cs, h⟩ := ho.blk e
    exact hoo.ne h (by decide) e'
  rcases (by omega : b = 0 ∨ b = 1) with rfl | rfl
  · have hadd : Hid (enc ⟨lo, k, W, od⟩ bd 0 = shft ⟨lo, k, bd, od⟩) := Lib.hid rfl
    obtain ⟨c0, c1, c2, hf⟩ := blk3 hblk
    have hS := heap_setCell_same w g 1 _ _ (.int .u64 (bd : Nat)) hblk
    have HS : Hid (∃ vl', (w.setCell ⟨g, 1, none⟩ (.int .u64 (bd : Nat))).heap[g]? = some (.cells #[vl', .int .u64 (bd : Nat), vo] 63 (0, 0)) ∧ Own (w.setCell ⟨g, 1, none⟩ (.int .u64 (bd : Nat))) 0 5 vl' (cu8 (digs k lo)) ∧ Own (w.setCell ⟨g, 1, none⟩ (.int .u64 (bd : Nat))) 0 3 vo (cn od) ∧ Chg w (w.setCell ⟨g, 1, none⟩ (.int .u64 (bd : Nat))) (fp g vl vo) (fp g vl' vo)) :=
      Lib.hid ⟨vl, hS, ho.far hblk (by decide) (grown_set w g 1 _), hoo.far hblk (by decide) (grown_set w g 1 _), (Chg.refl _ _).set _ (.inl rfl)⟩
    have HT := Lib.hid ht
    clear hS hblk ho hoo hvg hog hlv ht
    have hbw : bd < 4294967296 := by omega
    go_enter Try.func36, Try.ntmps36
    go_wp2
    go_loopg [] (if bd < 16777216 then 1 else 0) (fun d wr => ∃ (vl' : Value) (lo1 k1 w1 : Nat), wr.heap[g]? = some (.cells #[vl', .int .u64 (w1 : Nat), vo] 63 (0, 0)) ∧ Own wr 0 5 vl' (cu8 (digs k1 lo1)) ∧ Own wr 0 3 vo (cn od) ∧ Chg w wr (fp g vl vo) (fp g vl' vo) ∧ Hid (d ≠ 0 → w1 < 16777216 ∧ d = 1 ∧ lo1 = lo ∧ k1 = k ∧ w1 = bd) ∧ Hid (d = 0 → ¬ w1 < 16777216 ∧ shft ⟨lo, k, bd, od⟩ = ⟨lo1, k1, w1, od⟩))
    case atStart =>
      obtain ⟨vl', a1, a2, a3, a4⟩ := HS.out
      refine ⟨vl', lo, k, bd, a1, a2, a3, a4, Lib.hid fun h => ?_, Lib.hid fun h => ?_⟩
      · by_cases hh : bd < 16777216
        · simp [hh]
        · simp [hh] at h
      · by_cases hh : bd < 16777216
        · simp [hh] at h
        · exact ⟨hh, shft_big hh⟩
    case round =>
      obtain ⟨vl', lo1, k1, w1, a1, a2, a3, a4, HP, HZ⟩ := hrel
      obtain ⟨c0, c1, c2, hf⟩ := blk3 a1
      by_cases hd : gk = 0
      · obtain ⟨z1, z2⟩ := HZ.out hd
        have z3 := Lib.hid z2
        have hz : decide ((w1 : Int) < 16777216) = false := by simp; omega
        clear z2 HS z1
        go_wp2
        go_end0
        exact ⟨rfl, _, by rw [hadd.out, z3.out]; exact CoO.mk3 (s := ⟨lo1, k1, w1, od⟩) a1 a2 a3, a4⟩
      · obtain ⟨z1, z2, z3, z4, z5⟩ := HP.out hd
        subst z3; subst z4; subst z5
        have Z2 := Lib.hid z2
        obtain ⟨w2, hw2⟩ : ∃ w2, w1 * 256 = w2 := ⟨_, rfl⟩
        have eW : (w1 : Int) * 256 = (w2 : Nat) := by omega
        have HW2 := Lib.hid hw2
        clear HS HZ HP z2 hw2
        have hS1 := heap_setCell_same wr g 1 _ _ (.int .u64 (w2 : Nat)) a1
        have hO1 := a2.far a1 (by decide) (grown_set wr g 1 (.int .u64 (w2 : Nat)))
        have hO2 := a3.far a1 (by decide) (grown_set wr g 1 (.int .u64 (w2 : Nat)))
        have hC1 := a4.set (b := g) (j := 1) (.int .u64 (w2 : Nat)) (.inl rfl)
        obtain ⟨A1, n1, q1, rfl⟩ := a2.shape
        obtain ⟨d0, d1, d2, hf2⟩ := blk3 hS1
        have hroom : (cu8 (digs k1 lo1)).length + 1 ≤ 8796093022208 := by rw [cu8_len, digs_len]; omega
        have hgb : g < (wr.setCell ⟨g, 1, none⟩ (.int .u64 (w2 : Nat))).heap.size := (Array.getElem?_eq_some_iff.1 hS1).1
        have hng : (Value.slice A1 n1 q1).ownBlock ≠ some g := hO1.ne hS1 (by decide)
        have hno : ∀ q, (Value.slice A1 n1 q1).ownBlock = some q → vo.ownBlock ≠ some q := fun q e e' => by
          obtain ⟨cs, h⟩ := hO1.blk e
          exact hO2.ne h (by decide) e'
        have HS1 := Lib.hid hS1
        have hz : decide ((w1 : Int) < 16777216) = true := by simp; omega
        have Z1 := Lib.hid z1
        clear a1 a2 a3 a4 hS1 z1
        go_wp2_with (at_builtin; refine wpl_push hO1 (Nat.zero_le _) hroom Try.underlying39 info_u8 rfl (by decide) rfl rfl rfl rfl rfl (h := ?_); intro v2 w3 ho2 hm2; obtain ⟨A2, n2, k2, rfl⟩ := ho2.shape; have hb2 : w3.heap[g]? = some (.cells #[.slice A1 n1 q1, .int .u64 (w2 : Nat), vo] 63 (0, 0)) := ((hm2 (g + 1)).block g hgb (by omega) hng).trans HS1.out; obtain ⟨e0, e1, e2, hf3⟩ := blk3 hb2)
        have e8 : cu8 (digs k1 lo1) ++ [.int .u8 0] = cu8 (digs (k1 + 1) (lo1 * 256)) := by rw [← digs_push]; simp [cu8]
        rw [e8] at ho2
        have hO3 : Own w3 0 3 vo (cn od) := hO2.stay fun q e hq => (hm2 g).block q hq (fun e' => hO2.ne HS1.out (by decide) (e' ▸ e)) (fun e' => hno q e' e)
        go_roundg 0
        case measure => omega
        case rel =>
          refine ⟨_, lo1 * 256, k1 + 1, w2, heap_setCell_same w3 g 0 _ _ _ hb2, ho2.far hb2 (by decide) (grown_set w3 g 0 _), hO3.far hb2 (by decide) (grown_set w3 g 0 _), (hC1.trans (.of_mov (hm2 g))).set _ (.inl rfl), Lib.hid (fun h => absurd rfl h), Lib.hid fun _ => ⟨by have := HW2.out; omega, ?_⟩⟩
          rw [shft_small Z1.out, HW2.out]

  · obtain ⟨wd, hwd⟩ : ∃ wd, W - bd = wd := ⟨_, rfl⟩
    obtain ⟨lp, hlp⟩ : ∃ lp, lo + bd = lp := ⟨_, rfl⟩
    have hadd : Hid (enc ⟨lo, k, W, od⟩ bd 1 = shft ⟨lp, k, wd, od⟩) := Lib.hid (by rw [← hwd, ← hlp]; rfl)
    have hA := cadd_any (n := bd) hblk ho (by omega) (by omega) (by omega)
    rw [hlp] at hA
    have hwI : (W : Int) - (bd : Int) = (wd : Nat) := by omega
    have HA := Lib.hid hA
    have HS0 : Hid (∀ w1 : World, w1.heap[g]? = some (.cells #[vl, .int .u64 (W : Nat), vo] 63 (0, 0)) → Own w1 0 5 vl (cu8 (digs k lp)) → w.grownBy w1 vl.ownBlock → ∃ vl', (w1.setCell ⟨g, 1, none⟩ (.int .u64 (wd : Nat))).heap[g]? = some (.cells #[vl', .int .u64 (wd : Nat), vo] 63 (0, 0)) ∧ Own (w1.setCell ⟨g, 1, none⟩ (.int .u64 (wd : Nat))) 0 5 vl' (cu8 (digs k lp)) ∧ Own (w1.setCell ⟨g, 1, none⟩ (.int .u64 (wd : Nat))) 0 3 vo (cn od) ∧ Chg w (w1.setCell ⟨g, 1, none⟩ (.int .u64 (wd : Nat))) (fp g vl vo) (fp g vl' vo)) :=
      Lib.hid fun w1 hb1 ho1 hg1 => by
        have hoo1 : Own w1 0 3 vo (cn od) := hoo.stay fun q e hq => hg1.block q hq fun e' => hlv q e'.symm e
        have hC : Chg w w1 (fp g vl vo) (fp g vl vo) := ⟨hg1.os, hg1.tape, hg1.output, hg1.size, fun q hq hF => hg1.block q hq (fun e => hF (.inr (.inl e.symm))), fun _ e => .inl e⟩
        exact ⟨vl, heap_setCell_same w1 g 1 _ _ (.int .u64 (wd : Nat)) hb1, ho1.far hb1 (by decide) (grown_set w1 g 1 _), hoo1.far hb1 (by decide) (grown_set w1 g 1 _), hC.set _ (.inl rfl)⟩
    have HT := Lib.hid ht
    have HWD := Lib.hid hwd
    have hbw : wd < 4294967296 := by omega
    have hW : W < 18446744073709551616 := by omega
    have hbd : bd < 18446744073709551616 := by omega
    have HLP := Lib.hid hlp
    clear hA hblk ho hoo hvg hog hlv ht hwd hlp
    go_enter Try.func36, Try.ntmps36
    go_wp2_with (go_at_call 50; refine (HA.out).mono ?_; rintro e w1 ⟨rfl, hb1, ho1, hg1⟩; obtain ⟨c0, c1, c2, hf⟩ := blk3 hb1)
    have HS := Lib.hid (HS0.out w1 hb1 ho1 hg1)
    clear HS0 hb1 ho1 hg1
    go_loopg [] (if wd < 16777216 then 1 else 0) (fun d wr => ∃ (vl' : Value) (lo1 k1 w1 : Nat), wr.heap[g]? = some (.cells #[vl', .int .u64 (w1 : Nat), vo] 63 (0, 0)) ∧ Own wr 0 5 vl' (cu8 (digs k1 lo1)) ∧ Own wr 0 3 vo (cn od) ∧ Chg w wr (fp g vl vo) (fp g vl' vo) ∧ Hid (d ≠ 0 → w1 < 16777216 ∧ d = 1 ∧ lo1 = lp ∧ k1 = k ∧ w1 = wd) ∧ Hid (d = 0 → ¬ w1 < 16777216 ∧ shft ⟨lp, k, wd, od⟩ = ⟨lo1, k1, w1, od⟩))
    case atStart =>
      obtain ⟨vl', a1, a2, a3, a4⟩ := HS.out
      refine ⟨vl', lp, k, wd, a1, a2, a3, a4, Lib.hid fun h => ?_, Lib.hid fun h => ?_⟩
      · by_cases hh : wd < 16777216
        · simp [hh]
        · simp [hh] at h
      · by_cases hh : wd < 16777216
        · simp [hh] at h
        · exact ⟨hh, shft_big hh⟩
    case round =>
      obtain ⟨vl', lo1, k1, w1, a1, a2, a3, a4, HP, HZ⟩ := hrel
      obtain ⟨c0, c1, c2, hf⟩ := blk3 a1
      by_cases hd : gk = 0
      · obtain ⟨z1, z2⟩ := HZ.out hd
        have z3 := Lib.hid z2
        have hz : decide ((w1 : Int) < 16777216) = false := by simp; omega
        clear z2 HS z1
        go_wp2
        go_end0
        exact ⟨rfl, _, by rw [hadd.out, z3.out]; exact CoO.mk3 (s := ⟨lo1, k1, w1, od⟩) a1 a2 a3, a4⟩
      · obtain ⟨z1, z2, z3, z4, z5⟩ := HP.out hd
        subst z3; subst z4; subst z5
        have Z2 := Lib.hid z2
        obtain ⟨w2, hw2⟩ : ∃ w2, w1 * 256 = w2 := ⟨_, rfl⟩
        have eW : (w1 : Int) * 256 = (w2 : Nat) := by omega
        have HW2 := Lib.hid hw2
        clear HS HZ HP z2 hw2
        have hS1 := heap_setCell_same wr g 1 _ _ (.int .u64 (w2 : Nat)) a1
        have hO1 := a2.far a1 (by decide) (grown_set wr g 1 (.int .u64 (w2 : Nat)))
        have hO2 := a3.far a1 (by decide) (grown_set wr g 1 (.int .u64 (w2 : Nat)))
        have hC1 := a4.set (b := g) (j := 1) (.int .u64 (w2 : Nat)) (.inl rfl)
        obtain ⟨A1, n1, q1, rfl⟩ := a2.shape
        obtain ⟨d0, d1, d2, hf2⟩ := blk3 hS1
        have hroom : (cu8 (digs k1 lo1)).length + 1 ≤ 8796093022208 := by rw [cu8_len, digs_len]; omega
        have hgb : g < (wr.setCell ⟨g, 1, none⟩ (.int .u64 (w2 : Nat))).heap.size := (Array.getElem?_eq_some_iff.1 hS1).1
        have hng : (Value.slice A1 n1 q1).ownBlock ≠ some g := hO1.ne hS1 (by decide)
        have hno : ∀ q, (Value.slice A1 n1 q1).ownBlock = some q → vo.ownBlock ≠ some q := fun q e e' => by
          obtain ⟨cs, h⟩ := hO1.blk e
          exact hO2.ne h (by decide) e'
        have HS1 := Lib.hid hS1
        have hz : decide ((w1 : Int) < 16777216) = true := by simp; omega
        have Z1 := Lib.hid z1
        clear a1 a2 a3 a4 hS1 z1
        go_wp2_with (at_builtin; refine wpl_push hO1 (Nat.zero_le _) hroom Try.underlying39 info_u8 rfl (by decide) rfl rfl rfl rfl rfl (h := ?_); intro v2 w3 ho2 hm2; obtain ⟨A2, n2, k2, rfl⟩ := ho2.shape; have hb2 : w3.heap[g]? = some (.cells #[.slice A1 n1 q1, .int .u64 (w2 : Nat), vo] 63 (0, 0)) := ((hm2 (g + 1)).block g hgb (by omega) hng).trans HS1.out; obtain ⟨e0, e1, e2, hf3⟩ := blk3 hb2)
        have e8 : cu8 (digs k1 lo1) ++ [.int .u8 0] = cu8 (digs (k1 + 1) (lo1 * 256)) := by rw [← digs_push]; simp [cu8]
        rw [e8] at ho2
        have hO3 : Own w3 0 3 vo (cn od) := hO2.stay fun q e hq => (hm2 g).block q hq (fun e' => hO2.ne HS1.out (by decide) (e' ▸ e)) (fun e' => hno q e' e)
        go_roundg 0
        case measure => omega
        case rel =>
          refine ⟨_, lo1 * 256, k1 + 1, w2, heap_setCell_same w3 g 0 _ _ _ hb2, ho2.far hb2 (by decide) (grown_set w3 g 0 _), hO3.far hb2 (by decide) (grown_set w3 g 0 _), (hC1.trans (.of_mov (hm2 g))).set _ (.inl rfl), Lib.hid (fun h => absurd rfl h), Lib.hid fun _ => ⟨by have := HW2.out; omega, ?_⟩⟩
          rw [shft_small Z1.out, HW2.out]
end Go.Proofs.Ytghbjlmbehljdaa
