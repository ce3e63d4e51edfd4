/- arith: what every law asks first. -/
import Derived.Test.YtghbjlmbehljdaaAriK
import Derived.Lib.Strings
namespace Go.Proofs.Ytghbjlmbehljdaa
open Go.RowKit
set_option maxRecDepth 100000
set_option maxHeartbeats 1000000

theorem fst_sy {f : Co} {n : Nat} (h : f.lo < 256 ^ f.k) (hk : 4 ≤ f.k) : fstD (digs f.k f.lo) n 4 = Sy f (start n) := by
  unfold fstD Sy
  rw [vals_digs h 4 hk]
  rfl
theorem Ok.low {f : Co} {n : Nat} (h : Ok f n) : f.lo < 256 ^ f.k := by have := h.top; have := h.wlo; omega
/-- The first four bytes of what a coder has put are less than ff ff ff ff. -/
theorem fst_lt {f : Co} {n : Nat} (h : Ok f n) (hi : In f (start n)) : vals (digs f.k f.lo) 4 < 4294967295 := by
  have hs := start_ok n
  have hd := In.ok hs hi
  rw [vals_digs h.low 4 h.k4]
  have := hd.vw
  have e : (Sy f (start n)).v = f.lo / 256 ^ (f.k - 4) := by simp [Sy, start]
  rw [e] at this
  exact this
theorem num10 : numOps 1 0 = [(some 1, 0)] := by
  have h := numD_in 0
  have h0 : numD 0 = 0 := by
    rcases Nat.eq_zero_or_pos (numD 0) with h1 | h1
    · exact h1
    · have : 2 ^ 1 ≤ 2 ^ numD 0 := Nat.pow_le_pow_right (by omega) h1
      omega
  unfold numOps
  rw [h0]
  rfl
def knC : Co := run (start 40) [(some 0, 0), (some 1, 0)]
theorem knC_is : knC.lo = 0 ∧ knC.k = 4 ∧ atO knC.od 0 = 2112 ∧ atO knC.od 1 = 2112 := by decide +kernel
theorem knG : ∀ x ∈ [((some 0 : Option Nat), 0), (some 1, 0)], good 40 x := by
  intro x hx
  simp at hx
  rcases hx with rfl | rfl
  · exact ⟨by simp, fun c e => by injection e with e; omega⟩
  · exact ⟨by simp, fun c e => by injection e with e; omega⟩

theorem knownA_any (w : World) : Calls Try.prog 10 #[] w fun e w' => e = .returned (.bool true) ∧ Below w.heap.size w w' := by
  have hs0 := start_ok 40
  have hs1 : Ok (step (start 40) (some 0, 0)) 40 := (step_in hs0 (knG _ (by simp))).1
  have hs2 : Ok knC 40 := (runs_in _ hs0 knG).1
  have hi2 : In knC (run (step (start 40) (some 0, 0)) (numOps 1 0)) := by rw [num10]; exact In.self hs2
  have hi1 : In knC (step (start 40) (some 0, 0)) := In.run _ hs1 (fun x hx => by rw [num10] at hx; exact knG x (by simp at hx; simp [hx])) hi2
  have hi0 : In knC (start 40) := In.back hs0 (knG _ (by simp)) hi1
  have e1 := sy_get (f := knC) (c := 0) (b := 0) hs0 (by omega) (by omega) hi1
  have e2 := sy_num (f := knC) (c := 1) (v := 0) (most := 5) hs1 (by omega) (by omega) hi2
  rw [if_neg (by omega)] at e2
  obtain ⟨k1, k2, k3, k4⟩ := knC_is
  have e3 : run (step (start 40) (some 0, 0)) (numOps 1 0) = knC := by rw [num10]; rfl
  rw [e3] at e2
  have hL : ((Sy knC knC).rest.length : Nat) = 0 := by
    show ((digs knC.k knC.lo).drop knC.k).length = 0
    rw [List.length_drop, digs_len]; omega
  have hbits : digs knC.k knC.lo = [0, 0, 0, 0] := by rw [k1, k2]; decide
  have hfl := fst_lt hs2 hi0
  have hfs := fst_sy (n := 40) hs2.low hs2.k4
  go_enter Try.func10, Try.ntmps10
  go_wp2_with fail
  refine (newc_good 40 w (by decide)).mono ?_
  rintro e w1 ⟨g1, F1, rfl, hC1, hF1, hb1⟩
  have HF1 := Lib.hid hF1
  have HP := Lib.hid (cput_any hC1 hs0 (by simp [start]) 0 0 (by omega) (by omega))
  have HC1 := Lib.hid hC1
  clear hC1 hF1
  go_wp2_with fail
  refine HP.out.mono ?_
  rintro e w2 ⟨rfl, F2, hC2, hc2⟩
  have hb2 := hb1.trans (hc2.below HF1.out hb1.size)
  have HF2 := Lib.hid (hc2.base HF1.out hb1.size)
  have HN := Lib.hid (cnum_any hC2 hs1 (by have := (step_in hs0 (knG (some 0, 0) (by simp))).2; obtain ⟨m, h1, h2, _⟩ := this; rw [h2]; simp [start]; omega) (by omega) 1 0 (by omega) (by omega))
  rw [e3] at HN
  clear hC2 hc2
  go_wp2_with fail
  refine HN.out.mono ?_
  rintro e w3 ⟨rfl, F3, hC3, hc3⟩
  have hb3 := hb2.trans (hc3.below HF2.out hb2.size)
  have HF3 := Lib.hid (hc3.base HF2.out hb2.size)
  have HB := Lib.hid (cbytes_any hC3 (by rw [k2]; omega))
  have HC3 := Lib.hid hC3
  clear hC3 hc3
  go_wp2_with fail
  refine HB.out.mono ?_
  rintro e w4 ⟨v4, rfl, ho4, hb34⟩
  have HC4 := Lib.hid (HC3.out.below hb34)
  have hb4 := hb3.trans (hb34.mono hb3.size)
  have HD := Lib.hid (newd_good (w := w4) (v := v4) 40 ho4.sli (by decide) (by rw [digs_len, k2]; omega) (by rw [digs_len, k2]; omega) digs_lt hfl)
  rw [hfs] at HD
  have HO4 := Lib.hid ho4
  obtain ⟨A4, n4, c4, rfl⟩ := ho4.shape
  clear ho4
  go_wp2_with fail
  refine HD.out.mono ?_
  rintro e w5 ⟨g5, F5, rfl, hD5, hF5, hb45⟩
  have HC5 := Lib.hid (HC4.out.below hb45)
  have HO5 := Lib.hid ((HO4.out).kept hb45)
  have hb5 := hb4.trans (hb45.mono hb4.size)
  have HF5 := Lib.hid hF5
  have HG := Lib.hid (dget_any hD5 (In.ok hs0 hi0) ((0 : Nat) : Int))
  rw [e1] at HG
  clear hD5 hF5 hb34
  go_wp2_with fail
  refine HG.out.mono ?_
  rintro e w6 ⟨rfl, hD6, hc6⟩
  have HN6 := Lib.hid (dnum_any hD6 (In.ok hs1 hi1) (by omega) ((1 : Nat) : Int) 5)
  rw [e2] at HN6
  clear hD6
  go_wp2_with fail
  refine HN6.out.mono ?_
  rintro e w7 ⟨rfl, hD7, hc7⟩
  have hc57 := hc6.trans hc7
  have hb57 : Below w4.heap.size w5 w7 := hc57.below HF5.out hb45.size
  have hb7 := hb5.trans (hb57.mono hb4.size)
  have HC7 := Lib.hid (HC4.out.below ((hb45.trans hb57)))
  have HO7 := Lib.hid (HO4.out.kept (hb45.trans hb57))
  have HD7 := Lib.hid hD7
  clear hc6 hc7 hc57 hD7
  have hO70 := HO7.out
  rw [hbits] at hO70
  have hq := run_str (P := Try.prog) (l := [0, 0, 0, 0]) hO70.sli Try.underlying39 Try.underlying5 Try.underlying9
  rw [show bstr [0, 0, 0, 0] = ⟨#[0, 0, 0, 0]⟩ from rfl] at hq
  have HA := Lib.hid (codds_any HC7.out 0); have HA1 := Lib.hid (codds_any HC7.out 1)
  have HDO := Lib.hid (dodds_any HD7.out 0)
  have HDL := Lib.hid (dleft_any HD7.out)
  have HDE := Lib.hid (derr_any HD7.out)
  rw [k3] at HA
  rw [k4] at HA1
  rw [show (Sy knC knC, 0).1.od = knC.od from rfl, k3] at HDO
  rw [hL] at HDL
  clear hO70
  go_wp2_with fail
  refine HA.out.mono ?_
  rintro e w8 ⟨rfl, rfl⟩
  go_wp2_with fail
  refine HDO.out.mono ?_
  rintro e w8 ⟨rfl, rfl⟩
  go_wp2_with fail
  refine HA1.out.mono ?_
  rintro e w8 ⟨rfl, rfl⟩
  go_wp2_with fail
  refine HDL.out.mono ?_
  rintro e w8 ⟨rfl, rfl⟩
  go_wp2_with fail
  refine HDE.out.mono ?_
  rintro e w8 ⟨rfl, rfl⟩
  go_wp2
  go_ret
  exact ⟨rfl, hb7⟩
end Go.Proofs.Ytghbjlmbehljdaa
