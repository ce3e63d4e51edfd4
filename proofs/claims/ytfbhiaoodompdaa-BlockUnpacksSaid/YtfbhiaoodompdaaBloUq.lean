/- block: the reference's Unpack of samples. -/
import Derived.Test.YtfbhiaoodompdaaBloN
import Derived.Test.YtfbhiaoodompdaaOcn
namespace Go.Proofs.Ytfbhiaoodompdaa
open Go.RowKit
set_option maxRecDepth 100000
set_option maxHeartbeats 4000000

def slenB : Value → Nat
  | .slice _ n _ => n
  | _ => 0
theorem OcO.belowG {w w' : World} {B g G at_ : Nat} {l : List Nat} {er : Int} (h : OcO w B g l at_ er) (hb : Below G w w') (hg : g < G) : OcO w' B g l at_ er := by
  obtain ⟨v, h1, h2, hB, r⟩ := h
  exact ⟨v, (hb.block g hg).trans h1, h2.below (hb.mono (by omega)), hB, r⟩
theorem shv1 (Y : Int) (h0 : 0 ≤ Y) (h1 : Y < 256) : wrap64 (IntKind.u64.wrap (Y * 72057594037927936)) / 72057594037927936 = sgnS 1 Y.toNat := by
  rw [IntKind.wrap_u64]
  unfold wrap64
  unfold sgnS
  split
  next h => simp at h; omega
  next h => simp at h; simp; omega
theorem qunpack_1 (v : Value) (l : List Nat) (n : Int) (w : World) (B q : Nat) (hS : Sli w B v (cu8 l)) (hB : B ≤ w.heap.size) (hx : ∀ x ∈ l, x < 256) (hn : l.length ≤ 1099511627776) (hp : packB n = true) (h8 : szOf n = 1) (hq : l.length = q * 1) :
    Calls Try.prog 49 #[v, .int .i64 n] w (RowPost (unpackR l n) w) := by
  obtain ⟨A, c, rfl, hlc, hcm⟩ := hS.form8
  have hs := fun w => qdepth_any n w
  rw [hp] at hs
  obtain ⟨hn4, hn24⟩ := packB_iff.1 hp
  have hsz : (n + 7) / 8 = 1 := by unfold szOf at h8; omega
  have hun := unpk_len 1 l
  rw [hq, Nat.mul_div_cancel _ (by omega)] at hun
  have hdef : unpackR l n = (if (unpk 1 l).all (fun x => fitsB x n) = true then (unpk 1 l, 0) else ([], 6)) := by unfold unpackR; rw [if_pos hp, h8, if_pos (by rw [hq]; exact Nat.mul_mod_left _ _)]
  have hbad : (unpk 1 l).all (fun x => fitsB x n) = false → unpackR l n = ([], 6) := fun h => by rw [hdef, if_neg (by rw [h]; simp)]
  have hgood : (unpk 1 l).all (fun x => fitsB x n) = true → unpackR l n = (unpk 1 l, 0) := fun h => by rw [hdef, if_pos h]
  generalize unpackR l n = res at *
  obtain ⟨L, hL⟩ : ∃ L, l.length = L := ⟨_, rfl⟩
  have hrem : ((L : Int) % 1 != 0) = false := by have : (L : Int) % 1 = 0 := (by omega); rw [this]; rfl
  have hnew := qnew_any _ l w B hS hB hx hn
  rw [hL] at hlc hn hq hnew ⊢
  have HS := Lib.hid hs; have HUN := Lib.hid hun; have HBAD := Lib.hid hbad; have HGOOD := Lib.hid hgood; have HL := Lib.hid hL; have HQ := Lib.hid hq; have HNEW := Lib.hid hnew
  clear hs hun hdef hbad hgood hL hq hnew hp h8 hS
  go_enter Try.func49, Try.ntmps49
  go_wp2_with (first
    | (go_at_call 57; refine (HS.out _).mono ?_; rintro e w1 ⟨rfl, rfl⟩)
    | (go_at_call 66; refine HNEW.out.mono ?_; rintro e w3 ⟨g, rfl, hR3, hg3, hb3⟩; refine cut_here ?_))
  unfold CutHere
  go_wp2
  have hgl := hR3.lt
  obtain ⟨G, hG⟩ : ∃ G, w3.heap.size = G := ⟨_, rfl⟩
  rw [hG] at hgl
  have hwG : w.heap.size ≤ G := by have := hb3.size; omega
  go_loopw [7] (fun v wr => ∃ i : Nat, i ≤ q ∧ ∃ Av cv, v = .slice Av i cv ∧ Own wr G 3 v (ci ((unpk 1 l).take i)) ∧ Below w.heap.size w wr ∧ G ≤ wr.heap.size ∧ Hid (((unpk 1 l).take i).all (fun x => fitsB x n) = true) ∧ OcO wr B g l (i * 1) 0) (fun v _ => q - slenB v)
  case atStart => exact ⟨0, by omega, none, 0, rfl, Own.nil _ _ _, hb3, by omega, rfl, by simpa using hR3⟩
  case round =>
    clear hR3 hb3 hG HNEW
    obtain ⟨i, hi, Av, cv, rfl, ho, hb, hGr, hall, hR⟩ := hrel
    have hlf := qleft_any hR
    obtain ⟨R, hRR⟩ : ∃ R, l.length - i * 1 = R := ⟨_, rfl⟩
    rw [hRR] at hlf
    have HLF := Lib.hid hlf
    clear hlf
    by_cases hiq : i < q
    · have hR0 : (0 : Int) < (R : Int) := by have h1 := HL.out; have h2 := HQ.out; have h3 : (i + 1) * 1 ≤ q * 1 := Nat.mul_le_mul_right _ hiq; omega
      have hqd : i < l.length / 1 := by rw [HL.out, HQ.out, Nat.mul_div_cancel _ (by omega)]; exact hiq
      have hat := unpk_at hqd
      have hil : i < (unpk 1 l).length := by rw [HUN.out]; exact hiq
      have htc := take_chunk (s := 1) (l := l) (n := q) (i := i) (by rw [HL.out]; exact HQ.out) hiq
      have hy : leV ((l.drop (i * 1)).take 1) < 256 := by
        have h1 := leV_lt ((l.drop (i * 1)).take 1) (fun x h => hx x (List.mem_of_mem_drop (List.mem_of_mem_take h)))
        have h2 : ((l.drop (i * 1)).take 1).length ≤ 1 := by rw [List.length_take]; omega
        exact Nat.lt_of_lt_of_le h1 (Nat.le_trans (Nat.pow_le_pow_right (by omega) h2) (by decide))
      have hck : chunk 1 l i = sgnS 1 (leV ((l.drop (i * 1)).take 1)) := rfl
      obtain ⟨y, hyE⟩ : ∃ y, leV ((l.drop (i * 1)).take 1) = y := ⟨_, rfl⟩
      rw [hyE] at hy hck
      obtain ⟨Y, hyY⟩ : ∃ Y : Int, (y : Int) = Y := ⟨_, rfl⟩
      have hv := shv1 (y : Int) (by omega) (by omega)
      rw [Int.toNat_natCast, ← hck, hyY] at hv
      have hY0 : 0 ≤ Y := by omega
      have hY1 : Y < 256 := by omega
      clear hy hY0 hY1
      generalize chunk 1 l i = x at *
      have hge : (unpk 1 l)[i] = x := by rw [List.getElem?_eq_getElem hil] at hat; injection hat
      have htk : ((unpk 1 l).take (i + 1)).all (fun x => fitsB x n) = (((unpk 1 l).take i).all (fun x => fitsB x n) && fitsB x n) := by rw [List.take_succ_eq_append_getElem hil, List.all_append, hge]; simp only [List.all_cons, List.all_nil, Bool.and_true]
      have htl : (unpk 1 l).take (i + 1) = (unpk 1 l).take i ++ [x] := by rw [List.take_succ_eq_append_getElem hil, hge]
      have hno : fitsB x n = false → (unpk 1 l).all (fun x => fitsB x n) = false := fun h => List.all_eq_false.2 ⟨x, by rw [← hge]; exact List.getElem_mem _, by rw [h]; simp⟩
      have hlen : (ci ((unpk 1 l).take i)).length + 1 ≤ 8796093022208 := by rw [ci_len, List.length_take]; have h2 := HQ.out; omega
      have hfx := fun w => rfits_any x n w
      have hsm : ∀ (wd : World), OcO wd B g l (i * 1) 0 → Calls Try.prog 68 #[.pointer (some ⟨g, 0, none⟩), .int .i64 1] wd fun e w' => e = .returned (.int .u64 Y) ∧ OcO w' B g l ((i + 1) * 1) 0 ∧ wd.grownBy w' (some g) := fun wd hd => by
        have h := qsmall_any hd 1 (by omega) (by omega)
        rw [show clampN 1 = 1 from rfl, htc] at h
        dsimp only at h
        rw [hyE, hyY] at h
        exact h
      have HSM := Lib.hid hsm; have HT := Lib.hid htk; have HNO := Lib.hid hno; have HTL := Lib.hid htl; have HLEN := Lib.hid hlen
      clear hsm htk hno htl hlen hat hqd hil htc hck hge hyY hyE hRR
      obtain ⟨csO, hblk⟩ := hR.blk
      cases hwx : fitsB x n
      · rw [hwx] at hfx
        have hf := Lib.hid (HNO.out hwx)
        have HX := Lib.hid hfx
        clear hfx hwx
        go_wp2_with (first
          | (go_at_call 67; refine HLF.out.mono ?_; rintro e w4 ⟨rfl, q4, rfl⟩)
          | (go_at_call 68; refine (HSM.out _ (hR.drewN q4)).mono ?_; rintro e w5 ⟨rfl, hR5, hg5⟩)
          | (go_at_call 45; refine (HX.out _).mono ?_; rintro e w6 ⟨rfl, rfl⟩))
        go_ret2
        rw [HBAD.out hf.out]
        exact ⟨_, rfl, Own.nil _ _ _, (below_drewN hb q4).trans (below_of_only hg5 hg3 hb.size)⟩
      · rw [hwx] at hfx
        have ht := Lib.hid (HT.out.trans (by rw [hall.out, hwx, Bool.true_and]))
        have HX := Lib.hid hfx
        clear hfx hwx
        go_wp2_with (first
          | (go_at_call 67; refine HLF.out.mono ?_; rintro e w4 ⟨rfl, q4, rfl⟩)
          | (go_at_call 68; refine (HSM.out _ (hR.drewN q4)).mono ?_; rintro e w5 ⟨rfl, hR5, hg5⟩; have ho5 := (ho.drewN q4).far (show (wr.drewN q4).heap[g]? = _ from hblk) (by decide) hg5; have hG5 : G ≤ w5.heap.size := Nat.le_trans hGr hg5.size)
          | (go_at_call 45; refine (HX.out _).mono ?_; rintro e w6 ⟨rfl, rfl⟩)
          | (at_builtin; refine wpl_app1 ho5 hG5 HLEN.out Try.underlying37 info_int rfl (by decide) rfl rfl rfl rfl rfl (h := ?_); intro v7 w7 ho7 hb7))
        have hb5 := (below_drewN hb q4).trans (below_of_only hg5 hg3 hb.size)
        have ho7' : Own w7 G 3 v7 (ci ((unpk 1 l).take (i + 1))) := by rw [HTL.out, ci_app]; exact ho7
        obtain ⟨A7, c7, hv7, _, _⟩ := ho7'.formI
        have hl7 : ((unpk 1 l).take (i + 1)).length = i + 1 := by rw [List.length_take, HUN.out]; omega
        rw [hl7] at hv7
        subst hv7
        have hR7 := hR5.belowG hb7 hgl
        exact ⟨⟨i + 1, by omega, _, _, rfl, ho7', hb5.trans (hb7.mono hwG), Nat.le_trans hG5 hb7.size, ht, hR7⟩, by simp [slenB]; omega⟩
    · have hiq2 : i = q := by omega
      have hR0 : R = 0 := by have h1 := HL.out; have h2 := HQ.out; rw [← hRR, hiq2]; omega
      subst hR0
      subst hiq2
      have h1 : (unpk 1 l).take i = unpk 1 l := by rw [List.take_of_length_le (by rw [HUN.out]; omega)]
      have ha := hall.out
      rw [h1] at ha ho
      have HA := Lib.hid ha
      clear ha hall h1
      go_wp2_with (go_at_call 67; refine HLF.out.mono ?_; rintro e w4 ⟨rfl, q4, rfl⟩)
      go_ret2
      rw [HGOOD.out HA.out]
      exact ⟨_, rfl, (ho.drewN q4).mono hwG, below_drewN hb q4⟩
theorem shv2 (Y : Int) (h0 : 0 ≤ Y) (h1 : Y < 65536) : wrap64 (IntKind.u64.wrap (Y * 281474976710656)) / 281474976710656 = sgnS 2 Y.toNat := by
  rw [IntKind.wrap_u64]
  unfold wrap64
  unfold sgnS
  split
  next h => simp at h; omega
  next h => simp at h; simp; omega
theorem qunpack_2 (v : Value) (l : List Nat) (n : Int) (w : World) (B q : Nat) (hS : Sli w B v (cu8 l)) (hB : B ≤ w.heap.size) (hx : ∀ x ∈ l, x < 256) (hn : l.length ≤ 1099511627776) (hp : packB n = true) (h8 : szOf n = 2) (hq : l.length = q * 2) :
    Calls Try.prog 49 #[v, .int .i64 n] w (RowPost (unpackR l n) w) := by
  obtain ⟨A, c, rfl, hlc, hcm⟩ := hS.form8
  have hs := fun w => qdepth_any n w
  rw [hp] at hs
  obtain ⟨hn4, hn24⟩ := packB_iff.1 hp
  have hsz : (n + 7) / 8 = 2 := by unfold szOf at h8; omega
  have hun := unpk_len 2 l
  rw [hq, Nat.mul_div_cancel _ (by omega)] at hun
  have hdef : unpackR l n = (if (unpk 2 l).all (fun x => fitsB x n) = true then (unpk 2 l, 0) else ([], 6)) := by unfold unpackR; rw [if_pos hp, h8, if_pos (by rw [hq]; exact Nat.mul_mod_left _ _)]
  have hbad : (unpk 2 l).all (fun x => fitsB x n) = false → unpackR l n = ([], 6) := fun h => by rw [hdef, if_neg (by rw [h]; simp)]
  have hgood : (unpk 2 l).all (fun x => fitsB x n) = true → unpackR l n = (unpk 2 l, 0) := fun h => by rw [hdef, if_pos h]
  generalize unpackR l n = res at *
  obtain ⟨L, hL⟩ : ∃ L, l.length = L := ⟨_, rfl⟩
  have hrem : ((L : Int) % 2 != 0) = false := by have : (L : Int) % 2 = 0 := (by omega); rw [this]; rfl
  have hnew := qnew_any _ l w B hS hB hx hn
  rw [hL] at hlc hn hq hnew ⊢
  have HS := Lib.hid hs; have HUN := Lib.hid hun; have HBAD := Lib.hid hbad; have HGOOD := Lib.hid hgood; have HL := Lib.hid hL; have HQ := Lib.hid hq; have HNEW := Lib.hid hnew
  clear hs hun hdef hbad hgood hL hq hnew hp h8 hS
  go_enter Try.func49, Try.ntmps49
  go_wp2_with (first
    | (go_at_call 57; refine (HS.out _).mono ?_; rintro e w1 ⟨rfl, rfl⟩)
    | (go_at_call 66; refine HNEW.out.mono ?_; rintro e w3 ⟨g, rfl, hR3, hg3, hb3⟩; refine cut_here ?_))
  unfold CutHere
  go_wp2
  have hgl := hR3.lt
  obtain ⟨G, hG⟩ : ∃ G, w3.heap.size = G := ⟨_, rfl⟩
  rw [hG] at hgl
  have hwG : w.heap.size ≤ G := by have := hb3.size; omega
  go_loopw [7] (fun v wr => ∃ i : Nat, i ≤ q ∧ ∃ Av cv, v = .slice Av i cv ∧ Own wr G 3 v (ci ((unpk 2 l).take i)) ∧ Below w.heap.size w wr ∧ G ≤ wr.heap.size ∧ Hid (((unpk 2 l).take i).all (fun x => fitsB x n) = true) ∧ OcO wr B g l (i * 2) 0) (fun v _ => q - slenB v)
  case atStart => exact ⟨0, by omega, none, 0, rfl, Own.nil _ _ _, hb3, by omega, rfl, by simpa using hR3⟩
  case round =>
    clear hR3 hb3 hG HNEW
    obtain ⟨i, hi, Av, cv, rfl, ho, hb, hGr, hall, hR⟩ := hrel
    have hlf := qleft_any hR
    obtain ⟨R, hRR⟩ : ∃ R, l.length - i * 2 = R := ⟨_, rfl⟩
    rw [hRR] at hlf
    have HLF := Lib.hid hlf
    clear hlf
    by_cases hiq : i < q
    · have hR0 : (0 : Int) < (R : Int) := by have h1 := HL.out; have h2 := HQ.out; have h3 : (i + 1) * 2 ≤ q * 2 := Nat.mul_le_mul_right _ hiq; omega
      have hqd : i < l.length / 2 := by rw [HL.out, HQ.out, Nat.mul_div_cancel _ (by omega)]; exact hiq
      have hat := unpk_at hqd
      have hil : i < (unpk 2 l).length := by rw [HUN.out]; exact hiq
      have htc := take_chunk (s := 2) (l := l) (n := q) (i := i) (by rw [HL.out]; exact HQ.out) hiq
      have hy : leV ((l.drop (i * 2)).take 2) < 65536 := by
        have h1 := leV_lt ((l.drop (i * 2)).take 2) (fun x h => hx x (List.mem_of_mem_drop (List.mem_of_mem_take h)))
        have h2 : ((l.drop (i * 2)).take 2).length ≤ 2 := by rw [List.length_take]; omega
        exact Nat.lt_of_lt_of_le h1 (Nat.le_trans (Nat.pow_le_pow_right (by omega) h2) (by decide))
      have hck : chunk 2 l i = sgnS 2 (leV ((l.drop (i * 2)).take 2)) := rfl
      obtain ⟨y, hyE⟩ : ∃ y, leV ((l.drop (i * 2)).take 2) = y := ⟨_, rfl⟩
      rw [hyE] at hy hck
      obtain ⟨Y, hyY⟩ : ∃ Y : Int, (y : Int) = Y := ⟨_, rfl⟩
      have hv := shv2 (y : Int) (by omega) (by omega)
      rw [Int.toNat_natCast, ← hck, hyY] at hv
      have hY0 : 0 ≤ Y := by omega
      have hY1 : Y < 65536 := by omega
      clear hy hY0 hY1
      generalize chunk 2 l i = x at *
      have hge : (unpk 2 l)[i] = x := by rw [List.getElem?_eq_getElem hil] at hat; injection hat
      have htk : ((unpk 2 l).take (i + 1)).all (fun x => fitsB x n) = (((unpk 2 l).take i).all (fun x => fitsB x n) && fitsB x n) := by rw [List.take_succ_eq_append_getElem hil, List.all_append, hge]; simp only [List.all_cons, List.all_nil, Bool.and_true]
      have htl : (unpk 2 l).take (i + 1) = (unpk 2 l).take i ++ [x] := by rw [List.take_succ_eq_append_getElem hil, hge]
      have hno : fitsB x n = false → (unpk 2 l).all (fun x => fitsB x n) = false := fun h => List.all_eq_false.2 ⟨x, by rw [← hge]; exact List.getElem_mem _, by rw [h]; simp⟩
      have hlen : (ci ((unpk 2 l).take i)).length + 1 ≤ 8796093022208 := by rw [ci_len, List.length_take]; have h2 := HQ.out; omega
      have hfx := fun w => rfits_any x n w
      have hsm : ∀ (wd : World), OcO wd B g l (i * 2) 0 → Calls Try.prog 68 #[.pointer (some ⟨g, 0, none⟩), .int .i64 2] wd fun e w' => e = .returned (.int .u64 Y) ∧ OcO w' B g l ((i + 1) * 2) 0 ∧ wd.grownBy w' (some g) := fun wd hd => by
        have h := qsmall_any hd 2 (by omega) (by omega)
        rw [show clampN 2 = 2 from rfl, htc] at h
        dsimp only at h
        rw [hyE, hyY] at h
        exact h
      have HSM := Lib.hid hsm; have HT := Lib.hid htk; have HNO := Lib.hid hno; have HTL := Lib.hid htl; have HLEN := Lib.hid hlen
      clear hsm htk hno htl hlen hat hqd hil htc hck hge hyY hyE hRR
      obtain ⟨csO, hblk⟩ := hR.blk
      cases hwx : fitsB x n
      · rw [hwx] at hfx
        have hf := Lib.hid (HNO.out hwx)
        have HX := Lib.hid hfx
        clear hfx hwx
        go_wp2_with (first
          | (go_at_call 67; refine HLF.out.mono ?_; rintro e w4 ⟨rfl, q4, rfl⟩)
          | (go_at_call 68; refine (HSM.out _ (hR.drewN q4)).mono ?_; rintro e w5 ⟨rfl, hR5, hg5⟩)
          | (go_at_call 45; refine (HX.out _).mono ?_; rintro e w6 ⟨rfl, rfl⟩))
        go_ret2
        rw [HBAD.out hf.out]
        exact ⟨_, rfl, Own.nil _ _ _, (below_drewN hb q4).trans (below_of_only hg5 hg3 hb.size)⟩
      · rw [hwx] at hfx
        have ht := Lib.hid (HT.out.trans (by rw [hall.out, hwx, Bool.true_and]))
        have HX := Lib.hid hfx
        clear hfx hwx
        go_wp2_with (first
          | (go_at_call 67; refine HLF.out.mono ?_; rintro e w4 ⟨rfl, q4, rfl⟩)
          | (go_at_call 68; refine (HSM.out _ (hR.drewN q4)).mono ?_; rintro e w5 ⟨rfl, hR5, hg5⟩; have ho5 := (ho.drewN q4).far (show (wr.drewN q4).heap[g]? = _ from hblk) (by decide) hg5; have hG5 : G ≤ w5.heap.size := Nat.le_trans hGr hg5.size)
          | (go_at_call 45; refine (HX.out _).mono ?_; rintro e w6 ⟨rfl, rfl⟩)
          | (at_builtin; refine wpl_app1 ho5 hG5 HLEN.out Try.underlying37 info_int rfl (by decide) rfl rfl rfl rfl rfl (h := ?_); intro v7 w7 ho7 hb7))
        have hb5 := (below_drewN hb q4).trans (below_of_only hg5 hg3 hb.size)
        have ho7' : Own w7 G 3 v7 (ci ((unpk 2 l).take (i + 1))) := by rw [HTL.out, ci_app]; exact ho7
        obtain ⟨A7, c7, hv7, _, _⟩ := ho7'.formI
        have hl7 : ((unpk 2 l).take (i + 1)).length = i + 1 := by rw [List.length_take, HUN.out]; omega
        rw [hl7] at hv7
        subst hv7
        have hR7 := hR5.belowG hb7 hgl
        exact ⟨⟨i + 1, by omega, _, _, rfl, ho7', hb5.trans (hb7.mono hwG), Nat.le_trans hG5 hb7.size, ht, hR7⟩, by simp [slenB]; omega⟩
    · have hiq2 : i = q := by omega
      have hR0 : R = 0 := by have h1 := HL.out; have h2 := HQ.out; rw [← hRR, hiq2]; omega
      subst hR0
      subst hiq2
      have h1 : (unpk 2 l).take i = unpk 2 l := by rw [List.take_of_length_le (by rw [HUN.out]; omega)]
      have ha := hall.out
      rw [h1] at ha ho
      have HA := Lib.hid ha
      clear ha hall h1
      go_wp2_with (go_at_call 67; refine HLF.out.mono ?_; rintro e w4 ⟨rfl, q4, rfl⟩)
      go_ret2
      rw [HGOOD.out HA.out]
      exact ⟨_, rfl, (ho.drewN q4).mono hwG, below_drewN hb q4⟩
theorem shv3 (Y : Int) (h0 : 0 ≤ Y) (h1 : Y < 16777216) : wrap64 (IntKind.u64.wrap (Y * 1099511627776)) / 1099511627776 = sgnS 3 Y.toNat := by
  rw [IntKind.wrap_u64]
  unfold wrap64
  unfold sgnS
  split
  next h => simp at h; omega
  next h => simp at h; simp; omega
theorem qunpack_3 (v : Value) (l : List Nat) (n : Int) (w : World) (B q : Nat) (hS : Sli w B v (cu8 l)) (hB : B ≤ w.heap.size) (hx : ∀ x ∈ l, x < 256) (hn : l.length ≤ 1099511627776) (hp : packB n = true) (h8 : szOf n = 3) (hq : l.length = q * 3) :
    Calls Try.prog 49 #[v, .int .i64 n] w (RowPost (unpackR l n) w) := by
  obtain ⟨A, c, rfl, hlc, hcm⟩ := hS.form8
  have hs := fun w => qdepth_any n w
  rw [hp] at hs
  obtain ⟨hn4, hn24⟩ := packB_iff.1 hp
  have hsz : (n + 7) / 8 = 3 := by unfold szOf at h8; omega
  have hun := unpk_len 3 l
  rw [hq, Nat.mul_div_cancel _ (by omega)] at hun
  have hdef : unpackR l n = (if (unpk 3 l).all (fun x => fitsB x n) = true then (unpk 3 l, 0) else ([], 6)) := by unfold unpackR; rw [if_pos hp, h8, if_pos (by rw [hq]; exact Nat.mul_mod_left _ _)]
  have hbad : (unpk 3 l).all (fun x => fitsB x n) = false → unpackR l n = ([], 6) := fun h => by rw [hdef, if_neg (by rw [h]; simp)]
  have hgood : (unpk 3 l).all (fun x => fitsB x n) = true → unpackR l n = (unpk 3 l, 0) := fun h => by rw [hdef, if_pos h]
  generalize unpackR l n = res at *
  obtain ⟨L, hL⟩ : ∃ L, l.length = L := ⟨_, rfl⟩
  have hrem : ((L : Int) % 3 != 0) = false := by have : (L : Int) % 3 = 0 := (by omega); rw [this]; rfl
  have hnew := qnew_any _ l w B hS hB hx hn
  rw [hL] at hlc hn hq hnew ⊢
  have HS := Lib.hid hs; have HUN := Lib.hid hun; have HBAD := Lib.hid hbad; have HGOOD := Lib.hid hgood; have HL := Lib.hid hL; have HQ := Lib.hid hq; have HNEW := Lib.hid hnew
  clear hs hun hdef hbad hgood hL hq hnew hp h8 hS
  go_enter Try.func49, Try.ntmps49
  go_wp2_with (first
    | (go_at_call 57; refine (HS.out _).mono ?_; rintro e w1 ⟨rfl, rfl⟩)
    | (go_at_call 66; refine HNEW.out.mono ?_; rintro e w3 ⟨g, rfl, hR3, hg3, hb3⟩; refine cut_here ?_))
  unfold CutHere
  go_wp2
  have hgl := hR3.lt
  obtain ⟨G, hG⟩ : ∃ G, w3.heap.size = G := ⟨_, rfl⟩
  rw [hG] at hgl
  have hwG : w.heap.size ≤ G := by have := hb3.size; omega
  go_loopw [7] (fun v wr => ∃ i : Nat, i ≤ q ∧ ∃ Av cv, v = .slice Av i cv ∧ Own wr G 3 v (ci ((unpk 3 l).take i)) ∧ Below w.heap.size w wr ∧ G ≤ wr.heap.size ∧ Hid (((unpk 3 l).take i).all (fun x => fitsB x n) = true) ∧ OcO wr B g l (i * 3) 0) (fun v _ => q - slenB v)
  case atStart => exact ⟨0, by omega, none, 0, rfl, Own.nil _ _ _, hb3, by omega, rfl, by simpa using hR3⟩
  case round =>
    clear hR3 hb3 hG HNEW
    obtain ⟨i, hi, Av, cv, rfl, ho, hb, hGr, hall, hR⟩ := hrel
    have hlf := qleft_any hR
    obtain ⟨R, hRR⟩ : ∃ R, l.length - i * 3 = R := ⟨_, rfl⟩
    rw [hRR] at hlf
    have HLF := Lib.hid hlf
    clear hlf
    by_cases hiq : i < q
    · have hR0 : (0 : Int) < (R : Int) := by have h1 := HL.out; have h2 := HQ.out; have h3 : (i + 1) * 3 ≤ q * 3 := Nat.mul_le_mul_right _ hiq; omega
      have hqd : i < l.length / 3 := by rw [HL.out, HQ.out, Nat.mul_div_cancel _ (by omega)]; exact hiq
      have hat := unpk_at hqd
      have hil : i < (unpk 3 l).length := by rw [HUN.out]; exact hiq
      have htc := take_chunk (s := 3) (l := l) (n := q) (i := i) (by rw [HL.out]; exact HQ.out) hiq
      have hy : leV ((l.drop (i * 3)).take 3) < 16777216 := by
        have h1 := leV_lt ((l.drop (i * 3)).take 3) (fun x h => hx x (List.mem_of_mem_drop (List.mem_of_mem_take h)))
        have h2 : ((l.drop (i * 3)).take 3).length ≤ 3 := by rw [List.length_take]; omega
        exact Nat.lt_of_lt_of_le h1 (Nat.le_trans (Nat.pow_le_pow_right (by omega) h2) (by decide))
      have hck : chunk 3 l i = sgnS 3 (leV ((l.drop (i * 3)).take 3)) := rfl
      obtain ⟨y, hyE⟩ : ∃ y, leV ((l.drop (i * 3)).take 3) = y := ⟨_, rfl⟩
      rw [hyE] at hy hck
      obtain ⟨Y, hyY⟩ : ∃ Y : Int, (y : Int) = Y := ⟨_, rfl⟩
      have hv := shv3 (y : Int) (by omega) (by omega)
      rw [Int.toNat_natCast, ← hck, hyY] at hv
      have hY0 : 0 ≤ Y := by omega
      have hY1 : Y < 16777216 := by omega
      clear hy hY0 hY1
      generalize chunk 3 l i = x at *
      have hge : (unpk 3 l)[i] = x := by rw [List.getElem?_eq_getElem hil] at hat; injection hat
      have htk : ((unpk 3 l).take (i + 1)).all (fun x => fitsB x n) = (((unpk 3 l).take i).all (fun x => fitsB x n) && fitsB x n) := by rw [List.take_succ_eq_append_getElem hil, List.all_append, hge]; simp only [List.all_cons, List.all_nil, Bool.and_true]
      have htl : (unpk 3 l).take (i + 1) = (unpk 3 l).take i ++ [x] := by rw [List.take_succ_eq_append_getElem hil, hge]
      have hno : fitsB x n = false → (unpk 3 l).all (fun x => fitsB x n) = false := fun h => List.all_eq_false.2 ⟨x, by rw [← hge]; exact List.getElem_mem _, by rw [h]; simp⟩
      have hlen : (ci ((unpk 3 l).take i)).length + 1 ≤ 8796093022208 := by rw [ci_len, List.length_take]; have h2 := HQ.out; omega
      have hfx := fun w => rfits_any x n w
      have hsm : ∀ (wd : World), OcO wd B g l (i * 3) 0 → Calls Try.prog 68 #[.pointer (some ⟨g, 0, none⟩), .int .i64 3] wd fun e w' => e = .returned (.int .u64 Y) ∧ OcO w' B g l ((i + 1) * 3) 0 ∧ wd.grownBy w' (some g) := fun wd hd => by
        have h := qsmall_any hd 3 (by omega) (by omega)
        rw [show clampN 3 = 3 from rfl, htc] at h
        dsimp only at h
        rw [hyE, hyY] at h
        exact h
      have HSM := Lib.hid hsm; have HT := Lib.hid htk; have HNO := Lib.hid hno; have HTL := Lib.hid htl; have HLEN := Lib.hid hlen
      clear hsm htk hno htl hlen hat hqd hil htc hck hge hyY hyE hRR
      obtain ⟨csO, hblk⟩ := hR.blk
      cases hwx : fitsB x n
      · rw [hwx] at hfx
        have hf := Lib.hid (HNO.out hwx)
        have HX := Lib.hid hfx
        clear hfx hwx
        go_wp2_with (first
          | (go_at_call 67; refine HLF.out.mono ?_; rintro e w4 ⟨rfl, q4, rfl⟩)
          | (go_at_call 68; refine (HSM.out _ (hR.drewN q4)).mono ?_; rintro e w5 ⟨rfl, hR5, hg5⟩)
          | (go_at_call 45; refine (HX.out _).mono ?_; rintro e w6 ⟨rfl, rfl⟩))
        go_ret2
        rw [HBAD.out hf.out]
        exact ⟨_, rfl, Own.nil _ _ _, (below_drewN hb q4).trans (below_of_only hg5 hg3 hb.size)⟩
      · rw [hwx] at hfx
        have ht := Lib.hid (HT.out.trans (by rw [hall.out, hwx, Bool.true_and]))
        have HX := Lib.hid hfx
        clear hfx hwx
        go_wp2_with (first
          | (go_at_call 67; refine HLF.out.mono ?_; rintro e w4 ⟨rfl, q4, rfl⟩)
          | (go_at_call 68; refine (HSM.out _ (hR.drewN q4)).mono ?_; rintro e w5 ⟨rfl, hR5, hg5⟩; have ho5 := (ho.drewN q4).far (show (wr.drewN q4).heap[g]? = _ from hblk) (by decide) hg5; have hG5 : G ≤ w5.heap.size := Nat.le_trans hGr hg5.size)
          | (go_at_call 45; refine (HX.out _).mono ?_; rintro e w6 ⟨rfl, rfl⟩)
          | (at_builtin; refine wpl_app1 ho5 hG5 HLEN.out Try.underlying37 info_int rfl (by decide) rfl rfl rfl rfl rfl (h := ?_); intro v7 w7 ho7 hb7))
        have hb5 := (below_drewN hb q4).trans (below_of_only hg5 hg3 hb.size)
        have ho7' : Own w7 G 3 v7 (ci ((unpk 3 l).take (i + 1))) := by rw [HTL.out, ci_app]; exact ho7
        obtain ⟨A7, c7, hv7, _, _⟩ := ho7'.formI
        have hl7 : ((unpk 3 l).take (i + 1)).length = i + 1 := by rw [List.length_take, HUN.out]; omega
        rw [hl7] at hv7
        subst hv7
        have hR7 := hR5.belowG hb7 hgl
        exact ⟨⟨i + 1, by omega, _, _, rfl, ho7', hb5.trans (hb7.mono hwG), Nat.le_trans hG5 hb7.size, ht, hR7⟩, by simp [slenB]; omega⟩
    · have hiq2 : i = q := by omega
      have hR0 : R = 0 := by have h1 := HL.out; have h2 := HQ.out; rw [← hRR, hiq2]; omega
      subst hR0
      subst hiq2
      have h1 : (unpk 3 l).take i = unpk 3 l := by rw [List.take_of_length_le (by rw [HUN.out]; omega)]
      have ha := hall.out
      rw [h1] at ha ho
      have HA := Lib.hid ha
      clear ha hall h1
      go_wp2_with (go_at_call 67; refine HLF.out.mono ?_; rintro e w4 ⟨rfl, q4, rfl⟩)
      go_ret2
      rw [HGOOD.out HA.out]
      exact ⟨_, rfl, (ho.drewN q4).mono hwG, below_drewN hb q4⟩
theorem qunpack_any (v : Value) (l : List Nat) (n : Int) (w : World) (B : Nat) (hS : Sli w B v (cu8 l)) (hB : B ≤ w.heap.size) (hx : ∀ x ∈ l, x < 256) (hn : l.length ≤ 1099511627776) :
    Calls Try.prog 49 #[v, .int .i64 n] w (RowPost (unpackR l n) w) := by
  by_cases hp : packB n = true
  · have hc := szOf_cases hp
    by_cases hr : l.length % szOf n = 0
    · have hq : l.length = l.length / szOf n * szOf n := (Nat.div_mul_cancel (Nat.dvd_of_mod_eq_zero hr)).symm
      rcases hc with h | h | h
      · exact qunpack_1 v l n w B _ hS hB hx hn hp h (by rw [h] at hq; exact hq)
      · exact qunpack_2 v l n w B _ hS hB hx hn hp h (by rw [h] at hq; exact hq)
      · exact qunpack_3 v l n w B _ hS hB hx hn hp h (by rw [h] at hq; exact hq)
    · have hres : unpackR l n = ([], 3) := by unfold unpackR; rw [if_pos hp, if_neg hr]
      rw [hres]
      obtain ⟨A, c, rfl, hlc, hcm⟩ := hS.form8
      have hs := fun w => qdepth_any n w
      rw [hp] at hs
      obtain ⟨hn4, hn24⟩ := packB_iff.1 hp
      have h8 : (n + 7) / 8 = (szOf n : Nat) := by unfold szOf; omega
      generalize szOf n = s at *
      generalize l.length = L at *
      have hrem : ((L : Int) % (s : Int) != 0) = true := by rw [← Int.natCast_emod, bne_iff_ne]; omega
      have hs0 : s ≠ 0 := by omega
      have hs0I : (s : Int) ≠ 0 := by omega
      have HS := Lib.hid hs
      clear hs hr hres hp hS hx
      go_enter Try.func49, Try.ntmps49
      go_wp2_with (go_at_call 57; refine (HS.out _).mono ?_; rintro e w1 ⟨rfl, rfl⟩)
      go_ret2
      exact ⟨_, rfl, Own.nil _ _ _, Below.refl _ _⟩
  · have hr : unpackR l n = ([], 1) := by unfold unpackR; rw [if_neg hp]
    have hs := fun w => qdepth_any n w
    rw [Bool.eq_false_iff.2 hp] at hs
    obtain ⟨A, c, rfl, hlc, hcm⟩ := hS.form8
    have HS := Lib.hid hs
    rw [hr]
    clear hs hr hp hS
    go_enter Try.func49, Try.ntmps49
    go_wp2_with (go_at_call 57; refine (HS.out _).mono ?_; rintro e w1 ⟨rfl, rfl⟩)
    go_ret2
    exact ⟨_, rfl, Own.nil _ _ _, Below.refl _ _⟩
end Go.Proofs.Ytfbhiaoodompdaa
