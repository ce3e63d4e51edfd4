/- arith: the reference's coder: Put, Raw, Number. -/
import Derived.Test.YtghbjlmbehljdaaAriQb
import Derived.Test.YtghbjlmbehljdaaAriQc
namespace Go.Proofs.Ytghbjlmbehljdaa
open Go.RowKit
set_option maxRecDepth 100000
set_option maxHeartbeats 4000000

theorem qput_bad {w : World} {F : Nat → Prop} {g : Nat} {s : Co} (hC : CoQ w F g s) (c b : Int) (h : putB s.od.length c b = false) : Calls Try.prog 14 #[.pointer (some ⟨g, 0, none⟩), .int .i64 c, .int .i64 b] w fun e w' => e = .returned (.int .i64 1) ∧ w = w' := by
  obtain ⟨vl, vo, hblk, ho, hoo, rfl⟩ := hC
  obtain ⟨c0, c1, c2, hf⟩ := blk3 hblk
  obtain ⟨A2, q2, rfl, _, _⟩ := hoo.form
  rw [cn_len] at *
  by_cases h1 : c < 0
  · clear hblk ho hoo h
    go_enter Try.func14, Try.ntmps14
    go_wp2
    go_ret
    exact ⟨rfl, rfl⟩
  by_cases h2 : (s.od.length : Int) ≤ c
  · clear hblk ho hoo h
    go_enter Try.func14, Try.ntmps14
    go_wp2
    go_ret
    exact ⟨rfl, rfl⟩
  have h3 : b < 0 ∨ 1 < b := by
    have hh : hasB s.od.length c = true := has_iff.2 ⟨by omega, by omega⟩
    unfold putB at h
    rw [hh] at h
    simp at h
    omega
  have q0 : (b != 0) = true := by rw [bne_iff_ne]; omega
  have q1 : (b != 1) = true := by rw [bne_iff_ne]; omega
  clear hblk ho hoo h h3
  go_enter Try.func14, Try.ntmps14
  go_wp2
  go_ret
  exact ⟨rfl, rfl⟩
theorem enc_with (lo k w bd b : Nat) (od od' : List Nat) : enc ⟨lo, k, w, od'⟩ bd b = ⟨(enc ⟨lo, k, w, od⟩ bd b).lo, (enc ⟨lo, k, w, od⟩ bd b).k, (enc ⟨lo, k, w, od⟩ bd b).w, od'⟩ := by
  unfold enc shft
  by_cases hb : (if b = 0 then bd else w - bd) < 16777216
  · simp only [hb, if_true]
  · simp only [hb, if_false]
theorem qput_any {w : World} {F : Nat → Prop} {g n : Nat} {s : Co} (hC : CoQ w F g s) (hK : Ok s n) (hk : s.k ≤ 1099511627700) (c b : Nat) (hc : c < n) (hb : b ≤ 1) :
    Calls Try.prog 14 #[.pointer (some ⟨g, 0, none⟩), .int .i64 c, .int .i64 b] w fun e w' => e = .returned (.int .i64 0) ∧ ∃ F', CoQ w' F' g (step s (some c, b)) ∧ Chg w w' F F' := by
  have hg : good n (some c, b) := ⟨hb, fun c' e => by injection e with e; omega⟩
  obtain ⟨b1, b2⟩ := bound_in hK.len hK.odd hK.wlo hg
  obtain ⟨vl, vo, hblk, ho, hoo, rfl⟩ := hC
  obtain ⟨lo, k, W, od⟩ := s
  obtain ⟨k1, k2, k3, k4, k5, k6⟩ := hK
  simp only at *
  obtain ⟨c0, c1, c2, hf⟩ := blk3 hblk
  have hcl : c < od.length := by omega
  have hod := k2 _ (getD_mem (od := od) (c := c) hcl)
  have hvg : vo.ownBlock ≠ some g := hoo.ne hblk (by decide)
  obtain ⟨A2, q2, rfl, _, _⟩ := hoo.form
  rw [cn_len] at *
  obtain ⟨_, bk, rfl, hbw, hcell, hfr, hset⟩ := hoo.cnAt hcl
  have hbg : bk ≠ g := fun e => hvg (by rw [← e]; rfl)
  obtain ⟨o, ho'⟩ : ∃ o, od.getD c 0 = o := ⟨_, rfl⟩
  have hset2 := hset (odd' o b)
  have hlr : od.set c (odd' o b) = learnt od c b := by unfold learnt; rw [ho']
  rw [hlr] at hset2
  rw [ho'] at hcell hod
  have hAf := qafter_any o b w.drew (by omega) hb
  obtain ⟨z, hz⟩ : ∃ z, odd' o b = z := ⟨_, rfl⟩
  rw [hz] at hset2 hAf
  have hblk2 : (w.setCell ⟨bk, c, none⟩ (.int .i64 (z : Nat))).heap[g]? = some (.cells #[vl, .int .u64 W, .slice (some ⟨bk, 0, none⟩) od.length q2] 66 (0, 0)) := (heap_setCell_other w ⟨bk, c, none⟩ g _ (fun e => hbg e.symm)).trans hblk
  have hvb : vl.ownBlock ≠ some bk := fun e => by
    obtain ⟨cs, h⟩ := ho.blk e
    exact hoo.ne h (by decide) rfl
  have ho2 : Own (w.setCell ⟨bk, c, none⟩ (.int .i64 (z : Nat))) 0 5 vl (cu8 (digs k lo)) := ho.stay fun q e _ => heap_setCell_other w ⟨bk, c, none⟩ q _ (fun e' => hvb (by have e'' : q = bk := e'; rw [← e'']; exact e))
  have hCQ : CoQ (w.setCell ⟨bk, c, none⟩ (.int .i64 (z : Nat))).drew (fp g vl (.slice (some ⟨bk, 0, none⟩) od.length q2)) g ⟨lo, k, W, learnt od c b⟩ := ⟨vl, _, hblk2, ho2, hset2, rfl⟩
  have hCh : Chg w (w.setCell ⟨bk, c, none⟩ (.int .i64 (z : Nat))).drew (fp g vl (.slice (some ⟨bk, 0, none⟩) od.length q2)) (fp g vl (.slice (some ⟨bk, 0, none⟩) od.length q2)) := ((Chg.refl _ _).set _ (.inr (.inr rfl))).drew
  have hst : enc ⟨lo, k, W, learnt od c b⟩ (boundOf W od (some c)) b = step ⟨lo, k, W, od⟩ (some c, b) := enc_with lo k W _ b od _
  have hE := qstep_any hCQ (boundOf W od (some c)) b hb b1 b2 k4 k6 hk
  rw [hst] at hE
  have HE := Lib.hid hE; have HCH := Lib.hid hCh
  obtain ⟨d0, d1, d2, hf2⟩ := blk3 hblk2
  obtain ⟨m, hm⟩ : ∃ m, W / 4096 = m := ⟨_, rfl⟩
  have hmI : (W : Int) / 4096 = (m : Nat) := by omega
  obtain ⟨P, hPe⟩ : ∃ P, boundOf W od (some c) = P := ⟨_, rfl⟩
  have hPm : m * o = P := by rw [← hPe, ← hm, ← ho']; rfl
  have hPI : (m : Int) * (o : Int) = (P : Nat) := by rw [← hPm]; simp
  rw [hPe] at HE
  have hAf2 : Hid (Calls Try.prog 39 #[.int .i64 o, .int .i64 b] w.drew fun e w' => e = .returned (.int .i64 z) ∧ w' = w.drew) := Lib.hid (hAf.mono fun _ _ h => ⟨h.1, h.2.symm⟩)
  have hPl : P < 4294967296 := by omega
  obtain ⟨Wi, hWi⟩ : ∃ Wi : Int, ((W : Nat) : Int) = Wi := ⟨_, rfl⟩
  obtain ⟨Mi, hMi⟩ : ∃ Mi : Int, ((m : Nat) : Int) = Mi := ⟨_, rfl⟩
  obtain ⟨Pi, hPi⟩ : ∃ Pi : Int, ((P : Nat) : Int) = Pi := ⟨_, rfl⟩
  have e1 : 0 ≤ Pi := by omega
  have e2 : Pi ≤ 4294967296 := by omega
  have e3 : 0 ≤ Wi := by omega
  have e4 : Wi ≤ 4294967296 := by omega
  rw [hPi] at hPI HE
  rw [hMi] at hPI hmI
  rw [hWi] at hmI c1 d1
  have hwo : IntKind.u64.wrap ((o : Nat) : Int) = ((o : Nat) : Int) := by rw [IntKind.wrap_u64]; omega
  have hwP : IntKind.u64.wrap Pi = Pi := by rw [IntKind.wrap_u64]; omega
  have hclI : (c : Int) < (od.length : Nat) := by omega
  have hb0 : (b : Int) ≤ 1 := by omega
  have q0 : ((b : Int) != 0 && (b : Int) != 1) = false := by
    rcases (by omega : b = 0 ∨ b = 1) with rfl | rfl <;> rfl
  have HFR := Lib.hid hfr
  clear hblk hblk2 ho hoo ho2 hset hset2 hAf hCQ hCh hE hst hPe hPm hm b1 b2 k1 k2 k3 k4 k5 k6 hk hPl hWi hMi hPi hvg hvb ho' hlr hz hod hcl hc
  rcases (by omega : b = 0 ∨ b = 1) with rfl | rfl
  all_goals
    go_enter Try.func14, Try.ntmps14
    go_wp2_with fail
    go_still_tail 9, (by kernel_rfl)
    still_call hAf2.out
    repeat still_step
    try refine wpStill_nil ?_
    change wpList _ _ _ _ _ w.drew
    go_wp2_with fail
    (try rw [hwo]); (try rw [hPI]); (try rw [hwP])
    refine HE.out.mono ?_
    rintro e w2 ⟨rfl, F2, hC2, hc2⟩
    go_wp2
    go_ret
    exact ⟨rfl, F2, hC2, HCH.out.trans hc2⟩
end Go.Proofs.Ytghbjlmbehljdaa
