/- The reference's reader of bits, on. -/
import Derived.Test.YtnlclbocbbcafaaBitO
import Derived.Deep.LoopGhost
namespace Go.Proofs.Ytnlclbocbbcafaa
open Go.RowKit
set_option maxRecDepth 100000
set_option maxHeartbeats 400000

theorem ounary_any {w : World} {B g at_ : Nat} {l : List Nat} {er : Int} (hR : OcB w B g l at_ er) (n : Int) (hn : n ≤ 9223372036854775807) :
    Calls Try.prog 27 #[.pointer (some ⟨g, 0, none⟩), .int .i64 n] w fun e w' => e = .returned (.int .i64 ((gUnary (bitAt l) (8 * l.length) at_ er n).1 : Nat)) ∧ OcB w' B g l (gUnary (bitAt l) (8 * l.length) at_ er n).2.1 (gUnary (bitAt l) (8 * l.length) at_ er n).2.2 ∧ w.grownBy w' (some g) := by
  have HL := Lib.hid (oleft_any hR)
  obtain ⟨v, h1, h2o, hB, hal, hx, hlen⟩ := id hR
  obtain ⟨A, c, rfl, hlc, hcm⟩ := h2o.form8
  obtain ⟨c0, c1, c2, hf⟩ := blk3 h1
  by_cases he : er = 0
  · subst he
    have hu : gUnary (bitAt l) (8 * l.length) at_ 0 n = (if (zer (bitAt l) n.toNat at_ (8 * l.length - at_) 0).2 = 0 then ((zer (bitAt l) n.toNat at_ (8 * l.length - at_) 0).1, at_ + (zer (bitAt l) n.toNat at_ (8 * l.length - at_) 0).1 + 1, 0) else (0, at_, (zer (bitAt l) n.toNat at_ (8 * l.length - at_) 0).2)) := by unfold gUnary; rw [if_pos rfl]
    generalize gUnary (bitAt l) (8 * l.length) at_ 0 n = R at hu ⊢
    obtain ⟨k0, hk⟩ : ∃ k : Nat, max n 0 = (k : Nat) := ⟨n.toNat, by omega⟩
    have hkn : n.toNat = k0 := by omega
    rw [hkn] at hu
    have hk63 : k0 ≤ 9223372036854775807 := by omega
    obtain ⟨left, hle⟩ : ∃ left, 8 * l.length - at_ = left := ⟨_, rfl⟩
    rw [hle] at HL hu
    have hle2 : at_ + left = 8 * l.length := by omega
    have HU := Lib.hid hu
    clear hle hu hkn h1 h2o
    go_enter Try.func27, Try.ntmps27
    go_wp2
    go_loopw [5] (fun kk wr => ∃ (k q : Nat), kk = .int .i64 k ∧ k ≤ left ∧ Hid (zer (bitAt l) k0 at_ (left - k) k = zer (bitAt l) k0 at_ left 0) ∧ wr = w.drewN q) (fun kk _ => left - (intOf kk).toNat)
    case atStart => exact ⟨0, 0, rfl, Nat.zero_le _, rfl, rfl⟩
    case round =>
      obtain ⟨k, q, rfl, hkl, hz, hwr⟩ := hrel
      have hRw : OcB wr B g l at_ 0 := by rw [hwr]; exact hR.drewN q
      have HLw := Lib.hid (oleft_any hRw)
      rw [show 8 * l.length - at_ = left by omega] at HLw
      have c1 : wr.cell? ⟨g, 1, none⟩ = some (.int .i64 at_) := by rw [hwr]; exact c1
      have c2 : wr.cell? ⟨g, 2, none⟩ = some (.int .i64 0) := by rw [hwr]; exact c2
      have hf : ∀ i, wr.frozen? ⟨g, i, none⟩ = false := by rw [hwr]; exact hf
      have HW := Lib.hid hwr; clear hwr
      by_cases hlt : k < left
      · have hzz := hz.out
        rw [show left - k = (left - (k + 1)) + 1 by omega, zer] at hzz
        obtain ⟨p, hp⟩ : ∃ p : Nat, at_ + k = p := ⟨_, rfl⟩
        have hpi : (at_ : Int) + k = (p : Nat) := by omega
        rw [hp] at hzz
        have hbi := fun (nd : Nat) => obit_any (hRw.drewN nd) p (by omega)
        have hp1 : at_ + k + 1 ≤ 8 * l.length := by omega
        have hpi2 : ((at_ + k + 1 : Nat) : Int) = (p : Int) + 1 := by omega
        clear hp
        by_cases hb : bitAt l p = true
        · rw [if_pos hb] at hzz
          rw [hb] at hbi
          have hu := HU.out
          rw [← hzz] at hu
          simp only [if_true] at hu
          have HU2 := Lib.hid hu; have HBI := Lib.hid hbi
          clear hzz hz hu hbi HU
          simp only [Bool.toNat_true] at HBI
          go_wp2_with (first
            | (go_at_call 34; refine (HLw.out).mono ?_; rintro e w1 ⟨rfl, nd, rfl⟩)
            | (go_at_call 42; refine (HBI.out nd).mono ?_; rintro e w2 ⟨rfl, rfl⟩))
          go_ret
          rw [HU2.out]
          have hs := (hRw.drewN nd).set1 hp1
          rw [hpi2] at hs
          exact ⟨rfl, hs, by rw [HW.out]; exact grown_trans (grown_drewN (grown_drewN (World.grownBy.refl _ _) q) nd) (grown_set _ _ _ _)⟩
        · rw [if_neg hb] at hzz
          have hbf : bitAt l p = false := by simpa using hb
          rw [hbf] at hbi
          simp only [Bool.toNat_false] at hbi
          by_cases hm : k0 ≤ k
          · rw [if_pos hm] at hzz
            have hu := HU.out
            rw [← hzz] at hu
            simp only [Int.reduceEq, if_false] at hu
            have HU2 := Lib.hid hu; have HBI := Lib.hid hbi
            clear hzz hz hu hbi HU
            go_wp2_with (first
              | (go_at_call 34; refine (HLw.out).mono ?_; rintro e w1 ⟨rfl, nd, rfl⟩)
              | (go_at_call 42; refine (HBI.out nd).mono ?_; rintro e w2 ⟨rfl, rfl⟩))
            go_ret
            rw [HU2.out]
            exact ⟨rfl, (hRw.drewN nd).set2, by rw [HW.out]; exact grown_trans (grown_drewN (grown_drewN (World.grownBy.refl _ _) q) nd) (grown_set _ _ _ _)⟩
          · rw [if_neg hm] at hzz
            have HZ := Lib.hid hzz; have HBI := Lib.hid hbi
            clear hzz hz hbi
            go_wp2_with (first
              | (go_at_call 34; refine (HLw.out).mono ?_; rintro e w1 ⟨rfl, nd, rfl⟩)
              | (go_at_call 42; refine (HBI.out nd).mono ?_; rintro e w2 ⟨rfl, rfl⟩))
            exact ⟨⟨k + 1, q + nd, by simp, by omega, HZ.out, by rw [HW.out, World.drewN_drewN]⟩, by simp [intOf]; omega⟩
      · obtain rfl : k = left := by omega
        have hzz := hz.out
        rw [Nat.sub_self, zer] at hzz
        have hu := HU.out
        rw [← hzz] at hu
        simp only [Int.reduceEq, if_false] at hu
        have HU2 := Lib.hid hu
        clear hzz hz hu HU
        go_wp2_with (go_at_call 34; refine (HLw.out).mono ?_; rintro e w1 ⟨rfl, nd, rfl⟩)
        go_ret
        rw [HU2.out]
        exact ⟨rfl, (hRw.drewN nd).set2, by rw [HW.out]; exact grown_trans (grown_drewN (grown_drewN (World.grownBy.refl _ _) q) nd) (grown_set _ _ _ _)⟩
  · have hr : gUnary (bitAt l) (8 * l.length) at_ er n = (0, at_, er) := by simp [gUnary, he]
    rw [hr]; clear hr
    have hne : (er != 0) = true := by simpa using he
    clear h1 h2o
    go_enter Try.func27, Try.ntmps27
    go_wp2
    go_ret
    exact ⟨rfl, hR, World.grownBy.refl _ _⟩

theorem oalign_any {w : World} {B g at_ : Nat} {l : List Nat} {er : Int} (hR : OcB w B g l at_ er) :
    Calls Try.prog 29 #[.pointer (some ⟨g, 0, none⟩)] w fun e w' => e = .returned (.tuple #[]) ∧ OcB w' B g l (gAlign (bitAt l) (8 * l.length) at_ er).1 (gAlign (bitAt l) (8 * l.length) at_ er).2 ∧ w.grownBy w' (some g) := by
  obtain ⟨v, h1, h2o, hB, hal, hx, hlen⟩ := id hR
  obtain ⟨A, c, rfl, hlc, hcm⟩ := h2o.form8
  obtain ⟨c0, c1, c2, hf⟩ := blk3 h1
  by_cases he : er = 0
  · subst he
    have hu : gAlign (bitAt l) (8 * l.length) at_ 0 = if bnum (bitAt l) at_ ((8 * l.length - at_) % 8) = 0 then (at_ + (8 * l.length - at_) % 8, 0) else (at_, 2) := by unfold gAlign; rw [if_pos rfl]
    generalize gAlign (bitAt l) (8 * l.length) at_ 0 = R at hu ⊢
    obtain ⟨s, hs⟩ : ∃ s, (8 * l.length - at_) % 8 = s := ⟨_, rfl⟩
    have HS := Lib.hid hs
    have hin : at_ + s ≤ 8 * l.length := by omega
    rw [hs] at hu
    have HU := Lib.hid hu
    clear hs hu h1 h2o
    go_enter Try.func29, Try.ntmps29
    go_wp2
    go_loopw [2] (fun aa wr => ∃ k : Nat, aa = .int .i64 ((at_ + k : Nat) : Int) ∧ k ≤ s ∧ Hid (∀ i, i < k → bitAt l (at_ + i) = false) ∧ wr = w) (fun aa _ => at_ + s - (intOf aa).toNat)
    case atStart => exact ⟨0, by simp, Nat.zero_le _, fun i hi => absurd hi (by omega), rfl⟩
    case round =>
      obtain ⟨k, rfl, hk, hz, rfl⟩ := hrel
      have hmod : (at_ + k) % 8 = 0 ↔ k = s := by have := HS.out; omega
      have hap : at_ + k ≤ 8 * l.length := by omega
      obtain ⟨p, hp⟩ : ∃ p : Nat, at_ + k = p := ⟨_, rfl⟩
      rw [hp] at hmod hap ⊢
      by_cases hks : k = s
      · subst hks
        have h8 : ((p : Int) % 8 != 0) = false := by rw [bne_eq_false_iff_eq]; have := hmod.2 rfl; omega
        have hb0 := bnum_zero.2 hz.out
        have hu := HU.out
        rw [hb0] at hu
        simp only [if_true] at hu
        rw [hp] at hu
        have HU2 := Lib.hid hu
        have hs1 := hR.set1 hap
        have HS1 := Lib.hid hs1
        clear hu hb0 hmod HU hp hs1
        go_wp2
        go_end0
        rw [HU2.out]
        exact ⟨rfl, HS1.out, grown_set _ _ _ _⟩
      · have h8 : ((p : Int) % 8 != 0) = true := by rw [bne_iff_ne]; have := mt hmod.1 hks; omega
        have hbi := obit_any hR p (by omega)
        by_cases hb : bitAt l p = true
        · have hb0 : ¬ bnum (bitAt l) at_ s = 0 := fun h => by
            have := bnum_zero.1 h k (by omega)
            rw [hp, hb] at this; cases this
          have hu := HU.out
          rw [if_neg hb0] at hu
          rw [hb] at hbi
          simp only [Bool.toNat_true] at hbi
          have HU2 := Lib.hid hu; have HBI := Lib.hid hbi
          clear hu hb0 hmod HU hp hbi
          go_wp2_with (go_at_call 42; refine (HBI.out).mono ?_; rintro e w2 ⟨rfl, rfl⟩)
          first | go_end0 | refine bodyPost_ret (results_none rfl _ _ _) rfl ?_
          rw [HU2.out]
          exact ⟨rfl, hR.set2, grown_set _ _ _ _⟩
        · have hbf : bitAt l p = false := by simpa using hb
          rw [hbf] at hbi
          simp only [Bool.toNat_false] at hbi
          have hz2 : ∀ i, i < k + 1 → bitAt l (at_ + i) = false := by
            intro i hi
            by_cases e : i = k
            · subst e; rw [hp]; exact hbf
            · exact hz.out i (by omega)
          have HZ2 := Lib.hid hz2; have HBI := Lib.hid hbi; have HP := Lib.hid hp
          clear hmod hp hbi hz hz2
          go_wp2_with (go_at_call 42; refine (HBI.out).mono ?_; rintro e w2 ⟨rfl, rfl⟩)
          have hp := HP.out
          exact ⟨⟨k + 1, by congr 1; omega, by omega, HZ2.out, by trivial⟩, by simp [intOf]; omega⟩
  · have hr : gAlign (bitAt l) (8 * l.length) at_ er = (at_, er) := by simp [gAlign, he]
    rw [hr]; clear hr
    have hne : (er != 0) = true := by simpa using he
    clear h1 h2o
    go_enter Try.func29, Try.ntmps29
    go_wp2
    first | go_end0 | refine bodyPost_ret (results_none rfl _ _ _) rfl ?_
    exact ⟨rfl, hR, World.grownBy.refl _ _⟩

end Go.Proofs.Ytnlclbocbbcafaa
