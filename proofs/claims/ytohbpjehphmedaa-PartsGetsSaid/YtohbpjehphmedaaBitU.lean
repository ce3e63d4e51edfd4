/- The reference's reader of bits, on. -/
import Derived.Test.YtohbpjehphmedaaBitO
import Derived.Deep.LoopGhost
namespace Go.Proofs.Ytohbpjehphmedaa
open Go.RowKit
set_option maxRecDepth 100000
set_option maxHeartbeats 400000

theorem ounary_any {w : World} {B g at_ : Nat} {l : List Nat} {er : Int} (hR : OcB w B g l at_ er) (n : Int) (hn : n ≤ 9223372036854775807) :
    Calls Try.prog 92 #[.pointer (some ⟨g, 0, none⟩), .int .i64 n] w fun e w' => e = .returned (.int .i64 ((gUnary (bitAt l) (8 * l.length) at_ er n).1 : Nat)) ∧ OcB w' B g l (gUnary (bitAt l) (8 * l.length) at_ er n).2.1 (gUnary (bitAt l) (8 * l.length) at_ er n).2.2 ∧ w.grownBy w' (some g) := by
  have HL := Lib.hid (oleft_any hR)
  obtain ⟨v, h1, h2o, hB, hal, hx, hlen⟩ := id hR
  obtain ⟨A, c, rfl, hlc, hcm⟩ := h2o.form8
  obtain ⟨c0, c1, c2, hf⟩ := blk3 h1
  by_cases he : er = 0
  · subst he
    have hu : gUnary (bitAt l) (8 * l.length) at_ 0 n = (if (zer (bitAt l) n.toNat at_ (8 * l.length - at_) 0).2 = 0 then ((zer (bitAt l) n.toNat at_ (8 * l.length - at_) 0).1, at_ + (zer (bitAt l) n.toNat at_ (8 * l.length - at_) 0).1 + 1, 0) else (0, at_, (zer (bitAt l) n.toNat at_ (8 * l.length - at_) 0).2)) := by unfold gUnary; rw [if_pos rfl]
    generalize gUnary (bitAt l) (8 * l.length) at_ 0 n = R at hu ⊢
    obtain ⟨k0, hk⟩ : ∃ k : Nat, max n 0 = (k : Nat) := ⟨n.toNat, by omega⟩
    have hkn : n.toNat = k0 := by omega
    rw [hkn] at hu
    have hk63 : k0 ≤ 9223372036854775807 := by omega
    obtain ⟨left, hle⟩ : ∃ left, 8 * l.length - at_ = left := ⟨_, rfl⟩
    rw [hle] at HL hu
    have hle2 : at_ + left = 8 * l.length := by omega
    have HU := Lib.hid hu
    clear hle hu hkn h1 h2o
    go_enter Try.func92, Try.ntmps92
    go_wp2
    go_loopw [5] (fun kk wr => ∃ (k q : Nat), kk = .int .i64 k ∧ k ≤ left ∧ Hid (zer (bitAt l) k0 at_ (left - k) k = zer (bitAt l) k0 at_ left 0) ∧ wr = w.drewN q) (fun kk _ => left - (intOf kk).toNat)
    case atStart => exact ⟨0, 0, rfl, Nat.zero_le _, rfl, rfl⟩
    case round =>
      obtain ⟨k, q, rfl, hkl, hz, hwr⟩ := hrel
      have hRw : OcB wr B g l at_ 0 := by rw [hwr]; exact hR.drewN q
      have HLw := Lib.hid (oleft_any hRw)
      rw [show 8 * l.length - at_ = left by omega] at HLw
      have c1 : wr.cell? ⟨g, 1, none⟩ = some (.int .i64 at_) := by rw [hwr]; exact c1
      have c2 : wr.cell? ⟨g, 2, none⟩ = some (.int .i64 0) := by rw [hwr]; exact c2
      have hf : ∀ i, wr.frozen? ⟨g, i, none⟩ = false := by rw [hwr]; exact hf
      have HW := Lib.hid hwr; clear hwr
      by_cases hlt : k < left
      · have hzz := hz.out
        rw [show left - k = (left - (k + 1)) + 1 by omega, zer] at hzz
        obtain ⟨p, hp⟩ : ∃ p : Nat, at_ + k = p := ⟨_, rfl⟩
        have hpi : (at_ : Int) + k = (p : Nat) := by omega
        rw [hp] at hzz
        have hbi := fun (nd : Nat) => obit_any (hRw.drewN nd) p (by omega)
        have hp1 : at_ + k + 1 ≤ 8 * l.length := by omega
        have hpi2 : ((at_ + k + 1 : Nat) : Int) = (p : Int) + 1 := by omega
        clear hp
        by_cases hb : bitAt l p = true
        · rw [if_pos hb] at hzz
          rw [hb] at hbi
          have hu := HU.out
          rw [← hzz] at hu
          simp only [if_true] at hu
          have HU2 := Lib.hid hu; have HBI := Lib.hid hbi
          clear hzz hz hu hbi HU
          simp only [Bool.toNat_true] at HBI
          go_wp2_with (first
            | (go_at_call 57; refine (HLw.out).mono ?_; rintro e w1 ⟨rfl, nd, rfl⟩)
            | (go_at_call 58; refine (HBI.out nd).mono ?_; rintro e w2 ⟨rfl, rfl⟩))
          go_ret
          rw [HU2.out]
          have hs := (hRw.drewN nd).set1 hp1
          rw [hpi2] at hs
          exact ⟨rfl, hs, by rw [HW.out]; exact grown_trans (grown_drewN (grown_drewN (World.grownBy.refl _ _) q) nd) (grown_set _ _ _ _)⟩
        · rw [if_neg hb] at hzz
          have hbf : bitAt l p = false := by simpa using hb
          rw [hbf] at hbi
          simp only [Bool.toNat_false] at hbi
          by_cases hm : k0 ≤ k
          · rw [if_pos hm] at hzz
            have hu := HU.out
            rw [← hzz] at hu
            simp only [Int.reduceEq, if_false] at hu
            have HU2 := Lib.hid hu; have HBI := Lib.hid hbi
            clear hzz hz hu hbi HU
            go_wp2_with (first
              | (go_at_call 57; refine (HLw.out).mono ?_; rintro e w1 ⟨rfl, nd, rfl⟩)
              | (go_at_call 58; refine (HBI.out nd).mono ?_; rintro e w2 ⟨rfl, rfl⟩))
            go_ret
            rw [HU2.out]
            exact ⟨rfl, (hRw.drewN nd).set2, by rw [HW.out]; exact grown_trans (grown_drewN (grown_drewN (World.grownBy.refl _ _) q) nd) (grown_set _ _ _ _)⟩
          · rw [if_neg hm] at hzz
            have HZ := Lib.hid hzz; have HBI := Lib.hid hbi
            clear hzz hz hbi
            go_wp2_with (first
              | (go_at_call 57; refine (HLw.out).mono ?_; rintro e w1 ⟨rfl, nd, rfl⟩)
              | (go_at_call 58; refine (HBI.out nd).mono ?_; rintro e w2 ⟨rfl, rfl⟩))
            exact ⟨⟨k + 1, q + nd, by simp, by omega, HZ.out, by rw [HW.out, World.drewN_drewN]⟩, by simp [intOf]; omega⟩
      · obtain rfl : k = left := by omega
        have hzz := hz.out
        rw [Nat.sub_self, zer] at hzz
        have hu := HU.out
        rw [← hzz] at hu
        simp only [Int.reduceEq, if_false] at hu
        have HU2 := Lib.hid hu
        clear hzz hz hu HU
        go_wp2_with (go_at_call 57; refine (HLw.out).mono ?_; rintro e w1 ⟨rfl, nd, rfl⟩)
        go_ret
        rw [HU2.out]
        exact ⟨rfl, (hRw.drewN nd).set2, by rw [HW.out]; exact grown_trans (grown_drewN (grown_drewN (World.grownBy.refl _ _) q) nd) (grown_set _ _ _ _)⟩
  · have hr : gUnary (bitAt l) (8 * l.length) at_ er n = (0, at_, er) := by simp [gUnary, he]
    rw [hr]; clear hr
    have hne : (er != 0) = true := by simpa using he
    clear h1 h2o
    go_enter Try.func92, Try.ntmps92
    go_wp2
    go_ret
    exact ⟨rfl, hR, World.grownBy.refl _ _⟩

end Go.Proofs.Ytohbpjehphmedaa
