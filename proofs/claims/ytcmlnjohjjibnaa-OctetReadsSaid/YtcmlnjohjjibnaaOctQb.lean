/- The reference's reader of bytes: a lump; whatever is read, in whatever order. -/
import Derived.Test.YtcmlnjohjjibnaaOctQa
namespace Go.Proofs.Ytcmlnjohjjibnaa
open Go.RowKit
set_option maxRecDepth 100000
set_option maxHeartbeats 800000

theorem qlump_any {w : World} {B g at_ : Nat} {l : List Nat} {er : Int} (hR : OcO w B g l at_ er) (n : Int) (hn : n ≤ 9223372036854775807) (hn0 : -9223372036854775808 ≤ n) :
    Calls Try.prog 23 #[.pointer (some ⟨g, 0, none⟩), .int .i64 n] w fun e w' => ∃ v', e = .returned v' ∧ Own w' w.heap.size 5 v' (cu8 (rdLump l at_ er n.toNat).1) ∧ OcO w' B g l (rdLump l at_ er n.toNat).2.1 (rdLump l at_ er n.toNat).2.2 ∧ w.grownBy w' (some g) := by
  obtain ⟨v, h1, h2o, hB, hal, hx, hlen⟩ := id hR
  obtain ⟨c0, c1, c2, hf⟩ := blk3 h1
  have hle := rdNum_le l at_ er n.toNat
  have hnum := qnum_any hR n.toNat
  have hat : (rdNum l at_ er n.toNat).2.2 ≠ 0 → (rdNum l at_ er n.toNat).2.1 = at_ ∧ (rdNum l at_ er n.toNat).1 = 0 := by
    unfold rdNum
    split
    · split
      · split <;> simp
      · simp
    · simp
  have hlump : rdLump l at_ er n.toNat = (if (rdTake l (rdNum l at_ er n.toNat).2.1 (rdNum l at_ er n.toNat).2.2 (rdNum l at_ er n.toNat).1).2.2 = 0 then rdTake l (rdNum l at_ er n.toNat).2.1 (rdNum l at_ er n.toNat).2.2 (rdNum l at_ er n.toNat).1 else ([], at_, (rdTake l (rdNum l at_ er n.toNat).2.1 (rdNum l at_ er n.toNat).2.2 (rdNum l at_ er n.toNat).1).2.2)) := rfl
  generalize rdLump l at_ er n.toNat = R at hlump ⊢
  obtain ⟨T1, T2, T3⟩ := R
  simp only
  generalize rdNum l at_ er n.toNat = r at *
  obtain ⟨m, at1, er1⟩ := r
  simp only at hle hnum hat hlump
  have HL := Lib.hid hlump; clear hlump
  have hm63 : m ≤ 9223372036854775807 := by omega
  have htake := fun (W : World) (h : OcO W B g l at1 er1) => qtake_any h (m : Int) (by omega)
  simp only [Int.toNat_natCast] at htake
  obtain ⟨k, hk, hkn⟩ : ∃ k : Nat, n.toNat = k ∧ (if n < 0 then (0 : Int) else n) = k := ⟨n.toNat, rfl, by split <;> omega⟩
  rw [hk] at hnum hle
  have hk63 : k ≤ 9223372036854775807 := by omega
  have HN := Lib.hid hnum; have HT := Lib.hid htake; have HK := Lib.hid hkn
  clear hnum htake h1 h2o hkn hk
  go_enter Try.func23, Try.ntmps23
  go_upto_region 2 with (fail)
  go_cut [6] (fun v wr => v = .int .u64 m ∧ OcO wr B g l at1 er1 ∧ w.grownBy wr (some g))
  case first =>
    have hz := HK.out
    by_cases h0 : n < 0
    · have hk0 : k = 0 := by rw [if_pos h0] at hz; omega
      subst hk0
      clear hz
      go_wp2_with (go_at_call 14; refine (HN.out).mono ?_; rintro e w1 ⟨rfl, hR1, hg1⟩)
      all_goals go_meet
      all_goals (case rel => exact ⟨rfl, hR1, hg1⟩)
    · have hnk : n = k := by rw [if_neg h0] at hz; omega
      subst hnk
      clear hz
      go_wp2_with (go_at_call 14; refine (HN.out).mono ?_; rintro e w1 ⟨rfl, hR1, hg1⟩)
      all_goals go_meet
      all_goals (case rel => exact ⟨rfl, hR1, hg1⟩)
  case rest =>
    obtain ⟨rfl, hR1, hg1⟩ := hcut
    obtain ⟨v3, h3, _, _, hal1, _⟩ := id hR1
    obtain ⟨d0, d1, d2, hf2⟩ := blk3 h3
    clear h3
    have hL := HL.out
    clear HL
    by_cases hz : er1 = 0
    · subst hz
      clear hat
      by_cases hl : l.length - at1 < m
      · have ht : rdTake l at1 0 m = ([], at1, 3) := by simp [rdTake, hl]
        rw [ht, if_neg (by simp)] at hL
        injection hL with e1 e2; injection e2 with e2 e3
        subst e1; subst e2; subst e3
        clear ht HT
        have hm1 : IntKind.u64.wrap ((l.length - at1 : Nat) : Int) = ((l.length - at1 : Nat) : Int) := IntWalk.u64_in _ (by omega)
        go_wp2_with (go_at_call 26; refine (qleft_any hR1).mono ?_; rintro e w2 ⟨rfl, nd, rfl⟩)
        go_ret
        exact ⟨_, rfl, Own.nil _ _ _, ((hR1.drewN nd).set1 hal).set2, grown_trans (grown_trans (grown_drewN hg1 nd) (grown_set _ _ _ _)) (grown_set _ _ _ _)⟩
      · have ht : rdTake l at1 0 m = ((l.drop at1).take m, at1 + m, 0) := by simp [rdTake, hl]
        rw [ht] at HT
        rw [ht, if_pos rfl] at hL
        injection hL with e1 e2; injection e2 with e2 e3
        subst e1; subst e2; subst e3
        clear ht
        go_wp2_with (first
          | (go_at_call 26; refine (qleft_any hR1).mono ?_; rintro e w2 ⟨rfl, nd, rfl⟩)
          | (go_at_call 21; refine (HT.out _ (hR1.drewN nd)).mono ?_; rintro e w3 ⟨v3, rfl, ho3, hR3, hg3⟩))
        go_ret
        exact ⟨_, rfl, ho3.mono hg1.size, hR3, grown_trans (grown_drewN hg1 nd) hg3⟩
    · obtain ⟨rfl, rfl⟩ := hat hz
      have ht : rdTake l at1 er1 0 = ([], at1, er1) := by simp [rdTake, hz]
      rw [ht, if_neg hz] at hL
      injection hL with e1 e2; injection e2 with e2 e3
      subst e1; subst e2; subst e3
      have hzn : (T3 != 0) = true := by simpa using hz
      clear ht hz HT
      go_wp2
      go_ret
      exact ⟨_, rfl, Own.nil _ _ _, hR1, hg1⟩

end Go.Proofs.Ytcmlnjohjjibnaa
