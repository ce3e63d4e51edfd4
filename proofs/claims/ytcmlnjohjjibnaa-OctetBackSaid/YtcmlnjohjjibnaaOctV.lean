/- octet: lumps; 'Same'. -/
import Derived.Test.YtcmlnjohjjibnaaOctK
import Derived.Test.YtcmlnjohjjibnaaOctP
import Derived.Test.YtcmlnjohjjibnaaLawKit
import Derived.Deep.RegionWith
import Derived.Deep.DeepCutAuto
namespace Go.Proofs.Ytcmlnjohjjibnaa
open Go.RowKit
set_option maxRecDepth 100000
set_option maxHeartbeats 400000

def lump (b : List Nat) : List Nat := vput b.length ++ b
theorem olump_any (v : Value) (l : List Nat) (w : World) (hS : Sli w w.heap.size v (cu8 l)) (hn : l.length ≤ 1099511627776) :
    Calls Try.prog 29 #[v] w fun e w' => ∃ v', e = .returned v' ∧ Own w' w.heap.size 5 v' (cu8 (lump l)) ∧ Below w.heap.size w w' := by
  obtain ⟨A, c, rfl, hlc, hcm⟩ := hS.form8
  have hv10 := vput_len10 (n := l.length) (by omega)
  go_enter Try.func29, Try.ntmps29
  go_wp2_with (first
    | (go_at_call 28; refine (put_one l.length w (by omega)).mono ?_; rintro e w1 ⟨v1, rfl, ho1, hb1⟩)
    | (at_builtin; refine wpl_appN ho1 (hS.below hb1) hb1.size (by simp [cu8]; omega) Try.underlying22 info_u8 rfl (by decide) (cu8_one _) rfl rfl rfl rfl ?_; intro v2 w2 ho2 hb2))
  go_ret
  exact ⟨v2, rfl, by unfold lump; rw [cu8_app]; exact ho2, hb1.trans hb2⟩

theorem rdNum_le (l : List Nat) (at_ : Nat) (er : Int) (most : Nat) : (rdNum l at_ er most).1 ≤ most := by
  unfold rdNum
  split
  · split
    · split
      · simp
      · simp; omega
    · simp
  · simp

theorem same_any (v1 v2 : Value) (l1 l2 : List Nat) (w : World) (B1 B2 : Nat) (h1 : Sli w B1 v1 (cu8 l1)) (h2 : Sli w B2 v2 (cu8 l2)) (x1 : ∀ x ∈ l1, x < 256) (x2 : ∀ x ∈ l2, x < 256) :
    Calls Try.prog 19 #[v1, v2] w fun e w' => e = .returned (.bool (decide (l1 = l2))) ∧ w = w' := by
  have q1 := run_str (P := Try.prog) h1 Try.underlying22 Try.underlying5 Try.underlying9
  have q2 := run_str (P := Try.prog) h2 Try.underlying22 Try.underlying5 Try.underlying9
  have hi : ((bstr l1).toList = (bstr l2).toList) ↔ l1 = l2 := ⟨fun h => bstr_inj x1 x2 (by rw [ByteArray.toList_eq, ByteArray.toList_eq] at h; exact ByteArray.ext (Array.toList_inj.mp h)), fun h => by rw [h]⟩
  obtain ⟨A1, c1, rfl, _, _⟩ := h1.form8
  obtain ⟨A2, c2, rfl, _, _⟩ := h2.form8
  have HI := Lib.hid hi
  clear hi h1 h2 x1 x2
  generalize bstr l1 = s1 at *
  generalize bstr l2 = s2 at *
  go_enter Try.func19, Try.ntmps19
  go_wp2
  go_ret
  refine ⟨?_, rfl⟩
  show Ending.returned (.bool _) = _
  congr 2
  rw [Bool.eq_iff_iff]
  simp only [beq_iff_eq, decide_eq_true_eq]
  exact HI.out

theorem rlump_any {w : World} {g at_ : Nat} {l : List Nat} {er : Int} (hR : RdO w g l at_ er) (n : Int) (hn : n ≤ 9223372036854775807) (hn0 : -9223372036854775808 ≤ n) :
    Calls Try.prog 22 #[.pointer (some ⟨g, 0, none⟩), .int .i64 n] w fun e w' => ∃ v', e = .returned v' ∧ Own w' w.heap.size 5 v' (cu8 (rdLump l at_ er n.toNat).1) ∧ RdO w' g l (rdLump l at_ er n.toNat).2.1 (rdLump l at_ er n.toNat).2.2 ∧ w.grownBy w' (some g) := by
  obtain ⟨v, h1, h2o, hal, hx, hlen⟩ := id hR
  obtain ⟨c0, c1, c2, hf⟩ := blk3 h1
  have hle := rdNum_le l at_ er n.toNat
  have hnum := num_any hR n.toNat
  have hlump : rdLump l at_ er n.toNat = (if (rdTake l (rdNum l at_ er n.toNat).2.1 (rdNum l at_ er n.toNat).2.2 (rdNum l at_ er n.toNat).1).2.2 = 0 then rdTake l (rdNum l at_ er n.toNat).2.1 (rdNum l at_ er n.toNat).2.2 (rdNum l at_ er n.toNat).1 else ([], at_, (rdTake l (rdNum l at_ er n.toNat).2.1 (rdNum l at_ er n.toNat).2.2 (rdNum l at_ er n.toNat).1).2.2)) := rfl
  rw [hlump]
  clear hlump
  generalize rdNum l at_ er n.toNat = r at *
  obtain ⟨m, at1, er1⟩ := r
  simp only at hle hnum ⊢
  have hm63 : m ≤ 9223372036854775807 := by omega
  have htake := fun (W : World) (h : RdO W g l at1 er1) => take_any h (m : Int) (by omega)
  simp only [Int.toNat_natCast] at htake
  have hnil : (rdTake l at1 er1 m).2.2 ≠ 0 → (rdTake l at1 er1 m).1 = [] := by
    unfold rdTake; split
    · split <;> simp
    · simp
  generalize rdTake l at1 er1 m = t at *
  obtain ⟨t1, at2, er2⟩ := t
  simp only at htake hnil ⊢
  have HN := Lib.hid hnum; have HT := Lib.hid htake
  clear hnum htake h1 h2o
  by_cases hz : er2 = 0
  · subst hz
    simp only [if_true]
    clear hnil
    by_cases h0 : 0 ≤ n
    · obtain ⟨k, rfl⟩ := Int.eq_ofNat_of_zero_le h0
      simp only [Int.toNat_natCast] at HN hle
      go_enter Try.func22, Try.ntmps22
      go_wp2_with (first
        | (go_at_call 13; refine (HN.out).mono ?_; rintro e w1 ⟨rfl, hR1, hg1⟩)
        | (go_at_call 20; refine (HT.out _ hR1).mono ?_; rintro e w2 ⟨v2, rfl, ho2, hR2, hg2⟩; obtain ⟨v3, h3, _⟩ := id hR2; obtain ⟨d0, d1, d2, hf2⟩ := blk3 h3; clear h3))
      go_ret
      exact ⟨v2, rfl, ho2.mono hg1.size, hR2, grown_trans hg1 hg2⟩
    · rw [show n.toNat = 0 by omega] at HN hle
      have h0' : n < 0 := by omega
      go_enter Try.func22, Try.ntmps22
      go_wp2_with (first
        | (go_at_call 13; refine (HN.out).mono ?_; rintro e w1 ⟨rfl, hR1, hg1⟩)
        | (go_at_call 20; refine (HT.out _ hR1).mono ?_; rintro e w2 ⟨v2, rfl, ho2, hR2, hg2⟩; obtain ⟨v3, h3, _⟩ := id hR2; obtain ⟨d0, d1, d2, hf2⟩ := blk3 h3; clear h3))
      go_ret
      exact ⟨v2, rfl, ho2.mono hg1.size, hR2, grown_trans hg1 hg2⟩
  · simp only [hz, if_false]
    have ht1 := hnil hz
    subst ht1
    clear hnil
    by_cases h0 : 0 ≤ n
    · obtain ⟨k, rfl⟩ := Int.eq_ofNat_of_zero_le h0
      simp only [Int.toNat_natCast] at HN hle
      go_enter Try.func22, Try.ntmps22
      go_wp2_with (first
        | (go_at_call 13; refine (HN.out).mono ?_; rintro e w1 ⟨rfl, hR1, hg1⟩)
        | (go_at_call 20; refine (HT.out _ hR1).mono ?_; rintro e w2 ⟨v2, rfl, ho2, hR2, hg2⟩; obtain ⟨v3, h3, _⟩ := id hR2; obtain ⟨d0, d1, d2, hf2⟩ := blk3 h3; have hnz : (er2 != 0) = true := by simpa using hz))
      go_ret
      exact ⟨v2, rfl, ((ho2.mono hg1.size).far h3 (by decide) (grown_set _ _ _ _)), hR2.set1 hal, grown_trans (grown_trans hg1 hg2) (grown_set _ _ _ _)⟩
    · rw [show n.toNat = 0 by omega] at HN hle
      have h0' : n < 0 := by omega
      go_enter Try.func22, Try.ntmps22
      go_wp2_with (first
        | (go_at_call 13; refine (HN.out).mono ?_; rintro e w1 ⟨rfl, hR1, hg1⟩)
        | (go_at_call 20; refine (HT.out _ hR1).mono ?_; rintro e w2 ⟨v2, rfl, ho2, hR2, hg2⟩; obtain ⟨v3, h3, _⟩ := id hR2; obtain ⟨d0, d1, d2, hf2⟩ := blk3 h3; have hnz : (er2 != 0) = true := by simpa using hz))
      go_ret
      exact ⟨v2, rfl, ((ho2.mono hg1.size).far h3 (by decide) (grown_set _ _ _ _)), hR2.set1 hal, grown_trans (grown_trans hg1 hg2) (grown_set _ _ _ _)⟩

end Go.Proofs.Ytcmlnjohjjibnaa
