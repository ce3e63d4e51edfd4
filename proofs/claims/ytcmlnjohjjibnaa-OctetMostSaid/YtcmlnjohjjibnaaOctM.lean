/- octet: a number is read just if it is at most what may be. -/
import Derived.Test.YtcmlnjohjjibnaaOctK
import Derived.Test.YtcmlnjohjjibnaaOctP
import Derived.Deep.RegionWith
import Derived.Test.YtcmlnjohjjibnaaLawKit
namespace Go.Proofs.Ytcmlnjohjjibnaa
open Go.RowKit
set_option maxRecDepth 100000
set_option maxHeartbeats 400000

theorem octetMost_walk (n most : Nat) (vm : Value) (m : List Nat) (w : World) (hn : n < 18446744073709551616) (hS : Sli w w.heap.size vm (cu8 m)) (hm : ∀ x ∈ m, x < 256) :
    Calls Try.prog 6 #[.int .u64 n, .int .u64 most, vm] w fun e w' => e = .returned (.bool true) ∧ Below w.heap.size w w' := by
  obtain ⟨A, c, rfl, hlc, hcm⟩ := hS.form8
  by_cases h50 : 50 < m.length
  · go_enter Try.func6, Try.ntmps6
    go_wp2_with (go_at_call 10; refine (known_any _).mono ?_; rintro e w1 ⟨rfl, hb⟩)
    go_ret
    exact ⟨rfl, hb⟩
  · have hv10 := vput_len10 hn
    have hbytes : ∀ x ∈ vput n ++ m, x < 256 := by
      intro x hx; rcases List.mem_append.1 hx with h | h
      · exact vput_byte n x h
      · exact hm x h
    have hr : vrd 0 0 ((vput n ++ m).drop 0) = (n, (vput n).length, 0) := vrd_put m hn
    have hN1 : rdNum (vput n ++ m) 0 0 most = if most < n then (0, 0, 4) else (n, (vput n).length, 0) := by
      simp only [rdNum, hr, if_true, Nat.zero_add]
    have hN2 : rdNum (vput n ++ m) 0 4 18446744073709551615 = (0, 0, 4) := by simp [rdNum]
    have hT : rdTake (vput n ++ m) 0 4 0 = ([], 0, 4) := by simp [rdTake]
    have hl : (vput n ++ m).length = (vput n).length + m.length := by simp
    have HL := Lib.hid hl; have HN2 := Lib.hid hN2; have HT := Lib.hid hT
    clear hr hl hN2 hT
    by_cases hle : most < n
    · rw [if_pos hle] at hN1
      have HN1 := Lib.hid hN1; clear hN1
      have hc1 : (vput n).length ≤ 10 := hv10
      go_enter Try.func6, Try.ntmps6
      go_wp2_with (first
        | (go_at_call 10; refine (known_any _).mono ?_; rintro e w1 ⟨rfl, hb1⟩)
        | (go_at_call 28; refine (put_one n w1 hn).mono ?_; rintro e w2 ⟨v2, rfl, ho2, hb2⟩; obtain ⟨A2, c2, rfl, _, _⟩ := ho2.form8)
        | (at_builtin; (refine wpl_copy ho2.sli (Nat.le_refl _) (by simp [cu8]; omega) Try.underlying22 info_u8 rfl (by decide) (cu8_one _) rfl rfl rfl rfl (h := ?_)); intro v3 w3 ho3 hb3; have hS3 := ((hS.below hb1).below (hb2.mono hb1.size)).below (hb3.mono (Nat.le_trans hb1.size hb2.size)))
        | (at_builtin; (refine wpl_appN ho3 hS3 hb3.size (by simp [cu8]; omega) Try.underlying22 info_u8 rfl (by decide) (cu8_one _) rfl rfl rfl rfl ?_); intro v4 w4 ho4 hb4; rw [← cu8_app] at ho4)
        | (go_at_call 11; (refine (new_any _ (vput n ++ m) _ ho4.sli hbytes (by simp; omega)).mono ?_); rintro e w5 ⟨g, rfl, hR5, hg5, hb5⟩)
        | (go_at_call_of 13 (Value.int .u64 (most : Int)); (refine (num_any hR5 most).mono ?_); rw [HN1.out]; rintro e w6 ⟨rfl, hR6, hg6⟩)
        | (go_at_call 13; (refine (num_any hR6 18446744073709551615).mono ?_); rw [HN2.out]; rintro e w7 ⟨rfl, hR7, hg7⟩)
        | (go_at_call 20; (refine (take_any hR7 0 (by omega)).mono ?_); rw [show (0 : Int).toNat = 0 from rfl, HT.out]; rintro e w8 ⟨v8, rfl, ho8, hR8, hg8⟩; obtain ⟨A8, c8, rfl, _, _⟩ := ho8.form8)
        | (go_at_call 27; refine (err_any hR8).mono ?_; rintro e w9 ⟨rfl, rfl⟩)
        | (go_at_call 24; refine (at_any hR8).mono ?_; rintro e w9 ⟨rfl, rfl⟩)
        | (go_at_call 25; refine (left_any hR8).mono ?_; rintro e w9 ⟨rfl, nd, rfl⟩; rw [HL.out]))
      go_ret
      have s2 := hb2.size; have s3 := hb3.size; have s4 := hb4.size; have s1 := hb1.size
      exact ⟨rfl, below_drewN (bonly (bonly (bonly (bthen (bthen (bthen (bthen hb1 hb2 (by omega)) hb3 (by omega)) hb4 (by omega)) hb5 (by omega)) hg6 (Nat.le_refl _) (by omega)) hg7 (Nat.le_refl _) (by omega)) hg8 (Nat.le_refl _) (by omega)) nd⟩
    · rw [if_neg hle] at hN1
      have HN1 := Lib.hid hN1; clear hN1
      have HD : Hid ((vput n).length + m.length - (vput n).length = m.length) := Nat.add_sub_cancel_left _ _
      have hle' : n ≤ most := by omega
      go_enter Try.func6, Try.ntmps6
      go_wp2_with (first
        | (go_at_call 10; refine (known_any _).mono ?_; rintro e w1 ⟨rfl, hb1⟩)
        | (go_at_call 28; refine (put_one n w1 hn).mono ?_; rintro e w2 ⟨v2, rfl, ho2, hb2⟩; obtain ⟨A2, c2, rfl, _, _⟩ := ho2.form8)
        | (at_builtin; (refine wpl_copy ho2.sli (Nat.le_refl _) (by simp [cu8]; omega) Try.underlying22 info_u8 rfl (by decide) (cu8_one _) rfl rfl rfl rfl (h := ?_)); intro v3 w3 ho3 hb3; have hS3 := ((hS.below hb1).below (hb2.mono hb1.size)).below (hb3.mono (Nat.le_trans hb1.size hb2.size)))
        | (at_builtin; (refine wpl_appN ho3 hS3 hb3.size (by simp [cu8]; omega) Try.underlying22 info_u8 rfl (by decide) (cu8_one _) rfl rfl rfl rfl ?_); intro v4 w4 ho4 hb4; rw [← cu8_app] at ho4)
        | (go_at_call 11; (refine (new_any _ (vput n ++ m) _ ho4.sli hbytes (by simp; omega)).mono ?_); rintro e w5 ⟨g, rfl, hR5, hg5, hb5⟩)
        | (go_at_call_of 13 (Value.int .u64 (most : Int)); (refine (num_any hR5 most).mono ?_); rw [HN1.out]; rintro e w6 ⟨rfl, hR6, hg6⟩)
        | (go_at_call 27; refine (err_any hR6).mono ?_; rintro e w9 ⟨rfl, rfl⟩)
        | (go_at_call 24; refine (at_any hR6).mono ?_; rintro e w9 ⟨rfl, rfl⟩)
        | (go_at_call 25; refine (left_any hR6).mono ?_; rintro e w9 ⟨rfl, nd, rfl⟩; rw [HL.out, HD.out]))
      go_ret
      have s2 := hb2.size; have s3 := hb3.size; have s4 := hb4.size; have s1 := hb1.size
      exact ⟨rfl, below_drewN (bonly (bthen (bthen (bthen (bthen hb1 hb2 (by omega)) hb3 (by omega)) hb4 (by omega)) hb5 (by omega)) hg6 (Nat.le_refl _) (by omega)) nd⟩

end Go.Proofs.Ytcmlnjohjjibnaa
