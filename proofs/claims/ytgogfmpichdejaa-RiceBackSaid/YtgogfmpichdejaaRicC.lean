/- rice: the laws RiceBack, RiceJoins. -/
import Derived.Test.YtgogfmpichdejaaRicZ
namespace Go.Proofs.Ytgogfmpichdejaa
open Go.RowKit
set_option maxRecDepth 100000
set_option maxHeartbeats 1600000

/-- Codes that stand among other bits are read. -/
theorem codes_read {lb : List Nat} {A C : List Bool} {k : Nat} {l : List Int} (hk : k ≤ 25) (hw : l.all wideB = true) (hP : Packed lb (A ++ (codes k l ++ C))) (hn : l.length ≤ 4194304) :
    getsR (bitAt lb) (8 * lb.length) A.length 0 (k : Nat) (l.length : Nat) = (l, A.length + sumI (k : Nat) l, 0) := by
  have hw' : ∀ x ∈ l, wideB x = true := List.all_eq_true.1 hw
  have hlen := hP.len
  have hcl := codes_len hk l hw'
  rw [List.length_append, List.length_append] at hlen
  have h := codes_at (f := bitAt lb) (len := 8 * lb.length) hk l A.length hw' (fun i hi => by
    rw [hP.bit, gb_app, if_neg (by omega), gb_app, show A.length + i - A.length = i by omega, if_pos hi]) (by omega)
  unfold getsR
  rw [if_pos ⟨by rw [paramB_iff]; omega, by omega, by omega⟩, if_pos rfl, Int.toNat_natCast, Int.toNat_natCast, h, hcl]
theorem num_read {lb : List Nat} {A C : List Bool} {v n : Nat} (hP : Packed lb (A ++ (msb v n ++ C))) (hn : n ≤ 64) : gGet (bitAt lb) (8 * lb.length) A.length 0 (n : Nat) = (v % 2 ^ n, A.length + n, 0) := by
  have hlen := hP.len
  rw [List.length_append, List.length_append, msb_len] at hlen
  exact get_at (fun i hi => by
    rw [hP.bit, gb_app, if_neg (by omega), gb_app, show A.length + i - A.length = i by omega, if_pos (by rw [msb_len]; exact hi)]) (by omega) hn

theorem riceBack_walk (k : Int) (va : Value) (l : List Int) (behind : Nat) (w : World) (hA : Sli w w.heap.size va (ci l)) (hbe : behind < 18446744073709551616) :
    Calls Try.prog 6 #[.int .i64 k, va, .int .u64 (behind : Nat)] w fun e w' => e = .returned (.bool true) ∧ Below w.heap.size w w' := by
  obtain ⟨A1, c1, rfl, hlc1, hcm1⟩ := hA.formI
  by_cases hall : l.length ≤ 200 ∧ 0 ≤ k ∧ k ≤ 25
  · obtain ⟨hl2, hk0, hk25⟩ := hall
    obtain ⟨m, rfl⟩ := Int.eq_ofNat_of_zero_le hk0
    have hm25 : m ≤ 25 := by omega
    have hk : paramB (m : Int) = true := by rw [paramB_iff]; omega
    have hl40 : l.length ≤ 1099511627776 := by omega
    have haw := fun w1 (hb : Below w.heap.size w w1) => allWide_any _ l w1 _ (hA.below hb) hl40
    cases hall : l.all wideB
    · rw [hall] at haw
      have HAW := Lib.hid haw
      clear haw hA hall hk
      go_enter Try.func6, Try.ntmps6
      go_wp2_with (first
        | (go_at_call 11; refine (knownR_any w).mono ?_; rintro e w1 ⟨rfl, hb1⟩)
        | (go_at_call 39; refine (HAW.out _ hb1).mono ?_; rintro e w2 ⟨rfl, rfl⟩))
      go_ret
      exact ⟨rfl, hb1⟩
    · rw [hall] at haw
      have hpr : putR m l [] = (codes m l, 0) := by unfold putR; rw [if_pos ⟨hk, hall⟩, Int.toNat_natCast, List.nil_append]
      have hcl := codes_len hm25 l (List.all_eq_true.1 hall)
      have hsl := sumI_le m l
      have hsum := fun w1 (hb : Below w.heap.size w w1) => sum_any (m : Nat) _ l w1 _ (hA.below hb) hl40
      have hrd := fun (lb : List Nat) (C : List Bool) (hP : Packed lb (codes m l ++ C)) => codes_read (A := []) (C := C) hm25 hall hP (by omega)
      have hand : bits .and .u64 (behind : Int) 65535 = ((behind % 65536 : Nat) : Int) := by
        have h := u64_mask 16 (by omega) behind
        rw [show (2 ^ 16 - 1 : Nat) = 65535 from rfl, show (2 : Nat) ^ 16 = 65536 from rfl] at h
        exact h
      have hb16 : behind % 65536 < 65536 := Nat.mod_lt _ (by omega)
      generalize behind % 65536 = b at *
      have hnr := fun (lb : List Nat) (hP : Packed lb (codes m l ++ msb b 16)) => num_read (A := codes m l) (v := b) (n := 16) (C := []) (by rw [List.append_nil]; exact hP) (by omega)
      have hpw := wPut_ok (codes m l) (x := b) (n := 16) (by omega) (by omega)
      generalize codes m l = L at *
      generalize sumI m l = s at *
      rw [hcl] at hnr
      have HAW := Lib.hid haw; have HPR := Lib.hid hpr; have HSUM := Lib.hid hsum; have HRD := Lib.hid hrd; have HNR := Lib.hid hnr; have HPW := Lib.hid hpw; have HA := Lib.hid hA; have HCL := Lib.hid hcl
      clear haw hpr hsum hrd hnr hpw hA hall hk hcl
      obtain ⟨n, hnl⟩ : ∃ n, l.length = n := ⟨_, rfl⟩
      have HNL := Lib.hid hnl
      rw [hnl] at HAW HSUM HRD HA hl2 hl40 hlc1 hsl ⊢
      clear hnl
      go_enter Try.func6, Try.ntmps6
      go_wp2_with (first
        | (go_at_call 11; refine (knownR_any w).mono ?_; rintro e w1 ⟨rfl, hb1⟩)
        | (go_at_call 39; refine (HAW.out _ hb1).mono ?_; rintro e w2 ⟨rfl, rfl⟩; refine cut_here ?_))
      have hA0 := WrO.start w1 (base := w.heap.size) hb1.size
      have hb2 := hb1.alloc hb1.size (.cells #[.slice none 0 0, .int .i64 0] 34)
      have HP := Lib.hid (rput_any hA0 m _ l (Stays.of_sli (HA.out.below hb2) hA0.1 hA0.rows hb2.size) (by rw [HNL.out]; simp; omega) hb2.size)
      unfold CutHere
      go_wp2_with fail
      refine HP.out.mono ?_
      rw [HPR.out]
      rintro e w2 ⟨rfl, v2, hA2, hm2⟩
      have hb22 := hb2.trans (hm2.below hA0.1 hA0.rows hb2.size)
      simp only at hA2
      go_wp2_with fail
      refine (wlen_any hA2).mono ?_
      rw [HCL.out]
      rintro e w3 ⟨rfl, rfl⟩
      go_wp2_with fail
      refine (HSUM.out _ hb22).mono ?_
      rintro e w3 ⟨rfl, rfl⟩
      have HP2 := Lib.hid (wput_any hA2 (by rw [HCL.out]; omega) hb22.size b (16 : Nat) (by omega) (by omega) (by omega))
      go_wp2_with fail
      refine HP2.out.mono ?_
      rw [HPW.out]
      rintro e w3 ⟨rfl, v3, hA3, hm3⟩
      have hb3 := hb22.trans (hm3.below hA2.1 hA2.rows hb22.size)
      simp only at hA3
      go_wp2_with fail
      refine (wbytes_any hA3 (by rw [List.length_append, msb_len, HCL.out]; omega)).mono ?_
      rintro e w4 ⟨v4, lb, rfl, hP4, ho4, hb34⟩
      have hb4 := bthen hb3 hb34 hb3.size
      obtain ⟨A4, n4, c4, rfl⟩ := ho4.shape
      have hrd := HRD.out lb _ hP4
      have hnr := HNR.out lb hP4
      simp only [List.length_nil, Nat.zero_add] at hrd
      have hlb : lb.length ≤ 1099511627776 := by have := hP4.len; rw [List.length_append, msb_len, HCL.out] at this; omega
      have HRD2 := Lib.hid hrd; have HNR2 := Lib.hid hnr
      clear hrd hnr
      go_wp2_with fail
      refine (bnew_any _ lb _ ho4.sli hP4.byte hlb).mono ?_
      rintro e w5 ⟨g5, rfl, hR5, hg5, hb45⟩
      have hb5 := bthen hb4 hb45 hb4.size
      go_wp2_with fail
      refine (rget_any hR5 m n).mono ?_
      rw [HRD2.out]
      rintro e w6 ⟨v6, a6, e6, rfl, ho6, hR6, hg6, hok6⟩
      obtain ⟨rfl, rfl⟩ := hok6 rfl
      obtain ⟨A6, c6, rfl, _, _⟩ := ho6.formI
      have hb6 := bonly hb5 hg6 (Nat.le_refl _) (Nat.le_trans hb4.size hg5)
      simp only at ho6 hR6
      rw [HNL.out] at ho6 ⊢
      go_wp2_with fail
      refine (sameInts_self _ _ l w6 _ _ (HA.out.below hb6) ho6.sli (by rw [HNL.out]; exact hl40)).mono ?_
      rintro e w7 ⟨rfl, q7, rfl⟩
      have hR7 := hR6.drewN q7
      have hb7 := below_drewN hb6 q7
      go_wp2_with fail
      refine (bat_any hR7).mono ?_
      rintro e w8 ⟨rfl, rfl⟩
      go_wp2_with fail
      refine (HSUM.out _ hb7).mono ?_
      rintro e w8 ⟨rfl, rfl⟩
      go_wp2_with fail
      refine (bget_any hR7 (16 : Nat)).mono ?_
      rw [HNR2.out]
      rintro e w8 ⟨rfl, hR8, hg8⟩
      have hmod : b % 2 ^ 16 = b := Nat.mod_eq_of_lt (by omega)
      simp only [hmod]
      go_wp2
      go_ret
      exact ⟨rfl, bonly hb7 hg8 (Nat.le_refl _) (Nat.le_trans hb4.size hg5)⟩
  · have hor : (200 < l.length) ∨ (l.length ≤ 200 ∧ k < 0) ∨ (l.length ≤ 200 ∧ 0 ≤ k ∧ 25 < k) := by omega
    have hl9 : l.length ≤ 9223372036854775807 := by unfold maxLen at hcm1; omega
    clear hall hA
    rcases hor with h | ⟨h, h'⟩ | ⟨h, h', h''⟩
    all_goals
      go_enter Try.func6, Try.ntmps6
      go_wp2_with (go_at_call 11; refine (knownR_any w).mono ?_; rintro e w1 ⟨rfl, hb1⟩)
      go_ret
      exact ⟨rfl, hb1⟩

theorem riceJoins_walk (k : Int) (va : Value) (a : List Int) (vb : Value) (b : List Int) (w : World) (hA : Sli w w.heap.size va (ci a)) (hB : Sli w w.heap.size vb (ci b)) :
    Calls Try.prog 8 #[.int .i64 k, va, vb] w fun e w' => e = .returned (.bool true) ∧ Below w.heap.size w w' := by
  obtain ⟨A1, c1, rfl, hlc1, hcm1⟩ := hA.formI
  obtain ⟨A2, c2, rfl, hlc2, hcm2⟩ := hB.formI
  by_cases hok : a.length ≤ 100 ∧ b.length ≤ 100 ∧ 0 ≤ k ∧ k ≤ 25
  · obtain ⟨hla, hlb, hk0, hk25⟩ := hok
    obtain ⟨m, rfl⟩ := Int.eq_ofNat_of_zero_le hk0
    have hm25 : m ≤ 25 := by omega
    have hk : paramB (m : Int) = true := by rw [paramB_iff]; omega
    have hawa := fun w1 (hb : Below w.heap.size w w1) => allWide_any _ a w1 _ (hA.below hb) (by omega)
    have hawb := fun w1 (hb : Below w.heap.size w w1) => allWide_any _ b w1 _ (hB.below hb) (by omega)
    cases halla : a.all wideB
    · rw [halla] at hawa
      have HAW := Lib.hid hawa
      clear hawa hawb hA hB halla hk
      go_enter Try.func8, Try.ntmps8
      go_wp2_with (go_at_call 11; refine (knownR_any w).mono ?_; rintro e w1 ⟨rfl, hb1⟩; refine cut_here ?_)
      unfold CutHere
      go_wp2_with fail
      refine (HAW.out _ hb1).mono ?_
      rintro e w2 ⟨rfl, rfl⟩
      go_wp2
      go_ret
      exact ⟨rfl, hb1⟩
    cases hallb : b.all wideB
    · rw [halla] at hawa; rw [hallb] at hawb
      have HAW := Lib.hid hawa; have HBW := Lib.hid hawb
      clear hawa hawb hA hB halla hallb hk
      go_enter Try.func8, Try.ntmps8
      go_wp2_with (go_at_call 11; refine (knownR_any w).mono ?_; rintro e w1 ⟨rfl, hb1⟩; refine cut_here ?_)
      unfold CutHere
      go_wp2_with fail
      refine (HAW.out _ hb1).mono ?_
      rintro e w2 ⟨rfl, rfl⟩
      go_wp2_with fail
      refine (HBW.out _ hb1).mono ?_
      rintro e w2 ⟨rfl, rfl⟩
      go_wp2
      go_ret
      exact ⟨rfl, hb1⟩
    rw [halla] at hawa; rw [hallb] at hawb
    have hallab : (a ++ b).all wideB = true := by rw [List.all_append, halla, hallb]; rfl
    have hpa : putR m a [] = (codes m a, 0) := by unfold putR; rw [if_pos ⟨hk, halla⟩, Int.toNat_natCast, List.nil_append]
    have hpb : putR m b (codes m a) = (codes m a ++ codes m b, 0) := by unfold putR; rw [if_pos ⟨hk, hallb⟩, Int.toNat_natCast]
    have hpc : putR m (a ++ b) [] = (codes m a ++ codes m b, 0) := by unfold putR; rw [if_pos ⟨hk, hallab⟩, Int.toNat_natCast, List.nil_append, codes_app]
    have hcla := codes_len hm25 a (List.all_eq_true.1 halla)
    have hsa := sumI_le m a
    have hclb := codes_le hm25 b
    have hrd1 := fun (lb : List Nat) (hP : Packed lb (codes m a ++ codes m b)) => codes_read (A := []) hm25 halla hP (by omega)
    have hrd2 := fun (lb : List Nat) (hP : Packed lb (codes m a ++ codes m b)) => codes_read (A := codes m a) (C := []) hm25 hallb (by rw [List.append_nil]; exact hP) (by omega)
    generalize codes m a = La at *
    generalize codes m b = Lb at *
    rw [hcla] at hrd2
    generalize sumI m a = s at *
    have hlab : (La ++ Lb).length ≤ 13000 := by rw [List.length_append]; omega
    have hla40 : a.length ≤ 1099511627776 := by omega
    have hlb40 : b.length ≤ 1099511627776 := by omega
    obtain ⟨na, hna⟩ : ∃ n, a.length = n := ⟨_, rfl⟩
    obtain ⟨nb, hnb⟩ : ∃ n, b.length = n := ⟨_, rfl⟩
    have hra : ([] : List Value).length + (ci a).length ≤ 8796093022208 := by rw [ci_len]; simp; omega
    have hrb : ([] ++ ci a).length + (ci b).length ≤ 8796093022208 := by rw [List.nil_append, ci_len, ci_len]; omega
    have hcab : ci (a ++ b) = [] ++ ci a ++ ci b := by rw [ci_app, List.nil_append]
    have hab : (a ++ b).length ≤ 200 := by rw [List.length_append]; omega
    have HAW := Lib.hid hawa; have HBW := Lib.hid hawb; have HPA := Lib.hid hpa; have HPB := Lib.hid hpb; have HPC := Lib.hid hpc; have HCLA := Lib.hid hcla
    have HR1 := Lib.hid hrd1; have HR2 := Lib.hid hrd2; have HA := Lib.hid hA; have HB := Lib.hid hB; have HNA := Lib.hid hna; have HNB := Lib.hid hnb
    have HRA := Lib.hid hra; have HRB := Lib.hid hrb; have HCAB := Lib.hid hcab; have HAB := Lib.hid hab; have HLAB := Lib.hid hlab; have HL40A := Lib.hid hla40; have HL40B := Lib.hid hlb40
    have HSA := Lib.hid (show La.length ≤ 6500 by omega)
    clear hawa hawb hpa hpb hpc hcla hrd1 hrd2 hA hB halla hallb hallab hk hra hrb hcab hab hlab hla40 hlb40
    rw [hna] at HAW HR1 HA hla hlc1 hsa ⊢
    rw [hnb] at HBW HR2 HB hlb hlc2 hclb ⊢
    clear hna hnb
    go_enter Try.func8, Try.ntmps8
    go_wp2_with (go_at_call 11; refine (knownR_any w).mono ?_; rintro e w1 ⟨rfl, hb1⟩; refine cut_here ?_)
    unfold CutHere
    go_wp2_with fail
    refine (HAW.out _ hb1).mono ?_
    rintro e w2 ⟨rfl, rfl⟩
    go_wp2_with fail
    refine (HBW.out _ hb1).mono ?_
    rintro e w2 ⟨rfl, rfl⟩
    have hs1 := hb1.size
    obtain ⟨wa, hwa⟩ : ∃ wa, w1.alloc (.cells #[.slice none 0 0, .int .i64 0] 34) = wa := ⟨_, rfl⟩
    have hX0 := WrO.start w1 (base := w.heap.size) hs1
    rw [hwa] at hX0
    have hsz : wa.heap.size = w1.heap.size + 1 := by rw [← hwa]; simp
    have hY0 := WrO.start wa (base := w.heap.size) (by omega)
    rw [hsz] at hY0
    have hba : Below w1.heap.size w1 wa := by rw [← hwa]; exact (Below.refl _ _).alloc (Nat.le_refl _) _
    have hX1 := hX0.below ((Below.refl _ wa).alloc (Nat.le_refl _) (.cells #[.slice none 0 0, .int .i64 0] 34))
    have hbb := bthen hb1 (hba.alloc hba.size (.cells #[.slice none 0 0, .int .i64 0] 34)) hs1
    obtain ⟨wb, hwb⟩ : ∃ wb, wa.alloc (.cells #[.slice none 0 0, .int .i64 0] 34) = wb := ⟨_, rfl⟩
    rw [hwb] at hX1 hY0 hbb
    have hO := Own.empty wb 3
    have hA1' := ((HA.out.below hbb).more hbb.size).below ((Below.refl wb.heap.size wb).alloc (o := .cells #[] 3) (Nat.le_refl _))
    have hszb : wb.heap.size = w1.heap.size + 2 := by rw [← hwb]; simp; omega
    have hb01 := (Below.refl wb.heap.size wb).alloc (Nat.le_refl _) (.cells #[] 3)
    have hone := ci_one a
    have hone2 := ci_one b
    go_upto_region 6 with (fail)
    clear hwa hwb hba hszb hsz
    go_wp2_with (at_builtin; refine wpl_appN hO hA1' (by simp) HRA.out Try.underlying23 info_int rfl (by decide) hone rfl rfl rfl rfl (h := ?_); intro v2 w2 ho2 hb2; refine cut_here ?_)
    have hb12 := hb01.trans hb2
    have hB2 := (HB.out.below hbb).below (hb12.mono hbb.size)
    clear hA1' hO hb2 hone
    unfold CutHere
    go_wp2_with (at_builtin; refine wpl_appN ho2 hB2 hb12.size HRB.out Try.underlying23 info_int rfl (by decide) hone2 rfl rfl rfl rfl (h := ?_); intro v3 w3 ho3 hb3; refine cut_here ?_)
    rw [← HCAB.out] at ho3
    have hb13 := hb12.trans hb3
    have hX3 := hX1.below hb13
    have hY3 := hY0.below hb13
    have hb03 := bthen hbb hb13 hbb.size
    have HP1 := Lib.hid (rput_any hX3 m _ (a ++ b) (Stays.of_own hX3 ho3) (by have := HAB.out; simp only [List.length_nil]; omega) hb03.size)
    clear hB2 hone2 ho2 hb3 hb12
    unfold CutHere
    go_wp2_with fail
    refine HP1.out.mono ?_
    rw [HPC.out]
    rintro e w4 ⟨rfl, v4, hX4, hm4⟩
    obtain ⟨hY4, hap4⟩ := hX3.other hY3 (by omega) (apart_nil _) hm4
    have hb04 := hb03.trans (hm4.below hX3.1 hX3.rows hb03.size)
    have HP2 := Lib.hid (rput_any hY4 m _ a (Stays.of_sli (HA.out.below hb04) hY4.1 hY4.rows hb04.size) (by rw [HNA.out]; simp only [List.length_nil]; omega) hb04.size)
    go_wp2_with fail
    refine HP2.out.mono ?_
    rw [HPA.out]
    rintro e w5 ⟨rfl, v5, hY5, hm5⟩
    obtain ⟨hX5, hap5⟩ := hY4.other hX4 (by omega) hap4.symm hm5
    have hb05 := hb04.trans (hm5.below hY4.1 hY4.rows hb04.size)
    simp only at hX5 hY5
    go_wp2_with fail
    refine (wlen_any hY5).mono ?_
    rw [HCLA.out]
    rintro e w6 ⟨rfl, rfl⟩
    have HP3 := Lib.hid (rput_any hY5 m _ b (Stays.of_sli (HB.out.below hb05) hY5.1 hY5.rows hb05.size) (by rw [HNB.out]; have := HSA.out; omega) hb05.size)
    go_wp2_with fail
    refine HP3.out.mono ?_
    rw [HPB.out]
    rintro e w6 ⟨rfl, v6, hY6, hm6⟩
    obtain ⟨hX6, hap6⟩ := hY5.other hX5 (by omega) hap5 hm6
    have hb06 := hb05.trans (hm6.below hY5.1 hY5.rows hb05.size)
    simp only at hX6 hY6
    have hl40 : (La ++ Lb).length ≤ 1099511627776 := by have := HLAB.out; omega
    go_wp2_with fail
    refine (wbytes_any hY6 hl40).mono ?_
    rintro e w7 ⟨v7, lb, rfl, hP7, ho7, hb67⟩
    have hb07 := bthen hb06 hb67 hb06.size
    have hX7 := hX6.below hb67
    have hY7 := hY6.below hb67
    obtain ⟨A7, n7, c7, rfl⟩ := ho7.shape
    have hrd1 := HR1.out lb hP7
    have hrd2 := HR2.out lb hP7
    simp only [List.length_nil, Nat.zero_add] at hrd1
    have hlb40 : lb.length ≤ 1099511627776 := by have := hP7.len; have := HLAB.out; omega
    have HR12 := Lib.hid hrd1; have HR22 := Lib.hid hrd2
    clear hrd1 hrd2
    go_wp2_with fail
    refine (bnew_any _ lb _ ho7.sli hP7.byte hlb40).mono ?_
    rintro e w8 ⟨g8, rfl, hR8, hg8, hb78⟩
    have hb08 := bthen hb07 hb78 hb07.size
    have hX8 := hX7.below hb78
    have hY8 := hY7.below hb78
    go_wp2_with fail
    refine (wbytes_any hX8 hl40).mono ?_
    rintro e w9 ⟨v9, l9, rfl, hP9, ho9, hb89⟩
    obtain rfl := hP7.uniq hP9
    have hb09 := bthen hb08 hb89 hb08.size
    have hX9 := hX8.below hb89
    have hY9 := hY8.below hb89
    have hR9 := hR8.below hb89
    go_wp2_with fail
    refine (wbytes_any hY9 hl40).mono ?_
    rintro e w10 ⟨v10, l10, rfl, hP10, ho10, hb910⟩
    obtain rfl := hP7.uniq hP10
    have hb010 := bthen hb09 hb910 hb09.size
    have hX10 := hX9.below hb910
    have hY10 := hY9.below hb910
    have hR10 := hR9.below hb910
    go_wp2_with fail
    refine (same_self _ _ lb w10 _ _ (ho9.sli.below hb910) ho10.sli hP7.byte).mono ?_
    rintro e w11 ⟨rfl, rfl⟩
    go_wp2_with fail
    refine (wlen_any hX10).mono ?_
    rintro e w11 ⟨rfl, rfl⟩
    go_wp2_with fail
    refine (wlen_any hY10).mono ?_
    rintro e w11 ⟨rfl, rfl⟩
    go_wp2_with fail
    refine (rget_any hR10 m na).mono ?_
    rw [HR12.out]
    rintro e w11 ⟨v11, a11, e11, rfl, ho11, hR11, hg11, hok11⟩
    obtain ⟨rfl, rfl⟩ := hok11 rfl
    obtain ⟨A11, c11, rfl, _, _⟩ := ho11.formI
    simp only at ho11 hR11
    rw [HNA.out] at ho11 ⊢
    have hgb8 : w.heap.size ≤ g8 := Nat.le_trans hb07.size hg8
    have hb011 := bonly hb010 hg11 (Nat.le_refl _) hgb8
    go_wp2_with fail
    refine (bat_any hR11).mono ?_
    rintro e w12 ⟨rfl, rfl⟩
    go_wp2_with fail
    refine (rget_any hR11 m nb).mono ?_
    rw [HR22.out]
    rintro e w12 ⟨v12, a12, e12, rfl, ho12, hR12, hg12, hok12⟩
    obtain ⟨rfl, rfl⟩ := hok12 rfl
    obtain ⟨A12, c12, rfl, _, _⟩ := ho12.formI
    simp only at ho12 hR12
    rw [HNB.out] at ho12 ⊢
    have hb012 := bonly hb011 hg12 (Nat.le_refl _) hgb8
    obtain ⟨cs, hblk⟩ := hR11.blk
    have ho112 := ho11.far hblk (by decide) hg12
    go_wp2_with fail
    refine (sameInts_self _ _ a w12 _ _ ho112.sli (HA.out.below hb012) HL40A.out).mono ?_
    rintro e w13 ⟨rfl, q13, rfl⟩
    go_wp2_with fail
    refine (sameInts_self _ _ b (w12.drewN q13) _ _ (ho12.drewN q13).sli (HB.out.below (below_drewN hb012 q13)) HL40B.out).mono ?_
    rintro e w14 ⟨rfl, q14, rfl⟩
    go_wp2
    go_ret
    exact ⟨rfl, below_drewN hb012 (q13 + q14)⟩
  · have hor : (100 < a.length) ∨ (a.length ≤ 100 ∧ 100 < b.length) ∨ (a.length ≤ 100 ∧ b.length ≤ 100 ∧ k < 0) ∨ (a.length ≤ 100 ∧ b.length ≤ 100 ∧ 0 ≤ k ∧ 25 < k) := by omega
    have hl9 : a.length ≤ 9223372036854775807 := by unfold maxLen at hcm1; omega
    have hl8 : b.length ≤ 9223372036854775807 := by unfold maxLen at hcm2; omega
    clear hok hA hB
    rcases hor with h | ⟨h, h'⟩ | ⟨h, h', h''⟩ | ⟨h, h', h'', h3⟩
    all_goals
      go_enter Try.func8, Try.ntmps8
      go_wp2_with (go_at_call 11; refine (knownR_any w).mono ?_; rintro e w1 ⟨rfl, hb1⟩)
      go_ret
      exact ⟨rfl, hb1⟩
end Go.Proofs.Ytgogfmpichdejaa
