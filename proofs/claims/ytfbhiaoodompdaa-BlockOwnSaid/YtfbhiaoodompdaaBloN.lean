/- block: the reference's Pack of samples, and of blocks; Print. -/
import Derived.Test.YtfbhiaoodompdaaBloL
import Derived.Test.YtfbhiaoodompdaaSumG
import Derived.Deep.RegionHeld3
namespace Go.Proofs.Ytfbhiaoodompdaa
open Go.RowKit
set_option maxRecDepth 100000
set_option maxHeartbeats 1600000

theorem qdepth_any (n : Int) (w : World) : Calls Try.prog 57 #[.int .i64 n] w fun e w' => e = .returned (.bool (packB n)) ∧ w = w' := by
  unfold packB
  by_cases h1 : 4 ≤ n <;> by_cases h2 : n ≤ 24
  all_goals
    simp only [h1, h2, decide_true, decide_false, Bool.and_true, Bool.and_false]
    go_enter Try.func57, Try.ntmps57
    go_wp2
    go_ret
    exact ⟨rfl, rfl⟩
theorem leB_succ : ∀ k n, leB (k + 1) n = leB k n ++ [n / 256 ^ k % 256]
  | 0, n => by simp [leB]
  | k + 1, n => by
    rw [leB, leB_succ k, leB, List.cons_append, Nat.div_div_eq_div_mul]
    congr 2
    rw [Nat.pow_succ, Nat.mul_comm]
theorem qsmallB_any (n s : Nat) (w : World) (hs : s ≤ 8) :
    Calls Try.prog 58 #[.int .u64 n, .int .i64 s] w fun e w' => ∃ v', e = .returned v' ∧ Own w' w.heap.size 5 v' (cu8 (leB s n)) ∧ Below w.heap.size w w' := by
  go_enter Try.func58, Try.ntmps58
  go_wp2
  go_loopw [5, 6] (fun v ii wr => ∃ i : Nat, i ≤ s ∧ ii = .int .i64 i ∧ Own wr w.heap.size 5 v (cu8 (leB i n)) ∧ Below w.heap.size w wr) (fun _ ii _ => s - (intOf ii).toNat)
  case atStart => exact ⟨0, Nat.zero_le _, rfl, Own.nil _ _ _, Below.refl _ _⟩
  case round =>
    obtain ⟨i, hi, rfl, ho, hb⟩ := hrel
    by_cases his : i < s
    · have hI : (i : Int) < (s : Int) := by omega
      have h8 : (i : Int) < 8 := by omega
      have hlen : (cu8 (leB i n)).length + 1 ≤ 8796093022208 := by rw [cu8_len, leB_len]; omega
      have hst : cu8 (leB i n) ++ [.int .u8 ((n / 256 ^ i % 256 : Nat) : Int)] = cu8 (leB (i + 1) n) := by rw [leB_succ, cu8_app]; rfl
      have hval : (n : Int) / 2 ^ (8 * i) % 256 = ((n / 256 ^ i % 256 : Nat) : Int) := by rw [pow256]; simp
      have HST := Lib.hid hst; have HLEN := Lib.hid hlen; have HV := Lib.hid hval
      clear hst hlen hval
      go_wp2_with (at_builtin; refine wpl_app1 ho hb.size HLEN.out Try.underlying29 info_u8 rfl (by decide) rfl rfl rfl rfl rfl (h := ?_); intro v5 w5 ho5 hb5)
      rw [HV.out, HST.out] at ho5
      exact ⟨⟨i + 1, by omega, by simp, ho5, hb.trans hb5⟩, by simp [intOf]; omega⟩
    · have hin : i = s := by omega
      subst hin
      go_wp2
      go_ret
      exact ⟨_, rfl, ho, hb⟩
theorem qpack_any (v : Value) (l : List Int) (n : Int) (w : World) (B : Nat) (hS : Sli w B v (ci l)) (hB : B ≤ w.heap.size) (hn : l.length ≤ 1099511627776) :
    Calls Try.prog 40 #[v, .int .i64 n] w (BytePost (packR l n) w) := by
  obtain ⟨A, c, rfl, hlc, hcm⟩ := hS.formI
  have hs := fun w => qdepth_any n w
  by_cases hsn : packB n = true
  · rw [hsn] at hs
    have hbad : l.all (fun x => fitsB x n) = false → packR l n = ([], 6) := fun h => by unfold packR; rw [if_pos hsn, if_neg (by rw [h]; simp)]
    have hgood : l.all (fun x => fitsB x n) = true → packR l n = (l.flatMap (pk (szOf n)), 0) := fun h => by unfold packR; rw [if_pos hsn, if_pos h]
    have hsz := szOf_cases hsn
    obtain ⟨hn4, hn24⟩ := packB_iff.1 hsn
    have h8 : (n + 7) / 8 = (szOf n : Nat) := by unfold szOf; omega
    generalize szOf n = s at *
    have HS := Lib.hid hs; have HBAD := Lib.hid hbad; have HGOOD := Lib.hid hgood
    clear hs hbad hgood hsn
    generalize packR l n = r at *
    obtain ⟨m, hml⟩ : ∃ m, l.length = m := ⟨_, rfl⟩
    rw [hml] at hS hlc hn ⊢
    have HML := Lib.hid hml
    clear hml
    go_enter Try.func40, Try.ntmps40
    go_wp2_with (go_at_call 57; refine (HS.out _).mono ?_; rintro e w1 ⟨rfl, rfl⟩)
    go_loopw [6, 7] (fun v ii wr => ∃ i : Nat, i ≤ m ∧ ii = .int .i64 i ∧ Own wr w.heap.size 5 v (cu8 ((l.take i).flatMap (pk s))) ∧ Below w.heap.size w wr ∧ Hid ((l.take i).all (fun x => fitsB x n) = true)) (fun _ ii _ => m - (intOf ii).toNat)
    case atStart => exact ⟨0, by omega, rfl, Own.nil _ _ _, Below.refl _ _, rfl⟩
    case round =>
      obtain ⟨i, hi, rfl, ho, hb, hall⟩ := hrel
      by_cases him : i < m
      · have hil : i < l.length := by rw [HML.out]; exact him
        obtain ⟨b, o, rfl, hb1, hcell⟩ := (hS.below (hb.mono hB)).atI hil
        have htk : (l.take (i + 1)).all (fun x => fitsB x n) = ((l.take i).all (fun x => fitsB x n) && fitsB l[i] n) := fit_take1 hil
        have hno : fitsB l[i] n = false → l.all (fun x => fitsB x n) = false := fun h => List.all_eq_false.2 ⟨l[i], List.getElem_mem _, by rw [h]; simp⟩
        have hmp : cu8 ((l.take i).flatMap (pk s)) ++ cu8 (pk s l[i]) = cu8 ((l.take (i + 1)).flatMap (pk s)) := by
          rw [List.take_succ_eq_append_getElem hil, List.flatMap_append, cu8_app]; simp
        have hlen : (cu8 ((l.take i).flatMap (pk s))).length ≤ 3298534883328 := by
          rw [cu8_len, pks_len, List.length_take]
          have : min i l.length ≤ 1099511627776 := by omega
          rcases hsz with rfl | rfl | rfl <;> omega
        have HT := Lib.hid htk; have HNO := Lib.hid hno; have HMP := Lib.hid hmp; have HLEN := Lib.hid hlen; clear htk hno hmp hlen
        generalize l[i] = x at *
        clear hil
        have hx := fun w => rfits_any x n w
        have hx64 := u64I_cast x
        have hps : pk s x = leB s (u64I x) := rfl
        generalize u64I x = y at *
        have HPS := Lib.hid hps; have HX64 := Lib.hid hx64; clear hx64 hps
        cases hwx : fitsB x n
        · rw [hwx] at hx
          have hf := Lib.hid (HNO.out hwx)
          have HX := Lib.hid hx
          clear hx hwx
          go_wp2_with (go_at_call 45; refine (HX.out _).mono ?_; rintro e w1 ⟨rfl, rfl⟩)
          go_ret2
          rw [HBAD.out hf.out]
          exact ⟨_, rfl, Own.nil _ _ _, hb⟩
        · rw [hwx] at hx
          have ht := Lib.hid (HT.out.trans (by rw [hall.out, hwx, Bool.true_and]))
          have HX := Lib.hid hx
          have hs8 : s ≤ 8 := by omega
          clear hx hwx
          go_wp2_with (first
            | (go_at_call 45; refine (HX.out _).mono ?_; rintro e w1 ⟨rfl, rfl⟩)
            | (go_at_call 58; go_loud (rw [HX64.out]; refine (qsmallB_any y s _ hs8).mono ?_; rintro e w3 ⟨v3, rfl, ho3, hb3⟩; have ho' := ho.kept hb3; have hB3 : Below w.heap.size w w3 := hb.trans (hb3.mono hb.size); have hone := cu8_one (leB s y); have hroom : (cu8 ((l.take i).flatMap (pk s))).length + (cu8 (leB s y)).length ≤ 8796093022208 := by (have h1 := HLEN.out; rw [cu8_len (leB s y), leB_len]; omega)))
            | (at_builtin; go_loud (refine wpl_appN ho' ho3.sli hB3.size hroom Try.underlying29 info_u8 rfl (by decide) hone rfl rfl rfl rfl (h := ?_)); intro v4 w4 ho4 hb4))
          rw [← HPS.out, HMP.out] at ho4
          exact ⟨⟨i + 1, by omega, by simp, ho4, hB3.trans hb4, ht⟩, by simp [intOf]; omega⟩
      · have h1 : i = l.length := by rw [HML.out]; omega
        rw [h1, List.take_length] at ho hall
        have HALL := Lib.hid hall.out
        clear hall
        go_wp2
        go_ret2
        rw [HGOOD.out HALL.out]
        exact ⟨_, rfl, ho, hb⟩
  · have hr : packR l n = ([], 1) := by unfold packR; rw [if_neg hsn]
    rw [Bool.eq_false_iff.2 hsn] at hs
    have HS := Lib.hid hs
    rw [hr]
    clear hs hr hsn
    go_enter Try.func40, Try.ntmps40
    go_wp2_with (go_at_call 57; refine (HS.out _).mono ?_; rintro e w1 ⟨rfl, rfl⟩)
    go_ret2
    exact ⟨_, rfl, Own.nil _ _ _, Below.refl _ _⟩

theorem qpackBk_any (b : Int) (v : Value) (rs : List (List Int)) (w : World) (B : Nat) (hR : Rws w B v rs) (hB : B ≤ w.heap.size) :
    Calls Try.prog 15 #[.agg #[.int .i64 b, v]] w (BytePost (packBl b rs) w) := by
  replace hR := hR.more hB
  obtain ⟨A, c, rfl, hlc, hcm⟩ := hR.form
  obtain ⟨wA, hwA⟩ : ∃ wA, w.alloc (.cells #[.int .i64 b, .slice A rs.length c] 26) = wA := ⟨_, rfl⟩
  have hX := Bx.start (b := b) hR
  rw [hwA] at hX
  have hmay := fun (w1 : World) (h : Bx w w1 w.heap.size b (.slice A rs.length c) rs) => qmayBk_any b _ rs w1 w.heap.size h.r h.size
  have hwe := fun (w1 : World) (h : Bx w w1 w.heap.size b (.slice A rs.length c) rs) => qweaveBk_any b _ rs w1 w.heap.size h.r h.size
  have hpk := fun (w1 : World) (v : Value) (h : Sli w1 w1.heap.size v (ci (weaveR b rs))) => qpack_any v _ b w1 _ h (Nat.le_refl _) (weaveR_len b rs)
  have HWA := Lib.hid hwA; have HMAY := Lib.hid hmay
  clear hwA hmay
  by_cases hm : mayBk b rs = true
  · have hw : weaveR b rs = weaveB rs (lenB rs) := by unfold weaveR; rw [if_pos hm]
    have hpi := packBl_is hm
    rw [← hw] at hpi
    rw [hpi] at hpk
    rw [hm] at HMAY
    have HWE := Lib.hid hwe; have HPK := Lib.hid hpk
    clear hm hw hpi hwe hpk hR
    generalize packBl b rs = r at *
    go_enter Try.func15, Try.ntmps15
    go_wp2_with fail
    rw [HWA.out]
    have x0 := hX.c0
    have x1 := hX.c1
    go_wp2_with fail
    refine (HMAY.out _ hX).mono ?_
    rintro e w1 ⟨rfl, hb1⟩
    have hX1 := hX.on hb1
    clear x0 x1 hX
    have hX1d := hX1.drew
    have x0 := hX1.c0
    have x1 := hX1.c1
    go_wp2
    go_region_held3 (fun w' => w'.cell? ⟨w.heap.size, 0, none⟩ = some (.int .i64 b) ∧ w'.cell? ⟨w.heap.size, 1, none⟩ = some (.slice A rs.length c))
      (first | go_keep | exact ⟨hX2.c0, hX2.c1⟩ | exact ⟨hX3.c0, hX3.c1⟩)
      (first
        | (go_at_call 24; refine (HWE.out _ hX1d).mono ?_; rintro e w2 ⟨v2, rfl, ho2, hb2⟩; have hX2 := hX1d.on hb2)
        | (go_at_call 40; refine (HPK.out _ _ ho2.sli).mono ?_; rintro e w3 ⟨v3, rfl, ho3, hb3⟩; have hX3 := hX2.on hb3))
    all_goals
      go_wp2
      go_ret2
      exact ⟨_, rfl, ho3.mono hX2.size, hX3.be⟩
  · have hr : packBl b rs = ([], 1) := by unfold packBl; rw [if_neg hm]
    rw [Bool.eq_false_iff.2 hm] at HMAY
    rw [hr]
    clear hm hr hwe hpk hR
    go_enter Try.func15, Try.ntmps15
    go_wp2_with fail
    rw [HWA.out]
    have x0 := hX.c0
    have x1 := hX.c1
    go_wp2_with fail
    refine (HMAY.out _ hX).mono ?_
    rintro e w1 ⟨rfl, hb1⟩
    have hX1 := hX.on hb1
    clear x0 x1 hX
    go_wp2
    go_ret2
    exact ⟨_, rfl, Own.nil _ _ _, hX1.be⟩

def printB (b : Int) (rs : List (List Int)) : Nat := if mayBk b rs = true then hs 0 (packL b (weaveB rs (lenB rs))) else 0
theorem packBl_ok {b : Int} {rs : List (List Int)} (h : mayBk b rs = true) : packBl b rs = (packL b (weaveB rs (lenB rs)), 0) := by unfold packBl; rw [if_pos h]
theorem packBl_no {b : Int} {rs : List (List Int)} (h : ¬ mayBk b rs = true) : packBl b rs = ([], 1) := by unfold packBl; rw [if_neg h]
theorem printBk_any (b : Int) (v : Value) (rs : List (List Int)) (w : World) (B : Nat) (hR : Rws w B v rs) (hB : B ≤ w.heap.size) :
    Calls Try.prog 26 #[.agg #[.int .i64 b, v]] w fun e w' => e = .returned (.int .u64 (printB b rs : Nat)) ∧ Below w.heap.size w w' := by
  replace hR := hR.more hB
  obtain ⟨A, c, rfl, hlc, hcm⟩ := hR.form
  obtain ⟨wA, hwA⟩ : ∃ wA, w.alloc (.cells #[.int .i64 b, .slice A rs.length c] 26) = wA := ⟨_, rfl⟩
  have hX := Bx.start (b := b) hR
  rw [hwA] at hX
  have hpk := fun (w1 : World) (h : Bx w w1 w.heap.size b (.slice A rs.length c) rs) => packBk_any b _ rs w1 w.heap.size h.r h.size
  have HWA := Lib.hid hwA
  clear hwA
  by_cases hm : mayBk b rs = true
  · rw [packBl_ok hm] at hpk
    have hlen : (packL b (weaveB rs (lenB rs))).length ≤ 1099511627776 := by
      have := packBl_len b rs
      rw [packBl_ok hm] at this; dsimp only at this; omega
    have hbyte := packL_byte b (weaveB rs (lenB rs))
    have hpr : printB b rs = hs 0 (packL b (weaveB rs (lenB rs))) := by unfold printB; rw [if_pos hm]
    rw [hpr]
    have HPK := Lib.hid hpk
    clear hpk hm hR hpr
    generalize packL b (weaveB rs (lenB rs)) = p at *
    go_enter Try.func26, Try.ntmps26
    go_wp2_with fail
    rw [HWA.out]
    have x0 := hX.c0
    have x1 := hX.c1
    go_wp2_with fail
    refine (HPK.out _ hX).mono ?_
    rintro e w1 ⟨v1, rfl, ho1, hb1⟩
    have hX1 := hX.on hb1
    clear x0 x1
    go_wp2_with fail
    refine (print_any v1 p w1 _ ho1.sli hbyte hlen).mono ?_
    rintro e w2 ⟨rfl, q, rfl⟩
    go_wp2
    go_ret
    exact ⟨rfl, below_drewN hX1.be q⟩
  · rw [packBl_no hm] at hpk
    have hpr : printB b rs = 0 := by unfold printB; rw [if_neg hm]
    rw [hpr]
    have HPK := Lib.hid hpk
    clear hpk hm hR hpr
    go_enter Try.func26, Try.ntmps26
    go_wp2_with fail
    rw [HWA.out]
    have x0 := hX.c0
    have x1 := hX.c1
    go_wp2_with fail
    refine (HPK.out _ hX).mono ?_
    rintro e w1 ⟨v1, rfl, ho1, hb1⟩
    have hX1 := hX.on hb1
    clear x0 x1
    go_wp2
    go_ret
    exact ⟨rfl, hX1.be⟩
theorem qprintBk_any (b : Int) (v : Value) (rs : List (List Int)) (w : World) (B : Nat) (hR : Rws w B v rs) (hB : B ≤ w.heap.size) :
    Calls Try.prog 27 #[.agg #[.int .i64 b, v]] w fun e w' => e = .returned (.int .u64 (printB b rs : Nat)) ∧ Below w.heap.size w w' := by
  replace hR := hR.more hB
  obtain ⟨A, c, rfl, hlc, hcm⟩ := hR.form
  obtain ⟨wA, hwA⟩ : ∃ wA, w.alloc (.cells #[.int .i64 b, .slice A rs.length c] 26) = wA := ⟨_, rfl⟩
  have hX := Bx.start (b := b) hR
  rw [hwA] at hX
  have hpk := fun (w1 : World) (h : Bx w w1 w.heap.size b (.slice A rs.length c) rs) => qpackBk_any b _ rs w1 w.heap.size h.r h.size
  have HWA := Lib.hid hwA
  clear hwA
  by_cases hm : mayBk b rs = true
  · rw [packBl_ok hm] at hpk
    have hlen : (packL b (weaveB rs (lenB rs))).length ≤ 1099511627776 := by
      have := packBl_len b rs
      rw [packBl_ok hm] at this; dsimp only at this; omega
    have hbyte := packL_byte b (weaveB rs (lenB rs))
    have hpr : printB b rs = hs 0 (packL b (weaveB rs (lenB rs))) := by unfold printB; rw [if_pos hm]
    rw [hpr]
    have HPK := Lib.hid hpk
    clear hpk hm hR hpr
    generalize packL b (weaveB rs (lenB rs)) = p at *
    go_enter Try.func27, Try.ntmps27
    go_wp2_with fail
    rw [HWA.out]
    have x0 := hX.c0
    have x1 := hX.c1
    go_wp2_with fail
    refine (HPK.out _ hX).mono ?_
    rintro e w1 ⟨v1, rfl, ho1, hb1⟩
    have hX1 := hX.on hb1
    clear x0 x1
    go_wp2_with fail
    refine (qprint_any v1 p w1 _ ho1.sli hbyte hlen).mono ?_
    rintro e w2 ⟨rfl, q, rfl⟩
    go_wp2
    go_ret
    exact ⟨rfl, below_drewN hX1.be q⟩
  · rw [packBl_no hm] at hpk
    have hpr : printB b rs = 0 := by unfold printB; rw [if_neg hm]
    rw [hpr]
    have HPK := Lib.hid hpk
    clear hpk hm hR hpr
    go_enter Try.func27, Try.ntmps27
    go_wp2_with fail
    rw [HWA.out]
    have x0 := hX.c0
    have x1 := hX.c1
    go_wp2_with fail
    refine (HPK.out _ hX).mono ?_
    rintro e w1 ⟨v1, rfl, ho1, hb1⟩
    have hX1 := hX.on hb1
    clear x0 x1
    go_wp2
    go_ret
    exact ⟨rfl, hX1.be⟩

end Go.Proofs.Ytfbhiaoodompdaa
