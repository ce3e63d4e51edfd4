/- prefix: Total; the law PrefixRoom. -/
import Derived.Test.YtfganboolaeloaaPfxQ
namespace Go.Proofs.Ytfganboolaeloaa
open Go.RowKit
set_option maxRecDepth 100000
set_option maxHeartbeats 1600000

theorem sumOn_succ (f : Nat → Nat) (j : Nat) : sumOn f (List.range (j + 1)) = sumOn f (List.range j) + f j := by
  unfold sumOn; rw [List.range_succ, List.map_append]; simp
theorem tot_mul {x y : Nat} (hx : x ≤ 1099511627776) (hy : y ≤ 64) : x * y ≤ 70368744177664 := Nat.le_trans (Nat.mul_le_mul hx hy) (by decide)
theorem tot_wrap {x y : Nat} (hx : x ≤ 1099511627776) (hy : y ≤ 64) : IntKind.i64.wrap ((x : Int) * (y : Int)) = ((x * y : Nat) : Int) := by
  have := tot_mul hx hy
  rw [← Int.natCast_mul, IntKind.wrap_i64]; omega
theorem total_any {w : World} {B1 B2 : Nat} {va vb : Value} {fs ls : List Nat} (h1 : Sli w B1 va (ci (ni fs))) (h2 : Sli w B2 vb (ci (ni ls))) (hf : ∀ i, atN fs i ≤ 1099511627776) (hl : ∀ i, atN ls i ≤ 64) (hm : min fs.length ls.length ≤ 1100) :
    Calls Try.prog 17 #[va, vb] w fun e w' => e = .returned (.int .i64 (totalN fs ls : Nat)) ∧ ∃ q, w' = w.drewN q := by
  obtain ⟨A1, c1, rfl, hc1, hm1⟩ := h1.formI
  obtain ⟨A2, c2, rfl, hc2, hm2⟩ := h2.formI
  obtain ⟨n1, hn1⟩ : ∃ n1, fs.length = n1 := ⟨_, rfl⟩
  obtain ⟨n2, hn2⟩ : ∃ n2, ls.length = n2 := ⟨_, rfl⟩
  have ht : totalN fs ls = sumOn (fun i => atN fs i * atN ls i) (List.range (min n1 n2)) := by unfold totalN; rw [hn1, hn2]
  rw [ht]
  rw [ni_len, hn1] at h1 hc1 ⊢
  rw [ni_len, hn2] at h2 hc2 ⊢
  rw [hn1, hn2] at hm
  have H1 := Lib.hid h1; have H2 := Lib.hid h2; have HF := Lib.hid hf; have HL := Lib.hid hl; have HN1 := Lib.hid hn1; have HN2 := Lib.hid hn2
  clear h1 h2 hf hl hn1 hn2 ht
  obtain ⟨m, hmm⟩ : ∃ m, min n1 n2 = m := ⟨_, rfl⟩
  have hmi : min (n1 : Int) (n2 : Int) = (m : Nat) := by omega
  have hmn1 : m ≤ n1 := by omega
  have hmn2 : m ≤ n2 := by omega
  rw [hmm] at hm ⊢
  clear hmm
  go_enter Try.func17, Try.ntmps17
  go_wp2_with fail
  go_loopw [5, 12] (fun vt vi wr => ∃ (j q T : Nat), j ≤ m ∧ vi = .int .i64 j ∧ vt = .int .i64 T ∧ Hid (T = sumOn (fun i => atN fs i * atN ls i) (List.range j)) ∧ T ≤ j * 70368744177664 ∧ Hid (wr = w.drewN q)) (fun _ vi _ => m - (intOf vi).toNat)
  case atStart => exact ⟨0, 0, 0, Nat.zero_le _, rfl, rfl, Lib.hid rfl, by omega, Lib.hid rfl⟩
  case round =>
    obtain ⟨j, q, T, hj, rfl, rfl, hT, hTb, hwr⟩ := hrel
    by_cases hlt : j < m
    · have hS1 : Sli wr B1 (.slice A1 n1 c1) (ci (ni fs)) := by rw [hwr.out]; exact H1.out
      have hS2 : Sli wr B2 (.slice A2 n2 c2) (ci (ni ls)) := by rw [hwr.out]; exact H2.out
      obtain ⟨b, o, rfl, hb, r1⟩ := hS1.atI (i := j) (by rw [ni_len, HN1.out]; omega)
      obtain ⟨b2, o2, rfl, hb2, r2⟩ := hS2.atI (i := j) (by rw [ni_len, HN2.out]; omega)
      rw [ni_at (by rw [HN1.out]; omega)] at r1
      rw [ni_at (by rw [HN2.out]; omega)] at r2
      have hx := HF.out j
      have hy := HL.out j
      have hs := sumOn_succ (fun i => atN fs i * atN ls i) j
      rw [← hT.out] at hs
      have hs : sumOn (fun i => atN fs i * atN ls i) (List.range (j + 1)) = T + atN fs j * atN ls j := hs
      generalize atN fs j = x at r1 hx hs
      generalize atN ls j = y at r2 hy hs
      have hw := tot_wrap hx hy
      have hb := tot_mul hx hy
      generalize x * y = p at hw hb hs
      have hTm : T ≤ 1100 * 70368744177664 := Nat.le_trans hTb (Nat.mul_le_mul_right _ (by omega))
      have hw2 : IntKind.i64.wrap ((T : Int) + (p : Int)) = ((T + p : Nat) : Int) := by rw [IntKind.wrap_i64]; omega
      have HS := Lib.hid hs
      have hn : ∀ k, Hid (wr.drewN k = w.drewN (q + k)) := fun k => Lib.hid (by rw [hwr.out, World.drewN_drewN])
      have hTp : T + p ≤ (j + 1) * 70368744177664 := by omega
      clear hS1 hS2 hs hTm hT hx hy
      go_wp2_with fail
      go_quiet (fail)
      go_wp2
      exact ⟨⟨j + 1, _, T + p, by omega, by simp, rfl, Lib.hid HS.out.symm, hTp, hn _⟩, by simp [intOf]; omega⟩
    · have : j = m := by omega
      subst this
      have HT' := Lib.hid hT.out
      clear hT
      go_wp2_with fail
      go_ret
      exact ⟨by rw [← HT'.out]; rfl, q, hwr.out⟩

/-- Lengths answers with this error. -/
def LenE (w : World) (va : Value) (most er : Int) : Prop := ∀ w1, Below w.heap.size w w1 → Calls Try.prog 19 #[va, .int .i64 most] w1 fun e w' => ∃ v', e = .returned (.tuple #[v', .int .i64 er]) ∧ Below w1.heap.size w1 w'
theorem room_err {w : World} {A : Option Addr} {c n L : Nat} {er1 er2 er3 : Int} (hn : n ≤ 24) (hL1 : 1 ≤ L) (hL2 : L ≤ 23) (h0 : er1 ≠ 0) (h6 : er1 ≠ 6 ∨ er2 = 0 ∨ er2 = 6)
    (E1 : LenE w (.slice A n c) (L : Nat) er1) (E2 : LenE w (.slice A n c) ((L : Int) + 1) er2) (E3 : LenE w (.slice A n c) 24 er3) :
    Calls Try.prog 10 #[.slice A n c, .int .i64 (L : Nat)] w fun e w' => e = .returned (.bool true) ∧ Below w.heap.size w w' := by
  have h00 : (er1 != 0) = true := by simp [h0]
  have H6 := Lib.hid h6; have HE1 := Lib.hid E1; have HE2 := Lib.hid E2; have HE3 := Lib.hid E3
  clear h0 h6 E1 E2 E3
  go_enter Try.func10, Try.ntmps10
  go_wp2_with fail
  refine (knownX_any w).mono ?_
  rintro e w1 ⟨rfl, hb1⟩
  have HB1 := Lib.hid hb1
  clear hb1
  go_wp2_with fail
  refine (HE1.out w1 HB1.out).mono ?_
  rintro e w2 ⟨v2, rfl, hb2⟩
  have HB2 := Lib.hid (bthen HB1.out hb2 HB1.out.size)
  clear hb2
  go_wp2_with fail
  refine (HE2.out w2 HB2.out).mono ?_
  rintro e w3 ⟨v3, rfl, hb3⟩
  have HB3 := Lib.hid (bthen HB2.out hb3 HB2.out.size)
  clear hb3
  go_wp2_with fail
  refine (HE3.out w3 HB3.out).mono ?_
  rintro e w4 ⟨v4, rfl, hb4⟩
  have HB4 := Lib.hid (bthen HB3.out hb4 HB3.out.size)
  clear hb4
  by_cases h6 : er1 = 6
  · have h26 := H6.out
    subst h6
    rcases h26 with h | h | h
    · exact absurd rfl h
    · subst h
      clear H6
      go_wp2
      go_ret
      exact ⟨rfl, HB4.out⟩
    · subst h
      clear H6
      go_wp2
      go_ret
      exact ⟨rfl, HB4.out⟩
  · have h66 : (er1 != 6) = true := by simp [h6]
    clear h6 H6
    go_wp2
    go_ret
    exact ⟨rfl, HB4.out⟩

theorem Lgd.le24 {l : List Int} {most : Int} {fs ss : List Nat} {L : Nat} (h : Lgd l most fs ss L) : ∀ i, atN (lensN fs ss L) i ≤ 64 := fun i =>
  Nat.le_trans (atN_le (lensN_full (M := 24) h.asc.coined h.one h.l1 h.l2 h.fit).1 i) (by decide)
theorem Lgd.room {l : List Int} {most : Int} {fs ss : List Nat} {L : Nat} (h : Lgd l most fs ss L) {M : Nat} (hM : L ≤ M) (hM2 : M ≤ 24) : Lgd l (M : Nat) fs ss M ∧ totalN fs (lensN fs ss M) ≤ totalN fs (lensN fs ss L) :=
  ⟨⟨h.eq, rfl, h.len1, h.len2, h.le, h.asc, Nat.le_trans h.l1 hM, hM2, h.some, Nat.le_trans h.fit (Nat.pow_le_pow_right (by decide) hM)⟩, lensN_room h.asc.coined h.one h.l1 hM h.fit⟩
theorem room_good {w : World} {A : Option Addr} {c n L : Nat} {l : List Int} {fs ss : List Nat} (hS : Sli w w.heap.size (.slice A n c) (ci l)) (hnl : l.length = n) (hn : n ≤ 24) (hL1 : 1 ≤ L) (hL2 : L ≤ 23) (hg : Lgd l (L : Nat) fs ss L) :
    Calls Try.prog 10 #[.slice A n c, .int .i64 (L : Nat)] w fun e w' => e = .returned (.bool true) ∧ Below w.heap.size w w' := by
  obtain ⟨hg2, ht2⟩ := hg.room (M := L + 1) (by omega) (by omega)
  obtain ⟨hg3, ht3⟩ := hg2.room (M := 24) (by omega) (by omega)
  have hfl : fs.length = n := by rw [← hnl, hg.eq, ni_len]
  have hfs := atN_le hg.le
  have e1 := hg.le24; have e2 := hg2.le24; have e3 := hg3.le24
  have hg2' : Lgd l ((L : Int) + 1) fs ss (L + 1) := hg2
  have hg3' : Lgd l 24 fs ss 24 := hg3
  have hSn : ∀ w1, Below w.heap.size w w1 → Sli w1 w.heap.size (.slice A n c) (ci (ni fs)) := fun w1 hb => by rw [← hg.eq]; exact hS.below hb
  have HG := Lib.hid hg; have HG2 := Lib.hid hg2'; have HG3 := Lib.hid hg3'; have HS := Lib.hid hS; have HFL := Lib.hid hfl; have HFS := Lib.hid hfs; have HE1 := Lib.hid e1; have HE2 := Lib.hid e2; have HE3 := Lib.hid e3; have HSN := Lib.hid hSn
  have hl1 : (lensN fs ss L).length = n := by rw [lensN_len, hfl]
  have hl2 : (lensN fs ss (L + 1)).length = n := by rw [lensN_len, hfl]
  have hl3 : (lensN fs ss 24).length = n := by rw [lensN_len, hfl]
  obtain ⟨t1, ht1e⟩ : ∃ t, totalN fs (lensN fs ss L) = t := ⟨_, rfl⟩
  obtain ⟨t2, ht2e⟩ : ∃ t, totalN fs (lensN fs ss (L + 1)) = t := ⟨_, rfl⟩
  obtain ⟨t3, ht3e⟩ : ∃ t, totalN fs (lensN fs ss 24) = t := ⟨_, rfl⟩
  rw [ht1e, ht2e] at ht2
  rw [ht2e, ht3e] at ht3
  have HT1 := Lib.hid ht1e; have HT2 := Lib.hid ht2e; have HT3 := Lib.hid ht3e; have HL1 := Lib.hid hl1; have HL2 := Lib.hid hl2; have HL3 := Lib.hid hl3; have HN := Lib.hid hn
  clear hg hg2 hg3 hg2' hg3' hS hfl hfs e1 e2 e3 hl1 hl2 hl3 ht1e ht2e ht3e hSn hnl
  go_enter Try.func10, Try.ntmps10
  go_wp2_with fail
  refine (knownX_any w).mono ?_
  rintro e w1 ⟨rfl, hb1⟩
  have HB1 := Lib.hid hb1
  clear hb1
  go_wp2_with fail
  refine (HG.out.calls (HS.out.below HB1.out) HB1.out.size).mono ?_
  rintro e w2 ⟨v2, rfl, ho2, hb2⟩
  obtain ⟨A2, c2, rfl, _, _⟩ := ho2.formI
  rw [ni_len, HL1.out] at ho2 ⊢
  have HB2 := Lib.hid (bthen HB1.out hb2 HB1.out.size)
  have HO2 := Lib.hid ho2.sli
  clear hb2 ho2
  go_wp2_with fail
  refine (HG2.out.calls (HS.out.below HB2.out) HB2.out.size).mono ?_
  rintro e w3 ⟨v3, rfl, ho3, hb3⟩
  obtain ⟨A3, c3, rfl, _, _⟩ := ho3.formI
  rw [ni_len, HL2.out] at ho3 ⊢
  have HB3 := Lib.hid (bthen HB2.out hb3 HB2.out.size)
  have HO3 := Lib.hid ho3.sli
  have HO23 := Lib.hid (HO2.out.below hb3)
  have hs23 := hb3.size
  clear hb3 ho3
  go_wp2_with fail
  refine (HG3.out.calls (HS.out.below HB3.out) HB3.out.size).mono ?_
  rintro e w4 ⟨v4, rfl, ho4, hb4⟩
  obtain ⟨A4, c4, rfl, _, _⟩ := ho4.formI
  rw [ni_len, HL3.out] at ho4 ⊢
  have HB4 := Lib.hid (bthen HB3.out hb4 HB3.out.size)
  have HO4 := Lib.hid ho4.sli
  have HO24 := Lib.hid (HO23.out.below (hb4.mono hs23))
  have HO34 := Lib.hid (HO3.out.below hb4)
  clear hb4 ho4
  have T1 := fun q => total_any (w := w4.drewN q) (HSN.out w4 HB4.out) HO24.out HFS.out HE1.out (by have := HN.out; have := HFL.out; omega)
  have T2 := fun q => total_any (w := w4.drewN q) (HSN.out w4 HB4.out) HO34.out HFS.out HE2.out (by have := HN.out; have := HFL.out; omega)
  have T3 := fun q => total_any (w := w4.drewN q) (HSN.out w4 HB4.out) HO4.out HFS.out HE3.out (by have := HN.out; have := HFL.out; omega)
  rw [HT1.out] at T1
  rw [HT2.out] at T2
  rw [HT3.out] at T3
  have HT1 := Lib.hid T1; have HT2 := Lib.hid T2; have HT3 := Lib.hid T3
  clear T1 T2 T3
  go_wp2_with fail
  refine (HT2.out 0).mono ?_
  rintro e w5 ⟨rfl, q5, rfl⟩
  go_wp2_with fail
  refine (HT1.out q5).mono ?_
  rintro e w6 ⟨rfl, q6, rfl⟩
  rw [World.drewN_drewN]
  go_wp2_with fail
  refine (HT3.out _).mono ?_
  rintro e w7 ⟨rfl, q7, rfl⟩
  rw [World.drewN_drewN]
  go_wp2_with fail
  refine (HT2.out _).mono ?_
  rintro e w8 ⟨rfl, q8, rfl⟩
  rw [World.drewN_drewN]
  go_wp2
  go_ret
  exact ⟨rfl, below_drewN HB4.out _⟩

theorem prefixRoom_walk (va : Value) (l : List Int) (most : Int) (w : World) (hA : Sli w w.heap.size va (ci l)) (_ : -9223372036854775808 ≤ most) (_ : most ≤ 9223372036854775807) :
    Calls Try.prog 10 #[va, .int .i64 most] w fun e w' => e = .returned (.bool true) ∧ Below w.heap.size w w' := by
  have HS := Lib.hid hA
  obtain ⟨A, c, rfl, hlc, hcm⟩ := hA.formI
  obtain ⟨n, hnl⟩ : ∃ n, l.length = n := ⟨_, rfl⟩
  rw [hnl] at hlc HS ⊢
  have HNL := Lib.hid hnl
  clear hA hnl
  by_cases h24 : 24 < n
  · clear HS
    go_enter Try.func10, Try.ntmps10
    go_wp2_with (go_at_call 11; refine (knownX_any w).mono ?_; rintro e w1 ⟨rfl, hb1⟩)
    go_ret
    exact ⟨rfl, hb1⟩
  by_cases hm1 : most < 1
  · clear HS
    go_enter Try.func10, Try.ntmps10
    go_wp2_with (go_at_call 11; refine (knownX_any w).mono ?_; rintro e w1 ⟨rfl, hb1⟩)
    go_ret
    exact ⟨rfl, hb1⟩
  by_cases hm2 : 24 ≤ most
  · clear HS
    go_enter Try.func10, Try.ntmps10
    go_wp2_with (go_at_call 11; refine (knownX_any w).mono ?_; rintro e w1 ⟨rfl, hb1⟩)
    go_ret
    exact ⟨rfl, hb1⟩
  obtain ⟨L, rfl⟩ := Int.eq_ofNat_of_zero_le (show 0 ≤ most by omega)
  have hL1 : 1 ≤ L := by omega
  have hL2 : L ≤ 23 := by omega
  have hn : n ≤ 24 := by omega
  have hSw := fun (w1 : World) (hb : Below w.heap.size w w1) => HS.out.below hb
  by_cases hf : freqsB l = false
  · have hE : ∀ m : Int, LenE w (.slice A n c) m 1 := fun m w1 hb => (lengths_bad (hSw w1 hb) (.inl hf)).mono fun e w' ⟨h1, h2⟩ => ⟨_, h1, by subst h2; exact Below.refl _ _⟩
    exact room_err hn hL1 hL2 (by decide) (.inl (by decide)) (hE _) (hE _) (hE _)
  · obtain ⟨fs, rfl, h1, h2, h3⟩ := freqs_nat (l := l) (by simpa using hf)
    obtain ⟨ss, hAs⟩ := Ascd.is fs
    have hfl : fs.length = n := by rw [← HNL.out, ni_len]
    have hus : ss.length ≤ fs.length := by
      rw [hAs.1.length_eq]; unfold usedN; exact Nat.le_trans (List.length_filter_le _ _) (by simp)
    have hover : ∀ M : Nat, 1 ≤ M → M ≤ 24 → 2 ^ M < ss.length → LenE w (.slice A n c) (M : Nat) 6 := fun M a1 a2 hu w1 hb => (lengths_over (hSw w1 hb) hb.size h1 h2 h3 hAs a1 a2 hu).mono fun e w' ⟨x1, x2⟩ => ⟨_, x1, x2⟩
    have hgood : ∀ M : Nat, 1 ≤ M → M ≤ 24 → ss ≠ [] → ss.length ≤ 2 ^ M → LenE w (.slice A n c) (M : Nat) 0 := fun M a1 a2 a3 hu w1 hb => (lengths_any (hSw w1 hb) hb.size h1 h2 h3 hAs a1 a2 a3 hu).mono fun e w' ⟨v', x1, _, x2⟩ => ⟨v', x1, x2⟩
    by_cases h0 : ss = []
    · subst h0
      have hE : ∀ M : Nat, 1 ≤ M → M ≤ 24 → LenE w (.slice A n c) (M : Nat) 7 := fun M a1 a2 w1 hb => (lengths_none (hSw w1 hb) hb.size h1 h2 h3 hAs a1 a2).mono fun e w' ⟨x1, x2⟩ => ⟨_, x1, x2⟩
      exact room_err hn hL1 hL2 (by decide) (.inl (by decide)) (hE L hL1 (by omega)) (hE (L + 1) (by omega) (by omega)) (hE 24 (by omega) (by omega))
    · have h3g := hgood 24 (by omega) (by omega) h0 (Nat.le_trans hus (by rw [hfl]; exact Nat.le_trans hn (by decide)))
      by_cases hu : 2 ^ L < ss.length
      · by_cases hu2 : 2 ^ (L + 1) < ss.length
        · exact room_err hn hL1 hL2 (by decide) (.inr (.inr rfl)) (hover L hL1 (by omega) hu) (hover (L + 1) (by omega) (by omega) hu2) h3g
        · exact room_err hn hL1 hL2 (by decide) (.inr (.inl rfl)) (hover L hL1 (by omega) hu) (hgood (L + 1) (by omega) (by omega) h0 (by omega)) h3g
      · exact room_good HS.out HNL.out hn hL1 hL2 ⟨rfl, rfl, h1, h2, h3, hAs, hL1, by omega, h0, by omega⟩
end Go.Proofs.Ytfganboolaeloaa
