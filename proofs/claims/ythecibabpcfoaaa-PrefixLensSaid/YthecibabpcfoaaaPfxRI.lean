/- prefix: the reference's PrefixLengths of frequencies that are not right; the law PrefixLens. -/
import Derived.Test.YthecibabpcfoaaaPfxRG
import Derived.Test.YthecibabpcfoaaaPfxE
import Derived.Test.YthecibabpcfoaaaIntR
namespace Go.Proofs.Ythecibabpcfoaaa
open Go.RowKit
set_option maxRecDepth 100000
set_option maxHeartbeats 8000000

theorem qlengths_arg {w : World} {B : Nat} {v : Value} {l : List Int} {most : Int} (hS : Sli w B v (ci l)) (h : l.length < 1 ∨ 1024 < l.length ∨ most < 1 ∨ 24 < most) :
    Calls Try.prog 20 #[v, .int .i64 most] w fun e w' => e = .returned (.tuple #[.slice none 0 0, .int .i64 1]) ∧ w = w' := by
  obtain ⟨A, c, rfl, hlc, hcm⟩ := hS.formI
  clear hS
  generalize l.length = n at *
  by_cases h1 : n < 1
  · have h1' : n = 0 := by omega
    subst h1'
    clear h h1
    go_enter Try.func20, Try.ntmps20
    go_wp2
    go_ret2
    exact ⟨rfl, rfl⟩
  · by_cases h2 : 1024 < n
    · have h2I : (1024 : Int) < (n : Int) := by omega
      clear h h1
      go_enter Try.func20, Try.ntmps20
      go_wp2
      go_ret2
      exact ⟨rfl, rfl⟩
    · have h1I : ¬ (n : Int) < 1 := by omega
      have h2I : ¬ (1024 : Int) < (n : Int) := by omega
      by_cases h3 : most < 1
      · clear h h1 h2
        go_enter Try.func20, Try.ntmps20
        go_wp2
        go_ret2
        exact ⟨rfl, rfl⟩
      · have h4 : 24 < most := by omega
        clear h h1 h2
        go_enter Try.func20, Try.ntmps20
        go_wp2
        go_ret2
        exact ⟨rfl, rfl⟩
/-- The first frequency that is not right. -/
theorem first_bad : ∀ (l : List Int), l.all okF = false → ∃ fs y, ∃ l2, l = ni fs ++ y :: l2 ∧ (∀ x ∈ fs, x ≤ 1099511627776) ∧ okF y = false
  | [], h => by simp at h
  | x :: l, h => by
    cases hx : okF x with
    | false => exact ⟨[], x, l, rfl, by simp, hx⟩
    | true =>
      rw [List.all_cons, hx, Bool.true_and] at h
      obtain ⟨fs, y, l2, e, h1, h2⟩ := first_bad l h
      have hx2 : 0 ≤ x ∧ x ≤ 1099511627776 := of_decide_eq_true hx
      obtain ⟨z, rfl⟩ := Int.eq_ofNat_of_zero_le hx2.1
      exact ⟨z :: fs, y, l2, by rw [e]; simp [ni], fun q hq => by
        rcases List.mem_cons.1 hq with rfl | hq
        · omega
        · exact h1 q hq, h2⟩
theorem qlengths_badf {w : World} {B : Nat} {v : Value} {fs : List Nat} {y : Int} {l2 : List Int} {most : Int} (hS : Sli w B v (ci (ni fs ++ y :: l2))) (hB : B ≤ w.heap.size) (h2 : (ni fs ++ y :: l2).length ≤ 80) (h3 : ∀ x ∈ fs, x ≤ 1099511627776) (hy : okF y = false) (hL1 : 1 ≤ most) (hL2 : most ≤ 24) :
    Calls Try.prog 20 #[v, .int .i64 most] w fun e w' => e = .returned (.tuple #[.slice none 0 0, .int .i64 1]) ∧ Below w.heap.size w w' := by
  obtain ⟨A, c, rfl, hlc, hcm⟩ := hS.formI
  obtain ⟨n, hn⟩ : ∃ n, (ni fs ++ y :: l2).length = n := ⟨_, rfl⟩
  obtain ⟨i0, hi0⟩ : ∃ n, fs.length = n := ⟨_, rfl⟩
  have hin : i0 < n := by rw [← hn, List.length_append, ni_len, hi0]; simp
  rw [hn] at hlc hS h2 ⊢
  have hyI : y < 0 ∨ 1099511627776 < y := by
    have := of_decide_eq_false hy
    omega
  have HN := Lib.hid hn; have HS := Lib.hid hS; have H3 := Lib.hid h3; have HI := Lib.hid hi0; have HYI := Lib.hid hyI
  clear hn hS h3 hi0 hy hyI
  go_enter Try.func20, Try.ntmps20
  go_wp2_with fail
  go_loopw [6, 7] (fun vc ii wr => ∃ i : Nat, i ≤ i0 ∧ ii = .int .i64 i ∧ ∃ l A' c', vc = .slice A' l.length c' ∧ l.length ≤ c' ∧ c' ≤ maxLen ∧ Coi wr fs i l (.slice A' l.length c') ∧ Below w.heap.size w wr) (fun _ ii _ => n - (intOf ii).toNat)
  case atStart => exact ⟨0, Nat.zero_le _, rfl, [], none, 0, rfl, Nat.le_refl _, by simp [maxLen], Coi.start _ _, Below.refl _ _⟩
  case round =>
    obtain ⟨i, hi, rfl, l, A', c', rfl, hlc', hcm', hC, hb⟩ := hrel
    have hSr := HS.out.below (hb.mono hB)
    have himI : (i : Int) < (n : Int) := by omega
    have hil : i < (ni fs ++ y :: l2).length := by rw [HN.out]; omega
    obtain ⟨bf, of, rfl, hbf, hcell⟩ := hSr.atI hil
    by_cases him : i < i0
    · have hil2 : i < fs.length := by rw [HI.out]; exact him
      rw [List.getElem_append_left (by rw [ni_len]; exact hil2), ni_at hil2] at hcell
      have hx3 : atN fs i ≤ 1099511627776 := by
        have := H3.out fs[i] (List.getElem_mem hil2)
        unfold atN; rw [List.getD_eq_getElem?_getD, List.getElem?_eq_getElem hil2]; exact this
      obtain ⟨x, hx⟩ : ∃ x, atN fs i = x := ⟨_, rfl⟩
      rw [hx] at hcell hx3
      have hx0I : ¬ ((x : Int) < 0) := by omega
      have hx3I : ¬ ((1099511627776 : Int) < (x : Int)) := by omega
      have HX := Lib.hid hx; have HC := Lib.hid hC; have HSr := Lib.hid hSr
      clear hx hC hSr hil hil2 hx3
      by_cases hxp : 0 < x
      · have hxpI : (0 : Int) < (x : Int) := by omega
        have HXP := Lib.hid hxp
        clear hxp
        go_wp2_with fail
        have hal : Below wr.heap.size wr (wr.alloc (.cells #[.int .i64 i] 3)) := (Below.refl _ _).alloc (Nat.le_refl _) _
        have hT : ThS (wr.alloc (.cells #[.int .i64 i] 3)) wr.heap.size (.slice A' l.length c') l := by
          obtain ⟨_, _, _, hT⟩ := HC.out
          exact hT.below hal
        refine (rising_any (x := (x, (some ⟨wr.heap.size, 0, none⟩, 1, 1))) hT (by simp) (by have := HC.out.len; omega)).mono ?_
        rintro e w1 ⟨v1, p, rfl, hO, hp, hlo, hhi, hb1⟩
        have hC1 := HC.out.put (hal.trans (hb1.mono hal.size)) (x := (x, (some ⟨wr.heap.size, 0, none⟩, 1, 1))) ⟨⟨HX.out.symm, ((sli_one wr (.int .i64 i) 3).below hb1).more hb1.size⟩, _, rfl, Nat.lt_of_lt_of_le (by simp) hb1.size⟩ (by rw [HX.out]; exact HXP.out) hp hlo hhi hO.ths
        obtain ⟨l1, hl1⟩ : ∃ l1, l.take p ++ [(x, (some ⟨wr.heap.size, 0, none⟩, 1, 1))] ++ l.drop p = l1 := ⟨_, rfl⟩
        rw [hl1] at hC1 hO
        obtain ⟨A1, c1, rfl, hlc1, hcm1⟩ := hO.form
        have hbw := hb.trans ((hal.trans (hb1.mono hal.size)).mono hb.size)
        clear hl1 hO hT hlo hhi
        go_wp2
        exact ⟨⟨i + 1, by omega, by simp, l1, A1, c1, rfl, hlc1, hcm1, hC1, hbw⟩, by simp [intOf]; omega⟩
      · have hxz : ¬ ((0 : Int) < (x : Int)) := by omega
        have HXZ := Lib.hid (show x = 0 by omega)
        clear hxp
        go_wp2_with fail
        exact ⟨⟨i + 1, by omega, by simp, l, A', c', rfl, hlc', hcm', HC.out.skip (by rw [HX.out, HXZ.out]), hb⟩, by simp [intOf]; omega⟩
    · have hie : i = i0 := by omega
      have hcy : (ni fs ++ y :: l2)[i] = y := by
        rw [List.getElem_append_right (by rw [ni_len, HI.out]; omega)]
        have : i - (ni fs).length = 0 := by rw [ni_len, HI.out]; omega
        simp [this]
      rw [hcy] at hcell
      clear hie hcy hil hSr hC him
      rcases HYI.out with h | h
      · go_wp2_with fail
        go_ret2
        exact ⟨rfl, hb⟩
      · have h0 : ¬ y < 0 := by omega
        go_wp2_with fail
        go_ret2
        exact ⟨rfl, hb⟩
theorem CoinsTo.ascd {fs ss : List Nat} (h : CoinsTo fs fs.length ss) : Ascd fs ss := h
/-- Both give the same, whatever the frequencies and the bound. -/
theorem both_lens (l : List Int) (most : Int) (hl : l.length ≤ 80 ∨ 1024 < l.length) :
    ∃ (r : List Int) (er : Int), r.length ≤ 1024 ∧
      (∀ (w : World) (B : Nat) (v : Value), Sli w B v (ci l) → B ≤ w.heap.size → Calls Try.prog 19 #[v, .int .i64 most] w fun e w' => ∃ v', e = .returned (.tuple #[v', .int .i64 er]) ∧ Own w' w.heap.size 3 v' (ci r) ∧ Below w.heap.size w w') ∧
      (∀ (w : World) (B : Nat) (v : Value), Sli w B v (ci l) → B ≤ w.heap.size → Calls Try.prog 20 #[v, .int .i64 most] w fun e w' => ∃ v', e = .returned (.tuple #[v', .int .i64 er]) ∧ Sli w' w'.heap.size v' (ci r) ∧ Below w.heap.size w w') := by
  have nil2 : ∀ (w : World) (B : Nat), Sli w B (.slice none 0 0) (ci []) := fun w B => Sli.nil _ _
  have nil1 : ∀ (w : World) (B : Nat), Own w B 3 (.slice none 0 0) (ci []) := fun w B => Own.nil _ _ _
  by_cases ha : l.length < 1 ∨ 1024 < l.length ∨ most < 1 ∨ 24 < most
  · refine ⟨[], 1, by simp, fun w B v hS hB => ?_, fun w B v hS hB => ?_⟩
    · refine (lengths_bad hS ?_).mono fun e w' ⟨h1, h2⟩ => ⟨_, h1, nil1 _ _, by subst h2; exact Below.refl _ _⟩
      rcases ha with h | h | h | h
      · left; unfold freqsB; rw [decide_eq_false (by omega)]; simp
      · left; unfold freqsB; rw [decide_eq_false (by omega)]; simp
      · exact .inr (.inl h)
      · exact .inr (.inr h)
    · exact (qlengths_arg hS ha).mono fun e w' ⟨h1, h2⟩ => ⟨_, h1, nil2 _ _, by subst h2; exact Below.refl _ _⟩
  · have hm1 : 1 ≤ most := Int.not_lt.1 fun h => ha (.inr (.inr (.inl h)))
    have hm2 : most ≤ 24 := Int.not_lt.1 fun h => ha (.inr (.inr (.inr h)))
    have hn1 : 1 ≤ l.length := Nat.not_lt.1 fun h => ha (.inl h)
    have hn2 : l.length ≤ 80 := by
      rcases hl with h | h
      · exact h
      · exact absurd (.inr (.inl h)) ha
    cases hall : l.all okF with
    | false =>
      obtain ⟨fs, y, l2, rfl, h3, hy⟩ := first_bad l hall
      refine ⟨[], 1, by simp, fun w B v hS hB => ?_, fun w B v hS hB => ?_⟩
      · refine (lengths_bad hS (.inl ?_)).mono fun e w' ⟨h1, h2⟩ => ⟨_, h1, nil1 _ _, by subst h2; exact Below.refl _ _⟩
        exact freqs_bad (y := y) (by simp) hy
      · exact (qlengths_badf hS hB hn2 h3 hy hm1 hm2).mono fun e w' ⟨h1, h2⟩ => ⟨_, h1, nil2 _ _, h2⟩
    | true =>
      have hf : freqsB l = true := by unfold freqsB; rw [hall, decide_eq_true ⟨hn1, by omega⟩]; rfl
      obtain ⟨fs, rfl, h1, h2, h3⟩ := freqs_nat hf
      rw [ni_len] at hn2
      obtain ⟨ss, hA⟩ := Ascd.is fs
      obtain ⟨L, rfl⟩ := Int.eq_ofNat_of_zero_le (show 0 ≤ most by omega)
      have hL1 : 1 ≤ L := by omega
      have hL2 : L ≤ 24 := by omega
      have hq := fun (w : World) (B : Nat) (v : Value) (hS : Sli w B v (ci (ni fs))) (hB : B ≤ w.heap.size) => qlengths_many (L := L) hS hB h1 hn2 h3 hL1 hL2
      have hp2 : 1 ≤ 2 ^ L := Nat.one_le_two_pow
      by_cases h0 : ss = []
      · subst h0
        refine ⟨[], 7, by simp, fun w B v hS hB => ?_, fun w B v hS hB => ?_⟩
        · exact (lengths_none hS hB h1 h2 h3 hA hL1 hL2).mono fun e w' ⟨g1, g2⟩ => ⟨_, g1, nil1 _ _, g2⟩
        · refine (hq w B v hS hB).mono fun e w' ⟨ss', hc, hb, hr⟩ => ?_
          have he : ss' = [] := hc.ascd.one hA
          subst he
          rcases hr with ⟨_, g⟩ | ⟨g, _⟩ | ⟨g, _⟩
          · exact ⟨_, g, nil2 _ _, hb⟩
          · simp at g
          · simp at g
      · have hpos : 0 < ss.length := List.length_pos_iff.2 h0
        by_cases hu : 2 ^ L < ss.length
        · refine ⟨[], 6, by simp, fun w B v hS hB => ?_, fun w B v hS hB => ?_⟩
          · exact (lengths_over hS hB h1 h2 h3 hA hL1 hL2 hu).mono fun e w' ⟨g1, g2⟩ => ⟨_, g1, nil1 _ _, g2⟩
          · refine (hq w B v hS hB).mono fun e w' ⟨ss', hc, hb, hr⟩ => ?_
            have he : ss' = ss := hc.ascd.one hA
            subst he
            rcases hr with ⟨g, _⟩ | ⟨_, g⟩ | ⟨_, g, _⟩
            · omega
            · exact ⟨_, g, nil2 _ _, hb⟩
            · omega
        · refine ⟨ni (lensN fs ss L), 0, ?_, fun w B v hS hB => ?_, fun w B v hS hB => ?_⟩
          · rw [ni_len]; unfold lensN; simp; omega
          · exact lengths_any hS hB h1 h2 h3 hA hL1 hL2 h0 (by omega)
          · refine (hq w B v hS hB).mono fun e w' ⟨ss', hc, hb, hr⟩ => ?_
            have he : ss' = ss := hc.ascd.one hA
            subst he
            rcases hr with ⟨g, _⟩ | ⟨g, _⟩ | ⟨_, _, v', g, hs⟩
            · omega
            · omega
            · exact ⟨v', g, hs, hb⟩
theorem prefixLens_walk (va : Value) (l : List Int) (most : Int) (w : World) (hA : Sli w w.heap.size va (ci l)) :
    Calls Try.prog 4 #[va, .int .i64 most] w fun e w' => e = .returned (.bool true) ∧ Below w.heap.size w w' := by
  have HA := Lib.hid hA
  obtain ⟨A1, c1, rfl, hlc1, hcm1⟩ := hA.formI
  clear hA
  by_cases hg : 80 < l.length ∧ l.length ≤ 1024
  · obtain ⟨hg1, hg2⟩ := hg
    obtain ⟨n, hnl⟩ : ∃ n, l.length = n := ⟨_, rfl⟩
    rw [hnl] at hg1 hg2 hlc1 ⊢
    clear HA hnl
    have d1 : decide ((80 : Int) < (n : Int)) = true := decide_eq_true (by omega)
    have d2 : decide ((n : Int) ≤ 1024) = true := decide_eq_true (by omega)
    clear hg1 hg2
    go_enter Try.func4, Try.ntmps4
    go_wp2_with (go_at_call 11; refine (knownX_any w).mono ?_; rintro e w1 ⟨rfl, hb1⟩)
    go_ret
    exact ⟨rfl, hb1⟩
  · obtain ⟨r, er, hr, h1, h2⟩ := both_lens l most (by omega)
    have H1 := Lib.hid h1; have H2 := Lib.hid h2; have HR := Lib.hid (fun _ : True => hr)
    have hgc : l.length ≤ 80 ∨ 1024 < l.length := by omega
    have hee : (er == er) = true := by simp
    clear h1 h2 hr hg
    obtain ⟨n, hnl⟩ : ∃ n, l.length = n := ⟨_, rfl⟩
    rw [hnl] at hgc hlc1 HA ⊢
    clear hnl
    rcases hgc with hg | hg
    all_goals
      go_enter Try.func4, Try.ntmps4
      go_wp2_with fail
      refine (knownX_any w).mono ?_
      rintro e w1 ⟨rfl, hb1⟩
      go_wp2_with fail
      refine (H1.out w1 _ _ (HA.out.below hb1) hb1.size).mono ?_
      rintro e w2 ⟨v2, rfl, ho2, hb2⟩
      have hB2 := bthen hb1 hb2 hb1.size
      have HO2 := Lib.hid ho2
      clear hb1 hb2 ho2
      go_wp2_with fail
      refine (H2.out w2 _ _ (HA.out.below hB2) hB2.size).mono ?_
      rintro e w3 ⟨v3, rfl, hs3, hb3⟩
      have hB3 := bthen hB2 hb3 hB2.size
      have hsi := sameInts_self _ _ r w3 _ _ (HO2.out.kept hb3).sli hs3 (by have := HR.out trivial; omega)
      have HSI := Lib.hid hsi
      clear hB2 hb3 hs3 hsi HO2
      go_wp2_with fail
      refine HSI.out.mono ?_
      rintro e w4 ⟨rfl, q, rfl⟩
      have hB4 := below_drewN hB3 q
      clear hB3 HSI
      go_wp2
      go_ret
      exact ⟨rfl, hB4⟩
end Go.Proofs.Ythecibabpcfoaaa
