/- rice: the laws RicePuts, RiceGets. -/
import Derived.Test.YtgogfmpichdejaaRicZ
import Derived.Test.YtgogfmpichdejaaRicX
import Derived.Test.YtgogfmpichdejaaRicQ
namespace Go.Proofs.Ytgogfmpichdejaa
open Go.RowKit
set_option maxRecDepth 100000
set_option maxHeartbeats 800000

theorem putR_len (k : Int) (l : List Int) (L : List Bool) : (putR k l L).1.length ≤ L.length + 65 * l.length := by
  unfold putR
  split
  · rename_i h
    have := paramB_iff.1 h.1
    have := codes_le (k := k.toNat) (by omega) l
    simp; omega
  · simp
theorem ricePuts_walk (k : Int) (va : Value) (l : List Int) (ahead : Int) (w : World) (hA : Sli w w.heap.size va (ci l)) (_ : -9223372036854775808 ≤ ahead) (_ : ahead ≤ 9223372036854775807) :
    Calls Try.prog 4 #[.int .i64 k, va, .int .i64 ahead] w fun e w' => e = .returned (.bool true) ∧ Below w.heap.size w w' := by
  obtain ⟨A1, c1, rfl, hlc1, hcm1⟩ := hA.formI
  by_cases h200 : 200 < l.length
  · go_enter Try.func4, Try.ntmps4
    go_wp2_with (go_at_call 11; refine (knownR_any w).mono ?_; rintro e w1 ⟨rfl, hb1⟩)
    go_ret
    exact ⟨rfl, hb1⟩
  have hand : bits .and .i64 ahead 7 = ahead % 8 := i64_mask 3 (by omega) ahead
  obtain ⟨m, hm⟩ : ∃ m : Nat, ahead % 8 = (m : Nat) := ⟨(ahead % 8).toNat, by omega⟩
  have hm7 : m ≤ 7 := by omega
  have e0 := wPut_ok [] (x := 0) (n := m) (by omega) (Nat.pow_pos (by omega))
  have hl0 : ([] ++ msb 0 m).length ≤ 7 := by simp [msb_len]; omega
  generalize [] ++ msb 0 m = L0 at e0 hl0
  have hpl := putR_len k l L0
  have E0 := Lib.hid e0; clear e0
  go_enter Try.func4, Try.ntmps4
  go_wp2_with (go_at_call 11; refine (knownR_any w).mono ?_; rintro e w1 ⟨rfl, hb1⟩; refine cut_here ?_)
  have hs1 := hb1.size
  obtain ⟨wa, hwa⟩ : ∃ wa, w1.alloc (.cells #[.slice none 0 0, .int .i64 0] 34) = wa := ⟨_, rfl⟩
  have hA0 := WrO.start w1 (base := w.heap.size) hs1
  rw [hwa] at hA0
  have hsz : wa.heap.size = w1.heap.size + 1 := by rw [← hwa]; simp
  have hB0 := WqO.start wa (base := w.heap.size) (by omega)
  rw [hsz] at hB0
  have hba : Below w1.heap.size w1 wa := by rw [← hwa]; exact (Below.refl _ _).alloc (Nat.le_refl _) _
  have hbb := hba.alloc hba.size (.cells #[.slice none 0 0] 37)
  have hA1 := hA0.below ((Below.refl _ wa).alloc (Nat.le_refl _) (.cells #[.slice none 0 0] 37))
  rw [← hwa] at hA1 hB0 hbb
  have hb2 := bthen hb1 hbb hs1
  have hp1 := wput_any hA1 (by simp) hb2.size 0 m (by omega) (by omega) (by omega)
  rw [E0.out] at hp1
  have HP1 := Lib.hid hp1
  clear hA0 hba hwa hsz hbb hp1
  unfold CutHere
  go_wp2_with fail
  refine HP1.out.mono ?_
  rintro e w3 ⟨rfl, v3, hA3, hm3⟩
  obtain ⟨hB3, hap3⟩ := hA1.otherQ hB0 (by omega) (apart_nil _) hm3
  have hb3 := hb2.trans (hm3.below hA1.1 hA1.rows hb2.size)
  have HP2 := Lib.hid (qput_any hB3 (by simp) hb3.size 0 m (by omega) (by omega) (by omega))
  go_wp2_with fail
  refine HP2.out.mono ?_
  rw [E0.out]
  rintro e w4 ⟨rfl, v4, hB4, hm4⟩
  obtain ⟨hA4, hap4⟩ := hB3.otherW hA3 (by omega) hap3.symm hm4
  have hb4 := hb3.trans (hm4.below hB3.1 hB3.rows hb3.size)
  obtain ⟨⟨L2, E⟩, hRd⟩ : ∃ R, putR k l L0 = R := ⟨_, rfl⟩
  rw [hRd] at hpl
  simp only at hpl
  have HP3 := Lib.hid (rput_any hA4 k _ l (Stays.of_sli (hA.below hb4) hA4.1 hA4.rows hb4.size) (by omega) hb4.size)
  have HRD := Lib.hid hRd; clear hRd
  go_wp2_with fail
  refine HP3.out.mono ?_
  rw [HRD.out]
  rintro e w5 ⟨rfl, v5, hA5, hm5⟩
  obtain ⟨hB5, hap5⟩ := hA4.otherQ hB4 (by omega) hap4.symm hm5
  have hb5 := hb4.trans (hm5.below hA4.1 hA4.rows hb4.size)
  have HP4 := Lib.hid (qrput_any hB5 k _ l (Stays.of_sli (hA.below hb5) hB5.1 hB5.rows hb5.size) (by omega) hb5.size)
  go_wp2_with fail
  refine HP4.out.mono ?_
  rw [HRD.out]
  rintro e w6 ⟨rfl, v6, hB6, hm6⟩
  obtain ⟨hA6, hap6⟩ := hB5.otherW hA5 (by omega) hap5.symm hm6
  have hb6 := hb5.trans (hm6.below hB5.1 hB5.rows hb5.size)
  simp only at hA6 hB6
  have hL2 : L2.length ≤ 1099511627776 := by omega
  go_wp2_with fail
  refine (wlen_any hA6).mono ?_
  rintro e w7 ⟨rfl, rfl⟩
  go_wp2_with fail
  refine (qlen_any hB6).mono ?_
  rintro e w7 ⟨rfl, rfl⟩
  go_wp2_with fail
  refine (wbytes_any hA6 hL2).mono ?_
  rintro e w7 ⟨v7, l7, rfl, hP7, ho7, hb67⟩
  have hB7 := hB6.below hb67
  go_wp2_with fail
  refine (qbytes_any hB7 hL2).mono ?_
  rintro e w8 ⟨v8, l8, rfl, hP8, ho8, hb78⟩
  obtain rfl := hP7.uniq hP8
  go_wp2_with fail
  refine (same_self _ _ l7 w8 _ _ (ho7.sli.below hb78) ho8.sli hP7.byte).mono ?_
  rintro e w9 ⟨rfl, rfl⟩
  go_wp2
  go_ret
  exact ⟨rfl, bthen (bthen hb6 hb67 hb6.size) hb78 (Nat.le_trans hb6.size hb67.size)⟩

theorem rGets_len (f : Nat → Bool) (len k : Nat) : ∀ n at_, (rGets f len k n at_).1.length ≤ n
  | 0, at_ => by simp [rGets]
  | n + 1, at_ => by
    rw [rGets_succ]
    split
    · have := rGets_len f len k n (rGet1 f len k at_).2.1
      unfold glue
      split
      · simp; omega
      · simp
    · simp
theorem getsR_len (f : Nat → Bool) (len at_ : Nat) (er k n : Int) : (getsR f len at_ er k n).1.length ≤ 4194304 := by
  unfold getsR
  split
  · rename_i h
    split
    · have := rGets_len f len k.toNat n.toNat at_
      omega
    · simp
  · simp
theorem riceGets_walk (vb : Value) (l : List Nat) (k n skip : Int) (w : World) (hA : Sli w w.heap.size vb (cu8 l)) (hx : ∀ x ∈ l, x < 256) :
    Calls Try.prog 5 #[vb, .int .i64 k, .int .i64 n, .int .i64 skip] w fun e w' => e = .returned (.bool true) ∧ Below w.heap.size w w' := by
  obtain ⟨A1, c1, rfl, hlc1, hcm1⟩ := hA.form8
  by_cases h200 : 200 < l.length
  · go_enter Try.func5, Try.ntmps5
    go_wp2_with (go_at_call 11; refine (knownR_any w).mono ?_; rintro e w1 ⟨rfl, hb1⟩)
    go_ret
    exact ⟨rfl, hb1⟩
  by_cases hn : 1700 < n ∧ n ≤ 4194304
  · obtain ⟨hn1, hn2⟩ := hn
    go_enter Try.func5, Try.ntmps5
    go_wp2_with (go_at_call 11; refine (knownR_any w).mono ?_; rintro e w1 ⟨rfl, hb1⟩)
    go_ret
    exact ⟨rfl, hb1⟩
  have hl40 : l.length ≤ 1099511627776 := by omega
  obtain ⟨⟨x, a1, e1⟩, hGd⟩ : ∃ r, gGet (bitAt l) (8 * l.length) 0 0 skip = r := ⟨_, rfl⟩
  obtain ⟨⟨r, a2, e2⟩, hRd⟩ : ∃ R, getsR (bitAt l) (8 * l.length) a1 e1 k n = R := ⟨_, rfl⟩
  have hr40 : r.length ≤ 1099511627776 := by
    have := getsR_len (bitAt l) (8 * l.length) a1 e1 k n
    rw [hRd] at this
    simp only at this
    omega
  have hk1 := fun w1 g (h : RdB w1 g l 0 0) => bget_any h skip
  have hk2 := fun w1 g (h : OcB w1 w.heap.size g l 0 0) => oget_any h skip
  have hk3 := fun w1 g (h : RdB w1 g l a1 e1) => rget_any h k n
  have hk4 := fun w1 g (h : OcB w1 w.heap.size g l a1 e1) => qrget_any h k n
  rw [hGd] at hk1 hk2
  rw [hRd] at hk3 hk4
  simp only at hk1 hk2 hk3 hk4
  have HK1 := Lib.hid hk1; have HK2 := Lib.hid hk2; have HK3 := Lib.hid hk3; have HK4 := Lib.hid hk4; have HA := Lib.hid hA; have HX := Lib.hid hx
  clear hk1 hk2 hk3 hk4 hGd hRd hA hx
  have hnor : (n ≤ 1700) ∨ (1700 < n ∧ 4194304 < n) := by omega
  rcases hnor with hn1 | ⟨hn1, hn2⟩
  all_goals
    clear hn
    go_enter Try.func5, Try.ntmps5
    go_wp2_with (go_at_call 11; refine (knownR_any w).mono ?_; rintro e w1 ⟨rfl, hb1⟩; refine cut_here ?_)
    unfold CutHere
    go_wp2_with fail
    refine (bnew_any _ l w1 ((HA.out.below hb1).more hb1.size) HX.out (by omega)).mono ?_
    rintro e w2 ⟨g1, rfl, hR2, hg1, hb2⟩
    have hb02 := bthen hb1 hb2 hb1.size
    go_wp2_with fail
    refine (onew_any _ l w2 w.heap.size (HA.out.below hb02) hb02.size HX.out (by omega)).mono ?_
    rintro e w3 ⟨g2, rfl, hO3, hg2, hb3⟩
    have hR3 := hR2.below hb3
    have hgg : g1 < g2 := Nat.lt_of_lt_of_le hR2.lt hg2
    have hgw : w.heap.size ≤ g1 := Nat.le_trans hb1.size hg1
    have hb03 := bthen hb02 hb3 hb02.size
    go_wp2_with fail
    refine (HK1.out w3 g1 hR3).mono ?_
    rintro e w4 ⟨rfl, hR4, hg4⟩
    have hO4 := hO3.only hg4 (by omega) hgw
    have hb04 := bonly hb03 hg4 (Nat.le_refl _) hgw
    go_wp2_with fail
    refine (HK2.out w4 g2 hO4).mono ?_
    rintro e w5 ⟨rfl, hO5, hg5⟩
    obtain ⟨cs4, hblk4⟩ := hO4.blk
    have hR5 := hR4.only hblk4 (by decide) hg5 (by omega)
    have hb05 := bonly hb04 hg5 (Nat.le_refl _) (by omega)
    go_wp2_with fail
    refine (HK3.out w5 g1 hR5).mono ?_
    rintro e w6 ⟨v6, a6, e6, rfl, ho6, hR6, hg6, hok6⟩
    obtain ⟨A6, c6, rfl, _, _⟩ := ho6.formI
    have hO6 := hO5.only hg6 (by omega) hgw
    have hb06 := bonly hb05 hg6 (Nat.le_refl _) hgw
    go_wp2_with fail
    refine (HK4.out w6 g2 hO6).mono ?_
    rintro e w7 ⟨v7, a7, e7, rfl, ho7, hO7, hg7, hok7⟩
    obtain ⟨A7, c7, rfl, _, _⟩ := ho7.formI
    obtain ⟨cs6, hblk6⟩ := hO6.blk
    have hR7 := hR6.only hblk6 (by decide) hg7 (by omega)
    have hb07 := bonly hb06 hg7 (Nat.le_refl _) (by omega)
    have ho67 := ho6.far hblk6 (by decide) hg7
    obtain ⟨rv7, hblk7, _⟩ := id hO7
    obtain ⟨d0, d1, d2, hf7⟩ := blk3 hblk7
    have HS := Lib.hid (fun q => sameInts_self _ _ r (w7.drewN q) _ _ (ho67.drewN q).sli (ho7.drewN q).sli hr40)
    by_cases he : e2 = 0
    · subst he
      obtain ⟨rfl, rfl⟩ := hok6 rfl
      obtain ⟨rfl, rfl⟩ := hok7 rfl
      have HAT := Lib.hid (fun q => bat_any (hR7.drewN q))
      clear hblk7 hblk6 hblk4 ho6 ho7 ho67 hok6 hok7
      go_wp2_with fail
      go_quiet (first
        | (go_at_call 37; exact quietNN (HS.out _))
        | (go_at_call 38; exact quietLN (HAT.out _)))
      go_wp2
      go_ret
      exact ⟨rfl, below_drewN hb07 _⟩
    · have hne : (e2 != 0) = true := by simpa using he
      clear hblk7 hblk6 hblk4 ho6 ho7 ho67 hok6 hok7
      go_wp2_with fail
      go_quiet (first
        | (go_at_call 37; exact quietNN (HS.out _))
        | fail)
      go_wp2
      go_ret
      exact ⟨rfl, below_drewN hb07 _⟩
end Go.Proofs.Ytgogfmpichdejaa
