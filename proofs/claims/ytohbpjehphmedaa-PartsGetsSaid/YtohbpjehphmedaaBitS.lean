/- bits: the reader's methods, on. -/
import Derived.Test.YtohbpjehphmedaaBitR
namespace Go.Proofs.Ytohbpjehphmedaa
open Go.RowKit
set_option maxRecDepth 100000
set_option maxHeartbeats 400000

/-- 'int64(v<<(64-n)) >> (64-n)'. -/
def sgnI (V k : Nat) : Int := wrap64 (IntKind.u64.wrap ((V : Int) * 2 ^ k)) / 2 ^ k
def gSigned (f : Nat → Bool) (len at_ : Nat) (er n : Int) : Int :=
  if (gGet f len at_ er n).2.2 = 0 then sgnI (gGet f len at_ er n).1 (64 - n).toNat else 0
theorem gGet_ok {f : Nat → Bool} {len at_ : Nat} {er n : Int} (h : (gGet f len at_ er n).2.2 = 0) : 0 ≤ n ∧ n ≤ 64 := by
  unfold gGet at h
  by_cases he : er = 0
  · rw [if_pos he] at h
    by_cases h1 : n < 0 ∨ 64 < n
    · rw [if_pos h1] at h; simp at h
    · omega
  · rw [if_neg he] at h; exact absurd h he

theorem bsigned_any {w : World} {g at_ : Nat} {l : List Nat} {er : Int} (hR : RdB w g l at_ er) (n : Int) :
    Calls Try.prog 100 #[.pointer (some ⟨g, 0, none⟩), .int .i64 n] w fun e w' => e = .returned (.int .i64 (gSigned (bitAt l) (8 * l.length) at_ er n)) ∧ RdB w' g l (gGet (bitAt l) (8 * l.length) at_ er n).2.1 (gGet (bitAt l) (8 * l.length) at_ er n).2.2 ∧ w.grownBy w' (some g) := by
  have hg := bget_any hR n
  have hok := @gGet_ok (bitAt l) (8 * l.length) at_ er n
  unfold gSigned
  generalize gGet (bitAt l) (8 * l.length) at_ er n = r at hg hok ⊢
  obtain ⟨V, a2, e2⟩ := r
  simp only at hg hok ⊢
  have HG := Lib.hid hg; clear hg
  by_cases he : e2 = 0
  · subst he
    rw [if_pos rfl]
    obtain ⟨h0, h64⟩ := hok rfl
    obtain ⟨k, hk⟩ : ∃ k : Nat, (64 : Int) - n = (k : Nat) := ⟨(64 - n).toNat, by omega⟩
    have hkn : (64 - n).toNat = k := by omega
    rw [hkn]
    clear hkn hok
    go_enter Try.func100, Try.ntmps100
    go_wp2_with (go_at_call 30; refine (HG.out).mono ?_; rintro e w1 ⟨rfl, hR1, hg1⟩; obtain ⟨v1, h1, _⟩ := id hR1; obtain ⟨c0, c1, c2, hf⟩ := blk3 h1; clear h1)
    go_ret
    exact ⟨rfl, hR1, hg1⟩
  · rw [if_neg he]
    have hne : (e2 != 0) = true := by simpa using he
    clear hok
    go_enter Try.func100, Try.ntmps100
    go_wp2_with (go_at_call 30; refine (HG.out).mono ?_; rintro e w1 ⟨rfl, hR1, hg1⟩; obtain ⟨v1, h1, _⟩ := id hR1; obtain ⟨c0, c1, c2, hf⟩ := blk3 h1; clear h1)
    go_ret
    exact ⟨rfl, hR1, hg1⟩

theorem bit_of {x t : Nat} (hx : x < 256) : bits .and .u8 ((x : Int) / 2 ^ t) 1 = (((x.testBit t).toNat : Nat) : Int) := by
  have e : (x : Int) / 2 ^ t = ((x / 2 ^ t : Nat) : Int) := by simp
  have : x / 2 ^ t ≤ x := Nat.div_le_self _ _
  rw [e, show (1 : Int) = ((1 : Nat) : Int) from rfl, u8_and_nat _ _ (by omega) (by omega), nat_mask1, toNat_testBit]

theorem bzeros_any {w : World} {g at_ : Nat} {l : List Nat} {er : Int} (hR : RdB w g l at_ er) (most : Nat) (hm : most ≤ 9223372036854775807) :
    Calls Try.prog 105 #[.pointer (some ⟨g, 0, none⟩), .int .i64 most] w fun e w' => e = .returned (.tuple #[.int .i64 ((zer (bitAt l) most at_ (8 * l.length - at_) 0).1 : Nat), .int .i64 (zer (bitAt l) most at_ (8 * l.length - at_) 0).2]) ∧ ∃ n, w' = w.drewN n := by
  have HL := Lib.hid (bleft_any hR)
  obtain ⟨v, h1, ho, hal, hx, hlen⟩ := hR
  obtain ⟨c0, c1, c2, hf⟩ := blk3 h1
  obtain ⟨f, hff⟩ : ∃ f, bitAt l = f := ⟨_, rfl⟩
  have HF := Lib.hid hff
  rw [hff]
  clear hff
  obtain ⟨A0, n0, c0', rfl⟩ := ho.shape
  have HO := Lib.hid ho
  clear h1 ho
  obtain ⟨left, hle⟩ : ∃ n, 8 * l.length - at_ = n := ⟨_, rfl⟩
  rw [hle] at HL ⊢
  have hle2 : at_ + left = 8 * l.length := by omega
  clear hle
  go_enter Try.func105, Try.ntmps105
  go_wp2_with (go_at_call 74; refine (HL.out).mono ?_; rintro e w1 ⟨rfl, nd, rfl⟩)
  go_loopw [10] (fun kk wr => ∃ (k q : Nat), kk = .int .i64 k ∧ k ≤ left ∧ k ≤ most ∧ Hid (zer f most at_ (left - k) k = zer f most at_ left 0) ∧ wr = w.drewN q) (fun kk _ => left - (intOf kk).toNat)
  case atStart => exact ⟨0, nd, rfl, Nat.zero_le _, Nat.zero_le _, rfl, rfl⟩
  case round =>
    obtain ⟨k, q, rfl, hk, hkm, hz, hwr⟩ := hrel
    have c0 : wr.cell? ⟨g, 0, none⟩ = some (.slice A0 n0 c0') := by rw [hwr]; exact c0
    have c1 : wr.cell? ⟨g, 1, none⟩ = some (.int .i64 at_) := by rw [hwr]; exact c1
    have HO : Hid (Own wr 0 5 (.slice A0 n0 c0') (cu8 l)) := by rw [hwr]; exact HO
    have HW := Lib.hid hwr; clear hwr
    by_cases hkl : k < left
    · have hzz := hz.out
      rw [show left - k = (left - (k + 1)) + 1 by omega, zer] at hzz
      obtain ⟨p, hp⟩ : ∃ p : Nat, (at_ : Int) + k = (p : Nat) := ⟨at_ + k, by omega⟩
      have hpp : at_ + k = p := by omega
      obtain ⟨r, hr8⟩ : ∃ r, p % 8 = r := ⟨_, rfl⟩
      obtain ⟨qq, hq⟩ : ∃ q, p / 8 = q := ⟨_, rfl⟩
      have hr : (p : Int) % 8 = (r : Nat) := by omega
      have hqi : (p : Int) / 8 = (qq : Nat) := by omega
      have hql : qq < l.length := by omega
      have hr7 : r ≤ 7 := by omega
      obtain ⟨y, hy⟩ : ∃ y, l[qq]? = some y := ⟨_, List.getElem?_eq_getElem hql⟩
      have hy' := hx y (List.mem_of_getElem? hy)
      obtain ⟨g2, cc, hv, hg2, _, _, hcell, hfro, hset⟩ := HO.out.at_ (by rw [cu8_len]; omega)
      injection hv with e1 e2 e3
      subst e1; subst e3
      rw [cu8_len] at e2
      subst e2
      have hck := hcell qq (by rw [cu8_len]; omega)
      rw [show (cu8 l)[qq]? = some (.int .u8 (y : Nat)) by unfold cu8; rw [List.getElem?_map, hy]; rfl] at hck
      clear hcell hset hfro
      obtain ⟨t, ht⟩ : ∃ t : Nat, (7 : Int) - (r : Nat) = (t : Nat) := ⟨7 - r, by omega⟩
      have hbit := bit_of (x := y) (t := t) hy'
      have hfp : y.testBit t = f p := by rw [← HF.out, bitAt, hr8, hq, List.getD_eq_getElem?_getD, hy, Option.getD_some, show 7 - r = t by omega]
      rw [hfp] at hbit
      rw [hpp] at hzz
      have HP := Lib.hid hpp
      have hwq : IntKind.i64.wrap ((qq : Nat) : Int) = (qq : Nat) := IntWalk.i64_in _ (by omega)
      have hw3 : (0 : Int) ≤ (qq : Nat) := by omega
      have hwt : IntKind.i64.wrap ((t : Nat) : Int) = (t : Nat) := IntWalk.i64_in _ (by omega)
      have hw5 : (0 : Int) ≤ (t : Nat) := by omega
      have hw4 : ((qq : Nat) : Int) < (l.length : Nat) := by omega
      clear hpp hr8 hq hy hfp
      by_cases hb : f p = true
      · rw [hb] at hbit
        rw [if_pos hb] at hzz
        have HZ := Lib.hid hzz; clear hzz hz
        simp only [Bool.toNat_true] at hbit
        go_wp2
        go_ret2
        rw [← HZ.out]
        exact ⟨rfl, _, HW.out⟩
      · have hbf : f p = false := by simpa using hb
        rw [hbf] at hbit
        rw [if_neg hb] at hzz
        simp only [Bool.toNat_false] at hbit
        by_cases hkm2 : most ≤ k
        · rw [if_pos hkm2] at hzz
          have hkk : most = k := by omega
          have HZ := Lib.hid hzz; clear hzz hz hkm2
          subst hkk
          go_wp2
          go_ret2
          rw [← HZ.out]
          exact ⟨rfl, _, HW.out⟩
        · rw [if_neg hkm2] at hzz
          have hkk : ((k : Int) == (most : Int)) = false := by rw [beq_eq_false_iff_ne]; omega
          have HZ := Lib.hid hzz; clear hzz hz
          go_wp2
          exact ⟨⟨k + 1, q, by simp, by omega, by omega, HZ.out, HW.out⟩, by simp [intOf]; omega⟩
    · have hkk : k = left := by omega
      subst hkk
      have hzz := hz.out
      rw [Nat.sub_self, zer] at hzz
      have HZ := Lib.hid hzz; clear hzz hz
      go_wp2
      go_ret2
      rw [← HZ.out]
      exact ⟨rfl, _, HW.out⟩

theorem bunary_any {w : World} {g at_ : Nat} {l : List Nat} {er : Int} (hR : RdB w g l at_ er) (n : Int) (hn : n ≤ 9223372036854775807) :
    Calls Try.prog 104 #[.pointer (some ⟨g, 0, none⟩), .int .i64 n] w fun e w' => e = .returned (.int .i64 ((gUnary (bitAt l) (8 * l.length) at_ er n).1 : Nat)) ∧ RdB w' g l (gUnary (bitAt l) (8 * l.length) at_ er n).2.1 (gUnary (bitAt l) (8 * l.length) at_ er n).2.2 ∧ w.grownBy w' (some g) := by
  obtain ⟨v, h1, h2o, hal, hx, hlen⟩ := id hR
  obtain ⟨c0, c1, c2, hf⟩ := blk3 h1
  by_cases he : er = 0
  · subst he
    have hz := bzeros_any hR n.toNat (by omega)
    have hzo := @zer_ok (bitAt l) n.toNat at_ (8 * l.length - at_) 0
    unfold gUnary
    rw [if_pos rfl]
    generalize zer (bitAt l) n.toNat at_ (8 * l.length - at_) 0 = z at *
    obtain ⟨z, e2⟩ := z
    simp only at hz hzo ⊢
    obtain ⟨k, hk⟩ : ∃ k : Nat, max n 0 = (k : Nat) := ⟨n.toNat, by omega⟩
    have hkn : n.toNat = k := by omega
    rw [hkn] at hz
    have HZ := Lib.hid hz; clear hz hkn h1 h2o
    by_cases h2 : e2 = 0
    · subst h2
      simp only [if_true]
      have hzl := hzo rfl
      have hzl2 : at_ + z + 1 ≤ 8 * l.length := by omega
      clear hzo
      go_enter Try.func104, Try.ntmps104
      go_wp2_with (go_at_call 105; refine (HZ.out).mono ?_; rintro e w1 ⟨rfl, nd, rfl⟩)
      go_ret
      have hs := (hR.drewN nd).set1 hzl2
      rw [show ((at_ + z + 1 : Nat) : Int) = (at_ : Int) + ((z : Int) + 1) by omega] at hs
      exact ⟨rfl, hs, grown_trans (grown_drewN (World.grownBy.refl _ _) nd) (grown_set _ _ _ _)⟩
    · simp only [h2, if_false]
      have hne : (e2 != 0) = true := by simpa using h2
      clear hzo
      go_enter Try.func104, Try.ntmps104
      go_wp2_with (go_at_call 105; refine (HZ.out).mono ?_; rintro e w1 ⟨rfl, nd, rfl⟩)
      go_ret
      exact ⟨rfl, (hR.drewN nd).set2, grown_trans (grown_drewN (World.grownBy.refl _ _) nd) (grown_set _ _ _ _)⟩
  · have hr : gUnary (bitAt l) (8 * l.length) at_ er n = (0, at_, er) := by simp [gUnary, he]
    rw [hr]; clear hr
    have hne : (er != 0) = true := by simpa using he
    clear h1 h2o
    go_enter Try.func104, Try.ntmps104
    go_wp2
    go_ret
    exact ⟨rfl, hR, World.grownBy.refl _ _⟩

end Go.Proofs.Ytohbpjehphmedaa
