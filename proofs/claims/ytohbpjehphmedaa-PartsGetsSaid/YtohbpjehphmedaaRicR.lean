/- rice: what is read. -/
import Derived.Test.YtohbpjehphmedaaRicF
import Derived.Test.YtohbpjehphmedaaBitS
import Derived.Deep.RegionWith
import Derived.Deep.RegionHeld3
namespace Go.Proofs.Ytohbpjehphmedaa
open Go.RowKit
set_option maxRecDepth 100000
set_option maxHeartbeats 400000

theorem gUnary_no {f : Nat → Bool} {len at_ : Nat} {er n : Int} (h : (gUnary f len at_ er n).2.2 ≠ 0) : (gUnary f len at_ er n).1 = 0 := by
  unfold gUnary at h ⊢
  split at h
  · split at h
    · simp at h
    · rename_i h1 h2; rw [if_pos h1, if_neg h2]
  · rename_i h1; rw [if_neg h1]
theorem zer_le {f : Nat → Bool} {most p : Nat} : ∀ left i, i ≤ most → (zer f most p left i).1 ≤ most := by
  intro left
  induction left with
  | zero => intro i h; simp [zer]
  | succ left ih =>
    intro i h
    rw [zer]
    split
    · exact h
    · split
      · simp
      · exact ih _ (by omega)
theorem gUnary_le {f : Nat → Bool} {len at_ : Nat} {er : Int} {n : Nat} : (gUnary f len at_ er (n : Int)).1 ≤ n := by
  unfold gUnary
  have := zer_le (f := f) (most := n) (p := at_) (len - at_) 0 (by omega)
  rw [Int.toNat_natCast]
  split
  · split
    · exact this
    · simp
  · simp
theorem gGet_lt {f : Nat → Bool} {len at_ : Nat} {er : Int} {n : Nat} : (gGet f len at_ er (n : Int)).1 < 2 ^ n := by
  have h0 : 0 < 2 ^ n := Nat.pow_pos (by omega)
  unfold gGet
  rw [Int.toNat_natCast]
  split
  · split
    · exact h0
    · split
      · exact h0
      · exact bnum_lt _ _ _
  · exact h0
theorem gGet_er {f : Nat → Bool} {len at_ : Nat} {er n : Int} (h : er ≠ 0) : gGet f len at_ er n = (0, at_, er) := by
  unfold gGet; rw [if_neg h]
/-- One code: a short one, and an escape. -/
theorem rGet1_short {f : Nat → Bool} {len k at_ q a1 x a2 : Nat} {e1 e2 : Int} (hU : gUnary f len at_ 0 32 = (q, a1, e1)) (hq : q < 32) (hG : gGet f len a1 e1 (k : Int) = (x, a2, e2)) :
    (rGet1 f len k at_).2.2 = e2 ∧ (e2 = 0 → rGet1 f len k at_ = (q * 2 ^ k + x, a2, 0)) := by
  unfold rGet1
  rw [hU]
  by_cases he : e1 = 0
  · subst he
    simp only [if_true, hq, hG]
    by_cases h2 : e2 = 0
    · subst h2; simp
    · simp [h2]
  · rw [gGet_er he] at hG
    injection hG with _ hG; injection hG with _ hG
    subst hG
    simp [he]
theorem rGet1_long {f : Nat → Bool} {len k at_ q a1 x a2 : Nat} {e2 : Int} (hU : gUnary f len at_ 0 32 = (q, a1, 0)) (hq : ¬ q < 32) (hG : gGet f len a1 0 32 = (x, a2, e2)) :
    rGet1 f len k at_ = (if e2 = 0 then (if 2147483648 ≤ x ∨ x / 2 ^ k < 32 then (0, 0, 2) else (x, a2, 0)) else (0, 0, e2)) := by
  unfold rGet1
  rw [hU]
  simp only [if_true, hq, if_false, hG]

theorem getCode_any {w : World} {g at_ : Nat} {l : List Nat} (hR : RdB w g l at_ 0) (k : Nat) (hk : k ≤ 25) :
    Calls Try.prog 101 #[.pointer (some ⟨g, 0, none⟩), .int .i64 k] w fun e w' => ∃ (z a2 : Nat) (e2 : Int), e = .returned (.tuple #[.int .u64 z, .int .i64 (rGet1 (bitAt l) (8 * l.length) k at_).2.2]) ∧ RdB w' g l a2 e2 ∧ w.grownBy w' (some g) ∧
      ((rGet1 (bitAt l) (8 * l.length) k at_).2.2 = 0 → z = (rGet1 (bitAt l) (8 * l.length) k at_).1 ∧ a2 = (rGet1 (bitAt l) (8 * l.length) k at_).2.1 ∧ e2 = 0 ∧ z < 18446744073709551616) := by
  have h25 := two_pow_le hk
  have hU := bunary_any hR 32 (by omega)
  have hno := @gUnary_no (bitAt l) (8 * l.length) at_ 0 32
  have hle : (gUnary (bitAt l) (8 * l.length) at_ 0 32).1 ≤ 32 := gUnary_le (n := 32)
  obtain ⟨f, hf⟩ : ∃ f, bitAt l = f := ⟨_, rfl⟩
  obtain ⟨len, hl⟩ : ∃ len, 8 * l.length = len := ⟨_, rfl⟩
  have hG : ∀ (w1 : World) (a1 : Nat) (e1 n : Int), RdB w1 g l a1 e1 → _ := fun w1 a1 e1 n h => bget_any h n
  rw [hf, hl] at hU hno hle hG ⊢
  obtain ⟨⟨q, a1, e1⟩, hUd⟩ : ∃ r, gUnary f len at_ 0 32 = r := ⟨_, rfl⟩
  rw [hUd] at hU hno hle
  simp only at hU hno hle
  by_cases hq : q < 32
  · obtain ⟨⟨x, a2, e2⟩, hGd⟩ : ∃ r, gGet f len a1 e1 (k : Int) = r := ⟨_, rfl⟩
    have hx := gGet_lt (f := f) (len := len) (at_ := a1) (er := e1) (n := k)
    rw [hGd] at hx
    have hx2 : x < 33554432 := by simp only at hx; omega
    have hG1 : ∀ (w1 : World), RdB w1 g l a1 e1 → _ := fun w1 h => hG w1 a1 e1 k h
    rw [hGd] at hG1
    simp only at hG1
    obtain ⟨hr1, hr2⟩ := rGet1_short hUd hq hGd
    rw [hr1]
    have hPm : (q : Int) * 2 ^ k = ((q * 2 ^ k : Nat) : Int) := by simp
    have hP : q * 2 ^ k ≤ 31 * 33554432 := Nat.mul_le_mul (by omega) h25
    generalize q * 2 ^ k = P at *
    have hadd : IntKind.u64.wrap (IntKind.u64.wrap (IntKind.u64.wrap (q : Int) * 2 ^ k) + (x : Int)) = ((P + x : Nat) : Int) := by
      rw [IntWalk.u64_in (q : Int) (by omega), hPm, IntWalk.u64_in (P : Int) (by omega), IntWalk.u64_in _ (by omega)]; simp
    have HADD := Lib.hid hadd
    have HU := Lib.hid hU; have HG := Lib.hid hG1; have HR2 := Lib.hid hr2
    clear hU hG hG1 hGd hUd hno hr1 hr2 hx h25 hadd
    generalize rGet1 f len k at_ = R at *
    go_enter Try.func101, Try.ntmps101
    go_upto_region 3 with (go_at_call 104; refine (HU.out).mono ?_; rintro e w1 ⟨rfl, hR1, hg1⟩)
    go_region_with (go_at_call 30; refine (HG.out _ (show RdB w1.drew g l a1 e1 from hR1)).mono ?_; rintro e w2 ⟨rfl, hR2, hg2⟩)
    rw [HADD.out]
    go_wp2_with (go_at_call 60; refine (berr_any hR2).mono ?_; rintro e w3 ⟨rfl, rfl⟩)
    go_ret2
    refine ⟨P + x, a2, e2, rfl, hR2, grown_trans (grown_drew hg1) hg2, fun h0 => ?_⟩
    rw [HR2.out h0]
    exact ⟨rfl, rfl, h0, by omega⟩
  · have he1 : e1 = 0 := by
      by_cases h : e1 = 0
      · exact h
      · have := hno h; omega
    subst he1
    obtain ⟨⟨x, a2, e2⟩, hGd⟩ : ∃ r, gGet f len a1 0 32 = r := ⟨_, rfl⟩
    have hx : (gGet f len a1 0 ((32 : Nat) : Int)).1 < 2 ^ 32 := gGet_lt
    rw [show ((32 : Nat) : Int) = 32 from rfl, hGd] at hx
    have hx2 : x < 4294967296 := hx
    have hG1 : ∀ (w1 : World), RdB w1 g l a1 0 → _ := fun w1 h => hG w1 a1 0 32 h
    rw [hGd] at hG1
    simp only at hG1
    have hr := rGet1_long (k := k) hUd hq hGd
    rw [hr]
    have hqI := shr_cast x k
    obtain ⟨y, hy⟩ : ∃ y, x / 2 ^ k = y := ⟨_, rfl⟩
    rw [hy] at hqI ⊢
    have HU := Lib.hid hU; have HG := Lib.hid hG1
    clear hU hG hG1 hGd hUd hno hr hx h25 hy
    by_cases h2 : e2 = 0
    · subst h2
      by_cases hb : 2147483648 ≤ x
      · have hge : decide ((2147483648 : Int) ≤ (x : Int)) = true := by rw [decide_eq_true_iff]; omega
        rw [if_pos rfl, if_pos (.inl hb)]
        clear hb
        go_enter Try.func101, Try.ntmps101
        go_wp2_with (first
          | (go_at_call 104; refine (HU.out).mono ?_; rintro e w1 ⟨rfl, hR1, hg1⟩)
          | (go_at_call 30; refine (HG.out _ hR1).mono ?_; rintro e w2 ⟨rfl, hR2, hg2⟩)
          | (go_at_call 60; refine (berr_any hR2).mono ?_; rintro e w3 ⟨rfl, rfl⟩))
        go_ret2
        exact ⟨0, a2, 0, rfl, hR2, grown_trans hg1 hg2, fun h0 => by simp at h0⟩
      · have hge : decide ((2147483648 : Int) ≤ (x : Int)) = false := by rw [decide_eq_false_iff_not]; omega
        by_cases hy : y < 32
        · rw [if_pos rfl, if_pos (.inr hy)]
          have hx31 : x < 2147483648 := by omega
          clear hb
          go_enter Try.func101, Try.ntmps101
          go_wp2_with (first
            | (go_at_call 104; refine (HU.out).mono ?_; rintro e w1 ⟨rfl, hR1, hg1⟩)
            | (go_at_call 30; refine (HG.out _ hR1).mono ?_; rintro e w2 ⟨rfl, hR2, hg2⟩)
            | (go_at_call 60; refine (berr_any hR2).mono ?_; rintro e w3 ⟨rfl, rfl⟩))
          go_ret2
          exact ⟨0, a2, 0, rfl, hR2, grown_trans hg1 hg2, fun h0 => by simp at h0⟩
        · rw [if_pos rfl, if_neg (by omega)]
          have hx31 : x < 2147483648 := by omega
          clear hb
          go_enter Try.func101, Try.ntmps101
          go_wp2_with (first
            | (go_at_call 104; refine (HU.out).mono ?_; rintro e w1 ⟨rfl, hR1, hg1⟩)
            | (go_at_call 30; refine (HG.out _ hR1).mono ?_; rintro e w2 ⟨rfl, hR2, hg2⟩)
            | (go_at_call 60; refine (berr_any hR2).mono ?_; rintro e w3 ⟨rfl, rfl⟩))
          go_ret2
          exact ⟨x, a2, 0, rfl, hR2, grown_trans hg1 hg2, fun _ => ⟨rfl, rfl, rfl, by omega⟩⟩
    · rw [if_neg h2]
      have hne : (e2 != 0) = true := by simpa using h2
      go_enter Try.func101, Try.ntmps101
      go_wp2_with (first
        | (go_at_call 104; refine (HU.out).mono ?_; rintro e w1 ⟨rfl, hR1, hg1⟩)
        | (go_at_call 30; refine (HG.out _ hR1).mono ?_; rintro e w2 ⟨rfl, hR2, hg2⟩)
        | (go_at_call 60; refine (berr_any hR2).mono ?_; rintro e w3 ⟨rfl, rfl⟩))
      go_ret2
      exact ⟨0, a2, e2, rfl, hR2, grown_trans hg1 hg2, fun h0 => absurd h0 h2⟩
end Go.Proofs.Ytohbpjehphmedaa
