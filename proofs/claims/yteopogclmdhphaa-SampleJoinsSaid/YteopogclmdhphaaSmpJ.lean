/- sample: the law SampleJoins. -/
import Derived.Test.YteopogclmdhphaaSmpA
import Derived.Test.YteopogclmdhphaaSam
namespace Go.Proofs.Yteopogclmdhphaa
open Go.RowKit
set_option maxRecDepth 100000
set_option maxHeartbeats 1600000

def ByteP (d : List Nat) (de : Int) (w : World) (e : Ending) (w' : World) : Prop := ∃ v', e = .returned (.tuple #[v', .int .i64 de]) ∧ Own w' w.heap.size 5 v' (cu8 d) ∧ Below w.heap.size w w'
theorem pk_byte (s : Nat) (x : Int) : ∀ y ∈ pk s x, y < 256 := leB_byte _ _
theorem packR_byte (l : List Int) (n : Int) : ∀ y ∈ (packR l n).1, y < 256 := by
  unfold packR
  split
  · split
    · intro y hy
      obtain ⟨x, _, h⟩ := List.mem_flatMap.1 hy
      exact pk_byte _ _ y h
    · simp
  · simp
theorem packR_len (l : List Int) (n : Int) : (packR l n).1.length ≤ 3 * l.length := by
  unfold packR
  split
  · rename_i h
    split
    · rw [pks_len]
      rcases szOf_cases h with h | h | h <;> rw [h] <;> omega
    · simp
  · simp
/-- The ways two rows pack. -/
theorem packR_join (a b : List Int) (n : Int) :
    (packR a n = ([], 1) ∧ packR b n = ([], 1) ∧ packR (a ++ b) n = ([], 1)) ∨ (packR a n = ([], 6) ∧ packR b n = ([], 6) ∧ packR (a ++ b) n = ([], 6)) ∨
    (packR a n = ([], 6) ∧ (∃ y, packR b n = (y, 0)) ∧ packR (a ++ b) n = ([], 6)) ∨ ((∃ x, packR a n = (x, 0)) ∧ packR b n = ([], 6) ∧ packR (a ++ b) n = ([], 6)) ∨
    (∃ x y, packR a n = (x, 0) ∧ packR b n = (y, 0) ∧ packR (a ++ b) n = (x ++ y, 0)) := by
  unfold packR
  by_cases h : packB n = true
  · rw [if_pos h, if_pos h, if_pos h, List.all_append, List.flatMap_append]
    cases ha : a.all (fun x => fitsB x n) <;> cases hb : b.all (fun x => fitsB x n) <;> simp
  · rw [if_neg h, if_neg h, if_neg h]; simp
theorem same_self (v1 v2 : Value) (l : List Nat) (w : World) (B1 B2 : Nat) (h1 : Sli w B1 v1 (cu8 l)) (h2 : Sli w B2 v2 (cu8 l)) (x1 : ∀ x ∈ l, x < 256) :
    Calls Try.prog 27 #[v1, v2] w fun e w' => e = .returned (.bool true) ∧ w = w' :=
  (same_any v1 v2 l l w B1 B2 h1 h2 x1 x1).mono fun _ _ ⟨he, h⟩ => ⟨by rw [he, decide_eq_true rfl], h⟩

theorem sampleJoins_walk (va : Value) (a : List Int) (vb : Value) (b : List Int) (n : Int) (w : World) (hA : Sli w w.heap.size va (ci a)) (hB : Sli w w.heap.size vb (ci b)) :
    Calls Try.prog 8 #[va, vb, .int .i64 n] w fun e w' => e = .returned (.bool true) ∧ Below w.heap.size w w' := by
  obtain ⟨A1, c1, rfl, hlc1, hcm1⟩ := hA.formI
  obtain ⟨A2, c2, rfl, hlc2, hcm2⟩ := hB.formI
  have hcm1' : a.length ≤ 9223372036854775807 := by unfold maxLen at hcm1; omega
  have hcm2' : b.length ≤ 9223372036854775807 := by unfold maxLen at hcm2; omega
  by_cases hlen : a.length ≤ 200 ∧ b.length ≤ 200
  · obtain ⟨hla, hlb⟩ := hlen
    have hla40 : a.length ≤ 1099511627776 := by omega
    have hlb40 : b.length ≤ 1099511627776 := by omega
    have hab40 : (a ++ b).length ≤ 1099511627776 := by rw [List.length_append]; omega
    have hra : ([] : List Value).length + (ci a).length ≤ 8796093022208 := by rw [ci_len]; simp; omega
    have hrb : ([] ++ ci a).length + (ci b).length ≤ 8796093022208 := by rw [List.nil_append, ci_len, ci_len]; omega
    obtain ⟨p, hp⟩ := IsW.ex a
    obtain ⟨q, hq⟩ := IsW.ex b
    have hp32 := hp.1
    have hq32 := hq.1
    have hpq := hp.app hq
    have hj := packR_join a b n
    have hxb := packR_byte a n
    have hyb := packR_byte b n
    have hxl := packR_len a n
    have hyl := packR_len b n
    have hpa := fun w B (hS : Sli w B (.slice A1 a.length c1) (ci a)) (hB : B ≤ w.heap.size) => pack_any _ a n w B hS hB hla40
    have hpb := fun w B (hS : Sli w B (.slice A2 b.length c2) (ci b)) (hB : B ≤ w.heap.size) => pack_any _ b n w B hS hB hlb40
    have hpc := fun v w B (hS : Sli w B v (ci (a ++ b))) (hB : B ≤ w.heap.size) => pack_any v (a ++ b) n w B hS hB hab40
    have hcab := ci_app a b
    generalize a ++ b = ab at *
    generalize packR a n = rx at *
    generalize packR b n = ry at *
    generalize packR ab n = rz at *
    obtain ⟨x, ex⟩ := rx
    obtain ⟨y, ey⟩ := ry
    obtain ⟨z, ez⟩ := rz
    have hD : (ex = 1 ∧ ey = 1 ∧ ez = 1 ∧ z = []) ∨ (ex = 6 ∧ ey = 6 ∧ ez = 6 ∧ z = []) ∨ (ex = 6 ∧ ey = 0 ∧ ez = 6 ∧ z = []) ∨ (ex = 0 ∧ ey = 6 ∧ ez = 6 ∧ z = []) ∨ (ex = 0 ∧ ey = 0 ∧ ez = 0 ∧ z = x ++ y) := by
      simp only [Prod.mk.injEq] at hj
      rcases hj with ⟨h1, h2, h3⟩ | ⟨h1, h2, h3⟩ | ⟨h1, ⟨y', h2⟩, h3⟩ | ⟨⟨x', h1⟩, h2, h3⟩ | ⟨x', y', h1, h2, h3⟩
      · exact .inl ⟨h1.2, h2.2, h3.2, h3.1⟩
      · exact .inr (.inl ⟨h1.2, h2.2, h3.2, h3.1⟩)
      · exact .inr (.inr (.inl ⟨h1.2, h2.2, h3.2, h3.1⟩))
      · exact .inr (.inr (.inr (.inl ⟨h1.2, h2.2, h3.2, h3.1⟩)))
      · exact .inr (.inr (.inr (.inr ⟨h1.2, h2.2, h3.2, by rw [h3.1, h1.1, h2.1]⟩)))
    have hPa : ∀ w B, Sli w B (.slice A1 a.length c1) (ci a) → B ≤ w.heap.size → Calls Try.prog 25 #[.slice A1 a.length c1, .int .i64 n] w (ByteP x ex w) := hpa
    have hPb : ∀ w B, Sli w B (.slice A2 b.length c2) (ci b) → B ≤ w.heap.size → Calls Try.prog 25 #[.slice A2 b.length c2, .int .i64 n] w (ByteP y ey w) := hpb
    have hPc : ∀ v w B, Sli w B v (ci ab) → B ≤ w.heap.size → Calls Try.prog 25 #[v, .int .i64 n] w (ByteP z ez w) := hpc
    have HP := Lib.hid hp; have HQ := Lib.hid hq; have HRB := Lib.hid hrb; have HD := Lib.hid hD; have HPA := Lib.hid hPa; have HPB := Lib.hid hPb; have HPC := Lib.hid hPc
    have HXB := Lib.hid hxb; have HYB := Lib.hid hyb; have HXL := Lib.hid hxl; have HYL := Lib.hid hyl; have HCAB := Lib.hid hcab
    have hr : (p < q ∧ IsW ab q) ∨ (¬ p < q ∧ IsW ab p) := by
      by_cases h : p < q
      · left; rw [Nat.max_eq_right (by omega)] at hpq; exact ⟨h, hpq⟩
      · right; rw [Nat.max_eq_left (by omega)] at hpq; exact ⟨h, hpq⟩
    clear hp hq hrb hD hPa hPb hPc hpa hpb hpc hxb hyb hxl hyl hcab hj hpq
    rcases hr with ⟨hr, hR⟩ | ⟨hr, hR⟩
    all_goals
      have HR := Lib.hid hR
      clear hR
      go_enter Try.func8, Try.ntmps8
      go_wp2_with (first
        | (go_at_call 9; refine (known_any w).mono ?_; rintro e w1 ⟨rfl, hb1⟩; have hA1 := (hA.below hb1).more hb1.size; have hB1 := (hB.below hb1).more hb1.size; have hO := Own.empty w1 3; have hA1' := hA1.below ((Below.refl _ _).alloc (o := .cells #[] 3) (Nat.le_refl _)); have hone := ci_one a)
        | (at_builtin; refine wpl_appN hO hA1' (by simp) hra Try.underlying22 info_int rfl (by decide) hone rfl rfl rfl rfl (h := ?_); intro v2 w2 ho2 hb2; refine cut_here ?_))
      have hb12 := ((Below.refl w1.heap.size w1).alloc (Nat.le_refl _) (.cells #[] 3)).trans hb2
      have hA2 := (hA1.below hb12)
      have hB2 := (hB1.below hb12)
      have hone2 := ci_one b
      clear hA1' hO hb2 hone
      unfold CutHere
      go_wp2_with (at_builtin; refine wpl_appN ho2 hB2 hb12.size HRB.out Try.underlying22 info_int rfl (by decide) hone2 rfl rfl rfl rfl (h := ?_); intro v3 w3 ho3 hb3; refine cut_here ?_)
      rw [List.nil_append, ← HCAB.out] at ho3
      obtain ⟨A3, c3, rfl, _, _⟩ := ho3.formI
      have hb13 := hb12.trans hb3
      have hA3 := hA1.below hb13
      have hB3 := hB1.below hb13
      clear hone2 hA2 hB2 ho2 hb12 hb3
      unfold CutHere
      go_wp2_with (first
        | (go_at_call_of 25 (Value.slice A1 a.length c1); refine (HPA.out w3 _ hA3 hb13.size).mono ?_; rintro e w4 ⟨v4, rfl, ho4, hb4⟩; obtain ⟨A4, c4, rfl, _, _⟩ := ho4.form8; refine cut_here ?_))
      have hb14 := hb13.trans (hb4.mono hb13.size)
      have hA4 := hA1.below hb14
      have hB4 := hB1.below hb14
      have ho34 := ho3.kept hb4
      unfold CutHere
      go_wp2_with (first
        | (go_at_call_of 25 (Value.slice A2 b.length c2); refine (HPB.out w4 _ hB4 hb14.size).mono ?_; rintro e w5 ⟨v5, rfl, ho5, hb5⟩; obtain ⟨A5, c5, rfl, _, _⟩ := ho5.form8; refine cut_here ?_))
      have hb15 := hb14.trans (hb5.mono hb14.size)
      have ho35 := ho34.kept hb5
      have ho45 := ho4.kept hb5
      unfold CutHere
      go_wp2_with (first
        | (go_at_call 25; refine (HPC.out _ w5 _ ho35.sli (Nat.le_refl _)).mono ?_; rintro e w6 ⟨v6, rfl, ho6, hb6⟩; obtain ⟨A6, c6, rfl, _, _⟩ := ho6.form8; refine cut_here ?_))
      have hb16 := hb15.trans (hb6.mono hb15.size)
      have hA6 := hA1.below hb16
      have hB6 := hB1.below hb16
      have ho36 := ho35.kept hb6
      have ho46 := ho45.kept hb6
      have ho56 := ho5.kept hb6
      clear hA3 hB3 hA4 hB4 ho34 ho35 ho45 hb13 hb14 hb15
      unfold CutHere
      have hbb := bthen hb1 hb16 hb1.size
      rcases HD.out with ⟨rfl, rfl, rfl, rfl⟩ | ⟨rfl, rfl, rfl, rfl⟩ | ⟨rfl, rfl, rfl, rfl⟩ | ⟨rfl, rfl, rfl, rfl⟩ | ⟨rfl, rfl, rfl, hz⟩
    all_goals
      try (have HZ := Lib.hid hz; clear hz)
      go_wp2_with (first
        | (go_at_call_of 16 (Value.slice A1 a.length c1); refine (width_is hA6 hla40 HP.out).mono ?_; rintro e w7 ⟨rfl, rfl⟩)
        | (go_at_call_of 16 (Value.slice A2 b.length c2); refine (width_is hB6 hlb40 HQ.out).mono ?_; rintro e w7 ⟨rfl, rfl⟩)
        | (go_at_call_of 16 (Value.slice A3 ab.length c3); refine (width_is ho36.sli hab40 HR.out).mono ?_; rintro e w7 ⟨rfl, rfl⟩)
        | (at_builtin; refine cut_here ?_))
      first
        | (go_ret; exact ⟨rfl, hbb⟩)
        | skip
    all_goals
      have hO8 := Own.empty w6 5
      have hx6 := ho46.sli.below ((Below.refl w6.heap.size w6).alloc (Nat.le_refl _) (.cells #[] 5))
      have hxl := HXL.out
      have hyl := HYL.out
      have hr1 : ([] : List Value).length + (cu8 x).length ≤ 8796093022208 := by rw [cu8_len]; simp; omega
      have hr2 : ([] ++ cu8 x).length + (cu8 y).length ≤ 8796093022208 := by rw [List.nil_append, cu8_len, cu8_len]; omega
      have HR2 := Lib.hid hr2
      have hone := cu8_one x
      have hxy : ∀ u ∈ x ++ y, u < 256 := fun u hu => by
        rcases List.mem_append.1 hu with h | h
        · exact HXB.out u h
        · exact HYB.out u h
      rw [← HZ.out] at hxy
      have HXY := Lib.hid hxy
      have HAPP := Lib.hid (show cu8 z = cu8 x ++ cu8 y by rw [HZ.out, cu8_app])
      clear hxl hyl hxy hr2 HD HPA HPB HPC
      unfold CutHere
      refine wpl_appG hO8 hx6 (by simp) hr1 Try.underlying33 info_u8 rfl (by decide) hone rfl rfl rfl rfl (h := ?_)
      intro v7 w7 ho7 hb7
      have hb67 := ((Below.refl w6.heap.size w6).alloc (Nat.le_refl _) (.cells #[] 5)).trans hb7
      have hy7 := ho56.sli.below hb67
      have hone2 := cu8_one y
      clear hone hO8 hx6 hr1 hb7
      go_wp2_with (at_builtin; go_loud (refine wpl_appG ho7 hy7 hb67.size HR2.out Try.underlying33 info_u8 rfl (by decide) hone2 rfl rfl rfl rfl (h := ?_)); intro v8 w8 ho8 hb8; refine cut_here ?_)
      rw [List.nil_append, ← HAPP.out] at ho8
      obtain ⟨A8, c8, rfl, _, _⟩ := ho8.form8
      have hb68 := hb67.trans hb8
      have hz8 := ho6.sli.below hb68
      clear hone2 hb8 hy7
      unfold CutHere
      go_wp2_with (go_at_call 27; refine (same_self _ _ z _ _ _ hz8 ho8.sli HXY.out).mono ?_; rintro e w9 ⟨rfl, rfl⟩)
      go_ret
      exact ⟨rfl, bthen hbb hb68 hbb.size⟩
  · have hor : (200 < a.length) ∨ (a.length ≤ 200 ∧ 200 < b.length) := by omega
    rcases hor with h | ⟨h, h'⟩
    all_goals
      go_enter Try.func8, Try.ntmps8
      go_wp2_with (go_at_call 9; refine (known_any w).mono ?_; rintro e w1 ⟨rfl, hb1⟩)
      go_ret
      exact ⟨rfl, hb1⟩
end Go.Proofs.Yteopogclmdhphaa
