/- sample: 'known'. -/
import Derived.Test.YteopogclmdhphaaSmpK
namespace Go.Proofs.Yteopogclmdhphaa
open Go.RowKit
set_option maxRecDepth 100000
set_option maxHeartbeats 800000

theorem Own.formI {w : World} {base : Nat} {e : TypeId} {v : Value} {l : List Int} (h : Own w base e v (ci l)) : ∃ A c, v = .slice A l.length c ∧ l.length ≤ c ∧ c ≤ maxLen := h.sli.formI
theorem isW_m1 : IsW [-1] 1 := by
  refine ⟨by omega, ?_, .inr ⟨-1, by simp, ?_⟩⟩
  · intro x hx
    simp at hx; subst hx
    exact .inr (.inr (by decide +kernel))
  · exact okW_not (by omega) (by omega) (by decide +kernel)
theorem isZ_824 : IsZ (orAll [8, -24]) 3 := by
  have h : orAll [8, -24] = -24 := by decide +kernel
  rw [h]
  exact ⟨by omega, by omega, fun _ => ⟨by decide +kernel, fun _ => by decide +kernel⟩⟩
theorem pack_two : packR [-1, 2047] 12 = ([255, 255, 255, 7], 0) := by decide +kernel
theorem unpack_two : unpackR [255, 255, 255, 7] 12 = ([-1, 2047], 0) := by decide +kernel

theorem known_any (w : World) : Calls Try.prog 9 #[] w fun e w' => e = .returned (.bool true) ∧ Below w.heap.size w w' := by
  have hlit : Sli (w.alloc (.cells #[.int .i64 (-1), .int .i64 2047] 3)) (w.heap.size + 1) (.slice (some ⟨w.heap.size, 0, none⟩) 2 2) (ci [-1, 2047]) := Sli.lit w #[.int .i64 (-1), .int .i64 2047] 3 2 rfl (by simp [maxLen])
  have hp := pack_any _ [-1, 2047] 12 _ _ hlit (by simp) (by simp)
  rw [pack_two] at hp
  have HP := Lib.hid hp; clear hp hlit
  have HU := Lib.hid unpack_two
  have HL := Lib.hid (show lowI 8 = -128 by decide +kernel)
  go_enter Try.func9, Try.ntmps9
  go_wp2_with (first
    | (go_at_call 25; refine (HP.out).mono ?_; rintro e w1 ⟨v1, rfl, ho1, hb1⟩; obtain ⟨A1, k1, rfl, _, _⟩ := ho1.form8; simp only [List.length_cons, List.length_nil, Nat.reduceAdd] at ho1 hb1 ⊢)
    | (go_at_call 26; refine (unpack_any _ [255, 255, 255, 7] 12 _ _ ho1.sli (Nat.le_refl _) (by decide) (by decide)).mono ?_; rw [HU.out]; rintro e w2 ⟨v2, rfl, ho2, hb2⟩; obtain ⟨A2, k2, rfl, _, _⟩ := ho2.formI; simp only [List.length_cons, List.length_nil, Nat.reduceAdd] at ho2 ⊢; have hq := run_str (P := Try.prog) (l := [255, 255, 255, 7]) ((ho1.sli).below hb2) Try.underlying33 Try.underlying5 Try.underlying9; rw [show bstr [255, 255, 255, 7] = ⟨#[255, 255, 255, 7]⟩ from rfl] at hq)
    | (go_at_call 24; go_loud (refine (sameInts_any _ _ [-1, 2047] [-1, 2047] _ _ _ (ho2.sli.below ((Below.refl _ _).alloc (Nat.le_refl _) _)) (Sli.lit _ #[.int .i64 (-1), .int .i64 2047] 3 2 rfl (by simp [maxLen])) (by decide) (by decide)).mono ?_; rw [decide_eq_true rfl]; rintro e w3 ⟨rfl, hw3⟩; have HW3 := Lib.hid hw3; clear hw3))
    | (go_at_call 10; refine (low_any 8 _).mono ?_; rw [HL.out]; rintro e w4 ⟨rfl, rfl⟩)
    | (go_at_call 16; go_loud (refine (width_is (Sli.lit _ #[.int .i64 (-1)] 3 1 rfl (by simp [maxLen])) (by decide) isW_m1).mono ?_; rintro e w5 ⟨rfl, hw5⟩; have HW5 := Lib.hid hw5; clear hw5))
    | (go_at_call 22; go_loud (refine (wasted_is (Sli.lit _ #[.int .i64 8, .int .i64 (-24)] 3 2 rfl (by simp [maxLen])) (by decide) isZ_824).mono ?_; rintro e w6 ⟨rfl, hw6⟩; have HW6 := Lib.hid hw6; clear hw6)))
  go_ret
  obtain ⟨nd, rfl⟩ := HW3.out
  have h5 := HW5.out
  have h6 := HW6.out
  subst h5; subst h6
  have b0 : Below w.heap.size w (w.alloc (.cells #[.int .i64 (-1), .int .i64 2047] 3)) := (Below.refl _ _).alloc (Nat.le_refl _) _
  have b1 := b0.trans (hb1.mono b0.size)
  have b2 := b1.trans (hb2.mono b1.size)
  have b3 := below_drewN (b2.alloc b2.size (.cells #[.int .i64 (-1), .int .i64 2047] 3)) nd
  have b4 := b3.alloc b3.size (.cells #[.int .i64 (-1)] 3)
  exact ⟨rfl, b4.alloc b4.size _⟩
end Go.Proofs.Yteopogclmdhphaa
