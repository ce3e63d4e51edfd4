/- octet: 'known', 'Same'. -/
import Derived.Test.YtcmlnjohjjibnaaOctS
namespace Go.Proofs.Ytcmlnjohjjibnaa
open Go.RowKit
set_option maxRecDepth 100000
set_option maxHeartbeats 400000

theorem known_any (w : World) : Calls Try.prog 10 #[] w fun e w' => e = .returned (.bool true) ∧ Below w.heap.size w w' := by
  have hlit : Sli (w.alloc (.cells #[.int .u64 300, .int .u64 1] 29)) (w.alloc (.cells #[.int .u64 300, .int .u64 1] 29)).heap.size (.slice (some ⟨w.heap.size, 0, none⟩) 2 2) (cu64 [300, 1]) := by
    have := Sli.lit w #[.int .u64 300, .int .u64 1] 29 2 rfl (by simp [maxLen])
    simpa [cu64] using this
  have hput := put_any _ [300, 1] _ hlit (by simp) (by simp)
  rw [show vputs [300, 1] = [172, 2, 1] by simp [vputs, vput_ge, vput_lt]] at hput
  have hnum : rdNum [172, 2, 1] 0 0 300 = (300, 2, 0) := by decide +kernel
  have HP := Lib.hid hput; clear hput hlit
  have HN := Lib.hid hnum; clear hnum
  go_enter Try.func10, Try.ntmps10
  go_wp2_with (first
    | (go_at_call 28; refine (HP.out).mono ?_; rintro e w1 ⟨v1, rfl, ho1, hb1⟩; obtain ⟨A1, k1, rfl, _, _⟩ := ho1.form; simp only [cu8_len, List.length_cons, List.length_nil, Nat.reduceAdd] at ho1 ⊢)
    | (go_at_call 11; refine (new_any _ [172, 2, 1] _ ho1.sli (by simp) (by simp)).mono ?_; rintro e w2 ⟨g, rfl, hR2, hg2, hb2⟩)
    | (go_at_call 13; refine (num_any hR2 300).mono ?_; rw [HN.out]; rintro e w3 ⟨rfl, hR3, hg3⟩; have hq := run_str (P := Try.prog) (((ho1.sli).below hb2).below (below_of_only hg3 hg2 hb2.size)) Try.underlying22 Try.underlying5 Try.underlying9; rw [show bstr [172, 2, 1] = ⟨#[172, 2, 1]⟩ from rfl] at hq)
    | (go_at_call 24; refine (at_any hR3).mono ?_; rintro e w4 ⟨rfl, rfl⟩)
    | (go_at_call 25; refine (left_any hR3).mono ?_; rintro e w4 ⟨rfl, nd, rfl⟩)
    | (go_at_call 27; refine (err_any (hR3.drewN nd)).mono ?_; rintro e w4 ⟨rfl, rfl⟩)
    | (go_at_call 32; refine (zig_any (-3) _ (by omega) (by omega)).mono ?_; rw [show zigI (-3) = 5 from rfl]; rintro e w4 ⟨rfl, rfl⟩)
    | (go_at_call 33; refine (zag_any 5 _ (by omega)).mono ?_; rw [show zagI 5 = -3 from rfl]; rintro e w4 ⟨rfl, rfl⟩))
  go_ret
  refine ⟨rfl, ?_⟩
  have h0 : Below w.heap.size w (w.alloc (.cells #[.int .u64 300, .int .u64 1] 29)) := (Below.refl _ _).alloc (Nat.le_refl _) _
  have h1 := h0.trans (hb1.mono h0.size)
  have h2 := h1.trans (hb2.mono h1.size)
  exact below_drewN (h2.trans (below_of_only hg3 (Nat.le_trans h1.size hg2) h2.size)) nd

end Go.Proofs.Ytcmlnjohjjibnaa
