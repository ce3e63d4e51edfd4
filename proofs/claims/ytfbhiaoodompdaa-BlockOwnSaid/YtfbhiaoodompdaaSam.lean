/- kinoraref2.Same. -/
import Derived.Test.YtfbhiaoodompdaaByt
namespace Go.Proofs.Ytfbhiaoodompdaa
open Go.RowKit
set_option maxRecDepth 100000
set_option maxHeartbeats 400000

theorem same_any (v1 v2 : Value) (l1 l2 : List Nat) (w : World) (B1 B2 : Nat) (h1 : Sli w B1 v1 (cu8 l1)) (h2 : Sli w B2 v2 (cu8 l2)) (x1 : ∀ x ∈ l1, x < 256) (x2 : ∀ x ∈ l2, x < 256) :
    Calls Try.prog 25 #[v1, v2] w fun e w' => e = .returned (.bool (decide (l1 = l2))) ∧ w = w' := by
  have q1 := run_str (P := Try.prog) h1 Try.underlying29 Try.underlying5 Try.underlying9
  have q2 := run_str (P := Try.prog) h2 Try.underlying29 Try.underlying5 Try.underlying9
  have hi : ((bstr l1).toList = (bstr l2).toList) ↔ l1 = l2 := ⟨fun h => bstr_inj x1 x2 (by rw [ByteArray.toList_eq, ByteArray.toList_eq] at h; exact ByteArray.ext (Array.toList_inj.mp h)), fun h => by rw [h]⟩
  obtain ⟨A1, c1, rfl, _, _⟩ := h1.form8
  obtain ⟨A2, c2, rfl, _, _⟩ := h2.form8
  have HI := Lib.hid hi
  clear hi h1 h2 x1 x2
  generalize bstr l1 = s1 at *
  generalize bstr l2 = s2 at *
  go_enter Try.func25, Try.ntmps25
  go_wp2
  go_ret
  refine ⟨?_, rfl⟩
  show Ending.returned (.bool _) = _
  congr 2
  rw [Bool.eq_iff_iff]
  simp only [beq_iff_eq, decide_eq_true_eq]
  exact HI.out
theorem same_self (v1 v2 : Value) (l : List Nat) (w : World) (B1 B2 : Nat) (h1 : Sli w B1 v1 (cu8 l)) (h2 : Sli w B2 v2 (cu8 l)) (x1 : ∀ x ∈ l, x < 256) :
    Calls Try.prog 25 #[v1, v2] w fun e w' => e = .returned (.bool true) ∧ w = w' :=
  (same_any v1 v2 l l w B1 B2 h1 h2 x1 x1).mono fun _ _ ⟨he, h⟩ => ⟨by rw [he, decide_eq_true rfl], h⟩
end Go.Proofs.Ytfbhiaoodompdaa
