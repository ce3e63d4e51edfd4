/- bytes.Clone. -/
import Derived.Test.YthecibabpcfoaaaByt
namespace Go.Proofs.Ythecibabpcfoaaa
open Go.RowKit
set_option maxRecDepth 100000
set_option maxHeartbeats 400000

theorem clone_any (v : Value) (l : List Nat) (w : World) (hl : Sli w w.heap.size v (cu8 l)) (hn : l.length ≤ 1099511627776) :
    Calls Try.prog 41 #[v] w fun e w' => ∃ v', e = .returned v' ∧ Own w' w.heap.size 5 v' (cu8 l) ∧ Below w.heap.size w w' := by
  obtain ⟨A, c, rfl, hh, hlc, hcm, hnc⟩ := hl
  rcases A with _ | ad
  · have h0 : l = [] := by
      rcases hh.2 with h0 | ⟨b, o, e, _⟩
      · simpa [cu8] using h0
      · simp at e
    subst h0
    obtain rfl := hnc rfl
    clear hlc hcm hnc hh hn
    have hq := fun (W : World) (n : Nat) => Lib.run_eql_slice_nil (P := Try.prog) W 35 5 none n 0 0 0 Try.underlying35
    go_enter Try.func41, Try.ntmps41
    go_wp2
    go_ret
    exact ⟨_, rfl, Own.nil _ _ _, Below.refl _ _⟩
  · have hS : Sli (w.alloc (.cells #[] 5)) w.heap.size (.slice (some ad) (cu8 l).length c) (cu8 l) := ⟨_, c, rfl, hh.keep fun p hp => World.cell?_alloc_lt w _ p hp, hlc, hcm, by simp⟩
    have hO : Own (w.alloc (.cells #[] 5)) w.heap.size 5 (.slice (some ⟨w.heap.size, 0, none⟩) 0 0) [] := World.ownsRow_made w #[] 0 (Nat.le_refl _) (by simp [maxLen]) rfl
    have HH := Lib.hid hh; clear hh hnc hlc
    have hq := fun (W : World) (n : Nat) => Lib.run_eql_slice_nil (P := Try.prog) W 35 5 (some ad) n c 0 0 Try.underlying35
    go_enter Try.func41, Try.ntmps41
    go_wp2_with (at_builtin; go_loud (refine wpl_appN hO hS (by simp) (by simp [cu8]; omega) Try.underlying35 info_u8 rfl (by decide) (cu8_one l) rfl rfl rfl rfl ?_); intro v2 w2 hown2 hbel2)
    go_ret
    exact ⟨v2, rfl, hown2, ((Below.refl _ _).alloc (Nat.le_refl _) _).trans hbel2⟩

end Go.Proofs.Ythecibabpcfoaaa
