/- bits: 'known', 'low'. -/
import Derived.Test.YthecibabpcfoaaaBitS
import Derived.Test.YthecibabpcfoaaaBitV
import Derived.Test.YthecibabpcfoaaaSam
namespace Go.Proofs.Ythecibabpcfoaaa
open Go.RowKit
set_option maxRecDepth 100000
set_option maxHeartbeats 400000

theorem WrO.start (w : World) {base : Nat} (h : base ≤ w.heap.size) : WrO (w.alloc (.cells #[.slice none 0 0, .int .i64 0] 52)) base w.heap.size (.slice none 0 0) [] :=
  ⟨h, heap_alloc_new w _, [], Own.nil _ _ _, Packed.nil⟩
theorem WrO.below {w w' : World} {base g : Nat} {v : Value} {L : List Bool} (h : WrO w base g v L) (hb : Below w.heap.size w w') : WrO w' base g v L := by
  have hlt := h.lt
  obtain ⟨h0, h1, l, h2, h3⟩ := h
  exact ⟨h0, (hb.block g hlt).trans h1, l, h2.kept hb, h3⟩
theorem WrO.only {w w' : World} {base g g' : Nat} {v : Value} {L : List Bool} {cs : Array Value} {t : TypeId} {fr : Nat × Nat} (h : WrO w base g v L) (hg' : w.heap[g']? = some (.cells cs t fr)) (ht : 5 ≠ t) (hg : w.grownBy w' (some g')) (hne : g ≠ g') : WrO w' base g v L := by
  have hlt := h.lt
  obtain ⟨h0, h1, l, h2, h3⟩ := h
  exact ⟨h0, (hg.block g hlt (by simp; exact hne)).trans h1, l, h2.far hg' ht hg, h3⟩

theorem mask_eq {n : Nat} (h : n ≤ 63) : IntKind.u64.wrap (IntKind.u64.wrap (2 ^ n) - 1) = ((2 ^ n - 1 : Nat) : Int) := by
  have h1 : 2 ^ n ≤ 2 ^ 63 := Nat.pow_le_pow_right (by omega) h
  have h0 : 0 < 2 ^ n := Nat.pow_pos (by omega)
  have e : (2 : Int) ^ n = ((2 ^ n : Nat) : Int) := by simp
  have w1 : IntKind.u64.wrap ((2 ^ n : Nat) : Int) = (2 ^ n : Nat) := IntWalk.u64_in _ (by omega)
  rw [e, w1, show ((2 ^ n : Nat) : Int) - 1 = ((2 ^ n - 1 : Nat) : Int) by omega]
  exact IntWalk.u64_in _ (by omega)
theorem packed_a4 : Packed [164] [true, false, true, false, false, true] := by
  refine ⟨rfl, by simp, fun i => ?_⟩
  by_cases hi : i < 8
  · have : ∀ j : Fin 8, bitAt [164] j.val = gb [true, false, true, false, false, true] j.val := by decide +kernel
    exact this ⟨i, hi⟩
  · rw [gb_out (by simp; omega)]
    unfold bitAt
    rw [List.getD_eq_getElem?_getD, List.getElem?_eq_none (by simp; omega)]; simp

end Go.Proofs.Ythecibabpcfoaaa
