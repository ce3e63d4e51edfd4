/- rice: 'known'. -/
import Derived.Test.YtohbpjehphmedaaRicW
import Derived.Test.YtohbpjehphmedaaRicG
import Derived.Test.YtohbpjehphmedaaBitK
import Derived.Test.YtohbpjehphmedaaSam
namespace Go.Proofs.Ytohbpjehphmedaa
open Go.RowKit
set_option maxRecDepth 100000
set_option maxHeartbeats 800000

/-- A row in a block by itself. -/
theorem Stays.at {w : World} {B g b o n c : Nat} {v : Value} {xs : List Value} (h : Sli w B (.slice (some ⟨b, o, none⟩) n c) xs) (hw : b < w.heap.size) (hg : b ≠ g) (hv : v.ownBlock ≠ some b) : Stays w g v (.slice (some ⟨b, o, none⟩) n c) xs := by
  intro w' v' hm
  obtain ⟨A, c', e, hh, r⟩ := h
  injection e with e1 e2 e3
  subst e1; subst e2; subst e3
  refine ⟨B, _, _, rfl, ⟨rfl, ?_⟩, r⟩
  rcases hh.2 with h0 | ⟨b2, o2, e, hb, hc⟩
  · exact .inl h0
  · injection e with e; injection e with e1 e2
    subst e1; subst e2
    exact .inr ⟨b, o, rfl, hb, fun j hj => (World.cell?_of_block (hm.block b hw hg hv)).trans (hc j hj)⟩
theorem apart_types {w : World} {b1 b2 : Nat} {e1 e2 : TypeId} {v1 v2 : Value} {xs ys : List Value} (h1 : Own w b1 e1 v1 xs) (h2 : Own w b2 e2 v2 ys) (hne : e1 ≠ e2) : Apart v1 v2 := by
  intro k hk hk2
  obtain ⟨c1, q1⟩ := h1.blk hk
  obtain ⟨c2, q2⟩ := h2.blk hk2
  rw [q1] at q2
  injection q2 with q2; injection q2 with _ q2
  exact hne q2
/-- A row of ints of one's own. -/
theorem Stays.of_own {w : World} {b1 b2 g : Nat} {v u : Value} {L : List Bool} {xs : List Value} (hW : WrO w b1 g v L) (ho : Own w b2 3 u xs) : Stays w g v u xs := by
  intro w' v' hm
  obtain ⟨_, h1, l, h2, _⟩ := hW
  exact ⟨_, (ho.moved hm h1 (by decide) (apart_types h2 ho (by decide))).sli⟩
theorem packed_58 : Packed [88] [false, true, false, true, true, false, false] := by
  refine ⟨rfl, by simp, fun i => ?_⟩
  by_cases hi : i < 8
  · have : ∀ j : Fin 8, bitAt [88] j.val = gb [false, true, false, true, true, false, false] j.val := by decide +kernel
    exact this ⟨i, hi⟩
  · rw [gb_out (by simp; omega)]
    unfold bitAt
    rw [List.getD_eq_getElem?_getD, List.getElem?_eq_none (by simp; omega)]; simp
end Go.Proofs.Ytohbpjehphmedaa
