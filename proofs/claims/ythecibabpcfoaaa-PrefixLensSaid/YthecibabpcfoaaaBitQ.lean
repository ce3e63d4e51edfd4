/- The reference's writer of bits. -/
import Derived.Test.YthecibabpcfoaaaBitV
import Derived.Deep.LoopGhost
namespace Go.Proofs.Ythecibabpcfoaaa
open Go.RowKit
set_option maxRecDepth 100000
set_option maxHeartbeats 400000

def c01 (L : List Bool) : List Value := cu8 (L.map Bool.toNat)
theorem c01_len (L : List Bool) : (c01 L).length = L.length := by simp [c01, cu8]
theorem blk1 {w : World} {g : Nat} {a : Value} {t : TypeId} (h : w.heap[g]? = some (.cells #[a] t (0, 0))) :
    w.cell? ⟨g, 0, none⟩ = some a ∧ ∀ i, w.frozen? ⟨g, i, none⟩ = false :=
  ⟨by rw [cell_of_row w g 0 _ t (0, 0) h]; rfl, fun i => frozen_of_row w g i _ t h⟩
theorem bit64 {x t : Nat} (hx : x < 18446744073709551616) : bits .and .u64 ((x : Int) / 2 ^ t) 1 = (((x.testBit t).toNat : Nat) : Int) := by
  have e : (x : Int) / 2 ^ t = ((x / 2 ^ t : Nat) : Int) := by simp
  have : x / 2 ^ t ≤ x := Nat.div_le_self _ _
  rw [e, show (1 : Int) = ((1 : Nat) : Int) from rfl, u64_and_nat _ _ (by omega) (by omega), nat_mask1, toNat_testBit]
theorem msb_bit (x i : Nat) : msb (x / 2 ^ i % 2 ^ 1) 1 = [x.testBit i] := by
  rw [msb_mod]; unfold msb
  simp [List.range_succ, ← Nat.shiftRight_eq_div_pow]
theorem toNat_le1 (b : Bool) : b.toNat ≤ 1 := by cases b <;> simp

/-- The first k bits lie in their bytes. -/
structure Filled (l : List Nat) (L : List Bool) (k : Nat) : Prop where
  len : l.length = (L.length + 7) / 8
  byte : ∀ x ∈ l, x < 256
  bit : ∀ i, bitAt l i = (decide (i < k) && gb L i)
theorem Filled.start (L : List Bool) : Filled (List.replicate ((L.length + 7) / 8) 0) L 0 := by
  refine ⟨by simp, fun x hx => ?_, fun i => ?_⟩
  · have := (List.mem_replicate.1 hx).2; omega
  · unfold bitAt
    rw [List.getD_eq_getElem?_getD, List.getElem?_replicate]
    split <;> simp
theorem Filled.done {l : List Nat} {L : List Bool} (h : Filled l L L.length) : Packed l L := by
  refine ⟨h.len, h.byte, fun i => ?_⟩
  rw [h.bit]
  by_cases hi : i < L.length
  · simp [hi]
  · rw [gb_out (by omega)]; simp
theorem Filled.step {l : List Nat} {L : List Bool} {k x : Nat} (h : Filled l L k) (hk : k < L.length) (hx : l[k / 8]? = some x) :
    Filled (l.set (k / 8) (x ||| (gb L k).toNat * 2 ^ (7 - k % 8))) L (k + 1) := by
  have hxb := h.byte x (List.mem_of_getElem? hx)
  have hkl : k / 8 < l.length := (List.getElem?_eq_some_iff.1 hx).1
  have hy : x ||| (gb L k).toNat * 2 ^ (7 - k % 8) < 256 := Nat.or_lt_two_pow (n := 8) hxb (shl8 (s := 1) (by have := toNat_le1 (gb L k); omega) (by omega))
  refine ⟨by simp [h.len], fun y hy' => ?_, fun i => ?_⟩
  · rcases List.mem_or_eq_of_mem_set hy' with h' | h'
    · exact h.byte y h'
    · omega
  · rw [bitAt_set _ _ _ _ hkl]
    by_cases hik : i / 8 = k / 8
    · have hxi : x.testBit (7 - i % 8) = (decide (i < k) && gb L i) := by
        rw [← h.bit i, bitAt, hik, List.getD_eq_getElem?_getD, hx]; rfl
      rw [if_pos hik, Nat.testBit_or, hxi, ← Nat.shiftLeft_eq, Nat.testBit_shiftLeft]
      by_cases he : i = k
      · subst he
        simp
        cases gb L i <;> simp
      · by_cases hlt : i < k
        · rw [Nat.testBit_lt_two_pow (x := (gb L k).toNat) (Nat.lt_of_lt_of_le (show _ < 2 by have := toNat_le1 (gb L k); omega) (show 2 ≤ 2 ^ (7 - i % 8 - (7 - k % 8)) from Nat.pow_le_pow_right (n := 2) (by omega) (show 1 ≤ 7 - i % 8 - (7 - k % 8) by omega)))]
          simp [hlt, show i < k + 1 by omega]
        · rw [decide_eq_false (show ¬ 7 - i % 8 ≥ 7 - k % 8 by omega)]
          simp [hlt, show ¬ i < k + 1 by omega]
    · rw [if_neg hik, h.bit]
      have : (i < k) ↔ (i < k + 1) := by omega
      simp [this]

end Go.Proofs.Ythecibabpcfoaaa
