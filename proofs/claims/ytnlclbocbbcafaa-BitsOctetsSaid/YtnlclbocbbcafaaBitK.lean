/- bits: 'known', 'low'. -/
import Derived.Test.YtnlclbocbbcafaaBitS
import Derived.Test.YtnlclbocbbcafaaBitV
import Derived.Test.YtnlclbocbbcafaaSam
namespace Go.Proofs.Ytnlclbocbbcafaa
open Go.RowKit
set_option maxRecDepth 100000
set_option maxHeartbeats 400000

theorem WrO.start (w : World) {base : Nat} (h : base ≤ w.heap.size) : WrO (w.alloc (.cells #[.slice none 0 0, .int .i64 0] 27)) base w.heap.size (.slice none 0 0) [] :=
  ⟨h, heap_alloc_new w _, [], Own.nil _ _ _, Packed.nil⟩
theorem WrO.below {w w' : World} {base g : Nat} {v : Value} {L : List Bool} (h : WrO w base g v L) (hb : Below w.heap.size w w') : WrO w' base g v L := by
  have hlt := h.lt
  obtain ⟨h0, h1, l, h2, h3⟩ := h
  exact ⟨h0, (hb.block g hlt).trans h1, l, h2.kept hb, h3⟩
theorem WrO.only {w w' : World} {base g g' : Nat} {v : Value} {L : List Bool} {cs : Array Value} {t : TypeId} {fr : Nat × Nat} (h : WrO w base g v L) (hg' : w.heap[g']? = some (.cells cs t fr)) (ht : 5 ≠ t) (hg : w.grownBy w' (some g')) (hne : g ≠ g') : WrO w' base g v L := by
  have hlt := h.lt
  obtain ⟨h0, h1, l, h2, h3⟩ := h
  exact ⟨h0, (hg.block g hlt (by simp; exact hne)).trans h1, l, h2.far hg' ht hg, h3⟩

theorem mask_eq {n : Nat} (h : n ≤ 63) : IntKind.u64.wrap (IntKind.u64.wrap (2 ^ n) - 1) = ((2 ^ n - 1 : Nat) : Int) := by
  have h1 : 2 ^ n ≤ 2 ^ 63 := Nat.pow_le_pow_right (by omega) h
  have h0 : 0 < 2 ^ n := Nat.pow_pos (by omega)
  have e : (2 : Int) ^ n = ((2 ^ n : Nat) : Int) := by simp
  have w1 : IntKind.u64.wrap ((2 ^ n : Nat) : Int) = (2 ^ n : Nat) := IntWalk.u64_in _ (by omega)
  rw [e, w1, show ((2 ^ n : Nat) : Int) - 1 = ((2 ^ n - 1 : Nat) : Int) by omega]
  exact IntWalk.u64_in _ (by omega)
theorem low_any (v n : Nat) (w : World) (hv : v < 18446744073709551616) (hn : n ≤ 64) :
    Calls Try.prog 36 #[.int .u64 v, .int .i64 n] w fun e w' => e = .returned (.int .u64 (v % 2 ^ n : Nat)) ∧ w = w' := by
  by_cases h : n = 64
  · subst h
    rw [Nat.mod_eq_of_lt (show v < 2 ^ 64 from hv)]
    go_enter Try.func36, Try.ntmps36
    go_wp2
    go_ret
    exact ⟨rfl, rfl⟩
  · have hn63 : n ≤ 63 := by omega
    have hm := u64_mask n hn63 v
    have hun : IntKind.u64.wrap ((n : Nat) : Int) = (n : Nat) := IntWalk.u64_in _ (by omega)
    go_enter Try.func36, Try.ntmps36
    go_wp2
    go_ret
    refine ⟨?_, rfl⟩
    rw [← hm, ← mask_eq hn63]; rfl

theorem packed_a4 : Packed [164] [true, false, true, false, false, true] := by
  refine ⟨rfl, by simp, fun i => ?_⟩
  by_cases hi : i < 8
  · have : ∀ j : Fin 8, bitAt [164] j.val = gb [true, false, true, false, false, true] j.val := by decide +kernel
    exact this ⟨i, hi⟩
  · rw [gb_out (by simp; omega)]
    unfold bitAt
    rw [List.getD_eq_getElem?_getD, List.getElem?_eq_none (by simp; omega)]; simp

theorem known_any (w : World) : Calls Try.prog 10 #[] w fun e w' => e = .returned (.bool true) ∧ Below w.heap.size w w' := by
  have e1 : wPut [] 5 3 = ([true, false, true], 0) := by decide +kernel
  have e2 : wUnary [true, false, true] 2 = ([true, false, true, false, false, true], 0) := by decide +kernel
  have e3 : gGet (bitAt [164]) (8 * [164].length) 0 0 3 = (5, 3, 0) := by decide +kernel
  have e4 : gUnary (bitAt [164]) (8 * [164].length) 3 0 9 = (2, 6, 0) := by decide +kernel
  have hW := WrO.start w (Nat.le_refl _)
  have hb0 : Below w.heap.size w (w.alloc (.cells #[.slice none 0 0, .int .i64 0] 27)) := (Below.refl _ _).alloc (Nat.le_refl _) _
  have hp := wput_any hW (by simp) (by simp) 5 3 (by omega) (by omega) (by omega)
  rw [e1] at hp
  have HP := Lib.hid hp; have E2 := Lib.hid e2; have E3 := Lib.hid e3; have E4 := Lib.hid e4
  clear e1 e2 e3 e4 hp
  go_enter Try.func10, Try.ntmps10
  go_wp2_with (first
    | (go_at_call 11; refine (HP.out).mono ?_; rintro e w1 ⟨rfl, v1, hW1, hm1⟩; have hb1 := hb0.trans (hm1.below (Nat.le_refl _) hW.rows hb0.size))
    | (go_at_call 13; refine (wunary_any hW1 (by simp) hb1.size 2 (by omega) (by omega)).mono ?_; rw [E2.out]; rintro e w2 ⟨rfl, v2, hW2, hm2⟩; have hb2 := hb1.trans (hm2.below hW1.1 hW1.rows hb1.size))
    | (go_at_call 20; refine (wbytes_any hW2 (by simp)).mono ?_; rintro e w3 ⟨v3, l3, rfl, hP3, ho3, hb23⟩; obtain rfl := hP3.uniq packed_a4; have hb3 := bthen hb2 hb23 hb2.size; obtain ⟨A3, n3, c3, rfl⟩ := ho3.shape; have hW3 := hW2.below hb23)
    | (go_at_call 22; refine (bnew_any _ [164] _ ho3.sli (by simp) (by simp)).mono ?_; rintro e w4 ⟨g4, rfl, hR4, hg4, hb34⟩; have hb4 := bthen hb3 hb34 hb3.size; have hW4 := hW3.below hb34)
    | (go_at_call 24; refine (bget_any hR4 3).mono ?_; rw [E3.out]; rintro e w5 ⟨rfl, hR5, hgr5⟩; obtain ⟨cs5, hk5⟩ := hR4.blk; have hW5 := hW4.only hk5 (by decide) hgr5 (by have := hW3.lt; omega); have hb5 := bonly hb4 hgr5 (Nat.le_refl _) (Nat.le_trans hb3.size hg4))
    | (go_at_call 26; refine (bunary_any hR5 9 (by omega)).mono ?_; rw [E4.out]; rintro e w6 ⟨rfl, hR6, hgr6⟩; obtain ⟨cs6, hk6⟩ := hR5.blk; have hW6 := hW5.only hk6 (by decide) hgr6 (by have := hW3.lt; omega); have hb6 := bonly hb5 hgr6 (Nat.le_refl _) (Nat.le_trans hb3.size hg4); have hq := run_str (P := Try.prog) ((((ho3.sli).below hb34).below (below_of_only hgr5 hg4 hb34.size)).below (below_of_only hgr6 hg4 (Nat.le_trans hb34.size hgr5.size))) Try.underlying25 Try.underlying5 Try.underlying9; rw [show bstr [164] = ⟨#[164]⟩ from rfl] at hq)
    | (go_at_call 17; refine (wlen_any hW6).mono ?_; rintro e w7 ⟨rfl, rfl⟩)
    | (go_at_call 32; refine (bat_any hR6).mono ?_; rintro e w7 ⟨rfl, rfl⟩)
    | (go_at_call 33; refine (bleft_any hR6).mono ?_; rintro e w7 ⟨rfl, nd, rfl⟩))
  go_ret
  exact ⟨rfl, below_drewN hb6 nd⟩

end Go.Proofs.Ytnlclbocbbcafaa
