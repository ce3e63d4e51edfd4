/- rice: 'known'. -/
import Derived.Test.YtgogfmpichdejaaRicW
import Derived.Test.YtgogfmpichdejaaRicG
import Derived.Test.YtgogfmpichdejaaBitK
import Derived.Test.YtgogfmpichdejaaSam
namespace Go.Proofs.Ytgogfmpichdejaa
open Go.RowKit
set_option maxRecDepth 100000
set_option maxHeartbeats 800000

/-- A row in a block by itself. -/
theorem Stays.at {w : World} {B g b o n c : Nat} {v : Value} {xs : List Value} (h : Sli w B (.slice (some ⟨b, o, none⟩) n c) xs) (hw : b < w.heap.size) (hg : b ≠ g) (hv : v.ownBlock ≠ some b) : Stays w g v (.slice (some ⟨b, o, none⟩) n c) xs := by
  intro w' v' hm
  obtain ⟨A, c', e, hh, r⟩ := h
  injection e with e1 e2 e3
  subst e1; subst e2; subst e3
  refine ⟨B, _, _, rfl, ⟨rfl, ?_⟩, r⟩
  rcases hh.2 with h0 | ⟨b2, o2, e, hb, hc⟩
  · exact .inl h0
  · injection e with e; injection e with e1 e2
    subst e1; subst e2
    exact .inr ⟨b, o, rfl, hb, fun j hj => (World.cell?_of_block (hm.block b hw hg hv)).trans (hc j hj)⟩
theorem apart_types {w : World} {b1 b2 : Nat} {e1 e2 : TypeId} {v1 v2 : Value} {xs ys : List Value} (h1 : Own w b1 e1 v1 xs) (h2 : Own w b2 e2 v2 ys) (hne : e1 ≠ e2) : Apart v1 v2 := by
  intro k hk hk2
  obtain ⟨c1, q1⟩ := h1.blk hk
  obtain ⟨c2, q2⟩ := h2.blk hk2
  rw [q1] at q2
  injection q2 with q2; injection q2 with _ q2
  exact hne q2
/-- A row of ints of one's own. -/
theorem Stays.of_own {w : World} {b1 b2 g : Nat} {v u : Value} {L : List Bool} {xs : List Value} (hW : WrO w b1 g v L) (ho : Own w b2 3 u xs) : Stays w g v u xs := by
  intro w' v' hm
  obtain ⟨_, h1, l, h2, _⟩ := hW
  exact ⟨_, (ho.moved hm h1 (by decide) (apart_types h2 ho (by decide))).sli⟩
theorem packed_58 : Packed [88] [false, true, false, true, true, false, false] := by
  refine ⟨rfl, by simp, fun i => ?_⟩
  by_cases hi : i < 8
  · have : ∀ j : Fin 8, bitAt [88] j.val = gb [false, true, false, true, true, false, false] j.val := by decide +kernel
    exact this ⟨i, hi⟩
  · rw [gb_out (by simp; omega)]
    unfold bitAt
    rw [List.getD_eq_getElem?_getD, List.getElem?_eq_none (by simp; omega)]; simp
theorem knownR_any (w : World) : Calls Try.prog 11 #[] w fun e w' => e = .returned (.bool true) ∧ Below w.heap.size w w' := by
  have e1 : putR 2 [-3, 0] [] = ([false, true, false, true, true, false, false], 0) := by decide +kernel
  have e2 : getsR (bitAt [88]) (8 * [88].length) 0 0 2 2 = ([-3, 0], 7, 0) := by decide +kernel
  have e3 : foldN (-3) = 5 := by decide +kernel
  have e4 : costI 0 1073741823 = 65 := by decide +kernel
  have hW0 := WrO.start w (Nat.le_refl _)
  have hb0 : Below w.heap.size w (w.alloc (.cells #[.slice none 0 0, .int .i64 0] 34)) := (Below.refl _ _).alloc (Nat.le_refl _) _
  generalize hw0 : w.alloc (.cells #[.slice none 0 0, .int .i64 0] 34) = w0 at hW0 hb0
  have hbA : Below w0.heap.size w0 (w0.alloc (.cells #[.int .i64 (-3), .int .i64 0] 3)) := (Below.refl _ _).alloc (Nat.le_refl _) _
  have hW := hW0.below hbA
  have hlit : Sli (w0.alloc (.cells #[.int .i64 (-3), .int .i64 0] 3)) (w0.heap.size + 1) (.slice (some ⟨w0.heap.size, 0, none⟩) 2 2) (ci [-3, 0]) := Sli.lit w0 #[.int .i64 (-3), .int .i64 0] 3 2 rfl (by simp [maxLen])
  have hst := Stays.at (g := w.heap.size) (v := .slice none 0 0) hlit (by simp) (by have := hW0.lt; omega) (by simp [Value.ownBlock])
  have hbb := hb0.trans (hbA.mono hb0.size)
  have hp := rput_any hW 2 _ [-3, 0] hst (by simp) hbb.size
  rw [e1] at hp
  rw [← hw0] at hp hbb
  have hsz : (w.alloc (.cells #[.slice none 0 0, .int .i64 0] 34)).heap.size = w.heap.size + 1 := by simp
  rw [hsz] at hp
  have HP := Lib.hid hp; have E2 := Lib.hid e2; have E3 := Lib.hid e3; have E4 := Lib.hid e4
  clear e1 e2 e3 e4 hp hst hlit hbA hb0 hsz hW0 hW
  clear hw0 w0
  go_enter Try.func11, Try.ntmps11
  go_wp2_with fail
  refine (HP.out).mono ?_
  rintro e w1 ⟨rfl, v1, hW1, hm1⟩
  have hb1 := hbb.trans (hm1.below (Nat.le_refl _) (fun _ h => by simp [Value.ownBlock] at h) hbb.size)
  go_wp2_with fail
  refine (wbytes_any hW1 (by simp)).mono ?_
  rintro e w2 ⟨v2, l2, rfl, hP2, ho2, hb12⟩
  obtain rfl := hP2.uniq packed_58
  obtain ⟨A2, n2, c2, rfl⟩ := ho2.shape
  have hb2 := bthen hb1 hb12 hb1.size
  have hW2 := hW1.below hb12
  go_wp2_with fail
  refine (bnew_any _ [88] _ ho2.sli (by simp) (by simp)).mono ?_
  rintro e w3 ⟨g3, rfl, hR3, hg3, hb23⟩
  have hb3 := bthen hb2 hb23 hb2.size
  have hW3 := hW2.below hb23
  go_wp2_with fail
  refine (rget_any hR3 2 2).mono ?_
  rw [E2.out]
  rintro e w4 ⟨v4, a4, e4, rfl, ho4, hR4, hg4, hok⟩
  obtain ⟨A4, c4, rfl, _, _⟩ := ho4.formI
  simp only [List.length_cons, List.length_nil, Nat.reduceAdd] at ho4 ⊢
  obtain ⟨cs3, hk3⟩ := hR3.blk
  have hW4 := hW3.only hk3 (by decide) hg4 (by have := hW2.lt; omega)
  have hb4 := bonly hb3 hg4 (Nat.le_refl _) (Nat.le_trans hb2.size hg3)
  go_wp2_with fail
  refine (wlen_any hW4).mono ?_
  rintro e w5 ⟨rfl, rfl⟩
  go_wp2_with fail
  refine (wbytes_any hW4 (by simp)).mono ?_
  rintro e w6 ⟨v6, l6, rfl, hP6, ho6, hb46⟩
  obtain rfl := hP6.uniq packed_58
  obtain ⟨A6, n6, c6, rfl⟩ := ho6.shape
  have hb6 := bthen hb4 hb46 hb4.size
  have hS4 := (ho4.kept hb46).sli
  have hq := run_str (P := Try.prog) (l := [88]) ho6.sli Try.underlying32 Try.underlying5 Try.underlying9
  rw [show bstr [88] = ⟨#[88]⟩ from rfl] at hq
  go_wp2_with fail
  refine (sameInts_any _ _ [-3, 0] [-3, 0] _ _ _ (hS4.below ((Below.refl _ _).alloc (Nat.le_refl _) _)) (Sli.lit _ #[.int .i64 (-3), .int .i64 0] 3 2 rfl (by simp [maxLen])) (by decide) (by decide)).mono ?_
  rw [decide_eq_true rfl]
  rintro e w7 ⟨rfl, q7, rfl⟩
  go_wp2_with fail
  refine (fold_any (-3) _).mono ?_
  rw [E3.out]
  rintro e w8 ⟨rfl, rfl⟩
  go_wp2_with fail
  refine (cost_any 0 1073741823 _).mono ?_
  rw [E4.out]
  rintro e w9 ⟨rfl, rfl⟩
  go_wp2
  go_ret
  exact ⟨rfl, below_drewN (hb6.alloc hb6.size _) q7⟩
end Go.Proofs.Ytgogfmpichdejaa
