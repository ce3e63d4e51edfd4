/- prefix: 'known'. -/
import Derived.Test.YthecibabpcfoaaaPfxZ
import Derived.Test.YthecibabpcfoaaaPfxD
import Derived.Test.YthecibabpcfoaaaBitM
import Derived.Test.YthecibabpcfoaaaIntR
namespace Go.Proofs.Ythecibabpcfoaaa
open Go.RowKit
set_option maxRecDepth 100000
set_option maxHeartbeats 800000

/-- A row in a block by itself. -/
theorem StayP.at {w : World} {B g b o n c : Nat} {v : Value} {xs : List Value} (h : Sli w B (.slice (some ⟨b, o, none⟩) n c) xs) (hB : B ≤ w.heap.size) (hw : b < w.heap.size) (hg : b ≠ g) (hv : v.ownBlock ≠ some b) : StayP w g v (.slice (some ⟨b, o, none⟩) n c) xs := by
  intro w' v' hm
  obtain ⟨A, c', e, hh, r⟩ := h
  injection e with e1 e2 e3
  subst e1; subst e2; subst e3
  refine ⟨B, ⟨_, _, rfl, ⟨rfl, ?_⟩, r⟩, Nat.le_trans hB hm.size⟩
  rcases hh.2 with h0 | ⟨b2, o2, e, hb, hc⟩
  · exact .inl h0
  · injection e with e; injection e with e1 e2
    subst e1; subst e2
    exact .inr ⟨b, o, rfl, hb, fun j hj => (World.cell?_of_block (hm.block b hw hg hv)).trans (hc j hj)⟩

theorem kn_asc : Ascd [5, 1, 0, 2] [1, 3, 0] := ⟨by decide +kernel, by decide +kernel⟩
theorem kn_lens : lensN [5, 1, 0, 2] [1, 3, 0] 4 = [1, 2, 0, 2] := by decide +kernel
theorem kn_full : Fulls [1, 2, 0, 2] [0, 1, 3] := ⟨⟨by decide +kernel, by decide +kernel⟩, by decide, by decide, by unfold fullN; decide +kernel⟩
theorem kn_cod : Cod [1, 2, 0, 2] [0, 1, 3] [0, 2, 0, 3] := by
  refine ⟨rfl, fun k hk => ?_, fun s hs => ?_⟩
  · have : ∀ k : Fin 3, atN [0, 2, 0, 3] (atN [0, 1, 3] k) = atN (codesC ([0, 1, 3].map (atN [1, 2, 0, 2]))) k := by decide +kernel
    exact this ⟨k, hk⟩
  · rcases s with _ | _ | _ | _ | s
    · simp at hs
    · simp at hs
    · rfl
    · simp at hs
    · unfold atN; rw [List.getD_eq_getElem?_getD, List.getElem?_eq_none (by simp)]; rfl
theorem kn_bits : putS [0, 2, 0, 3] [1, 2, 0, 2] [0, 3, 1] = [false, true, true, true, false] := by decide +kernel
theorem packed_70 : Packed [112] [false, true, true, true, false] := by
  refine ⟨rfl, by simp, fun i => ?_⟩
  by_cases hi : i < 8
  · have : ∀ j : Fin 8, bitAt [112] j.val = gb [false, true, true, true, false] j.val := by decide +kernel
    exact this ⟨i, hi⟩
  · rw [gb_out (by simp; omega)]
    unfold bitAt
    rw [List.getD_eq_getElem?_getD, List.getElem?_eq_none (by simp; omega)]; simp
theorem knownX_any (w : World) : Calls Try.prog 11 #[] w fun e w' => e = .returned (.bool true) ∧ Below w.heap.size w w' := by
  have hb0 : Below w.heap.size w (w.alloc (.cells #[.int .i64 5, .int .i64 1, .int .i64 0, .int .i64 2] 3)) := (Below.refl _ _).alloc (Nat.le_refl _) _
  have hlit : Sli (w.alloc (.cells #[.int .i64 5, .int .i64 1, .int .i64 0, .int .i64 2] 3)) (w.heap.size + 1) (.slice (some ⟨w.heap.size, 0, none⟩) 4 4) (ci (ni [5, 1, 0, 2])) := Sli.lit w #[.int .i64 5, .int .i64 1, .int .i64 0, .int .i64 2] 3 4 rfl (by simp [maxLen])
  have hl := lengths_any hlit (by simp) (by decide) (by decide) (by decide) kn_asc (by decide : 1 ≤ 4) (by decide) (by simp) (by decide)
  rw [kn_lens] at hl
  have HL := Lib.hid hl; have HB0 := Lib.hid hb0
  clear hl hlit hb0
  go_enter Try.func11, Try.ntmps11
  go_wp2_with fail
  refine (HL.out).mono ?_
  rintro e w1 ⟨v1, rfl, ho1, hb1⟩
  have hb01 := HB0.out.trans (hb1.mono (by simp))
  have hs1 := hb01.size
  obtain ⟨A1, c1, rfl, _, _⟩ := ho1.formI
  simp only [ni, List.map_cons, List.map_nil, List.length_cons, List.length_nil, Nat.reduceAdd] at ho1 ⊢
  go_wp2_with fail
  refine (codes_any (ls := [1, 2, 0, 2]) ho1.sli (Nat.le_refl _) kn_full).mono ?_
  rintro e w2 ⟨v2, row, rfl, ho2, hc2, hb2⟩
  obtain rfl := hc2.one kn_cod
  clear hc2
  obtain ⟨g2, c2, rfl, hg2, _, _, _⟩ := ho2.at_ (by simp [cu64])
  simp only [cu64, List.map_cons, List.map_nil, List.length_cons, List.length_nil, Nat.reduceAdd] at ho2 ⊢
  have ho12 := ho1.kept hb2
  have hb02 := hb01.trans (hb2.mono hs1)
  have hs2 := hb02.size
  go_wp2_with fail
  have hW3 := WrO.start w2 (Nat.le_refl _)
  have hb23 : Below w2.heap.size w2 (w2.alloc (.cells #[.slice none 0 0, .int .i64 0] 52)) := (Below.refl _ _).alloc (Nat.le_refl _) _
  have hsz3 : (w2.alloc (.cells #[.slice none 0 0, .int .i64 0] 52)).heap.size = w2.heap.size + 1 := by simp
  generalize w2.alloc (.cells #[.slice none 0 0, .int .i64 0] 52) = w3 at hW3 hb23 hsz3 ⊢
  have hb34 : Below w3.heap.size w3 (w3.alloc (.cells #[.int .i64 0, .int .i64 3, .int .i64 1] 3)) := (Below.refl _ _).alloc (Nat.le_refl _) _
  have hl4 : Sli (w3.alloc (.cells #[.int .i64 0, .int .i64 3, .int .i64 1] 3)) (w3.heap.size + 1) (.slice (some ⟨w3.heap.size, 0, none⟩) 3 3) (ci (ni [0, 3, 1])) := Sli.lit w3 #[.int .i64 0, .int .i64 3, .int .i64 1] 3 3 rfl (by simp [maxLen])
  have hsz4 : (w3.alloc (.cells #[.int .i64 0, .int .i64 3, .int .i64 1] 3)).heap.size = w3.heap.size + 1 := by simp
  have hb24 : Below w2.heap.size w2 (w3.alloc (.cells #[.int .i64 0, .int .i64 3, .int .i64 1] 3)) := hb23.trans (hb34.mono (by omega))
  have hW4 := hW3.below hb34
  generalize w3.alloc (.cells #[.int .i64 0, .int .i64 3, .int .i64 1] 3) = w4 at hb34 hl4 hsz4 hb24 hW4 ⊢
  rw [hsz3] at hl4 hsz4
  have ho14 := ho12.kept hb24
  have ho24 := ho2.kept hb24
  have hb04 := hb02.trans (hb24.mono hs2)
  have hsa : StayP w4 w2.heap.size (.slice none 0 0) (.slice A1 4 c1) (ci (ni [1, 2, 0, 2])) := StayP.of_sli (ho12.sli.below hb24) (Nat.le_refl _) (fun _ h => by simp [Value.ownBlock] at h) (by omega)
  have hsb := StayP.at (g := w2.heap.size) (v := .slice none 0 0) hl4 (by omega) (by omega) (by omega) (by simp [Value.ownBlock])
  refine (pput_any hW4 hsa hsb (by simp) (by omega) kn_full (by decide)).mono ?_
  rintro e w5 ⟨rfl, v5, row5, hc5, hW5, hm5⟩
  obtain rfl := hc5.one kn_cod
  clear hc5 hsb hsa hl4
  rw [List.nil_append, kn_bits] at hW5
  obtain ⟨_, hg4, _, _, _⟩ := hW4
  have ho15 := ho14.moved hm5 hg4 (by decide) (fun _ h => by simp [Value.ownBlock] at h)
  have ho25 := ho24.moved hm5 hg4 (by decide) (fun _ h => by simp [Value.ownBlock] at h)
  have hb05 := hb04.trans (hm5.below (base := w.heap.size) hs2 (fun _ h => by simp [Value.ownBlock] at h) (by omega))
  have hs5 : w.heap.size ≤ w5.heap.size := hb05.size
  clear hg4 hm5 hb34 hb24 hb23 ho14 ho24 ho12 ho1 ho2 hb1 hb2
  go_wp2_with fail
  have hb56 : Below w5.heap.size w5 (w5.alloc (.cells #[.int .i64 1, .int .i64 2, .int .i64 0, .int .i64 2] 3)) := (Below.refl _ _).alloc (Nat.le_refl _) _
  have hl6 : Sli (w5.alloc (.cells #[.int .i64 1, .int .i64 2, .int .i64 0, .int .i64 2] 3)) (w5.heap.size + 1) (.slice (some ⟨w5.heap.size, 0, none⟩) 4 4) (ci [1, 2, 0, 2]) := Sli.lit w5 #[.int .i64 1, .int .i64 2, .int .i64 0, .int .i64 2] 3 4 rfl (by simp [maxLen])
  refine (sameInts_self _ _ [1, 2, 0, 2] _ _ _ (ho15.kept hb56).sli hl6 (by simp)).mono ?_
  rintro e w6 ⟨rfl, q6, rfl⟩
  have ho26 := ho25.kept hb56
  have hW6 := hW5.below hb56
  have hb06 := hb05.trans (hb56.mono hs5)
  generalize w5.alloc (.cells #[.int .i64 1, .int .i64 2, .int .i64 0, .int .i64 2] 3) = w6 at hl6 ho26 hW6 hb06 ⊢
  clear hb56 ho25 hW5 hl6
  obtain ⟨w7, hw7⟩ : ∃ w7, w6.drewN q6 = w7 := ⟨_, rfl⟩
  have ho27 : Own w7 w1.heap.size 40 (.slice (some ⟨g2, 0, none⟩) 4 c2) [.int .u64 (0 : Nat), .int .u64 (2 : Nat), .int .u64 (0 : Nat), .int .u64 (3 : Nat)] := by rw [← hw7]; exact ho26
  have hW7 : WrO w7 w2.heap.size w2.heap.size v5 [false, true, true, true, false] := by rw [← hw7]; exact hW6
  have hb07 : Below w.heap.size w w7 := by rw [← hw7]; exact below_drewN hb06 q6
  rw [hw7]
  clear hw7 ho26 hW6 hb06
  obtain ⟨g7, c7, hv7, _, _, _, hcell, _⟩ := ho27.at_ (by simp)
  injection hv7 with hv7 hx1 hx2; clear hx1 hx2; injection hv7 with hv7; injection hv7 with hv7 hx3 hx4; clear hx3 hx4; subst hv7
  have r0 : w7.cell? ⟨g2, 0, none⟩ = some (.int .u64 0) := hcell 0 (by simp)
  have r1 : w7.cell? ⟨g2, 1, none⟩ = some (.int .u64 2) := hcell 1 (by simp)
  have r3 : w7.cell? ⟨g2, 3, none⟩ = some (.int .u64 3) := hcell 3 (by simp)
  clear hcell
  go_wp2_with fail
  refine (wbytes_any hW7 (by simp)).mono ?_
  rintro e w8 ⟨v8, l8, rfl, hP8, ho8, hb78⟩
  obtain rfl := hP8.uniq packed_70
  obtain ⟨A8, n8, c8, rfl⟩ := ho8.shape
  have hb08 := hb07.trans (hb78.mono hb07.size)
  have hq := run_str (P := Try.prog) (l := [112]) ho8.sli Try.underlying35 Try.underlying5 Try.underlying9
  rw [show bstr [112] = ⟨#[112]⟩ from rfl] at hq
  clear r0 r1 r3
  go_wp2_with fail
  have hb89 : Below w8.heap.size w8 (w8.alloc (.cells #[.int .i64 0, .int .i64 1] 3)) := (Below.refl _ _).alloc (Nat.le_refl _) _
  have hl9 : Sli (w8.alloc (.cells #[.int .i64 0, .int .i64 1] 3)) (w8.heap.size + 1) (.slice (some ⟨w8.heap.size, 0, none⟩) 2 2) (ci [0, 1]) := Sli.lit w8 #[.int .i64 0, .int .i64 1] 3 2 rfl (by simp [maxLen])
  refine (full_any hl9).mono ?_
  rw [show fullB [0, 1] = true by decide +kernel]
  rintro e w9 ⟨rfl, hw9⟩
  have hb09 := hb08.trans (hb89.mono hb08.size)
  rw [hw9] at hb09
  clear hw9 hl9 hb89
  go_wp2_with fail
  have hb90 : Below w9.heap.size w9 (w9.alloc (.cells #[.int .i64 2, .int .i64 2] 3)) := (Below.refl _ _).alloc (Nat.le_refl _) _
  have hl10 : Sli (w9.alloc (.cells #[.int .i64 2, .int .i64 2] 3)) (w9.heap.size + 1) (.slice (some ⟨w9.heap.size, 0, none⟩) 2 2) (ci [2, 2]) := Sli.lit w9 #[.int .i64 2, .int .i64 2] 3 2 rfl (by simp [maxLen])
  refine (full_any hl10).mono ?_
  rw [show fullB [2, 2] = false by decide +kernel]
  rintro e w10 ⟨rfl, hw10⟩
  have hb10 := hb09.trans (hb90.mono hb09.size)
  rw [hw10] at hb10
  clear hw10 hl10 hb90
  go_wp2
  go_ret
  exact ⟨rfl, hb10⟩
end Go.Proofs.Ythecibabpcfoaaa
