/- lift: the law LiftModes. -/
import Derived.Test.YtggddckckfilgaaLifW
import Derived.BigRegion
import Derived.Deep.QuietTactic
import Derived.BigQuiet
namespace Go.Proofs.Ytggddckckfilgaa
open Go.RowKit
set_option maxRecDepth 100000
set_option maxHeartbeats 16000000

theorem made_ownI (W : World) (n : Nat) (hn : n ≤ 1024) {base : Nat} (hb : base ≤ W.heap.size) : Own (W.alloc (.cells (madeCells #[.int .i64 0] n) 3)) base 3 (.slice (some ⟨W.heap.size, 0, none⟩) n n) (ci (List.replicate n 0)) := by
  have hs : (madeCells #[Value.int .i64 0] n).size = n := by rw [← Array.length_toList, toList_madeCells_one]; simp
  have hc : ci (List.replicate n 0) = List.replicate n (.int .i64 0) := by simp [ci]
  unfold Own
  rw [hc, List.length_replicate]
  refine ⟨by simp, .inr ⟨W.heap.size, n, madeCells #[.int .i64 0] n, rfl, hb, heap_alloc_new W _, by simp, by unfold maxLen; omega, by rw [hs]; simp, ?_⟩⟩
  rw [Nat.mul_one, ← toList_madeCells_one, List.take_of_length_le (by rw [Array.length_toList]; omega)]
theorem makeI (n : Nat) (hn : n ≤ 1024) (W : World) : (Instr.makeSlice 43 (.int .i64 (n : Int)) (.int .i64 (n : Int))).run Try.prog W = .ok (.slice (some ⟨W.heap.size, 0, none⟩) n n) (W.alloc (.cells (madeCells #[.int .i64 0] n) 3)) :=
  run_make_row' 43 3 (.int .i64 0) 8 Try.underlying43 info_int rfl .i64 .i64 n (by omega) (by omega) W
def sl (g n : Nat) : Value := .slice (some ⟨g, 0, none⟩) n n
theorem two_rows (W : World) (n g0 g1 : Nat) (hn : n ≤ 1024) (hg : (g0 = W.heap.size ∧ g1 = W.heap.size + 1) ∨ (g0 = W.heap.size + 1 ∧ g1 = W.heap.size)) :
    RwG (((W.alloc (.cells (madeCells #[.int .i64 0] n) 3)).alloc (.cells (madeCells #[.int .i64 0] n) 3)).alloc (.cells #[sl g0 n, sl g1 n] 43)).drew W.heap.size (.slice (some ⟨W.heap.size + 1 + 1, 0, none⟩) 2 2) [sl g0 n, sl g1 n] [List.replicate n 0, List.replicate n 0] ∧
    Below W.heap.size W (((W.alloc (.cells (madeCells #[.int .i64 0] n) 3)).alloc (.cells (madeCells #[.int .i64 0] n) 3)).alloc (.cells #[sl g0 n, sl g1 n] 43)).drew := by
  obtain ⟨W1, h1⟩ : ∃ W1, W.alloc (.cells (madeCells #[.int .i64 0] n) 3) = W1 := ⟨_, rfl⟩
  have s1 : W1.heap.size = W.heap.size + 1 := by rw [← h1]; simp
  have o1 := made_ownI W n hn (Nat.le_refl W.heap.size)
  have b1 := below_new W (madeCells #[.int .i64 0] n) 3
  rw [h1] at o1 b1 ⊢
  obtain ⟨W2, h2⟩ : ∃ W1', W1.alloc (.cells (madeCells #[.int .i64 0] n) 3) = W1' := ⟨_, rfl⟩
  have s2 : W2.heap.size = W.heap.size + 1 + 1 := by rw [← h2]; simp [s1]
  have o2 := made_ownI W1 n hn (base := W.heap.size) (by omega)
  have b2 := below_new W1 (madeCells #[.int .i64 0] n) 3
  have o1' := o1.alloc (.cells (madeCells #[.int .i64 0] n) 3)
  rw [h2] at o2 b2 o1' ⊢
  have b3 := below_new W2 #[sl g0 n, sl g1 n] 43
  have top : Own (W2.alloc (.cells #[sl g0 n, sl g1 n] 43)) W.heap.size 43 (.slice (some ⟨W.heap.size + 1 + 1, 0, none⟩) 2 2) [sl g0 n, sl g1 n] := by
    refine ⟨rfl, .inr ⟨W.heap.size + 1 + 1, 2, #[sl g0 n, sl g1 n], rfl, by omega, ?_, Nat.le_refl _, by simp [maxLen], rfl, rfl⟩⟩
    rw [← s2]; exact heap_alloc_new W2 _
  have e1 := (o1'.alloc (.cells #[sl g0 n, sl g1 n] 43)).drew
  have e2 := (o2.alloc (.cells #[sl g0 n, sl g1 n] 43)).drew
  rw [s1] at e2
  refine ⟨⟨top.drew, rfl, fun j x l hx hl => ?_, fun i j x y hij hx hy => ?_⟩, (bthen (bthen b1 b2 b1.size) b3 (by omega)).drew⟩
  · match j, hx, hl with
    | 0, hx, hl =>
      simp at hx hl
      subst hx; subst hl
      rcases hg with ⟨rfl, rfl⟩ | ⟨rfl, rfl⟩
      · exact e1
      · exact e2
    | 1, hx, hl =>
      simp at hx hl
      subst hx; subst hl
      rcases hg with ⟨rfl, rfl⟩ | ⟨rfl, rfl⟩
      · exact e2
      · exact e1
    | j + 2, hx, hl => simp at hx
  · have hne : g0 ≠ g1 := by omega
    match i, j, hij, hx, hy with
    | 0, 0, hij, _, _ => exact absurd rfl hij
    | 0, 1, _, hx, hy =>
      simp at hx hy
      subst hx; subst hy
      intro k hk hk'
      simp [sl, Value.ownBlock] at hk hk'
      omega
    | 1, 0, _, hx, hy =>
      simp at hx hy
      subst hx; subst hy
      intro k hk hk'
      simp [sl, Value.ownBlock] at hk hk'
      omega
    | 1, 1, hij, _, _ => exact absurd rfl hij
    | i + 2, j, _, hx, _ => simp at hx
    | 0, j + 2, _, _, hy => simp at hy
    | 1, j + 2, _, _, hy => simp at hy
/-- A row filled up to j. -/
def fillZ (xs : List Int) (n j : Nat) : List Int := xs.take j ++ List.replicate (n - j) 0
theorem fillZ_len {xs : List Int} {n j : Nat} (h : xs.length = n) (hj : j ≤ n) : (fillZ xs n j).length = n := by
  unfold fillZ; rw [List.length_append, List.length_take, List.length_replicate]; omega
theorem fillZ_set {xs : List Int} {n j : Nat} {x : Int} (h : xs.length = n) (hx : xs[j]? = some x) : (fillZ xs n j).set j x = fillZ xs n (j + 1) := by
  have hj := (List.getElem?_eq_some_iff.1 hx).1
  have h1 : (xs.take j).length = j := by rw [List.length_take]; omega
  unfold fillZ
  rw [List.set_append_right _ _ (by omega), h1, Nat.sub_self, List.take_succ_eq_append_getElem hj, (List.getElem?_eq_some_iff.1 hx).2, List.append_assoc]
  congr 1
  rw [show n - j = (n - (j + 1)) + 1 by omega, List.replicate_succ, List.set_cons_zero]
  rfl
theorem fillZ_zero (xs : List Int) (n : Nat) : fillZ xs n 0 = List.replicate n 0 := by simp [fillZ]
theorem fillZ_all {xs : List Int} {n : Nat} (h : xs.length = n) : fillZ xs n n = xs := by
  unfold fillZ
  rw [Nat.sub_self, List.replicate_zero, List.append_nil, ← h, List.take_length]
theorem Sli.at16 {w : World} {B n c : Nat} {A : Option Addr} {l : List Int} (h : Sli w B (.slice A n c) (ci16 l)) {i : Nat} {x : Int} (hi : l[i]? = some x) : ∃ b o, A = some ⟨b, o, none⟩ ∧ b < B ∧ w.cell? ⟨b, o + i, none⟩ = some (.int .i16 x) := by
  have hl := (List.getElem?_eq_some_iff.1 hi).1
  have hh := h.hasn
  have hn : n = l.length := by rw [hh.1, ci16_len]
  obtain ⟨b, o, u, hA, hb, hc, hu⟩ := hh.get (by omega : i < n)
  refine ⟨b, o, hA, hb, hc.trans ?_⟩
  rw [← hu, ci16, List.getElem?_map, hi]; rfl
theorem Sli.form16 {w : World} {B : Nat} {v : Value} {l : List Int} (h : Sli w B v (ci16 l)) : ∃ A c, v = .slice A l.length c ∧ l.length ≤ c ∧ c ≤ maxLen := by
  obtain ⟨A, c, rfl, _, h1, h2, _⟩ := h
  rw [ci16_len] at h1 ⊢
  exact ⟨A, c, rfl, h1, h2⟩
/-- Two rows that are read. -/
theorem Rws.two {w : World} {B n : Nat} {v : Value} {r0 r1 : List Int} (h : Rws w B v [r0, r1]) (h0 : r0.length = n) (h1 : r1.length = n) :
    ∃ g o c A0 c0 A1 c1, v = .slice (some ⟨g, o, none⟩) 2 c ∧ 2 ≤ c ∧ w.cell? ⟨g, o, none⟩ = some (.slice A0 n c0) ∧ w.cell? ⟨g, o + 1, none⟩ = some (.slice A1 n c1) ∧ Sli w B (.slice A0 n c0) (ci r0) ∧ Sli w B (.slice A1 n c1) (ci r1) ∧ n ≤ c0 ∧ n ≤ c1 := by
  obtain ⟨A, c, rfl, hc, _⟩ := h.form
  obtain ⟨g, o, A0, c0, rfl, _, k0, s0, l0, _⟩ := h.get (j := 0) (by simp)
  obtain ⟨g', o', A1, c1, e, _, k1, s1, l1, _⟩ := h.get (j := 1) (by simp)
  injection e with e; injection e with e1 e2; subst e1; subst e2
  simp only [List.getElem_cons_zero, List.getElem_cons_succ, Nat.add_zero] at k0 k1 s0 s1 l0 l1
  rw [h0] at k0 s0 l0
  rw [h1] at k1 s1 l1
  exact ⟨g, o, c, A0, c0, A1, c1, rfl, by simpa using hc, k0, k1, s0, s1, l0, l1⟩
end Go.Proofs.Ytggddckckfilgaa
