/- prefix: Codes. -/
import Derived.Test.YthecibabpcfoaaaPfxB
import Derived.Test.YthecibabpcfoaaaPfxG
import Derived.Test.YthecibabpcfoaaaPfxC
namespace Go.Proofs.Ythecibabpcfoaaa
open Go.RowKit
set_option maxRecDepth 100000
set_option maxHeartbeats 1600000

theorem info_u64 : (Try.prog.info? 40).map (fun i => (i.zero, i.size, i.bytes)) = some (some (.int .u64 0), 1, 8) := by kernel_rfl
theorem cu64_len (l : List Nat) : (cu64 l).length = l.length := by simp [cu64]
theorem cu64_set (l : List Nat) (i x : Nat) : (cu64 l).set i (.int .u64 (x : Nat)) = cu64 (l.set i x) := by simp [cu64, List.map_set]
theorem cu64_rep (n : Nat) : List.replicate n (Value.int .u64 0) = cu64 (List.replicate n 0) := by simp [cu64]
theorem atN_set {l : List Nat} {i x k : Nat} (h : i < l.length) : atN (l.set i x) k = if k = i then x else atN l k := by
  unfold atN
  rw [List.getD_eq_getElem?_getD, List.getD_eq_getElem?_getD, List.getElem?_set]
  by_cases hk : i = k
  · subst hk; simp [h]
  · rw [if_neg hk, if_neg (fun e => hk e.symm)]
theorem atN_rep (n k : Nat) : atN (List.replicate n 0) k = 0 := by
  unfold atN
  rw [List.getD_eq_getElem?_getD, List.getElem?_replicate]; split <;> rfl

/-- The words of lengths in rising order, one behind the other. -/
def lenK (ms : List Nat) : Nat → Nat
  | 0 => 0
  | k + 1 => atN ms k
def nextK (ms : List Nat) : Nat → Nat
  | 0 => 0
  | k + 1 => atN (codesC ms) k + 1
theorem codesFrom_at : ∀ (ls : List Nat) (l v k : Nat), k < ls.length → atN (codesFrom l v ls) k = (if k = 0 then (v + 1) * 2 ^ (atN ls 0 - l) else (atN (codesFrom l v ls) (k - 1) + 1) * 2 ^ (atN ls k - atN ls (k - 1)))
  | [], _, _, k, h => absurd h (by simp)
  | n :: ls, l, v, 0, _ => by simp [codesFrom, atN]
  | n :: ls, l, v, k + 1, h => by
    have hk : k < ls.length := by simpa using h
    have ih := codesFrom_at ls n ((v + 1) * 2 ^ (n - l)) k hk
    have e : atN (codesFrom l v (n :: ls)) (k + 1) = atN (codesFrom n ((v + 1) * 2 ^ (n - l)) ls) k := by simp [codesFrom, atN]
    rcases k with _ | k
    · rw [e, ih, if_pos rfl, if_neg (by omega)]; simp [codesFrom, atN]
    · rw [e, ih, if_neg (by omega), if_neg (by omega)]; simp [codesFrom, atN]
theorem codesC_next (ms : List Nat) (k : Nat) (hk : k < ms.length) : atN (codesC ms) k = nextK ms k * 2 ^ (atN ms k - lenK ms k) := by
  cases ms with
  | nil => exact absurd hk (by simp)
  | cons n ls =>
    rcases k with _ | k
    · simp [codesC, nextK, atN]
    · have h := codesFrom_at ls n 0 k (by simpa using hk)
      have e : atN (codesC (n :: ls)) (k + 1) = atN (codesFrom n 0 ls) k := by simp [codesC, atN]
      rw [e, h]
      rcases k with _ | k
      · simp [codesC, nextK, lenK, atN]
      · simp [codesC, nextK, lenK, atN]
theorem atN_get {l : List Nat} {k : Nat} (h : k < l.length) : atN l k = l[k] := by simp [atN, h]
/-- The words by symbol. -/
structure Cod (ls ss row : List Nat) : Prop where
  len : row.length = ls.length
  word : ∀ k, k < ss.length → atN row (atN ss k) = atN (codesC (ss.map (atN ls))) k
  none : ∀ s, s ∉ ss → atN row s = 0
theorem Cod.one {ls ss r1 r2 : List Nat} (h : Cod ls ss r1) (k : Cod ls ss r2) : r1 = r2 := by
  refine List.ext_getElem (h.len.trans k.len.symm) fun i h1 h2 => ?_
  rw [← atN_get h1, ← atN_get h2]
  by_cases hi : i ∈ ss
  · obtain ⟨j, hj, rfl⟩ := List.getElem_of_mem hi
    have e1 := h.word j hj
    have e2 := k.word j hj
    rw [atN_get hj] at e1 e2
    rw [e1, e2]
  · rw [h.none i hi, k.none i hi]
/-- What full lengths give: the order, rising lengths, words that fit. -/
structure Fulls (ls ss : List Nat) : Prop where
  asc : Ascd ls ss
  len1 : 1 ≤ ls.length
  len2 : ls.length ≤ 1024
  full : fullN 24 ls
theorem Fulls.lt {ls ss : List Nat} (h : Fulls ls ss) {k : Nat} (hk : k < ss.length) : atN ss k < ls.length := by
  rw [atN_get hk]; exact (usedN_mem.1 (h.asc.1.mem_iff.1 (List.getElem_mem hk))).1
theorem Fulls.pos {ls ss : List Nat} (h : Fulls ls ss) {k : Nat} (hk : k < ss.length) : 0 < atN ls (atN ss k) := by
  rw [atN_get hk]; exact (usedN_mem.1 (h.asc.1.mem_iff.1 (List.getElem_mem hk))).2
theorem atN_le {ls : List Nat} {M : Nat} (h : ∀ x ∈ ls, x ≤ M) (i : Nat) : atN ls i ≤ M := by
  unfold atN
  rw [List.getD_eq_getElem?_getD]
  by_cases hi : i < ls.length
  · rw [List.getElem?_eq_getElem hi]; exact h _ (List.getElem_mem hi)
  · rw [List.getElem?_eq_none (by omega)]; exact Nat.zero_le _
theorem Fulls.le {ls ss : List Nat} (h : Fulls ls ss) (s : Nat) : atN ls s ≤ 24 := atN_le h.full.1 s
theorem Fulls.rises {ls ss : List Nat} (h : Fulls ls ss) : (ss.map (atN ls)).Pairwise (· ≤ ·) := by
  rw [List.pairwise_map]; exact h.asc.2.imp fun {a b} h => by omega
theorem Fulls.most {ls ss : List Nat} (h : Fulls ls ss) : ∀ x ∈ ss.map (atN ls), x ≤ 24 := fun x hx => by
  obtain ⟨s, _, rfl⟩ := List.mem_map.1 hx; exact h.le s
theorem Fulls.kraft {ls ss : List Nat} (h : Fulls ls ss) : kraft (ss.map (atN ls)) 24 ≤ 2 ^ 24 := by
  rw [kraft_perm (h.asc.1.map _), usedN_map]
  rcases h.full.2 with ⟨h1, h2⟩ | ⟨_, h2⟩
  · rw [← usedN_map]
    obtain ⟨x, hx⟩ := List.length_eq_one_iff.1 h1
    rw [hx, List.map_singleton, h2 x (by rw [hx]; simp)]
    simp [Go.Proofs.Ythecibabpcfoaaa.kraft, sumOn]
  · rw [h2]; exact Nat.le_refl _
theorem map_at {ss : List Nat} {f : Nat → Nat} {k : Nat} (h : k < ss.length) : atN (ss.map f) k = f (atN ss k) := by
  rw [atN_get (by simpa using h), atN_get h, List.getElem_map]
theorem Fulls.fits {ls ss : List Nat} (h : Fulls ls ss) {k : Nat} (hk : k < ss.length) : atN (codesC (ss.map (atN ls))) k < 2 ^ atN ls (atN ss k) := by
  have hk' : k < (ss.map (atN ls)).length := by simpa using hk
  have := code_fits h.rises h.most h.kraft k hk'
  rw [atN_get (by rw [codesC_len]; exact hk'), ← map_at (f := atN ls) hk, atN_get hk']
  exact this
theorem Fulls.small {ls ss : List Nat} (h : Fulls ls ss) {k : Nat} (hk : k < ss.length) : atN (codesC (ss.map (atN ls))) k < 16777216 :=
  Nat.lt_of_lt_of_le (h.fits hk) (pow24 (h.le _))
theorem Fulls.nextK {ls ss : List Nat} (h : Fulls ls ss) {k : Nat} (hk : k ≤ ss.length) : nextK (ss.map (atN ls)) k ≤ 16777216 := by
  rcases k with _ | k
  · exact Nat.zero_le _
  · exact h.small (k := k) (by omega)
theorem Fulls.lenK {ls ss : List Nat} (h : Fulls ls ss) {k : Nat} (hk : k < ss.length) : lenK (ss.map (atN ls)) k ≤ atN ls (atN ss k) := by
  rcases k with _ | k
  · exact Nat.zero_le _
  · show atN (ss.map (atN ls)) k ≤ _
    rw [map_at (by omega), atN_get hk, atN_get (show k < ss.length by omega)]
    have := List.pairwise_iff_getElem.1 h.asc.2 k (k + 1) (by omega) hk (by omega)
    omega
theorem Fulls.of {l : List Int} (h : fullB l = true) : ∃ ls ss, l = ni ls ∧ Fulls ls ss := by
  obtain ⟨ls, rfl, ⟨h1, h2⟩, h3⟩ := full_nat h
  obtain ⟨ss, hs⟩ := Ascd.is ls
  exact ⟨ls, ss, rfl, hs, h1, h2, h3⟩
theorem Fulls.ssLen {ls ss : List Nat} (h : Fulls ls ss) : ss.length ≤ ls.length := by
  rw [h.asc.1.length_eq]; unfold usedN
  exact Nat.le_trans (List.length_filter_le _ _) (by simp)
end Go.Proofs.Ythecibabpcfoaaa
