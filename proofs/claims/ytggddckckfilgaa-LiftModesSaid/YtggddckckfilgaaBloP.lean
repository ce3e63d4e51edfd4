/- block, plain: what the calls answer. -/
import Derived.Test.YtggddckckfilgaaSmpJ
import Derived.Test.YtggddckckfilgaaSmpM
namespace Go.Proofs.Ytggddckckfilgaa
open Go.RowKit
set_option maxRecDepth 100000

def rightB (r c b : Int) : Bool := decide (1 ≤ r) && decide (r ≤ 1048576) && (decide (1 ≤ c) && decide (c ≤ 8)) && packB b
def chanB (n : Int) : Bool := decide (1 ≤ n) && decide (n ≤ 8)
theorem chanB_iff {n : Int} : chanB n = true ↔ 1 ≤ n ∧ n ≤ 8 := by simp [chanB]
theorem rightB_iff {r c b : Int} : rightB r c b = true ↔ 1 ≤ r ∧ r ≤ 1048576 ∧ 1 ≤ c ∧ c ≤ 8 ∧ packB b = true := by simp [rightB, and_assoc]
def lenB : List (List Int) → Nat
  | [] => 0
  | r :: _ => r.length
/-- A channel that may be, of n samples. -/
def rowOk (b : Int) (n : Nat) (r : List Int) : Bool := decide (r.length = n) && r.all (fun x => fitsB x b)
def mayBk (b : Int) (rs : List (List Int)) : Bool := packB b && chanB (rs.length : Nat) && decide (1 ≤ lenB rs) && decide (lenB rs ≤ 4096) && rs.all (rowOk b (lenB rs))
/-- What of a block that may be is asked. -/
structure MayBk (b : Int) (rs : List (List Int)) (n : Nat) : Prop where
  bits : packB b = true
  chans : 1 ≤ rs.length ∧ rs.length ≤ 8
  len : lenB rs = n
  size : 1 ≤ n ∧ n ≤ 4096
  rows : ∀ r ∈ rs, r.length = n
  fits : ∀ r ∈ rs, r.all (fun x => fitsB x b) = true
theorem mayBk_of {b : Int} {rs : List (List Int)} (h : mayBk b rs = true) : MayBk b rs (lenB rs) := by
  simp only [mayBk, Bool.and_eq_true, decide_eq_true_eq, chanB_iff, List.all_eq_true, rowOk] at h
  obtain ⟨⟨⟨⟨h1, h2⟩, h3⟩, h4⟩, h5⟩ := h
  exact ⟨h1, by omega, rfl, ⟨h3, h4⟩, fun r hr => (h5 r hr).1, fun r hr => List.all_eq_true.2 (h5 r hr).2⟩
theorem of_mayBk {b : Int} {rs : List (List Int)} {n : Nat} (h : MayBk b rs n) : mayBk b rs = true := by
  obtain ⟨h1, h2, h3, h4, h5, h6⟩ := h
  subst h3
  simp only [mayBk, Bool.and_eq_true, decide_eq_true_eq, chanB_iff, List.all_eq_true, rowOk]
  exact ⟨⟨⟨⟨h1, by omega⟩, h4.1⟩, h4.2⟩, fun r hr => ⟨h5 r hr, fun x hx => List.all_eq_true.1 (h6 r hr) x hx⟩⟩
theorem lenB_of {rs : List (List Int)} {n : Nat} (h0 : rs ≠ []) (h : ∀ r ∈ rs, r.length = n) : lenB rs = n := by
  cases rs with
  | nil => exact absurd rfl h0
  | cons r rs => exact h r (by simp)

/- Weave. -/
def colB (rs : List (List Int)) (i : Nat) : List Int := rs.map fun r => r.getD i 0
def weaveB (rs : List (List Int)) (n : Nat) : List Int := (List.range n).flatMap (colB rs)
def weaveR (b : Int) (rs : List (List Int)) : List Int := if mayBk b rs = true then weaveB rs (lenB rs) else []
theorem colB_len (rs : List (List Int)) (i : Nat) : (colB rs i).length = rs.length := by simp [colB]
theorem weaveB_succ (rs : List (List Int)) (n : Nat) : weaveB rs (n + 1) = weaveB rs n ++ colB rs n := by simp [weaveB, List.range_succ]
theorem weaveB_len (rs : List (List Int)) : ∀ n, (weaveB rs n).length = n * rs.length
  | 0 => by simp [weaveB]
  | n + 1 => by rw [weaveB_succ, List.length_append, weaveB_len rs n, colB_len, Nat.succ_mul]
theorem weaveB_at (rs : List (List Int)) (i k : Nat) (hk : k < rs.length) : ∀ n, i < n → (weaveB rs n)[i * rs.length + k]? = some ((rs[k]).getD i 0)
  | 0, h => by omega
  | n + 1, h => by
    rw [weaveB_succ]
    by_cases hi : i < n
    · have h1 : i * rs.length + k < (weaveB rs n).length := by
        rw [weaveB_len]
        have : (i + 1) * rs.length ≤ n * rs.length := Nat.mul_le_mul_right _ hi
        rw [Nat.succ_mul] at this; omega
      rw [List.getElem?_append_left h1]
      exact weaveB_at rs i k hk n hi
    · have : i = n := by omega
      subst this
      rw [List.getElem?_append_right (by rw [weaveB_len]; omega), weaveB_len, Nat.add_sub_cancel_left]
      simp [colB, hk]
theorem weaveB_fits {b : Int} {rs : List (List Int)} {n : Nat} (h : MayBk b rs n) : (weaveB rs n).all (fun x => fitsB x b) = true := by
  rw [List.all_eq_true]
  intro x hx
  simp only [weaveB, List.mem_flatMap, colB, List.mem_map, List.mem_range] at hx
  obtain ⟨i, hi, r, hr, rfl⟩ := hx
  have hl := h.rows r hr
  have hf := h.fits r hr
  rw [List.all_eq_true] at hf
  exact hf _ (by simp [hl, hi])

/- Part. -/
def partB (l : List Int) (c n : Nat) : List (List Int) := (List.range c).map fun k => (List.range n).map fun i => l.getD (i * c + k) 0
theorem partB_len (l : List Int) (c n : Nat) : (partB l c n).length = c := by simp [partB]
theorem partB_row {l : List Int} {c n : Nat} {r : List Int} (h : r ∈ partB l c n) : r.length = n := by
  simp only [partB, List.mem_map] at h
  obtain ⟨k, _, rfl⟩ := h
  simp
theorem part_weave {rs : List (List Int)} {n : Nat} (h : ∀ r ∈ rs, r.length = n) : partB (weaveB rs n) rs.length n = rs := by
  apply List.ext_getElem
  · simp [partB]
  · intro k h1 h2
    simp only [partB, List.getElem_map, List.getElem_range]
    apply List.ext_getElem
    · simp [h _ (List.getElem_mem h2)]
    · intro i h3 h4
      simp only [List.getElem_map, List.getElem_range]
      have hi : i < n := by simpa using h3
      rw [List.getD_eq_getElem?_getD, weaveB_at rs i k h2 n hi]
      simp [h4]
def partR (l : List Int) (r c b : Int) : Int × List (List Int) × Int :=
  if rightB r c b = true then
    (if l.length = 0 then (0, [], 7)
     else if l.length % c.toNat = 0 then
       (if l.length / c.toNat ≤ 4096 then (if l.all (fun x => fitsB x b) = true then (b, partB l c.toNat (l.length / c.toNat), 0) else (0, [], 6)) else (0, [], 4))
     else (0, [], 3))
  else (0, [], 1)
theorem partR_weave {b r : Int} {rs : List (List Int)} {n : Nat} (h : MayBk b rs n) (hr : 1 ≤ r ∧ r ≤ 1048576) : partR (weaveB rs n) r (rs.length : Nat) b = (b, rs, 0) := by
  have hc := h.chans
  have hs := h.size
  have hpos : 0 < n * rs.length := Nat.mul_pos (by omega) (by omega)
  unfold partR
  rw [if_pos (rightB_iff.2 ⟨hr.1, hr.2, by omega, by omega, h.bits⟩), weaveB_len, if_neg (by omega), Int.toNat_natCast, if_pos (Nat.mul_mod_left _ _), Nat.mul_div_cancel _ (by omega), if_pos hs.2, if_pos (weaveB_fits h), part_weave h.rows]
theorem partR_may {l : List Int} {r c b : Int} (h : (partR l r c b).2.2 = 0) : MayBk (partR l r c b).1 (partR l r c b).2.1 (l.length / c.toNat) ∧ (partR l r c b).1 = b ∧ (partR l r c b).2.1.length = c.toNat := by
  unfold partR at h ⊢
  split at h
  next h1 =>
    rw [if_pos h1]
    have h1' := rightB_iff.1 h1
    split at h
    next => simp at h
    next h2 =>
      rw [if_neg h2]
      split at h
      next h3 =>
        rw [if_pos h3]
        split at h
        next h4 =>
          rw [if_pos h4]
          split at h
          next h5 =>
            rw [if_pos h5]
            have hq : 1 ≤ l.length / c.toNat := by
              rcases Nat.eq_zero_or_pos (l.length / c.toNat) with h0 | h0
              · have := Nat.div_add_mod l.length c.toNat
                rw [h0, h3] at this; omega
              · exact h0
            refine ⟨⟨h1'.2.2.2.2, by simp [partB]; omega, lenB_of (by intro e; have := congrArg List.length e; simp [partB] at this; omega) (fun r hr => partB_row hr), ⟨hq, h4⟩, fun r hr => partB_row hr, ?_⟩, rfl, by simp [partB]⟩
            intro r hr
            simp only [partB, List.mem_map, List.mem_range] at hr
            obtain ⟨k, hk, rfl⟩ := hr
            rw [List.all_eq_true] at h5 ⊢
            intro x hx
            simp only [List.mem_map, List.mem_range] at hx
            obtain ⟨i, hi, rfl⟩ := hx
            have hlt : i * c.toNat + k < l.length := by
              have h6 : (i + 1) * c.toNat ≤ l.length / c.toNat * c.toNat := Nat.mul_le_mul_right _ hi
              have h7 := Nat.div_add_mod l.length c.toNat
              rw [h3, Nat.mul_comm] at h7
              rw [Nat.succ_mul] at h6
              omega
            rw [List.getD_eq_getElem?_getD, List.getElem?_eq_getElem hlt]
            exact h5 _ (List.getElem_mem _)
          next => simp at h
        next => simp at h
      next => simp at h
  next => simp at h

/- Cut. -/
def cutB (rs : List (List Int)) (f n : Nat) : List (List Int) := rs.map fun r => (r.drop f).take n
def cutR (b : Int) (rs : List (List Int)) (f t : Int) : Int × List (List Int) × Int :=
  if mayBk b rs = true then (if 0 ≤ f ∧ f < t ∧ t ≤ (lenB rs : Nat) then (b, cutB rs f.toNat (t - f).toNat, 0) else (0, [], 6)) else (0, [], 1)
theorem cut_may {b : Int} {rs : List (List Int)} {n : Nat} (h : MayBk b rs n) (f k : Nat) (hk : 1 ≤ k) (hf : f + k ≤ n) : MayBk b (cutB rs f k) k := by
  have hrow : ∀ r ∈ cutB rs f k, r.length = k := by
    intro r hr
    simp only [cutB, List.mem_map] at hr
    obtain ⟨s, hs, rfl⟩ := hr
    have := h.rows s hs
    simp; omega
  refine ⟨h.bits, by simpa [cutB] using h.chans, lenB_of (by intro e; have := congrArg List.length e; simp [cutB] at this; have := h.chans; simp_all) hrow, ⟨hk, by have := h.size; omega⟩, hrow, ?_⟩
  intro r hr
  simp only [cutB, List.mem_map] at hr
  obtain ⟨s, hs, rfl⟩ := hr
  have := h.fits s hs
  rw [List.all_eq_true] at this ⊢
  exact fun x hx => this x (List.mem_of_mem_drop (List.mem_of_mem_take hx))

/- Join. -/
def joinB (rs ss : List (List Int)) : List (List Int) := List.zipWith (· ++ ·) rs ss
def joinR (b : Int) (rs : List (List Int)) (c : Int) (ss : List (List Int)) : Int × List (List Int) × Int :=
  if mayBk b rs = true ∧ mayBk c ss = true then (if b = c ∧ rs.length = ss.length then (if lenB rs + lenB ss ≤ 4096 then (b, joinB rs ss, 0) else (0, [], 4)) else (0, [], 2)) else (0, [], 1)
theorem join_row {rs ss : List (List Int)} {n m : Nat} (hr : ∀ r ∈ rs, r.length = n) (hs : ∀ s ∈ ss, s.length = m) : ∀ r ∈ joinB rs ss, r.length = n + m := by
  intro r h
  obtain ⟨i, hi, rfl⟩ := List.mem_iff_getElem.1 h
  have hi' : i < rs.length ∧ i < ss.length := by simpa [joinB, Nat.lt_min] using hi
  simp only [joinB, List.getElem_zipWith, List.length_append]
  rw [hr _ (List.getElem_mem hi'.1), hs _ (List.getElem_mem hi'.2)]
theorem join_may {b : Int} {rs ss : List (List Int)} {n m : Nat} (h : MayBk b rs n) (k : MayBk b ss m) (hl : rs.length = ss.length) (hnm : n + m ≤ 4096) : MayBk b (joinB rs ss) (n + m) := by
  have hrow := join_row h.rows k.rows
  have hlen : (joinB rs ss).length = rs.length := by simp [joinB, hl]
  refine ⟨h.bits, by rw [hlen]; exact h.chans, lenB_of (by intro e; rw [e] at hlen; have := h.chans; simp at hlen; omega) hrow, ⟨by have := h.size; omega, hnm⟩, hrow, ?_⟩
  intro r hr
  obtain ⟨i, hi, rfl⟩ := List.mem_iff_getElem.1 hr
  have hi' : i < rs.length ∧ i < ss.length := by simpa [joinB, Nat.lt_min] using hi
  simp only [joinB, List.getElem_zipWith, List.all_append, Bool.and_eq_true]
  exact ⟨h.fits _ (List.getElem_mem hi'.1), k.fits _ (List.getElem_mem hi'.2)⟩
theorem join_cut {rs : List (List Int)} {n : Nat} (h : ∀ r ∈ rs, r.length = n) (k : Nat) : joinB (cutB rs 0 k) (cutB rs k (n - k)) = rs := by
  apply List.ext_getElem
  · simp [joinB, cutB]
  · intro i h1 h2
    simp only [joinB, cutB, List.getElem_zipWith, List.getElem_map, List.drop_zero]
    rw [List.take_of_length_le (l := rs[i].drop k) (by rw [List.length_drop, h _ (List.getElem_mem h2)]; omega), List.take_append_drop]
theorem col_left {rs ss : List (List Int)} {n i : Nat} (hr : ∀ r ∈ rs, r.length = n) (hl : rs.length = ss.length) (hi : i < n) : colB (joinB rs ss) i = colB rs i := by
  apply List.ext_getElem
  · simp [colB, joinB, hl]
  · intro k h1 h2
    have hk : k < rs.length := by simpa [colB] using h2
    have := hr _ (List.getElem_mem hk)
    simp only [colB, joinB, List.getElem_map, List.getElem_zipWith, List.getD_eq_getElem?_getD]
    rw [List.getElem?_append_left (by omega)]
theorem col_right {rs ss : List (List Int)} {n i : Nat} (hr : ∀ r ∈ rs, r.length = n) (hl : rs.length = ss.length) : colB (joinB rs ss) (n + i) = colB ss i := by
  apply List.ext_getElem
  · simp [colB, joinB, hl]
  · intro k h1 h2
    have hk : k < rs.length := by rw [hl]; simpa [colB] using h2
    have := hr _ (List.getElem_mem hk)
    simp only [colB, joinB, List.getElem_map, List.getElem_zipWith, List.getD_eq_getElem?_getD]
    rw [List.getElem?_append_right (by omega), this, Nat.add_sub_cancel_left]
theorem weave_left {rs ss : List (List Int)} {n : Nat} (hr : ∀ r ∈ rs, r.length = n) (hl : rs.length = ss.length) : ∀ i, i ≤ n → weaveB (joinB rs ss) i = weaveB rs i
  | 0, _ => by simp [weaveB]
  | i + 1, h => by rw [weaveB_succ, weaveB_succ, weave_left hr hl i (by omega), col_left hr hl (by omega)]
theorem weave_join {rs ss : List (List Int)} {n : Nat} (hr : ∀ r ∈ rs, r.length = n) (hl : rs.length = ss.length) : ∀ m, weaveB (joinB rs ss) (n + m) = weaveB rs n ++ weaveB ss m
  | 0 => by rw [Nat.add_zero, weave_left hr hl n (Nat.le_refl _)]; simp [weaveB]
  | m + 1 => by rw [← Nat.add_assoc, weaveB_succ, weave_join hr hl m, col_right hr hl, weaveB_succ, List.append_assoc]

/- Pack, Unpack, Print. -/
def packL (b : Int) (l : List Int) : List Nat := l.flatMap (pk (szOf b))
def packBl (b : Int) (rs : List (List Int)) : List Nat × Int := if mayBk b rs = true then (packL b (weaveB rs (lenB rs)), 0) else ([], 1)
theorem packBl_is {b : Int} {rs : List (List Int)} (h : mayBk b rs = true) : packR (weaveB rs (lenB rs)) b = packBl b rs := by
  have hm := mayBk_of h
  unfold packBl packR
  rw [if_pos h, if_pos hm.bits, if_pos (weaveB_fits hm)]; rfl
theorem packL_app (b : Int) (l m : List Int) : packL b (l ++ m) = packL b l ++ packL b m := by simp [packL]
theorem packL_len (b : Int) (l : List Int) : (packL b l).length = l.length * szOf b := pks_len _ _
theorem packL_byte (b : Int) (l : List Int) : ∀ y ∈ packL b l, y < 256 := by
  intro y hy
  simp only [packL, List.mem_flatMap] at hy
  obtain ⟨x, _, hx⟩ := hy
  exact pk_byte _ _ y hx
theorem packBl_byte (b : Int) (rs : List (List Int)) : ∀ y ∈ (packBl b rs).1, y < 256 := by
  unfold packBl; split
  · exact packL_byte _ _
  · simp
theorem packBl_len (b : Int) (rs : List (List Int)) : (packBl b rs).1.length ≤ 98304 := by
  unfold packBl; split
  · next h =>
    have hm := mayBk_of h
    rw [packL_len, weaveB_len]
    have h1 := hm.chans; have h2 := hm.size
    have h3 : szOf b ≤ 3 := by have := szOf_cases hm.bits; omega
    have h4 : lenB rs * rs.length ≤ 4096 * 8 := Nat.mul_le_mul h2.2 h1.2
    have h5 : lenB rs * rs.length * szOf b ≤ 4096 * 8 * 3 := Nat.mul_le_mul h4 h3
    omega
  · simp
def unpackBl (l : List Nat) (r c b : Int) : Int × List (List Int) × Int :=
  if rightB r c b = true then (if (unpackR l b).2 = 0 then partR (unpackR l b).1 r c b else (0, [], (unpackR l b).2)) else (0, [], 1)
theorem unpack_pack {b r : Int} {rs : List (List Int)} {n : Nat} (h : MayBk b rs n) (hr : 1 ≤ r ∧ r ≤ 1048576) : unpackBl (packL b (weaveB rs n)) r (rs.length : Nat) b = (b, rs, 0) := by
  have h1 : unpackR (packL b (weaveB rs n)) b = (weaveB rs n, 0) := back_one h.bits (weaveB_fits h)
  have hc := h.chans
  unfold unpackBl
  rw [if_pos (rightB_iff.2 ⟨hr.1, hr.2, by omega, by omega, h.bits⟩), h1, if_pos rfl]
  exact partR_weave h hr
end Go.Proofs.Ytggddckckfilgaa
