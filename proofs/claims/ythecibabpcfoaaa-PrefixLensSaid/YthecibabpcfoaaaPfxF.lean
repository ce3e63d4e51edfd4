/- prefix, plain: full lengths and what they cost, over all symbols. -/
import Derived.Test.YthecibabpcfoaaaPfxS
namespace Go.Proofs.Ythecibabpcfoaaa
set_option maxRecDepth 100000

/-- What stands at i, 0 past the end. -/
def atN (ls : List Nat) (i : Nat) : Nat := ls.getD i 0
/-- The symbols that are used, in their order. -/
def usedN (ls : List Nat) : List Nat := (List.range ls.length).filter (fun i => decide (0 < atN ls i))
theorem range_map_at (ls : List Nat) : (List.range ls.length).map (atN ls) = ls := by
  refine List.ext_getElem (by simp) fun i h1 h2 => ?_
  rw [List.getElem_map, List.getElem_range]
  unfold atN
  rw [List.getD_eq_getElem?_getD, List.getElem?_eq_getElem h2]; rfl
theorem usedN_map (ls : List Nat) : (usedN ls).map (atN ls) = ls.filter (fun x => decide (0 < x)) := by
  unfold usedN
  conv => rhs; rw [← range_map_at ls]
  rw [List.filter_map]; rfl
theorem usedN_nodup (ls : List Nat) : (usedN ls).Nodup := List.nodup_range.filter _
theorem usedN_mem {ls : List Nat} {i : Nat} : i ∈ usedN ls ↔ i < ls.length ∧ 0 < atN ls i := by
  unfold usedN; rw [List.mem_filter, List.mem_range, decide_eq_true_eq]
theorem kraft_perm {a b : List Nat} (h : a.Perm b) (L : Nat) : kraft a L = kraft b L := sumOn_perm _ h
theorem sumOn_filter (g : Nat → Nat) (p : Nat → Bool) : ∀ ls : List Nat, (∀ x ∈ ls, p x = false → g x = 0) → sumOn g (ls.filter p) = sumOn g ls
  | [], _ => rfl
  | x :: ls, h => by
    have ih := sumOn_filter g p ls fun y hy => h y (List.mem_cons_of_mem _ hy)
    by_cases hp : p x = true
    · rw [List.filter_cons_of_pos hp, sumOn_cons, sumOn_cons, ih]
    · rw [List.filter_cons_of_neg hp, sumOn_cons, ih, h x (List.mem_cons_self ..) (by simpa using hp), Nat.zero_add]
/-- Frequency times length over all symbols. -/
def totalN (fs ls : List Nat) : Nat := sumOn (fun i => atN fs i * atN ls i) (List.range (min fs.length ls.length))
/-- The cost lies with the used symbols alone. -/
theorem total_used {fs ls : List Nat} (h : ls.length = fs.length) {ss : List Nat} (hs : ss.Perm (usedN fs)) : totalN fs ls = sumOn (fun i => atN fs i * atN ls i) ss := by
  rw [sumOn_perm _ hs]
  unfold totalN usedN
  rw [h, Nat.min_self]
  refine (sumOn_filter _ _ _ fun i _ hi => ?_).symm
  have : atN fs i = 0 := by simpa using hi
  rw [this, Nat.zero_mul]
/-- Full lengths (of at most M bits each). -/
def fullN (M : Nat) (ls : List Nat) : Prop := (∀ x ∈ ls, x ≤ M) ∧ ((usedN ls).length = 1 ∧ (∀ i ∈ usedN ls, atN ls i = 1) ∨ 2 ≤ (usedN ls).length ∧ kraft (ls.filter (fun x => decide (0 < x))) M = 2 ^ M)
/-- Kraft's sum of full lengths of several symbols, over the symbols in any order, in the unit of a maximum of their own. -/
theorem full_kraft {M L : Nat} {ls ss : List Nat} (h : kraft (ls.filter (fun x => decide (0 < x))) M = 2 ^ M) (hs : ss.Perm (usedN ls)) (hL : ∀ i ∈ ss, atN ls i ≤ L) (hLM : L ≤ M) : kraft (ss.map (atN ls)) L = 2 ^ L := by
  refine (kraft_full (fun l hl => ?_) hLM).1 ?_
  · obtain ⟨i, hi, rfl⟩ := List.mem_map.1 hl; exact hL i hi
  · rw [kraft_perm (hs.map _), usedN_map]; exact h
/-- The lengths that package-merge gives to all symbols. -/
def lensN (fs ss : List Nat) (L : Nat) : List Nat := (List.range fs.length).map (fun s => if ss.length = 1 then (if s ∈ ss then 1 else 0) else mergeO (atN fs) ss L s)
theorem lensN_len (fs ss : List Nat) (L : Nat) : (lensN fs ss L).length = fs.length := by simp [lensN]
theorem lensN_at {fs ss : List Nat} {L i : Nat} (h : i < fs.length) : atN (lensN fs ss L) i = if ss.length = 1 then (if i ∈ ss then 1 else 0) else mergeO (atN fs) ss L i := by
  unfold atN lensN
  rw [List.getD_eq_getElem?_getD, List.getElem?_map, List.getElem?_range h]; rfl
/-- The order of the coins: frequency, then symbol. -/
def Coined (fs ss : List Nat) : Prop := ss.Perm (usedN fs) ∧ ss.Pairwise (fun a b => atN fs a ≤ atN fs b)
theorem lensN_used {fs ss : List Nat} {L : Nat} (hc : Coined fs ss) (h1 : 1 ≤ ss.length) (hL : 1 ≤ L) (hu : ss.length ≤ 2 ^ L) : ∀ i, i < fs.length → (0 < atN (lensN fs ss L) i ↔ 0 < atN fs i) ∧ atN (lensN fs ss L) i ≤ L := by
  intro i hi
  have hm : i ∈ ss ↔ 0 < atN fs i := by rw [hc.1.mem_iff, usedN_mem]; exact ⟨fun h => h.2, fun h => ⟨hi, h⟩⟩
  rw [lensN_at hi, ← hm]
  by_cases h : ss.length = 1
  · rw [if_pos h]
    by_cases hs : i ∈ ss
    · rw [if_pos hs]; exact ⟨by simp [hs], hL⟩
    · rw [if_neg hs]; exact ⟨by simp [hs], Nat.zero_le _⟩
  · rw [if_neg h]
    obtain ⟨ms, _, _, h0, hb, _, _⟩ := mergeO_is (hc.1.nodup_iff.2 (usedN_nodup fs)) hc.2 (show 2 ≤ ss.length by omega) hL hu
    by_cases hs : i ∈ ss
    · have := hb i hs; exact ⟨⟨fun _ => hs, fun _ => by omega⟩, this.2⟩
    · rw [h0 i hs]; exact ⟨⟨fun h => absurd h (by omega), fun h => absurd h hs⟩, Nat.zero_le _⟩
theorem usedN_eq {fs ls : List Nat} (hl : ls.length = fs.length) (h : ∀ i, i < fs.length → (0 < atN ls i ↔ 0 < atN fs i)) : usedN ls = usedN fs := by
  unfold usedN
  rw [hl]
  refine List.filter_congr fun i hi => ?_
  have := h i (List.mem_range.1 hi)
  by_cases hf : 0 < atN fs i
  · rw [decide_eq_true hf, decide_eq_true (this.2 hf)]
  · rw [decide_eq_false hf, decide_eq_false (fun h2 => hf (this.1 h2))]
/-- THE LENGTHS ARE FULL. -/
theorem lensN_full {fs ss : List Nat} {L M : Nat} (hc : Coined fs ss) (h1 : 1 ≤ ss.length) (hL : 1 ≤ L) (hLM : L ≤ M) (hu : ss.length ≤ 2 ^ L) : fullN M (lensN fs ss L) := by
  have hus := lensN_used hc h1 hL hu
  have hue : usedN (lensN fs ss L) = usedN fs := usedN_eq (lensN_len ..) fun i hi => (hus i hi).1
  refine ⟨fun x hx => ?_, ?_⟩
  · obtain ⟨i, hi, rfl⟩ := List.getElem_of_mem hx
    have hi' : i < fs.length := by rw [lensN_len] at hi; exact hi
    have h2 := (hus i hi').2
    have h3 : atN (lensN fs ss L) i = (lensN fs ss L)[i] := by unfold atN; rw [List.getD_eq_getElem?_getD, List.getElem?_eq_getElem hi]; rfl
    omega
  · rw [hue]
    have hlen := hc.1.length_eq
    by_cases h : ss.length = 1
    · refine .inl ⟨by omega, fun i hi => ?_⟩
      rw [lensN_at (usedN_mem.1 hi).1, if_pos h, if_pos (hc.1.mem_iff.2 hi)]
    · refine .inr ⟨by omega, ?_⟩
      obtain ⟨ms, _, _, _, hb, hk, _⟩ := mergeO_is (hc.1.nodup_iff.2 (usedN_nodup fs)) hc.2 (show 2 ≤ ss.length by omega) hL hu
      have hmap : ss.map (atN (lensN fs ss L)) = ss.map (mergeO (atN fs) ss L) := List.map_congr_left fun i hi => by
        rw [lensN_at (usedN_mem.1 (hc.1.mem_iff.1 hi)).1, if_neg h]
      rw [← usedN_map, hue, ← kraft_perm (hc.1.map _), hmap]
      exact (kraft_full (fun l hl => by obtain ⟨s, hs, rfl⟩ := List.mem_map.1 hl; exact (hb s hs).2) hLM).2 hk
/-- NOTHING COSTS LESS. -/
theorem lensN_least {fs ss o : List Nat} {L M : Nat} (hc : Coined fs ss) (h1 : 1 ≤ ss.length) (hL : 1 ≤ L) (hLM : L ≤ M) (hu : ss.length ≤ 2 ^ L)
    (ho : o.length = fs.length) (hf : fullN M o) (hus : ∀ i, i < fs.length → (0 < atN o i ↔ 0 < atN fs i) ∧ atN o i ≤ L) : totalN fs (lensN fs ss L) ≤ totalN fs o := by
  have hue : usedN o = usedN fs := usedN_eq ho fun i hi => (hus i hi).1
  rw [total_used (lensN_len ..) hc.1, total_used ho hc.1]
  have hlen := hc.1.length_eq
  have hlt : ∀ i ∈ ss, i < fs.length := fun i hi => (usedN_mem.1 (hc.1.mem_iff.1 hi)).1
  by_cases h : ss.length = 1
  · refine Nat.le_of_eq (sumOn_congr fun i hi => ?_)
    rw [lensN_at (hlt i hi), if_pos h, if_pos hi]
    rcases hf.2 with ⟨_, h3⟩ | ⟨h3, _⟩
    · rw [h3 i (by rw [hue]; exact hc.1.mem_iff.1 hi)]
    · rw [hue] at h3; omega
  · have h2 : 2 ≤ ss.length := by omega
    rw [sumOn_congr (g := fun i => atN fs i * mergeO (atN fs) ss L i) fun i hi => by rw [lensN_at (hlt i hi), if_neg h]]
    refine mergeO_least (hc.1.nodup_iff.2 (usedN_nodup fs)) hc.2 h2 hL hu (fun s hs => ?_) (fun s hs => (hus s (hlt s hs)).2) ?_
    · exact ((hus s (hlt s hs)).1.2 (usedN_mem.1 (hc.1.mem_iff.1 hs)).2)
    · rcases hf.2 with ⟨h3, _⟩ | ⟨_, h3⟩
      · rw [hue] at h3; omega
      · exact full_kraft h3 (by rw [hue]; exact hc.1) (fun i hi => (hus i (hlt i hi)).2) hLM
/-- A MORE FREQUENT SYMBOL has no longer word. -/
theorem lensN_often {fs ss : List Nat} {L : Nat} (hc : Coined fs ss) (h1 : 1 ≤ ss.length) (hL : 1 ≤ L) (hu : ss.length ≤ 2 ^ L) {a b : Nat} (ha : a < fs.length) (hb : b < fs.length) (h : atN fs b < atN fs a) (h0 : 0 < atN fs b) :
    atN (lensN fs ss L) a ≤ atN (lensN fs ss L) b := by
  have hma : a ∈ ss := hc.1.mem_iff.2 (usedN_mem.2 ⟨ha, by omega⟩)
  have hmb : b ∈ ss := hc.1.mem_iff.2 (usedN_mem.2 ⟨hb, h0⟩)
  rw [lensN_at ha, lensN_at hb]
  by_cases h2 : ss.length = 1
  · rw [if_pos h2, if_pos h2, if_pos hma, if_pos hmb]; exact Nat.le_refl _
  · rw [if_neg h2, if_neg h2]
    exact mergeO_often (hc.1.nodup_iff.2 (usedN_nodup fs)) hc.2 (by omega) hL hu hmb hma h
/-- A LARGER MAXIMUM never costs more. -/
theorem lensN_room {fs ss : List Nat} {L M : Nat} (hc : Coined fs ss) (h1 : 1 ≤ ss.length) (hL : 1 ≤ L) (hLM : L ≤ M) (hu : ss.length ≤ 2 ^ L) : totalN fs (lensN fs ss M) ≤ totalN fs (lensN fs ss L) := by
  have hus := lensN_used hc h1 hL hu
  exact lensN_least hc h1 (by omega) (Nat.le_refl M) (Nat.le_trans hu (Nat.pow_le_pow_right (by decide) hLM)) (lensN_len ..) (lensN_full hc h1 hL hLM hu) fun i hi => ⟨(hus i hi).1, Nat.le_trans (hus i hi).2 hLM⟩
/-- There is ONE order of the coins, if equal frequencies keep the order of the symbols. -/
theorem coined_one {fs s1 s2 : List Nat} (h1 : s1.Perm (usedN fs)) (h2 : s2.Perm (usedN fs)) (p1 : s1.Pairwise (fun a b => atN fs a < atN fs b ∨ atN fs a = atN fs b ∧ a < b)) (p2 : s2.Pairwise (fun a b => atN fs a < atN fs b ∨ atN fs a = atN fs b ∧ a < b)) : s1 = s2 :=
  (h1.trans h2.symm).eq_of_pairwise (fun a b _ _ hab hba => by omega) p1 p2
/-- The used symbols by length, those of one length in their order. -/
def ofLen (ls : List Nat) (n : Nat) : List Nat := (List.range ls.length).filter (fun i => decide (atN ls i = n))
def orderN (ls : List Nat) : Nat → List Nat
  | 0 => []
  | M + 1 => orderN ls M ++ ofLen ls (M + 1)
theorem ofLen_mem {ls : List Nat} {n i : Nat} : i ∈ ofLen ls n ↔ i < ls.length ∧ atN ls i = n := by
  unfold ofLen; rw [List.mem_filter, List.mem_range, decide_eq_true_eq]
theorem orderN_mem {ls : List Nat} {i : Nat} : ∀ {M : Nat}, i ∈ orderN ls M ↔ i < ls.length ∧ 0 < atN ls i ∧ atN ls i ≤ M
  | 0 => by simp [orderN]; omega
  | M + 1 => by
    unfold orderN
    rw [List.mem_append, orderN_mem, ofLen_mem]; omega
theorem orderN_sorted (ls : List Nat) : ∀ M, (orderN ls M).Pairwise (fun a b => atN ls a < atN ls b ∨ atN ls a = atN ls b ∧ a < b)
  | 0 => List.Pairwise.nil
  | M + 1 => by
    unfold orderN
    refine List.pairwise_append.2 ⟨orderN_sorted ls M, ?_, fun a ha b hb => ?_⟩
    · refine (List.pairwise_lt_range.filter _).imp_of_mem fun {a b} ha hb hab => ?_
      have h1 := (ofLen_mem (ls := ls) (n := M + 1)).1 ha
      have h2 := (ofLen_mem (ls := ls) (n := M + 1)).1 hb
      omega
    · have h1 := orderN_mem.1 ha
      have h2 := ofLen_mem.1 hb
      omega
theorem orderN_nodup (ls : List Nat) (M : Nat) : (orderN ls M).Nodup := (orderN_sorted ls M).imp fun {a b} h e => by subst e; omega
theorem orderN_perm {ls : List Nat} {M : Nat} (h : ∀ x ∈ ls, x ≤ M) : (orderN ls M).Perm (usedN ls) := by
  refine (List.perm_ext_iff_of_nodup (orderN_nodup ls M) (usedN_nodup ls)).2 fun i => ?_
  rw [orderN_mem, usedN_mem]
  refine ⟨fun h => ⟨h.1, h.2.1⟩, fun ⟨h2, h4⟩ => ⟨h2, h4, ?_⟩⟩
  have h3 : atN ls i = ls[i]'h2 := by unfold atN; rw [List.getD_eq_getElem?_getD, List.getElem?_eq_getElem h2]; rfl
  rw [h3]; exact h _ (List.getElem_mem _)
/-- The lengths in rising order, as the words of the code take them. -/
theorem orderN_rises (ls : List Nat) (M : Nat) : ((orderN ls M).map (atN ls)).Pairwise (· ≤ ·) := by
  rw [List.pairwise_map]
  exact (orderN_sorted ls M).imp fun {a b} h => by omega
theorem orderN_kraft {ls : List Nat} {M : Nat} (h : ∀ x ∈ ls, x ≤ M) : kraft ((orderN ls M).map (atN ls)) M = kraft (ls.filter (fun x => decide (0 < x))) M := by
  rw [kraft_perm ((orderN_perm h).map _), usedN_map]
end Go.Proofs.Ythecibabpcfoaaa
