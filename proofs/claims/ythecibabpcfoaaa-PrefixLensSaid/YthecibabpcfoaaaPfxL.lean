/- prefix, plain: what lengths package-merge gives: they are a code's, of all coins, and cost what the things weigh. -/
import Derived.Test.YthecibabpcfoaaaPfxP
namespace Go.Proofs.Ythecibabpcfoaaa
set_option maxRecDepth 100000

theorem rowsM_small (c : List Thing) (h : 1 ≤ c.length) : ∀ n, (rowsM c n).length ≤ 2 * c.length - 1
  | 0 => by show c.length ≤ _; omega
  | n + 1 => by have := rowsM_small c h n; rw [rowsM_len]; omega
theorem rowsM_big (c : List Thing) : ∀ n k, c.length ≤ 2 ^ (n + k) → 2 * c.length ≤ (rowsM c n).length + 2 ^ k
  | 0, k, h => by rw [Nat.zero_add] at h; show 2 * c.length ≤ c.length + 2 ^ k; omega
  | n + 1, k, h => by
    have := rowsM_big c n (k + 1) (by rw [show n + (k + 1) = n + 1 + k by omega]; exact h)
    rw [Nat.pow_succ] at this
    rw [rowsM_len]; omega
/-- The symbols of things, one after another. -/
def flat (l : List Thing) : List Nat := l.flatMap (·.2)
theorem flat_append (a b : List Thing) : flat (a ++ b) = flat a ++ flat b := by simp [flat]
theorem flat_cons (a : Thing) (l : List Thing) : flat (a :: l) = a.2 ++ flat l := rfl
theorem flat_perm {a b : List Thing} (h : a.Perm b) : (flat a).Perm (flat b) := by
  induction h with
  | nil => exact List.Perm.refl _
  | cons x _ ih => exact ih.append_left x.2
  | swap x y l =>
    rw [flat_cons, flat_cons, flat_cons, flat_cons, ← List.append_assoc, ← List.append_assoc]
    exact List.perm_append_comm.append_right _
  | trans _ _ ih1 ih2 => exact ih1.trans ih2
theorem flat_pack : ∀ (l : List Thing), l.length % 2 = 0 → flat (pack l) = flat l
  | [], _ => rfl
  | [a], h => by simp at h
  | a :: b :: t, h => by
    have := flat_pack t (by simp only [List.length_cons] at h; omega)
    rw [pack_two]
    show (a.2 ++ b.2) ++ flat (pack t) = a.2 ++ (b.2 ++ flat t)
    rw [this, List.append_assoc]
/-- A thing among the first 2 p of a row is in one of the first p packages. -/
theorem in_pack {l : List Thing} {p : Nat} {x : Thing} (h : x ∈ l.take (2 * p)) (hp : 2 * p ≤ l.length) : ∃ q, ∃ hq : q < (pack l).length, q < p ∧ x.1 ≤ ((pack l)[q]).1 := by
  obtain ⟨r, hr, rfl⟩ := List.getElem_of_mem h
  have hr2 : r < 2 * p := by rw [List.length_take] at hr; omega
  have hl := pack_len l
  have hq : r / 2 < (pack l).length := by omega
  refine ⟨r / 2, hq, by omega, ?_⟩
  rw [pack_get l (r / 2) hq (by omega) (by omega), List.getElem_take]
  show (l[r]'(by omega)).1 ≤ (l[2 * (r / 2)]'(by omega)).1 + (l[2 * (r / 2) + 1]'(by omega)).1
  rcases Nat.mod_two_eq_zero_or_one r with h0 | h0
  · have e : (l[2 * (r / 2)]'(by omega)) = l[r]'(by omega) := by congr 1; omega
    rw [e]; omega
  · have e : (l[2 * (r / 2) + 1]'(by omega)) = l[r]'(by omega) := by congr 1; omega
    rw [e]; omega

/-- The things that a choice makes, in the unit of row 0: the list is from the top row down. -/
def valM : List Nat → Nat
  | [] => 0
  | m :: ms => m * 2 ^ ms.length + valM ms
/-- How many of the coins lie among the first K of row n: m at row n, ms from row n - 1 down. -/
structure Takes (c : List Thing) (n K : Nat) (m : Nat) (ms : List Nat) : Prop where
  len : ms.length = n
  le : m ≤ c.length
  falls : (m :: ms).Pairwise (fun a b => b ≤ a)
  perm : (flat ((rowsM c n).take K)).Perm ((m :: ms).flatMap (fun k => flat (c.take k)))
  has : ∀ x ∈ c.take m, x ∈ (rowsM c n).take K
  val : valM (m :: ms) = K * 2 ^ n
  top : 2 ≤ c.length → K = 2 * c.length - 2 → m = c.length
theorem takes {c : List Thing} (hc : Rises c) : ∀ n K, K ≤ (rowsM c n).length → ∃ m ms, Takes c n K m ms
  | 0, K, hK => ⟨K, [], rfl, hK, by simp, by simp [rowsM], fun x h => h, by simp [valM], fun h2 hk => by
      have : K ≤ c.length := hK
      omega⟩
  | n + 1, K, hK => by
    have hR := pack_len (rowsM c n)
    have hl := rowsM_len c n
    obtain ⟨m, p, hmp, hm, hp, hperm, hin⟩ := mrg_take c (pack (rowsM c n)) hc K (by rw [hR]; omega)
    have h2p : 2 * p ≤ (rowsM c n).length := by omega
    obtain ⟨m1, ms, T⟩ := takes hc n (2 * p) h2p
    have hmem : ∀ i (hi : i < c.length), c[i] ∈ (rowsM c n).take (2 * p) → i < m := fun i hi hx => by
      obtain ⟨q, hq, hqp, hle⟩ := in_pack hx h2p
      exact hin i q hi hq hqp hle
    have hlow : ∀ i, i < m1 → i < m := fun i hi => by
      have hic : i < c.length := Nat.lt_of_lt_of_le hi T.le
      refine hmem i hic (T.has _ ?_)
      have : (c.take m1)[i]'(by rw [List.length_take]; omega) = c[i] := List.getElem_take ..
      rw [← this]; exact List.getElem_mem _
    have hm1 : m1 ≤ m := by
      rcases Nat.lt_or_ge m m1 with h | h
      · exact absurd (hlow m h) (Nat.lt_irrefl m)
      · exact h
    refine ⟨m, m1 :: ms, by simp [T.len], hm, ?_, ?_, ?_, ?_, ?_⟩
    · refine List.pairwise_cons.2 ⟨fun x hx => ?_, T.falls⟩
      rcases List.mem_cons.1 hx with rfl | hx
      · exact hm1
      · exact Nat.le_trans ((List.pairwise_cons.1 T.falls).1 x hx) hm1
    · refine (flat_perm hperm).trans ?_
      rw [flat_append, pack_take, flat_pack _ (by rw [List.length_take]; omega)]
      exact T.perm.append_left _
    · intro x hx
      exact hperm.mem_iff.2 (List.mem_append_left _ hx)
    · show m * 2 ^ (m1 :: ms).length + valM (m1 :: ms) = K * 2 ^ (n + 1)
      rw [T.val, List.length_cons, T.len, ← hmp, Nat.add_mul, Nat.pow_succ, Nat.mul_comm 2 p, Nat.mul_assoc p 2, Nat.mul_comm 2 (2 ^ n)]
    · intro h2 hk
      have hs := rowsM_small c (by omega) n
      rcases Nat.lt_or_ge m c.length with h | h
      · have hp2 : 2 * p = 2 * c.length - 2 := by omega
        have := T.top h2 hp2
        have := hlow (c.length - 1) (by omega)
        omega
      · omega

/- The lengths: how many of the rows have the coin among the first. -/
def lenM (ms : List Nat) (i : Nat) : Nat := ms.countP (fun m => decide (i < m))
def lensM (u : Nat) (ms : List Nat) : List Nat := (List.range u).map (lenM ms)
theorem lenM_cons (m : Nat) (ms : List Nat) (i : Nat) : lenM (m :: ms) i = (if i < m then 1 else 0) + lenM ms i := by
  unfold lenM
  rw [List.countP_cons]
  by_cases h : i < m <;> simp [h, Nat.add_comm]
theorem lenM_le (ms : List Nat) (i : Nat) : lenM ms i ≤ ms.length := List.countP_le_length
theorem lenM_zero {ms : List Nat} {i : Nat} (h : ∀ m ∈ ms, m ≤ i) : lenM ms i = 0 := by
  unfold lenM
  rw [List.countP_eq_zero]
  intro m hm
  simpa using h m hm
theorem lenM_anti (ms : List Nat) {i k : Nat} (h : i ≤ k) : lenM ms k ≤ lenM ms i := by
  unfold lenM
  refine List.countP_mono_left fun m _ hk => ?_
  simp at hk ⊢; omega
theorem sumOn_map (f : Nat → Nat) (g : Nat → Nat) (ls : List Nat) : sumOn f (ls.map g) = sumOn (fun i => f (g i)) ls := by
  unfold sumOn; rw [List.map_map]; rfl
theorem sumOn_const (k : Nat) (ls : List Nat) : sumOn (fun _ => k) ls = ls.length * k := by
  induction ls with
  | nil => simp [sumOn]
  | cons l ls ih => rw [sumOn_cons, ih, List.length_cons, Nat.add_mul]; omega
theorem sumOn_append (f : Nat → Nat) (a b : List Nat) : sumOn f (a ++ b) = sumOn f a + sumOn f b := by
  unfold sumOn; rw [List.map_append, List.sum_append]
theorem sumOn_lt (k : Nat) {m : Nat} : ∀ {u : Nat}, m ≤ u → sumOn (fun i => if i < m then k else 0) (List.range u) = m * k
  | 0, h => by rw [Nat.le_zero.1 h]; simp [sumOn]
  | u + 1, h => by
    rw [List.range_succ, sumOn_append]
    rcases Nat.lt_or_ge u m with h1 | h1
    · have hm : m = u + 1 := by omega
      subst hm
      have : sumOn (fun i => if i < u + 1 then k else 0) (List.range u) = u * k := by
        rw [sumOn_congr (g := fun _ => k) (fun i hi => if_pos (by have := List.mem_range.1 hi; omega)), sumOn_const, List.length_range]
      rw [this]
      simp [sumOn, Nat.add_mul]
    · rw [sumOn_lt k h1]
      have : ¬ u < m := by omega
      simp [sumOn, this]
theorem kraft_step (u m : Nat) (t : List Nat) (hm : m ≤ u) (ht : ∀ x ∈ t, x ≤ m) : kraft (lensM u (m :: t)) (t.length + 1) + m * 2 ^ t.length = kraft (lensM u t) t.length + u * 2 ^ t.length := by
  unfold kraft lensM
  rw [sumOn_map, sumOn_map, ← sumOn_lt (2 ^ t.length) hm, ← sumOn_add]
  have hu : u * 2 ^ t.length = sumOn (fun _ => 2 ^ t.length) (List.range u) := by rw [sumOn_const, List.length_range]
  rw [hu, ← sumOn_add]
  refine sumOn_congr fun i _ => ?_
  rw [lenM_cons]
  by_cases h : i < m
  · have h3 := lenM_le t i
    rw [if_pos h, if_pos h, show t.length + 1 - (1 + lenM t i) = t.length - lenM t i by omega]
  · rw [if_neg h, if_neg h, lenM_zero fun x hx => Nat.le_trans (ht x hx) (by omega), Nat.zero_add, Nat.sub_zero, Nat.sub_zero, Nat.pow_succ]; omega
/-- KRAFT'S SUM of those lengths. -/
theorem kraft_lens (u : Nat) : ∀ ms : List Nat, ms.Pairwise (fun a b => b ≤ a) → (∀ m ∈ ms, m ≤ u) → valM ms + kraft (lensM u ms) ms.length = u * 2 ^ ms.length
  | [], _, _ => by
    show 0 + kraft (lensM u []) 0 = u * 2 ^ 0
    unfold kraft lensM
    rw [sumOn_map, sumOn_congr (g := fun _ => 1) (fun i _ => by simp), sumOn_const, List.length_range]; omega
  | m :: t, hp, hm => by
    have hp' := List.pairwise_cons.1 hp
    have ih := kraft_lens u t hp'.2 fun x hx => hm x (List.mem_cons_of_mem _ hx)
    have hs := kraft_step u m t (hm m (List.mem_cons_self ..)) hp'.1
    show m * 2 ^ t.length + valM t + kraft (lensM u (m :: t)) (t.length + 1) = u * 2 ^ (t.length + 1)
    rw [Nat.pow_succ, Nat.mul_comm (2 ^ t.length) 2, ← Nat.mul_assoc, Nat.mul_comm u 2, Nat.mul_assoc]
    omega

/- What they cost. -/
def wAt (c : List Thing) (i : Nat) : Nat := match c[i]? with | some a => a.1 | none => 0
theorem sumOn_range_succ (f : Nat → Nat) (n : Nat) : sumOn f (List.range (n + 1)) = f 0 + sumOn (fun i => f (i + 1)) (List.range n) := by
  rw [List.range_succ_eq_map, sumOn_cons, sumOn_map]
theorem cost_at : ∀ (c : List Thing) (g : Nat → Nat), costOn (fun l => l) c ((List.range c.length).map g) = sumOn (fun i => wAt c i * g i) (List.range c.length)
  | [], g => by simp [costOn, sumOn]
  | a :: c, g => by
    rw [List.length_cons, sumOn_range_succ, List.range_succ_eq_map, List.map_cons, List.map_map, costOn_cons]
    have := cost_at c (g ∘ Nat.succ)
    rw [this]
    rfl
theorem wsum_at : ∀ (c : List Thing) (m : Nat), wsum (c.take m) = sumOn (fun i => wAt c i * (if i < m then 1 else 0)) (List.range c.length)
  | [], m => by simp [wsum, sumOn]
  | a :: c, 0 => by
    rw [sumOn_congr (g := fun _ => 0) (fun i _ => by simp), sumOn_const]; simp [wsum]
  | a :: c, m + 1 => by
    rw [List.length_cons, sumOn_range_succ, List.take_succ_cons, wsum_cons, wsum_at c m]
    have h0 : wAt (a :: c) 0 = a.1 := rfl
    rw [h0, if_pos (Nat.succ_pos m), Nat.mul_one]
    congr 1
    exact sumOn_congr fun i _ => by
      have h1 : wAt (a :: c) (i + 1) = wAt c i := rfl
      rw [h1]
      by_cases h : i < m <;> simp [h]
theorem cost_lens (c : List Thing) : ∀ ms : List Nat, costOn (fun l => l) c (lensM c.length ms) = (ms.map (fun m => wsum (c.take m))).sum
  | [] => by
    unfold lensM
    rw [cost_at, sumOn_congr (g := fun _ => 0) (fun i _ => by simp [lenM]), sumOn_const]; simp
  | m :: ms => by
    have ih := cost_lens c ms
    unfold lensM at ih ⊢
    rw [cost_at] at ih ⊢
    rw [List.map_cons, List.sum_cons, ← ih, wsum_at, ← sumOn_add]
    exact sumOn_congr fun i _ => by rw [lenM_cons, Nat.mul_add]
/-- Each thing weighs what its symbols do. -/
def Weighs (F : Nat → Nat) (l : List Thing) : Prop := ∀ t ∈ l, t.1 = (t.2.map F).sum
theorem weighs_pack {F : Nat → Nat} : ∀ {l : List Thing}, Weighs F l → Weighs F (pack l)
  | [], _ => fun t ht => by simp [pack] at ht
  | [a], _ => fun t ht => by simp [pack] at ht
  | a :: b :: l, h => fun t ht => by
    rw [pack_two] at ht
    rcases List.mem_cons.1 ht with rfl | ht
    · show a.1 + b.1 = ((a.2 ++ b.2).map F).sum
      rw [List.map_append, List.sum_append, h a (by simp), h b (by simp)]
    · exact weighs_pack (fun x hx => h x (by simp [hx])) t ht
theorem weighs_rows {F : Nat → Nat} {c : List Thing} (h : Weighs F c) : ∀ n, Weighs F (rowsM c n)
  | 0 => h
  | n + 1 => fun t ht => by
    rcases mrg_mem.1 ht with ht | ht
    · exact h t ht
    · exact weighs_pack (weighs_rows h n) t ht
theorem weighs_take {F : Nat → Nat} {l : List Thing} (h : Weighs F l) (k : Nat) : Weighs F (l.take k) := fun t ht => h t (List.mem_of_mem_take ht)
theorem weighs_sum {F : Nat → Nat} : ∀ {l : List Thing}, Weighs F l → wsum l = sumOn F (flat l)
  | [], _ => rfl
  | a :: l, h => by
    rw [wsum_cons, flat_cons, sumOn_append, weighs_sum fun x hx => h x (List.mem_cons_of_mem _ hx), h a (List.mem_cons_self ..)]
    rfl
theorem sumOn_perm (F : Nat → Nat) {a b : List Nat} (h : a.Perm b) : sumOn F a = sumOn F b := by
  induction h with
  | nil => rfl
  | cons x _ ih => rw [sumOn_cons, sumOn_cons, ih]
  | swap x y l => rw [sumOn_cons, sumOn_cons, sumOn_cons, sumOn_cons]; omega
  | trans _ _ ih1 ih2 => exact ih1.trans ih2
theorem sumOn_flats {F : Nat → Nat} {c : List Thing} (h : Weighs F c) : ∀ ms : List Nat, sumOn F (ms.flatMap (fun k => flat (c.take k))) = (ms.map (fun m => wsum (c.take m))).sum
  | [] => rfl
  | m :: ms => by
    rw [List.flatMap_cons, sumOn_append, sumOn_flats h ms, List.map_cons, List.sum_cons, weighs_sum (weighs_take h m)]
/-- WHAT THE FIRST THINGS WEIGH is what the lengths cost. -/
theorem takes_cost {F : Nat → Nat} {c : List Thing} (h : Weighs F c) {n K m : Nat} {ms : List Nat} (T : Takes c n K m ms) : wsum ((rowsM c n).take K) = costOn (fun l => l) c (lensM c.length (m :: ms)) := by
  rw [weighs_sum (weighs_take (weighs_rows h n) K), sumOn_perm F T.perm, sumOn_flats h, cost_lens]

/-- THE LENGTHS OF PACKAGE-MERGE: u coins (2 or more), at most L bits: row L - 1's first 2u - 2 things. -/
theorem merge_lens {F : Nat → Nat} {c : List Thing} (hc : Rises c) (hw : Weighs F c) {L : Nat} (h2 : 2 ≤ c.length) (hL : 1 ≤ L) (hu : c.length ≤ 2 ^ L) :
    ∃ ms : List Nat, ms.length = L ∧ (∀ m ∈ ms, m ≤ c.length) ∧ (∀ i, i < c.length → 1 ≤ lenM ms i) ∧ kraft (lensM c.length ms) L = 2 ^ L ∧
      (flat ((rowsM c (L - 1)).take (2 * c.length - 2))).Perm (ms.flatMap (fun k => flat (c.take k))) ∧
      wsum ((rowsM c (L - 1)).take (2 * c.length - 2)) = costOn (fun l => l) c (lensM c.length ms) := by
  have hb := rowsM_big c (L - 1) 1 (by rw [show L - 1 + 1 = L by omega]; exact hu)
  obtain ⟨m, ms, T⟩ := takes hc (L - 1) (2 * c.length - 2) (by omega)
  have hm := T.top h2 rfl
  have hle : ∀ x ∈ m :: ms, x ≤ c.length := fun x hx => by
    rcases List.mem_cons.1 hx with rfl | hx
    · exact T.le
    · exact Nat.le_trans ((List.pairwise_cons.1 T.falls).1 x hx) T.le
  have hlen : (m :: ms).length = L := by rw [List.length_cons, T.len]; omega
  refine ⟨m :: ms, hlen, hle, fun i hi => ?_, ?_, T.perm, takes_cost hw T⟩
  · rw [lenM_cons, if_pos (by omega)]; omega
  · have hk := kraft_lens c.length (m :: ms) T.falls hle
    rw [T.val, hlen] at hk
    have hp : 2 ^ L = 2 * 2 ^ (L - 1) := by
      conv => lhs; rw [show L = L - 1 + 1 by omega]
      rw [Nat.pow_succ, Nat.mul_comm]
    have h3 : (2 * c.length - 2) * 2 ^ (L - 1) + 2 ^ L = c.length * 2 ^ L := by
      rw [hp, ← Nat.add_mul, Nat.sub_add_cancel (by omega), ← Nat.mul_assoc, Nat.mul_comm c.length 2]
    omega
end Go.Proofs.Ythecibabpcfoaaa
