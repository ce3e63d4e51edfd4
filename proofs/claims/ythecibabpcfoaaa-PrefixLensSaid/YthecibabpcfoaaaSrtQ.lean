/- A stable sort by exchanges, plain: merging in place, blocks. -/
import Derived.Test.YthecibabpcfoaaaSrtP
namespace Go.Proofs.Ythecibabpcfoaaa

section
variable {α : Type} {key : α → Int} {ord : α → Nat}

theorem Tk.le_trans {f : Nat → α} {a b x y : Nat} {z : α} (hs : Sor key ord f a b) (hx : a ≤ x) (hxy : x ≤ y) (hy : y < b) (h : Tk key ord (f y) z) : Tk key ord (f x) z := by
  rcases Nat.lt_or_eq_of_le hxy with h1 | rfl
  · exact (hs x y hx h1 hy).trans h
  · exact h
theorem Tk.trans_le {f : Nat → α} {a b x y : Nat} {z : α} (hs : Sor key ord f a b) (hx : a ≤ x) (hxy : x ≤ y) (hy : y < b) (h : Tk key ord z (f x)) : Tk key ord z (f y) := by
  rcases Nat.lt_or_eq_of_le hxy with h1 | rfl
  · exact h.trans (hs x y hx h1 hy)
  · exact h
/-- What 'start' is when the search has ended. -/
structure Split (key : α → Int) (ord : α → Nat) (f : Nat → α) (lo r0 n s t : Nat) : Prop where
  hlo : lo ≤ s
  hst : s ≤ t
  hhi : t ≤ r0
  left : ∀ c, lo ≤ c → c < s → Tk key ord (f c) (f (n - 1 - c))
  right : ∀ c, t ≤ c → c < r0 → Tk key ord (f (n - 1 - c)) (f c)
theorem Split.start {f : Nat → α} {lo r0 n : Nat} (h : lo ≤ r0) : Split key ord f lo r0 n lo r0 := ⟨Nat.le_refl _, h, Nat.le_refl _, fun c h1 h2 => by omega, fun c h1 h2 => by omega⟩
/-- Where the search may be. -/
structure Span (a m b mid n lo r0 : Nat) : Prop where
  am : a < m
  mb : m < b
  mid1 : 2 * mid ≤ a + b
  mid2 : a + b < 2 * mid + 2
  hn : n = mid + m
  way : mid < m ∧ lo + b = n ∧ r0 = mid ∨ m ≤ mid ∧ lo = a ∧ r0 = m
theorem Span.at {a m b mid n lo r0 : Nat} (h : Span a m b mid n lo r0) {c : Nat} (h1 : lo ≤ c) (h2 : c < r0) : a ≤ c ∧ c < m ∧ m ≤ n - 1 - c ∧ n - 1 - c < b := by
  have := h.am; have := h.mb; have := h.mid1; have := h.mid2; have := h.hn
  rcases h.way with w | w <;> omega
theorem Split.up {f : Nat → α} {a m b mid n lo r0 s t c : Nat} (h : Split key ord f lo r0 n s t) (S : Span a m b mid n lo r0) (h1 : Sor key ord f a m) (h2 : Sor key ord f m b) (hc : s ≤ c) (hct : c < t) (ht : Tk key ord (f c) (f (n - 1 - c))) :
    Split key ord f lo r0 n (c + 1) t := by
  have hcr := Nat.lt_of_lt_of_le hct h.hhi
  have hlo := Nat.le_trans h.hlo hc
  refine ⟨by omega, by omega, h.hhi, fun k k1 k2 => ?_, h.right⟩
  have A := S.at hlo hcr
  have B := S.at k1 (by omega : k < r0)
  exact Tk.le_trans h1 B.1 (by omega : k ≤ c) A.2.1 (Tk.trans_le h2 A.2.2.1 (by omega) B.2.2.2 ht)
theorem Split.down {f : Nat → α} {a m b mid n lo r0 s t c : Nat} (h : Split key ord f lo r0 n s t) (S : Span a m b mid n lo r0) (h1 : Sor key ord f a m) (h2 : Sor key ord f m b) (hc : s ≤ c) (hct : c < t) (ht : Tk key ord (f (n - 1 - c)) (f c)) :
    Split key ord f lo r0 n s c := by
  have hcr := Nat.lt_of_lt_of_le hct h.hhi
  have hlo := Nat.le_trans h.hlo hc
  refine ⟨h.hlo, by omega, by omega, h.left, fun k k1 k2 => ?_⟩
  have A := S.at hlo hcr
  have B := S.at (by omega : lo ≤ k) k2
  exact Tk.le_trans h2 B.2.2.1 (by omega) A.2.2.2 (Tk.trans_le h1 A.1 k1 B.2.1 ht)

/-- Behind the rotation: two halves, each of two sorted parts; all of the first ahead of all of the second. -/
theorem sym_split {f : Nat → α} {a m b mid n lo r0 s : Nat} (S : Span a m b mid n lo r0) (h : Split key ord f lo r0 n s s) (h1 : Sor key ord f a m) (h2 : Sor key ord f m b) (he : Early ord f a m b) :
    a ≤ s ∧ s ≤ mid ∧ s ≤ m ∧ mid < b ∧ a < mid ∧ s ≤ n ∧ mid ≤ n - s ∧ n - s ≤ b ∧ m ≤ n - s ∧
    Sor key ord (rot f s m (n - s)) a s ∧ Sor key ord (rot f s m (n - s)) s mid ∧ Early ord (rot f s m (n - s)) a s mid ∧
    Sor key ord (rot f s m (n - s)) mid (n - s) ∧ Sor key ord (rot f s m (n - s)) (n - s) b ∧ Early ord (rot f s m (n - s)) mid (n - s) b ∧
    ∀ i j, a ≤ i → i < mid → mid ≤ j → j < b → Tk key ord (rot f s m (n - s) i) (rot f s m (n - s) j) := by
  have e1 := S.am; have e2 := S.mb; have e3 := S.mid1; have e4 := S.mid2; have e5 := S.hn
  have e6 := h.hlo; have e7 := h.hhi
  have e8 : a ≤ s ∧ s ≤ mid ∧ s ≤ m ∧ mid < b ∧ a < mid ∧ s ≤ n ∧ mid ≤ n - s ∧ n - s ≤ b ∧ m ≤ n - s := by
    rcases S.way with w | w <;> omega
  obtain ⟨q1, q2, q3, q4, q5, q6, q7, q8, q9⟩ := e8
  have r1 : ∀ k, a ≤ k → k < s → rot f s m (n - s) k = f k := fun k k1 k2 => by simp only [rot]; rw [if_neg (by omega), if_neg (by omega)]
  have r2 : ∀ k, s ≤ k → k < mid → rot f s m (n - s) k = f (k + (m - s)) := fun k k1 k2 => by simp only [rot]; rw [if_pos (by omega)]
  have r3 : ∀ k, mid ≤ k → k < n - s → rot f s m (n - s) k = f (k - (mid - s)) := fun k k1 k2 => by
    simp only [rot]; rw [if_neg (by omega), if_pos (by omega)]; congr 1; omega
  have r4 : ∀ k, n - s ≤ k → rot f s m (n - s) k = f k := fun k k1 => by simp only [rot]; rw [if_neg (by omega), if_neg (by omega)]
  refine ⟨q1, q2, q3, q4, q5, q6, q7, q8, q9, ?_, ?_, ?_, ?_, ?_, ?_, ?_⟩
  · intro i j k1 k2 k3
    rw [r1 i k1 (by omega), r1 j (by omega) k3]; exact h1 _ _ k1 k2 (by omega)
  · intro i j k1 k2 k3
    rw [r2 i k1 (by omega), r2 j (by omega) k3]; exact h2 _ _ (by omega) (by omega) (by omega)
  · intro i j k1 k2 k3 k4
    rw [r1 i k1 k2, r2 j k3 k4]; exact he _ _ k1 (by omega) (by omega) (by omega)
  · intro i j k1 k2 k3
    rw [r3 i k1 (by omega), r3 j (by omega) k3]; exact h1 _ _ (by omega) (by omega) (by omega)
  · intro i j k1 k2 k3
    rw [r4 i k1, r4 j (by omega)]; exact h2 _ _ (by omega) k2 k3
  · intro i j k1 k2 k3 k4
    rw [r3 i k1 k2, r4 j k3]; exact he _ _ (by omega) (by omega) (by omega) k4
  · intro i j k1 k2 k3 k4
    by_cases hi : i < s <;> by_cases hj : j < n - s
    · rw [r1 i k1 hi, r3 j k3 hj]; exact h1 _ _ k1 (by omega) (by omega)
    · rw [r1 i k1 hi, r4 j (by omega)]
      by_cases hs : lo < s
      · have A := S.at (by omega : lo ≤ s - 1) (by omega)
        have := h.left (s - 1) (by omega) (by omega)
        exact Tk.le_trans h1 k1 (by omega : i ≤ s - 1) (by omega) (Tk.trans_le h2 (by omega) (by omega : n - 1 - (s - 1) ≤ j) k4 this)
      · exfalso; rcases S.way with w | w <;> omega
    · rw [r2 i (by omega) k2, r3 j k3 hj]
      by_cases hs : s < r0
      · have A := S.at e6 hs
        have := h.right s (Nat.le_refl _) hs
        exact Tk.le_trans h2 (by omega) (by omega : i + (m - s) ≤ n - 1 - s) (by omega) (Tk.trans_le h1 q1 (by omega : s ≤ j - (mid - s)) (by omega) this)
      · exfalso; rcases S.way with w | w <;> omega
    · rw [r2 i (by omega) k2, r4 j (by omega)]; exact h2 _ _ (by omega) (by omega) k4

/-! Blocks. -/
/-- t blocks are sorted, the rest is as it was. -/
structure Fst (key : α → Int) (ord : α → Nat) (B n t : Nat) (f : Nat → α) : Prop where
  sor : ∀ q, q < t → Sor key ord f (B * q) (B * q + B)
  early : ∀ q, q ≤ t → Early ord f 0 (B * q) n
  rest : ∀ i j, B * t ≤ i → i < j → j < n → ord (f i) < ord (f j)
theorem Fst.start {B n : Nat} {f : Nat → α} (h : ∀ i j, i < j → j < n → ord (f i) < ord (f j)) : Fst key ord B n 0 f :=
  ⟨fun q hq => by omega, fun q hq i j _ h2 => by have : q = 0 := by omega
                                                 subst this; omega, fun i j _ h2 h3 => h i j h2 h3⟩
theorem mul_succ_le {B q t : Nat} (h : q < t) : B * q + B ≤ B * t := by
  have := Nat.mul_le_mul_left B (show q + 1 ≤ t from h)
  rwa [Nat.mul_add, Nat.mul_one] at this
theorem Fst.step {B n t : Nat} {f g : Nat → α} (h : Fst key ord B n t f) (hn : B * t + B ≤ n) (s : Sws (B * t) (B * t + B) f g) (hs : Sor key ord g (B * t) (B * t + B)) : Fst key ord B n (t + 1) g := by
  refine ⟨fun q hq => ?_, fun q hq => ?_, fun i j h1 h2 h3 => ?_⟩
  · rcases Nat.lt_or_eq_of_le (Nat.le_of_lt_succ hq) with h1 | rfl
    · have := mul_succ_le (B := B) h1
      exact (h.sor q h1).of_eq fun k k1 k2 => s.out k (by omega)
    · exact hs
  · rcases Nat.lt_or_eq_of_le hq with h1 | rfl
    · have := Nat.mul_le_mul_left B (Nat.le_of_lt_succ h1)
      exact (h.early q (Nat.le_of_lt_succ h1)).turn s (.inr this) (Nat.zero_le _) hn
    · have e := (h.early t (Nat.le_refl _)).turn s (.inr (Nat.le_refl _)) (Nat.zero_le _) hn
      rw [Nat.mul_add, Nat.mul_one]
      intro i j h1 h2 h3 h4
      by_cases hi : i < B * t
      · exact e i j h1 hi (by omega) h4
      · obtain ⟨i', k1, k2, k3⟩ := s.mem i (by omega) h2
        rw [k3, s.out j (by omega)]
        exact h.rest i' j k1 (by omega) h4
  · rw [Nat.mul_add, Nat.mul_one] at h1
    rw [s.out i (by omega), s.out j (by omega)]
    exact h.rest i j (by omega) h2 h3
/-- All blocks are sorted, each is ahead of the next. -/
structure Blo (key : α → Int) (ord : α → Nat) (B n : Nat) (f : Nat → α) : Prop where
  sor : ∀ q, Sor key ord f (B * q) (min (B * q + B) n)
  early : ∀ q, Early ord f 0 (B * q) n
theorem Fst.all {B n t : Nat} {f g : Nat → α} (h : Fst key ord B n t f) (h0 : B * t ≤ n) (hn : n < B * t + B) (s : Sws (B * t) n f g) (hs : Sor key ord g (B * t) n) : Blo key ord B n g := by
  refine ⟨fun q => ?_, fun q => ?_⟩
  · rcases Nat.lt_trichotomy q t with h1 | rfl | h1
    · have := mul_succ_le (B := B) h1
      rw [Nat.min_eq_left (by omega)]
      exact (h.sor q h1).of_eq fun k k1 k2 => s.out k (by omega)
    · rw [Nat.min_eq_right (by omega)]; exact hs
    · have := mul_succ_le (B := B) h1
      exact Sor.one (by omega)
  · by_cases h1 : q ≤ t
    · exact (h.early q h1).turn s (.inr (Nat.mul_le_mul_left B h1)) (Nat.zero_le _) (Nat.le_refl _)
    · have := mul_succ_le (B := B) (show t < q by omega)
      intro i j _ _ h3 h4; omega
/-- s pairs of blocks are merged. -/
structure Mer (key : α → Int) (ord : α → Nat) (B n s : Nat) (f : Nat → α) : Prop where
  sor2 : ∀ q, q < s → Sor key ord f (2 * B * q) (2 * B * q + 2 * B)
  sor : ∀ q, 2 * s ≤ q → Sor key ord f (B * q) (min (B * q + B) n)
  early2 : ∀ q, Early ord f 0 (2 * B * q) n
  early : ∀ q, 2 * s ≤ q → Early ord f 0 (B * q) n
theorem two_mul_q (B q : Nat) : B * (2 * q) = 2 * B * q := by rw [← Nat.mul_assoc, Nat.mul_comm B 2]
theorem Blo.start {B n : Nat} {f : Nat → α} (h : Blo key ord B n f) : Mer key ord B n 0 f :=
  ⟨fun q hq => by omega, fun q _ => h.sor q, fun q => by rw [← two_mul_q]; exact h.early _, fun q _ => h.early q⟩
/-- What merging asks. -/
theorem Mer.asks {B n s : Nat} {f : Nat → α} (h : Mer key ord B n s f) (e : Nat) (h1 : 2 * B * s + B < e) (he : e ≤ 2 * B * s + 2 * B) (hn : e ≤ n) (hl : e = n ∨ e = 2 * B * s + 2 * B) :
    Sor key ord f (2 * B * s) (2 * B * s + B) ∧ Sor key ord f (2 * B * s + B) e ∧ Early ord f (2 * B * s) (2 * B * s + B) e := by
  have a1 := h.sor (2 * s) (Nat.le_refl _)
  have a2 := h.sor (2 * s + 1) (by omega)
  have a3 := h.early (2 * s + 1) (by omega)
  rw [two_mul_q, Nat.min_eq_left (by omega)] at a1
  rw [Nat.mul_add, Nat.mul_one, two_mul_q] at a2 a3
  refine ⟨a1, a2.sub (Nat.le_refl _) ?_, a3.sub (Nat.zero_le _) hn⟩
  omega
theorem Mer.step {B n s : Nat} {f g : Nat → α} (h : Mer key ord B n s f) (hn : 2 * B * s + 2 * B ≤ n) (w : Sws (2 * B * s) (2 * B * s + 2 * B) f g) (hs : Sor key ord g (2 * B * s) (2 * B * s + 2 * B)) : Mer key ord B n (s + 1) g := by
  refine ⟨fun q hq => ?_, fun q hq => ?_, fun q => ?_, fun q hq => ?_⟩
  · rcases Nat.lt_or_eq_of_le (Nat.le_of_lt_succ hq) with h1 | rfl
    · have := mul_succ_le (B := 2 * B) h1
      exact (h.sor2 q h1).of_eq fun k k1 k2 => w.out k (by omega)
    · exact hs
  · have := Nat.mul_le_mul_left B hq
    rw [two_mul_q, Nat.mul_add, Nat.mul_one] at this
    exact (h.sor q (by omega)).of_eq fun k k1 k2 => w.out k (by omega)
  · refine (h.early2 q).turn w ?_ (Nat.zero_le _) hn
    by_cases h1 : q ≤ s
    · exact .inr (Nat.mul_le_mul_left _ h1)
    · exact .inl (mul_succ_le (by omega))
  · have := Nat.mul_le_mul_left B hq
    rw [two_mul_q, Nat.mul_add, Nat.mul_one] at this
    exact (h.early q (by omega)).turn w (.inl (by omega)) (Nat.zero_le _) hn
theorem Mer.all {B n s : Nat} {f g : Nat → α} (h : Mer key ord B n s f) (h0 : 2 * B * s ≤ n) (hn : n < 2 * B * s + 2 * B) (w : Sws (2 * B * s) n f g) (hs : Sor key ord g (2 * B * s) n) : Blo key ord (2 * B) n g := by
  refine ⟨fun q => ?_, fun q => ?_⟩
  · rcases Nat.lt_trichotomy q s with h1 | rfl | h1
    · have := mul_succ_le (B := 2 * B) h1
      rw [Nat.min_eq_left (by omega)]
      exact (h.sor2 q h1).of_eq fun k k1 k2 => w.out k (by omega)
    · rw [Nat.min_eq_right (by omega)]; exact hs
    · have := mul_succ_le (B := 2 * B) h1
      exact Sor.one (by omega)
  · by_cases h1 : q ≤ s
    · exact (h.early2 q).turn w (.inr (Nat.mul_le_mul_left _ h1)) (Nat.zero_le _) (Nat.le_refl _)
    · have := mul_succ_le (B := 2 * B) (show s < q by omega)
      intro i j _ _ h3 h4; omega
/-- No pair is left over: the last block is sorted as it is. -/
theorem Mer.last {B n s : Nat} {f : Nat → α} (h : Mer key ord B n s f) (hn : n ≤ 2 * B * s + B) : Sor key ord f (2 * B * s) n := by
  have a1 := h.sor (2 * s) (Nat.le_refl _)
  rw [two_mul_q, Nat.min_eq_right (by omega)] at a1
  exact a1
theorem Blo.done {B n : Nat} {f : Nat → α} (h : Blo key ord B n f) (hn : n ≤ B) : Sor key ord f 0 n := by
  have := h.sor 0
  rw [Nat.mul_zero, Nat.zero_add, Nat.min_eq_right hn] at this
  exact this

/-! What comes out. -/
theorem xch_arr [Inhabited α] (f : Nat → α) (n i j : Nat) (hi : i < n) (hj : j < n) : ((List.range n).map (xch f i j)).Perm ((List.range n).map f) := by
  have e : ((List.range n).map (xch f i j)).toArray = (((List.range n).map f).toArray).swap i j (by simpa using hi) (by simpa using hj) := by
    apply Array.ext
    · simp
    · intro k h1 h2
      simp at h1
      simp only [List.getElem_toArray, List.getElem_map, List.getElem_range, Array.getElem_swap, xch]
  have p := Array.swap_perm (xs := ((List.range n).map f).toArray) (i := i) (j := j) (by simpa using hi) (by simpa using hj)
  rw [← e] at p
  simpa using p.toList
theorem Sws.perm [Inhabited α] {n : Nat} {f g : Nat → α} (h : Sws 0 n f g) : ((List.range n).map g).Perm ((List.range n).map f) := by
  induction h with
  | refl => exact List.Perm.refl _
  | step _ i j hi hj ih => exact (xch_arr _ n i j hi.2 hj.2).trans ih
end
/-- The first row, each with its place. -/
def plcd {β : Type} [Inhabited β] (xs : List β) : Nat → β × Nat := fun k => (xs.getD k default, k)
/-- What a stable sort by a key gives. -/
def Stably {β : Type} (key : β → Int) (xs ys : List β) : Prop := ∃ zs : List (β × Nat), zs.Perm xs.zipIdx ∧ zs.Pairwise (fun x y => key x.1 < key y.1 ∨ key x.1 = key y.1 ∧ x.2 < y.2) ∧ ys = zs.map Prod.fst
theorem plcd_zip {β : Type} [Inhabited β] (xs : List β) : (List.range xs.length).map (plcd xs) = xs.zipIdx := by
  apply List.ext_getElem
  · simp
  · intro i h1 h2
    simp at h1
    simp [plcd, h1]
theorem stably_of {β : Type} [Inhabited β] {key : β → Int} {xs : List β} {g : Nat → β × Nat} (hs : Sws 0 xs.length (plcd xs) g) (ho : Sor (fun x => key x.1) (fun x => x.2) g 0 xs.length) : Stably key xs ((List.range xs.length).map fun k => (g k).1) := by
  refine ⟨(List.range xs.length).map g, ?_, ?_, by simp⟩
  · rw [← plcd_zip]; exact hs.perm
  · rw [List.pairwise_iff_getElem]
    intro i j h1 h2 hij
    simp at h1 h2
    simp only [List.getElem_map, List.getElem_range]
    exact ho i j (Nat.zero_le _) hij h2
end Go.Proofs.Ythecibabpcfoaaa
