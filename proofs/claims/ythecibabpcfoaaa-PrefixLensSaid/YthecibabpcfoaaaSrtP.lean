/- A stable sort by exchanges, plain: rows as functions of their places; each element has a key and the place it had at first. -/
import Derived.Test.YthecibabpcfoaaaKit
namespace Go.Proofs.Ythecibabpcfoaaa

section
variable {α : Type}

/-- Places i and j exchanged. -/
def xch (f : Nat → α) (i j : Nat) : Nat → α := fun k => if k = i then f j else if k = j then f i else f k
/-- f' comes of f by exchanges of places of [a, b). -/
inductive Sws (a b : Nat) (f : Nat → α) : (Nat → α) → Prop
  | refl : Sws a b f f
  | step {g : Nat → α} (h : Sws a b f g) (i j : Nat) (hi : a ≤ i ∧ i < b) (hj : a ≤ j ∧ j < b) : Sws a b f (xch g i j)
theorem Sws.trans {a b : Nat} {f g h : Nat → α} (x : Sws a b f g) (y : Sws a b g h) : Sws a b f h := by
  induction y with
  | refl => exact x
  | step _ i j hi hj ih => exact ih.step i j hi hj
theorem Sws.mono {a b a' b' : Nat} {f g : Nat → α} (x : Sws a b f g) (ha : a' ≤ a) (hb : b ≤ b') : Sws a' b' f g := by
  induction x with
  | refl => exact .refl
  | step _ i j hi hj ih => exact ih.step i j ⟨by omega, by omega⟩ ⟨by omega, by omega⟩
theorem Sws.out {a b : Nat} {f g : Nat → α} (x : Sws a b f g) : ∀ k, k < a ∨ b ≤ k → g k = f k := by
  induction x with
  | refl => exact fun _ _ => rfl
  | step _ i j hi hj ih =>
    intro k hk
    unfold xch
    rw [if_neg (by omega), if_neg (by omega)]
    exact ih k hk
theorem Sws.mem {a b : Nat} {f g : Nat → α} (x : Sws a b f g) : ∀ k, a ≤ k → k < b → ∃ k', a ≤ k' ∧ k' < b ∧ g k = f k' := by
  induction x with
  | refl => exact fun k h1 h2 => ⟨k, h1, h2, rfl⟩
  | step _ i j hi hj ih =>
    intro k h1 h2
    unfold xch
    split
    · exact ih j hj.1 hj.2
    · split
      · exact ih i hi.1 hi.2
      · exact ih k h1 h2

/-- n places from a on exchanged with n places from b on. -/
def swr (f : Nat → α) (a b n : Nat) : Nat → α := fun k => if a ≤ k ∧ k < a + n then f (k - a + b) else if b ≤ k ∧ k < b + n then f (k - b + a) else f k
theorem swr_zero (f : Nat → α) (a b : Nat) : swr f a b 0 = f := by
  funext k; unfold swr; rw [if_neg (by omega), if_neg (by omega)]
theorem swr_step (f : Nat → α) (a b n : Nat) (h : a + (n + 1) ≤ b) : xch (swr f a b n) (a + n) (b + n) = swr f a b (n + 1) := by
  funext k
  simp only [xch, swr]
  (repeat' split) <;> first | (exfalso; omega) | (congr 1; omega) | rfl
/-- [m, hi) comes ahead of [lo, m). -/
def rot (f : Nat → α) (lo m hi : Nat) : Nat → α := fun k => if lo ≤ k ∧ k < lo + (hi - m) then f (k + (m - lo)) else if lo + (hi - m) ≤ k ∧ k < hi then f (k - (hi - m)) else f k
theorem rot_same (f : Nat → α) (m hi : Nat) : rot f m m hi = f := by
  funext k
  unfold rot
  (repeat' split) <;> first | (exfalso; omega) | (congr 1; omega) | rfl
theorem rot_none (f : Nat → α) (lo m : Nat) : rot f lo m m = f := by
  funext k
  unfold rot
  (repeat' split) <;> first | (exfalso; omega) | (congr 1; omega) | rfl
theorem rot_more (g : Nat → α) (i j m : Nat) (hi : i ≤ m) (h : j < i) : rot (swr g (m - i) m j) (m - (i - j)) m (m + j) = rot g (m - i) m (m + j) := by
  funext k
  simp only [rot, swr]
  (repeat' split) <;> first | (exfalso; omega) | (congr 1; omega) | rfl
theorem rot_less (g : Nat → α) (i j m : Nat) (hi : i ≤ m) (h : i < j) : rot (swr g (m - i) (m + j - i) i) (m - i) m (m + (j - i)) = rot g (m - i) m (m + j) := by
  funext k
  simp only [rot, swr]
  (repeat' split) <;> first | (exfalso; omega) | (congr 1; omega) | rfl
theorem rot_even (g : Nat → α) (i m : Nat) (hi : i ≤ m) : swr g (m - i) m i = rot g (m - i) m (m + i) := by
  funext k
  simp only [rot, swr]
  (repeat' split) <;> first | (exfalso; omega) | (congr 1; omega) | rfl
/-- The first one goes one place on. -/
theorem rot_up (f : Nat → α) (a k : Nat) (h : a ≤ k) : xch (rot f a (a + 1) (k + 1)) k (k + 1) = rot f a (a + 1) (k + 1 + 1) := by
  funext x
  simp only [rot, xch]
  (repeat' split) <;> first | (exfalso; omega) | (congr 1; omega) | rfl
/-- The last one goes one place back. -/
theorem rot_down (f : Nat → α) (k m : Nat) (h0 : 0 < k) (h : k ≤ m) : xch (rot f k m (m + 1)) k (k - 1) = rot f (k - 1) m (m + 1) := by
  funext x
  simp only [rot, xch]
  (repeat' split) <;> first | (exfalso; omega) | (congr 1; omega) | rfl

/-- The order of the keys, and of the first places among equal keys. -/
def Tk (key : α → Int) (ord : α → Nat) (x y : α) : Prop := key x < key y ∨ key x = key y ∧ ord x < ord y
variable {key : α → Int} {ord : α → Nat}
theorem Tk.trans {x y z : α} (h : Tk key ord x y) (k : Tk key ord y z) : Tk key ord x z := by unfold Tk at *; omega
/-- A later one against an earlier one. -/
theorem Tk.lt {x y : α} (h : ord y < ord x) (k : key x < key y) : Tk key ord x y := .inl k
theorem Tk.ge {x y : α} (h : ord y < ord x) (k : ¬ key x < key y) : Tk key ord y x := by unfold Tk; omega
variable (key) (ord) in
def Sor (f : Nat → α) (a b : Nat) : Prop := ∀ i j, a ≤ i → i < j → j < b → Tk key ord (f i) (f j)
variable (ord) in
def Early (f : Nat → α) (a m b : Nat) : Prop := ∀ i j, a ≤ i → i < m → m ≤ j → j < b → ord (f i) < ord (f j)

theorem Sor.sub {f : Nat → α} {a b a' b' : Nat} (h : Sor key ord f a b) (ha : a ≤ a') (hb : b' ≤ b) : Sor key ord f a' b' := fun i j h1 h2 h3 => h i j (by omega) h2 (by omega)
theorem Sor.one {f : Nat → α} {a b : Nat} (h : b ≤ a + 1) : Sor key ord f a b := fun i j h1 h2 h3 => by omega
theorem Sor.of_eq {f g : Nat → α} {a b : Nat} (h : Sor key ord f a b) (e : ∀ k, a ≤ k → k < b → g k = f k) : Sor key ord g a b := fun i j h1 h2 h3 => by
  rw [e i h1 (by omega), e j (by omega) h3]; exact h i j h1 h2 h3
theorem Early.sub {f : Nat → α} {a m b a' b' : Nat} (h : Early ord f a m b) (ha : a ≤ a') (hb : b' ≤ b) : Early ord f a' m b' := fun i j h1 h2 h3 h4 => h i j (by omega) h2 h3 (by omega)
/-- Both sides turned among themselves. -/
theorem Early.turn {f g : Nat → α} {a m b x y : Nat} (h : Early ord f a m b) (s : Sws x y f g) (hx : y ≤ m ∨ m ≤ x) (ha : a ≤ x) (hy : y ≤ b) : Early ord g a m b := by
  have hm : ∀ k, a ≤ k → k < m → ∃ k', a ≤ k' ∧ k' < m ∧ g k = f k' := fun k h1 h2 => by
    by_cases hk : x ≤ k ∧ k < y
    · obtain ⟨k', e1, e2, e3⟩ := s.mem k hk.1 hk.2
      exact ⟨k', by omega, by omega, e3⟩
    · exact ⟨k, h1, h2, s.out k (by omega)⟩
  have hn : ∀ k, m ≤ k → k < b → ∃ k', m ≤ k' ∧ k' < b ∧ g k = f k' := fun k h1 h2 => by
    by_cases hk : x ≤ k ∧ k < y
    · obtain ⟨k', e1, e2, e3⟩ := s.mem k hk.1 hk.2
      exact ⟨k', by omega, by omega, e3⟩
    · exact ⟨k, h1, h2, s.out k (by omega)⟩
  intro i j h1 h2 h3 h4
  obtain ⟨i', e1, e2, e3⟩ := hm i h1 h2
  obtain ⟨j', e4, e5, e6⟩ := hn j h3 h4
  rw [e3, e6]
  exact h i' j' e1 e2 e4 e5
/-- Two sorted parts, all of the first ahead of all of the second; each turned among itself. -/
theorem Sor.glue {f g : Nat → α} {a m b : Nat} (h1 : Sor key ord g a m) (h2 : Sor key ord g m b) (hx : ∀ i j, a ≤ i → i < m → m ≤ j → j < b → Tk key ord (f i) (f j))
    (hl : ∀ k, a ≤ k → k < m → ∃ k', a ≤ k' ∧ k' < m ∧ g k = f k') (hr : ∀ k, m ≤ k → k < b → ∃ k', m ≤ k' ∧ k' < b ∧ g k = f k') : Sor key ord g a b := by
  intro i j ha hij hb
  by_cases hj : j < m
  · exact h1 i j ha hij hj
  by_cases hi : i < m
  · obtain ⟨i', e1, e2, e3⟩ := hl i ha hi
    obtain ⟨j', e4, e5, e6⟩ := hr j (by omega) hb
    rw [e3, e6]
    exact hx i' j' e1 e2 e4 e5
  · exact h2 i j (by omega) hij hb

/-- The place of an insertion from the left. -/
theorem ins_first {f : Nat → α} {a b i : Nat} (hs : Sor key ord f (a + 1) b) (hi : a + 1 ≤ i) (hib : i ≤ b) (hl : ∀ h, a + 1 ≤ h → h < i → Tk key ord (f h) (f a)) (hr : ∀ h, i ≤ h → h < b → Tk key ord (f a) (f h)) :
    Sor key ord (rot f a (a + 1) i) a b := by
  intro x y hx hxy hy
  unfold rot
  (repeat' split) <;> first
    | (exfalso; omega)
    | exact hs _ _ (by omega) (by omega) (by omega)
    | (rename_i h1 h2; rw [show y - (i - (a + 1)) = a by omega]; exact hl _ (by omega) (by omega))
    | (rename_i h1 h2 h3; rw [show x - (i - (a + 1)) = a by omega]; exact hr _ (by omega) (by omega))
    | (rename_i h1 h2 h3 h4; rw [show x - (i - (a + 1)) = a by omega]; exact hr _ (by omega) (by omega))
/-- The place of an insertion from the right. -/
theorem ins_last {f : Nat → α} {a m i : Nat} (hs : Sor key ord f a m) (hi : a ≤ i) (him : i ≤ m) (hl : ∀ h, a ≤ h → h < i → Tk key ord (f h) (f m)) (hr : ∀ h, i ≤ h → h < m → Tk key ord (f m) (f h)) :
    Sor key ord (rot f i m (m + 1)) a (m + 1) := by
  intro x y hx hxy hy
  unfold rot
  (repeat' split) <;> first
    | (exfalso; omega)
    | exact hs _ _ (by omega) (by omega) (by omega)
    | (rw [show x + (m - i) = m by omega]; exact hr _ (by omega) (by omega))
    | (rw [show y + (m - i) = m by omega]; exact hl _ (by omega) (by omega))
end
end Go.Proofs.Ythecibabpcfoaaa
