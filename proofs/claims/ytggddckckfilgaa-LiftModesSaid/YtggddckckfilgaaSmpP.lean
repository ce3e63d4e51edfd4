/- Samples, plain: rows of ints, ranges, widths, wasted digits. -/
import Derived.Test.YtggddckckfilgaaOct
import Derived.Test.YtggddckckfilgaaInt
namespace Go.Proofs.Ytggddckckfilgaa
open Go.RowKit
set_option maxRecDepth 100000

/- Ranges. -/
def lowI (b : Int) : Int := if 1 ≤ b ∧ b ≤ 31 then -((2 ^ (b - 1).toNat : Nat) : Int) else 0
def highI (b : Int) : Int := if 1 ≤ b ∧ b ≤ 31 then ((2 ^ (b - 1).toNat : Nat) : Int) - 1 else 0
def fitsB (x b : Int) : Bool := decide (1 ≤ b) && decide (b ≤ 31) && decide (lowI b ≤ x) && decide (x ≤ highI b)
theorem fits_iff {x b : Int} : fitsB x b = true ↔ 1 ≤ b ∧ b ≤ 31 ∧ -((2 ^ (b - 1).toNat : Nat) : Int) ≤ x ∧ x < ((2 ^ (b - 1).toNat : Nat) : Int) := by
  unfold fitsB lowI highI
  generalize ((2 ^ (b - 1).toNat : Nat) : Int) = p
  simp only [Bool.and_eq_true, decide_eq_true_eq]
  constructor
  · rintro ⟨⟨⟨h1, h2⟩, h3⟩, h4⟩
    rw [if_pos ⟨h1, h2⟩] at h3 h4
    exact ⟨h1, h2, h3, by omega⟩
  · rintro ⟨h1, h2, h3, h4⟩
    rw [if_pos ⟨h1, h2⟩, if_pos ⟨h1, h2⟩]
    exact ⟨⟨⟨h1, h2⟩, h3⟩, by omega⟩
theorem fits_nat {x : Int} {k : Nat} : fitsB x k = true ↔ 1 ≤ k ∧ k ≤ 31 ∧ -((2 ^ (k - 1) : Nat) : Int) ≤ x ∧ x < ((2 ^ (k - 1) : Nat) : Int) := by
  rw [fits_iff, show ((k : Int) - 1).toNat = k - 1 by omega]
  constructor
  · rintro ⟨h1, h2, h3⟩; exact ⟨by omega, by omega, h3⟩
  · rintro ⟨h1, h2, h3⟩; exact ⟨by omega, by omega, h3⟩
theorem fits_mono {x : Int} {k m : Nat} (h : fitsB x k = true) (hkm : k ≤ m) (hm : m ≤ 31) : fitsB x m = true := by
  rw [fits_nat] at h ⊢
  have hp : 2 ^ (k - 1) ≤ 2 ^ (m - 1) := Nat.pow_le_pow_right (by omega) (by omega)
  omega
/-- w digits are enough for x (32: for any). -/
def okW (x : Int) (w : Nat) : Prop := x = 0 ∨ 32 ≤ w ∨ fitsB x w = true
theorem okW_mono {x : Int} {k m : Nat} (h : okW x k) (hkm : k ≤ m) : okW x m := by
  rcases h with h | h | h
  · exact .inl h
  · exact .inr (.inl (by omega))
  · by_cases hm : m ≤ 31
    · exact .inr (.inr (fits_mono h hkm hm))
    · exact .inr (.inl (by omega))
/-- w is the width of l. -/
def IsW (l : List Int) (w : Nat) : Prop := w ≤ 32 ∧ (∀ x ∈ l, okW x w) ∧ (w = 0 ∨ ∃ x ∈ l, ¬ okW x (w - 1))
theorem IsW.uniq {l : List Int} {w v : Nat} (h : IsW l w) (k : IsW l v) : w = v := by
  obtain ⟨_, h2, h3⟩ := h
  obtain ⟨_, k2, k3⟩ := k
  rcases Nat.lt_trichotomy w v with hl | hl | hl
  · exfalso
    rcases k3 with k3 | ⟨x, hx, hn⟩
    · omega
    · exact hn (okW_mono (h2 x hx) (by omega))
  · exact hl
  · exfalso
    rcases h3 with h3 | ⟨x, hx, hn⟩
    · omega
    · exact hn (okW_mono (k2 x hx) (by omega))
theorem IsW.nil : IsW [] 0 := ⟨by omega, by simp, .inl rfl⟩
/-- In the midst of the look at x: w digits are enough for l, and w - 1 are not for l and x. -/
def MidW (l : List Int) (x : Int) (w : Nat) : Prop := w ≤ 32 ∧ (∀ y ∈ l, okW y w) ∧ (w = 0 ∨ ∃ y ∈ l ++ [x], ¬ okW y (w - 1))
theorem IsW.mid {l : List Int} {w : Nat} (h : IsW l w) (x : Int) : MidW l x w := by
  refine ⟨h.1, h.2.1, ?_⟩
  rcases h.2.2 with h | ⟨y, hy, hn⟩
  · exact .inl h
  · exact .inr ⟨y, by simp [hy], hn⟩
theorem MidW.more {l : List Int} {x : Int} {w : Nat} (h : MidW l x w) (hn : ¬ okW x w) : MidW l x (w + 1) := by
  have hw : w ≤ 31 := by
    rcases Nat.lt_or_ge 31 w with h1 | h1
    · exact absurd (.inr (.inl h1)) hn
    · exact h1
  exact ⟨by omega, fun y hy => okW_mono (h.2.1 y hy) (by omega), .inr ⟨x, by simp, by simpa using hn⟩⟩
theorem MidW.done {l : List Int} {x : Int} {w : Nat} (h : MidW l x w) (hx : okW x w) : IsW (l ++ [x]) w := by
  refine ⟨h.1, fun y hy => ?_, h.2.2⟩
  rcases List.mem_append.1 hy with hy | hy
  · exact h.2.1 y hy
  · simp at hy; subst hy; exact hx
theorem IsW.app {a b : List Int} {x y : Nat} (h : IsW a x) (k : IsW b y) : IsW (a ++ b) (max x y) := by
  refine ⟨Nat.max_le.2 ⟨h.1, k.1⟩, fun z hz => ?_, ?_⟩
  · rcases List.mem_append.1 hz with hz | hz
    · exact okW_mono (h.2.1 z hz) (Nat.le_max_left _ _)
    · exact okW_mono (k.2.1 z hz) (Nat.le_max_right _ _)
  · rcases Nat.le_total y x with hl | hl
    · rw [Nat.max_eq_left hl]
      rcases h.2.2 with h | ⟨z, hz, hn⟩
      · exact .inl h
      · exact .inr ⟨z, by simp [hz], hn⟩
    · rw [Nat.max_eq_right hl]
      rcases k.2.2 with h | ⟨z, hz, hn⟩
      · exact .inl h
      · exact .inr ⟨z, by simp [hz], hn⟩
theorem IsW.fit {l : List Int} {w : Nat} (h : IsW l w) (hw : w < 32) {x : Int} (hx : x ∈ l) : fitsB x w = true ∨ (w = 0 ∧ x = 0) := by
  rcases h.2.1 x hx with h1 | h1 | h1
  · subst h1
    by_cases h0 : w = 0
    · exact .inr ⟨h0, rfl⟩
    · left; rw [fits_nat]
      have := Nat.two_pow_pos (w - 1)
      omega
  · omega
  · exact .inl h1

/- Wide numbers. -/
theorem wide_fits {x : Int} : wideB x = true ↔ fitsB x 31 = true := by
  rw [wide_iff, fits_iff, show (2 ^ ((31 : Int) - 1).toNat : Nat) = 1073741824 from rfl]; omega

/- Multiples of a power of two. -/
theorem mod_of_div {x : Int} {n k : Nat} (hnk : k ≤ n) (h : x % ((2 ^ n : Nat) : Int) = 0) : x % ((2 ^ k : Nat) : Int) = 0 := by
  obtain ⟨y, rfl⟩ := Int.dvd_of_emod_eq_zero h
  apply Int.emod_eq_zero_of_dvd
  have e : 2 ^ n = 2 ^ k * 2 ^ (n - k) := by rw [← Nat.pow_add]; congr 1; omega
  rw [e, Int.natCast_mul, Int.mul_assoc]
  exact Int.dvd_mul_right _ _
theorem fits_shift {x : Int} {n k : Nat} (hx : x % ((2 ^ n : Nat) : Int) = 0) (hk : 1 ≤ k) (hkn : k + n ≤ 31) : fitsB (x / ((2 ^ n : Nat) : Int)) k = true ↔ fitsB x ((k + n : Nat) : Int) = true := by
  obtain ⟨y, rfl⟩ := Int.dvd_of_emod_eq_zero hx
  have hp : 0 < 2 ^ n := Nat.two_pow_pos n
  have hp' : (0 : Int) < ((2 ^ n : Nat) : Int) := by omega
  rw [Int.mul_ediv_cancel_left _ (by omega), fits_nat, fits_nat]
  have e : 2 ^ (k + n - 1) = 2 ^ n * 2 ^ (k - 1) := by rw [← Nat.pow_add]; congr 1; omega
  rw [e, Int.natCast_mul]
  generalize ((2 ^ n : Nat) : Int) = p at hp'
  generalize ((2 ^ (k - 1) : Nat) : Int) = q
  have h1 : -(p * q) ≤ p * y ↔ -q ≤ y := by
    rw [← Int.mul_neg]
    exact ⟨fun h => Int.le_of_mul_le_mul_left h hp', fun h => Int.mul_le_mul_of_nonneg_left h (by omega)⟩
  have h2 : p * y < p * q ↔ y < q := ⟨fun h => Int.lt_of_mul_lt_mul_left h (by omega), fun h => Int.mul_lt_mul_of_pos_left h hp'⟩
  rw [h1, h2]
  omega

/- Wasted digits. -/
def orI (a b : Int) : Int := bits .or .i64 a b
theorem or_rng (a b : Int) : -9223372036854775808 ≤ orI a b ∧ orI a b ≤ 9223372036854775807 := by
  unfold orI
  show -9223372036854775808 ≤ IntKind.i64.wrap _ ∧ IntKind.i64.wrap _ ≤ 9223372036854775807
  rw [IntKind.wrap_i64]; omega
theorem wrap_mod (z : Int) (k : Nat) (hk : k ≤ 64) : IntKind.i64.wrap z % ((2 ^ k : Nat) : Int) = z % ((2 ^ k : Nat) : Int) := by
  have h : ∃ q : Int, IntKind.i64.wrap z = z + 18446744073709551616 * q := by
    rw [IntKind.wrap_i64]
    exact ⟨-((z + 9223372036854775808) / 18446744073709551616), by omega⟩
  obtain ⟨q, hq⟩ := h
  have e : (18446744073709551616 : Int) = ((2 ^ k : Nat) : Int) * ((2 ^ (64 - k) : Nat) : Int) := by
    rw [← Int.natCast_mul, ← Nat.pow_add, show k + (64 - k) = 64 by omega]; rfl
  rw [hq, e, Int.mul_assoc, Int.add_mul_emod_self_left]
theorem or_mod {a b : Int} {k : Nat} (hk : k ≤ 64) : orI a b % ((2 ^ k : Nat) : Int) = 0 ↔ a % ((2 ^ k : Nat) : Int) = 0 ∧ b % ((2 ^ k : Nat) : Int) = 0 := by
  have hto : ∀ c : Int, (((BitVec.ofInt 64 c).toNat % 2 ^ k : Nat) : Int) = c % ((2 ^ k : Nat) : Int) := by
    intro c
    rw [BitVec.toNat_ofInt, Int.natCast_emod, Int.toNat_of_nonneg (Int.emod_nonneg _ (by decide))]
    exact Int.emod_emod_of_dvd c ⟨((2 ^ (64 - k) : Nat) : Int), by rw [← Int.natCast_mul, ← Nat.pow_add]; congr 2; omega⟩
  have e : orI a b % ((2 ^ k : Nat) : Int) = (((BitVec.ofInt 64 a).toNat % 2 ^ k ||| (BitVec.ofInt 64 b).toNat % 2 ^ k : Nat) : Int) := by
    show IntKind.i64.wrap ((BitVec.ofInt 64 a ||| BitVec.ofInt 64 b).toNat : Int) % _ = _
    rw [wrap_mod _ _ hk, BitVec.toNat_or, ← Int.natCast_emod, Nat.or_mod_two_pow]
  rw [e, ← hto a, ← hto b]
  constructor
  · intro h
    have h' := Int.ofNat_eq_zero.1 h
    have := Nat.or_eq_zero_iff.1 h'
    exact ⟨by rw [this.1]; rfl, by rw [this.2]; rfl⟩
  · rintro ⟨h1, h2⟩
    rw [Int.ofNat_eq_zero.1 h1, Int.ofNat_eq_zero.1 h2]; rfl
theorem i64_zero {x : Int} (h1 : -9223372036854775808 ≤ x) (h2 : x ≤ 9223372036854775807) : x % ((2 ^ 64 : Nat) : Int) = 0 ↔ x = 0 := by
  rw [show ((2 ^ 64 : Nat) : Int) = 18446744073709551616 from rfl]; omega
def orAll (l : List Int) : Int := l.foldl orI 0
theorem orAll_snoc (l : List Int) (x : Int) : orAll (l ++ [x]) = orI (orAll l) x := by simp [orAll]
theorem orAll_rng (l : List Int) : -9223372036854775808 ≤ orAll l ∧ orAll l ≤ 9223372036854775807 := by
  rcases List.eq_nil_or_concat l with rfl | ⟨m, x, rfl⟩
  · simp [orAll]
  · rw [List.concat_eq_append, orAll_snoc]; exact or_rng _ _
theorem orAll_mod {k : Nat} (hk : k ≤ 64) (l : List Int) : orAll l % ((2 ^ k : Nat) : Int) = 0 ↔ ∀ x ∈ l, x % ((2 ^ k : Nat) : Int) = 0 := by
  have : ∀ (l : List Int) (a : Int), l.foldl orI a % ((2 ^ k : Nat) : Int) = 0 ↔ a % ((2 ^ k : Nat) : Int) = 0 ∧ ∀ x ∈ l, x % ((2 ^ k : Nat) : Int) = 0 := by
    intro l
    induction l with
    | nil => intro a; simp
    | cons y l ih => intro a; rw [List.foldl_cons, ih, or_mod hk, List.forall_mem_cons, and_assoc]
  rw [orAll, this]; simp
theorem orAll_zero {l : List Int} (hl : i64s l) : orAll l = 0 ↔ ∀ x ∈ l, x = 0 := by
  have hr := orAll_rng l
  rw [← i64_zero hr.1 hr.2, orAll_mod (by omega)]
  exact ⟨fun h x hx => (i64_zero (hl x hx).1 (hl x hx).2).1 (h x hx), fun h x hx => (i64_zero (hl x hx).1 (hl x hx).2).2 (h x hx)⟩
/-- n lowest digits of A are 0, not one more, but at most 30; 0 of a zero. -/
def IsZ (A : Int) (n : Nat) : Prop := n ≤ 30 ∧ (A = 0 → n = 0) ∧ (A ≠ 0 → A % ((2 ^ n : Nat) : Int) = 0 ∧ (n < 30 → A % ((2 ^ (n + 1) : Nat) : Int) ≠ 0))
theorem IsZ.uniq {A : Int} {n m : Nat} (h : IsZ A n) (k : IsZ A m) : n = m := by
  by_cases h0 : A = 0
  · rw [h.2.1 h0, k.2.1 h0]
  · obtain ⟨h1, h2⟩ := h.2.2 h0
    obtain ⟨k1, k2⟩ := k.2.2 h0
    rcases Nat.lt_trichotomy n m with hl | hl | hl
    · exact absurd (mod_of_div (by omega) k1) (h2 (by have := k.1; omega))
    · exact hl
    · exact absurd (mod_of_div (by omega) h1) (k2 (by have := h.1; omega))
theorem half_mod {A : Int} {n : Nat} (h : A % ((2 ^ n : Nat) : Int) = 0) : A % ((2 ^ (n + 1) : Nat) : Int) = 0 ↔ A / ((2 ^ n : Nat) : Int) % 2 = 0 := by
  obtain ⟨y, rfl⟩ := Int.dvd_of_emod_eq_zero h
  have hp : 0 < 2 ^ n := Nat.two_pow_pos n
  rw [Int.mul_ediv_cancel_left _ (by omega), Nat.pow_succ, Int.natCast_mul, Int.mul_emod_mul_of_pos _ _ (by omega)]
  constructor
  · intro h
    rcases Int.mul_eq_zero.1 h with h | h
    · omega
    · exact h
  · intro h
    rw [show y % ((2 : Nat) : Int) = y % 2 from rfl, h, Int.mul_zero]
/-- What is wasted and what divides. -/
theorem IsZ.lt {l : List Int} {n m : Nat} (hl : i64s l) (h : IsZ (orAll l) n) (hm : m ≤ 30) : (n < m ∧ ¬ ∀ x ∈ l, x = 0) ↔ ¬ ∀ x ∈ l, x % ((2 ^ m : Nat) : Int) = 0 := by
  rw [← orAll_zero hl, ← orAll_mod (by omega)]
  constructor
  · rintro ⟨h1, h2⟩ h3
    exact (h.2.2 h2).2 (by omega) (mod_of_div (by omega) h3)
  · intro h1
    have h0 : orAll l ≠ 0 := fun h => h1 (by rw [h]; simp)
    refine ⟨?_, h0⟩
    rcases Nat.lt_or_ge n m with h2 | h2
    · exact h2
    · exact absurd (mod_of_div h2 (h.2.2 h0).1) h1
theorem IsZ.all {l : List Int} {n : Nat} (hl : i64s l) (h : IsZ (orAll l) n) : ∀ x ∈ l, x % ((2 ^ n : Nat) : Int) = 0 := by
  by_cases h0 : orAll l = 0
  · intro x hx
    rw [(orAll_zero hl).1 h0 x hx]; simp
  · exact (orAll_mod (by have := h.1; omega) l).1 (h.2.2 h0).1
end Go.Proofs.Ytggddckckfilgaa
