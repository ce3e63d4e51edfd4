/- octet, plain: a number reads as it was put. -/
import Derived.Test.YtcmlnjohjjibnaaOct
namespace Go.Proofs.Ytcmlnjohjjibnaa
open Go.RowKit
set_option maxRecDepth 100000

theorem pow7 (k a : Nat) : a % 128 * 2 ^ (7 * k) + a / 128 * 2 ^ (7 * (k + 1)) = a * 2 ^ (7 * k) := by
  rw [show 7 * (k + 1) = 7 + 7 * k by omega, Nat.pow_add, ← Nat.mul_assoc, ← Nat.add_mul]
  congr 1
  omega
theorem small9 {n k : Nat} (h : n * 2 ^ (7 * k) < 18446744073709551616) (hk : k = 9) : n ≤ 1 := by
  subst hk
  rcases Nat.lt_or_ge 1 n with h1 | h1
  · exfalso
    have : 2 * 2 ^ (7 * 9) ≤ n * 2 ^ (7 * 9) := Nat.mul_le_mul_right _ h1
    have e : 2 * 2 ^ (7 * 9) = 18446744073709551616 := by decide +kernel
    rw [e] at this
    exact absurd (Nat.lt_of_le_of_lt this h) (Nat.lt_irrefl _)
  · exact h1
theorem acc_step {k a n : Nat} (ha : a < 2 ^ (7 * k)) : a + n % 128 * 2 ^ (7 * k) < 2 ^ (7 * (k + 1)) := by
  rw [show 7 * (k + 1) = 7 + 7 * k by omega, Nat.pow_add]
  have : n % 128 * 2 ^ (7 * k) ≤ 127 * 2 ^ (7 * k) := Nat.mul_le_mul_right _ (by omega)
  omega

theorem vrd_vput (m : List Nat) (n : Nat) : ∀ k acc, n * 2 ^ (7 * k) < 18446744073709551616 → (k = 0 ∨ 0 < n) → vrd k acc (vput n ++ m) = (acc + n * 2 ^ (7 * k), k + (vput n).length, 0) := by
  induction n using Nat.strongRecOn with
  | _ n ih =>
    intro k acc hb hn
    by_cases h : n < 128
    · rw [vput_lt h, List.singleton_append, vrd, if_neg (by have := @small9 n k hb; omega), if_pos h, Nat.mod_eq_of_lt h]
      rfl
    · rw [vput_ge h, List.cons_append, vrd, if_neg (by have := @small9 n k hb; omega), if_neg (by omega)]
      have hp := pow7 k n
      rw [ih (n / 128) (by omega) (k + 1) _ (by omega) (by omega), show (n % 128 + 128) % 128 = n % 128 by omega, Nat.add_assoc, hp, List.length_cons]
      simp only [Prod.mk.injEq, true_and, and_true]; omega
theorem vrd_put (m : List Nat) {n : Nat} (h : n < 18446744073709551616) : vrd 0 0 (vput n ++ m) = (n, (vput n).length, 0) := by
  have := vrd_vput m n 0 0 (by simpa using h) (.inl rfl)
  simpa using this

theorem vrd_cut (n : Nat) : ∀ k acc j, n * 2 ^ (7 * k) < 18446744073709551616 → (k = 0 ∨ 0 < n) → j < (vput n).length → vrd k acc ((vput n).take j) = (0, 0, 3) := by
  induction n using Nat.strongRecOn with
  | _ n ih =>
    intro k acc j hb hn hj
    by_cases h : n < 128
    · rw [vput_lt h] at hj ⊢
      obtain rfl : j = 0 := by simpa using hj
      simp [vrd]
    · rw [vput_ge h] at hj ⊢
      match j, hj with
      | 0, _ => simp [vrd]
      | j + 1, hj =>
        have hp := pow7 k n
        rw [List.take_succ_cons, vrd, if_neg (by have := @small9 n k hb; omega), if_neg (by omega)]
        exact ih (n / 128) (by omega) (k + 1) _ j (by omega) (by omega) (by simpa using hj)

/-- The bytes of n with 128 added to the last one, too. -/
def vlong (n : Nat) : List Nat := if n < 128 then [n + 128] else (n % 128 + 128) :: vlong (n / 128)
termination_by n
decreasing_by omega
theorem vlong_lt {n : Nat} (h : n < 128) : vlong n = [n + 128] := by rw [vlong, if_pos h]
theorem vlong_ge {n : Nat} (h : ¬ n < 128) : vlong n = (n % 128 + 128) :: vlong (n / 128) := by rw [vlong, if_neg h]
theorem vput_pos (n : Nat) : 0 < (vput n).length := by rw [vput]; split <;> simp
theorem vlong_last (n : Nat) : ∃ y, (vput n)[(vput n).length - 1]? = some y ∧ y < 128 ∧ (vput n).set ((vput n).length - 1) (y + 128) = vlong n := by
  induction n using Nat.strongRecOn with
  | _ n ih =>
    by_cases h : n < 128
    · exact ⟨n, by rw [vput_lt h]; simp, h, by rw [vput_lt h, vlong_lt h]; simp⟩
    · obtain ⟨y, h1, h2, h3⟩ := ih (n / 128) (by omega)
      have hp := vput_pos (n / 128)
      refine ⟨y, ?_, h2, ?_⟩
      · rw [vput_ge h, List.length_cons, Nat.add_sub_cancel]
        obtain ⟨l, hl⟩ : ∃ l, (vput (n / 128)).length = l + 1 := ⟨(vput (n / 128)).length - 1, by omega⟩
        rw [hl] at h1 ⊢
        simpa using h1
      · rw [vput_ge h, vlong_ge h, List.length_cons, Nat.add_sub_cancel]
        obtain ⟨l, hl⟩ : ∃ l, (vput (n / 128)).length = l + 1 := ⟨(vput (n / 128)).length - 1, by omega⟩
        rw [hl] at h3 ⊢
        rw [List.set_cons_succ]
        congr 1
theorem vrd_long (n : Nat) : ∀ k acc, n * 2 ^ (7 * k) < 18446744073709551616 → vrd k acc (vlong n ++ [0]) = (0, 0, 2) := by
  induction n using Nat.strongRecOn with
  | _ n ih =>
    intro k acc hb
    by_cases h : n < 128
    · rw [vlong_lt h, List.singleton_append, vrd]
      split
      · rfl
      · rw [if_neg (by omega), vrd, if_pos (by omega)]
    · have hp := pow7 k n
      rw [vlong_ge h, List.cons_append, vrd]
      split
      · rfl
      · rw [if_neg (by omega)]
        exact ih (n / 128) (by omega) (k + 1) _ (by omega)
theorem vput_byte (n : Nat) : ∀ x ∈ vput n, x < 256 := by
  induction n using Nat.strongRecOn with
  | _ n ih =>
    intro x hx
    by_cases h : n < 128
    · rw [vput_lt h] at hx; simp at hx; omega
    · rw [vput_ge h] at hx
      rcases List.mem_cons.1 hx with rfl | hx
      · omega
      · exact ih _ (by omega) x hx
theorem vlong_byte (n : Nat) : ∀ x ∈ vlong n, x < 256 := by
  induction n using Nat.strongRecOn with
  | _ n ih =>
    intro x hx
    by_cases h : n < 128
    · rw [vlong_lt h] at hx; simp at hx; omega
    · rw [vlong_ge h] at hx
      rcases List.mem_cons.1 hx with rfl | hx
      · omega
      · exact ih _ (by omega) x hx
theorem vlong_len (n : Nat) : (vlong n).length = (vput n).length := by
  induction n using Nat.strongRecOn with
  | _ n ih =>
    by_cases h : n < 128
    · rw [vlong_lt h, vput_lt h]; rfl
    · rw [vlong_ge h, vput_ge h, List.length_cons, List.length_cons, ih _ (by omega)]
theorem vput_mono (a : Nat) : ∀ b, a ≤ b → (vput a).length ≤ (vput b).length := by
  induction a using Nat.strongRecOn with
  | _ a ih =>
    intro b hab
    by_cases h : a < 128
    · rw [vput_lt h]; exact vput_pos b
    · rw [vput_ge h, vput_ge (by omega : ¬ b < 128), List.length_cons, List.length_cons]
      have := ih (a / 128) (by omega) (b / 128) (by omega)
      omega
/-- Numbers one behind the other: what is left behind the first k. -/
theorem vputs_cons (n : Nat) (l : List Nat) : vputs (n :: l) = vput n ++ vputs l := by simp [vputs]
theorem vputs_byte (l : List Nat) : ∀ x ∈ vputs l, x < 256 := by
  intro x hx
  obtain ⟨n, _, h⟩ := List.mem_flatMap.1 hx
  exact vput_byte n x h
end Go.Proofs.Ytcmlnjohjjibnaa
