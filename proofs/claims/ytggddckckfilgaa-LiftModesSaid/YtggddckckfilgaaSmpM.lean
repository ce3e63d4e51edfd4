/- sample: the law SampleBack. -/
import Derived.Test.YtggddckckfilgaaSmpJ
namespace Go.Proofs.Ytggddckckfilgaa
open Go.RowKit
set_option maxRecDepth 100000
set_option maxHeartbeats 1600000

theorem leB_mod : ∀ k n, leB k (n % 256 ^ k) = leB k n
  | 0, _ => rfl
  | k + 1, n => by
    have e : n % 256 ^ (k + 1) = n % 256 + 256 * (n / 256 % 256 ^ k) := by
      rw [show 256 ^ (k + 1) = 256 * 256 ^ k by rw [Nat.pow_succ, Nat.mul_comm], Nat.mod_mul]
    rw [leB, leB, e]
    have h1 : (n % 256 + 256 * (n / 256 % 256 ^ k)) % 256 = n % 256 := by omega
    have h2 : (n % 256 + 256 * (n / 256 % 256 ^ k)) / 256 = n / 256 % 256 ^ k := by omega
    rw [h1, h2, leB_mod k]
theorem leB_leV : ∀ c : List Nat, (∀ x ∈ c, x < 256) → leB c.length (leV c) = c
  | [], _ => rfl
  | x :: r, h => by
    have hx := h x (by simp)
    rw [List.length_cons, leB, leV, show (x + 256 * leV r) % 256 = x by omega, show (x + 256 * leV r) / 256 = leV r by omega, leB_leV r fun y hy => h y (by simp [hy])]
/-- A sample of at most 8 s bits comes back. -/
theorem sgn_pk {s : Nat} {x n : Int} (hs : s = 1 ∨ s = 2 ∨ s = 3) (hn : n ≤ 8 * (s : Int)) (hf : fitsB x n = true) : sgnS s (leV (pk s x)) = x := by
  unfold pk
  rw [leV_leB]
  have h8 : -((2 ^ (8 * s - 1) : Nat) : Int) ≤ x ∧ x < ((2 ^ (8 * s - 1) : Nat) : Int) := by
    rw [fits_iff] at hf
    have hp : 2 ^ (n - 1).toNat ≤ 2 ^ (8 * s - 1) := Nat.pow_le_pow_right (by omega) (by omega)
    omega
  unfold sgnS u64I
  rcases hs with rfl | rfl | rfl
  all_goals
    simp only [Nat.reducePow, Nat.reduceMul, Nat.reduceSub] at h8 ⊢
    split <;> omega
theorem pk_sgn {s : Nat} (hs : s = 1 ∨ s = 2 ∨ s = 3) (c : List Nat) (hc : c.length = s) (hx : ∀ x ∈ c, x < 256) : pk s (sgnS s (leV c)) = c := by
  have hl := leV_lt c hx
  have hb := leB_leV c hx
  rw [hc] at hl hb
  have hm : u64I (sgnS s (leV c)) % 256 ^ s = leV c := by
    generalize leV c = v at *
    unfold sgnS u64I
    rcases hs with rfl | rfl | rfl
    all_goals
      simp only [Nat.reducePow, Nat.reduceMul, Nat.reduceSub] at hl ⊢
      split <;> omega
  unfold pk
  rw [← leB_mod, hm, hb]
theorem chunk_pk {s : Nat} {l : List Int} {i : Nat} (hi : i < l.length) : ((l.flatMap (pk s)).drop (i * s)).take s = pk s l[i] := by
  have e : l.flatMap (pk s) = (l.take i).flatMap (pk s) ++ (pk s l[i] ++ (l.drop (i + 1)).flatMap (pk s)) := by
    conv => lhs; rw [← List.take_append_drop i l, List.drop_eq_getElem_cons hi]
    rw [List.flatMap_append, List.flatMap_cons]
  have h1 : ((l.take i).flatMap (pk s)).length = i * s := by rw [pks_len, List.length_take, Nat.min_eq_left (by omega)]
  have h2 : (pk s l[i]).length = s := by unfold pk; rw [leB_len]
  rw [e, List.drop_left' h1, List.take_left' h2]
theorem back_one {l : List Int} {n : Int} (hp : packB n = true) (hf : l.all (fun x => fitsB x n) = true) : unpackR (l.flatMap (pk (szOf n))) n = (l, 0) := by
  have hs := szOf_cases hp
  have hn : n ≤ 8 * (szOf n : Int) := by rw [packB_iff] at hp; unfold szOf; omega
  generalize hsn : szOf n = s at *
  have hs0 : 0 < s := by omega
  have hlen : (l.flatMap (pk s)).length = l.length * s := pks_len s l
  have hu : unpk s (l.flatMap (pk s)) = l := by
    apply List.ext_getElem
    · rw [unpk_len, hlen, Nat.mul_div_cancel _ hs0]
    · intro i h1 h2
      have h3 : i < (l.flatMap (pk s)).length / s := by rw [hlen, Nat.mul_div_cancel _ hs0]; exact h2
      have h4 := unpk_at h3
      rw [List.getElem?_eq_getElem h1] at h4
      injection h4 with h4
      rw [h4]
      unfold chunk
      rw [chunk_pk h2]
      exact sgn_pk hs hn (List.all_eq_true.1 hf _ (List.getElem_mem _))
  unfold unpackR
  rw [if_pos hp, hsn, if_pos (by rw [hlen, Nat.mul_mod_left]), hu, if_pos hf]
theorem unpk_pk {s : Nat} (hs : s = 1 ∨ s = 2 ∨ s = 3) (b : List Nat) (hx : ∀ x ∈ b, x < 256) : ∀ k, k * s ≤ b.length → ((List.range k).map (chunk s b)).flatMap (pk s) = b.take (k * s)
  | 0, _ => by simp
  | k + 1, h => by
    rw [Nat.succ_mul] at h ⊢
    have hl : ((b.drop (k * s)).take s).length = s := by rw [List.length_take, List.length_drop]; omega
    rw [List.range_succ, List.map_append, List.flatMap_append, unpk_pk hs b hx k (by omega), List.take_add]
    congr 1
    simp only [List.map_cons, List.map_nil, List.flatMap_cons, List.flatMap_nil, List.append_nil]
    unfold chunk
    exact pk_sgn hs _ hl fun x h => hx x (List.mem_of_mem_drop (List.mem_of_mem_take h))
/-- What Unpack gives, packed. -/
theorem back_two {b : List Nat} {n : Int} (hp : packB n = true) (hx : ∀ x ∈ b, x < 256) :
    ((unpackR b n).2 = 0 ∧ packR (unpackR b n).1 n = (b, 0)) ∨ (((unpackR b n).2 = 3 ∨ (unpackR b n).2 = 6) ∧ (unpackR b n).1 = []) := by
  have hs := szOf_cases hp
  unfold unpackR
  rw [if_pos hp]
  by_cases hr : b.length % szOf n = 0
  · rw [if_pos hr]
    cases hf : (unpk (szOf n) b).all (fun x => fitsB x n)
    · right; simp
    · left
      refine ⟨by simp, ?_⟩
      simp only [if_true]
      unfold packR
      rw [if_pos hp, if_pos hf]
      have h1 : b.length / szOf n * szOf n = b.length := Nat.div_mul_cancel (Nat.dvd_of_mod_eq_zero hr)
      have h2 := unpk_pk hs b hx (b.length / szOf n) (by omega)
      rw [h1, List.take_length] at h2
      unfold unpk
      rw [h2]
  · rw [if_neg hr]; right; simp
theorem unpk_small {b : List Nat} {n : Int} : (unpackR b n).1.length ≤ b.length := by
  unfold unpackR
  split
  · split
    · split
      · rw [unpk_len]; exact Nat.div_le_self _ _
      · simp
    · simp
  · simp

end Go.Proofs.Ytggddckckfilgaa
