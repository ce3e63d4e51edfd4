/- Numbers as bytes (octet): plain lists of numbers; nothing here imports the program. -/
import Derived.Test.YtggddckckfilgaaByt
import Derived.Test.YtggddckckfilgaaClone
namespace Go.Proofs.Ytggddckckfilgaa
open Go.RowKit
set_option maxRecDepth 100000

/-- The varint of n. -/
def vput (n : Nat) : List Nat := if n < 128 then [n] else (n % 128 + 128) :: vput (n / 128)
termination_by n
decreasing_by omega
def vputs (l : List Nat) : List Nat := l.flatMap vput
theorem vput_lt {n : Nat} (h : n < 128) : vput n = [n] := by rw [vput, if_pos h]
theorem vput_ge {n : Nat} (h : ¬ n < 128) : vput n = (n % 128 + 128) :: vput (n / 128) := by rw [vput, if_neg h]
theorem vput_len (k : Nat) : ∀ n, n < 128 ^ (k + 1) → (vput n).length ≤ k + 1 := by
  induction k with
  | zero => intro n h; rw [vput_lt (by omega)]; simp
  | succ k ih =>
    intro n h
    by_cases h1 : n < 128
    · rw [vput_lt h1]; simp
    · rw [vput_ge h1]; simp only [List.length_cons]
      have := ih (n / 128) (by rw [Nat.div_lt_iff_lt_mul (by omega)]; rw [Nat.pow_succ] at h; exact h)
      omega
theorem vput_len10 {n : Nat} (h : n < 18446744073709551616) : (vput n).length ≤ 10 := vput_len 9 n (by omega)

theorem vputs_append (a b : List Nat) : vputs (a ++ b) = vputs a ++ vputs b := by simp [vputs]
theorem vputs_len10 (l : List Nat) (hx : ∀ x ∈ l, x < 18446744073709551616) : ∀ k, k ≤ l.length → (vputs (l.take k)).length ≤ 10 * k := by
  intro k
  induction k with
  | zero => simp [vputs]
  | succ k ih =>
    intro hk
    rw [List.take_succ_eq_append_getElem (by omega), vputs_append, List.length_append]
    have h1 := ih (by omega)
    have h2 := vput_len10 (hx l[k] (List.getElem_mem _))
    simp only [vputs, List.flatMap_cons, List.flatMap_nil, List.append_nil] at h1 ⊢
    omega

theorem or128 (m : Nat) : bits .or .u8 ((m : Int) % 256) 128 = ((m % 128 + 128 : Nat) : Int) := by
  have h : ∀ a, a < 256 → a ||| 128 = a % 128 + 128 := by decide +kernel
  have e : ((m : Int) % 256) = ((m % 256 : Nat) : Int) := by omega
  rw [e, show (128 : Int) = ((128 : Nat) : Int) from rfl, u8_or_nat _ _ (by omega) (by omega), h _ (by omega)]
  congr 1; omega


/-- What the first number of a list of bytes is: number, bytes taken, error. -/
def vrd : Nat → Nat → List Nat → Nat × Nat × Int
  | _, _, [] => (0, 0, 3)
  | i, acc, x :: r =>
    if (i = 9 ∧ 1 < x) ∨ (0 < i ∧ x = 0) then (0, 0, 2)
    else if x < 128 then (acc + x % 128 * 2 ^ (7 * i), i + 1, 0) else vrd (i + 1) (acc + x % 128 * 2 ^ (7 * i)) r

def zigI (n : Int) : Nat := if 0 ≤ n then (2 * n).toNat else (-2 * n - 1).toNat
def zagI (u : Nat) : Int := if u % 2 = 0 then (u / 2 : Nat) else -((u / 2 : Nat) : Int) - 1
def leB : Nat → Nat → List Nat
  | 0, _ => []
  | k + 1, n => n % 256 :: leB k (n / 256)
def leV : List Nat → Nat
  | [] => 0
  | x :: r => x + 256 * leV r
def beV (l : List Nat) : Nat := l.foldl (fun a x => a * 256 + x) 0
def clampN (n : Int) : Nat := (min (max n 0) 8).toNat

theorem xor_ones (a : Nat) (h : a < 2 ^ 64) : a ^^^ (2 ^ 64 - 1) = 2 ^ 64 - 1 - a := by
  apply Nat.eq_of_testBit_eq
  intro i
  rw [Nat.testBit_xor, Nat.testBit_two_pow_sub_one, Nat.sub_sub, Nat.add_comm 1 a]
  rw [Nat.testBit_two_pow_sub_succ h]
  by_cases hi : i < 64
  · simp [hi]
  · simp [hi]; exact Nat.testBit_lt_two_pow (Nat.lt_of_lt_of_le h (Nat.pow_le_pow_right (by omega) (by omega)))

theorem zig_pure (n : Int) (h : -9223372036854775808 ≤ n) (h2 : n ≤ 9223372036854775807) :
    bits .xor .u64 (IntKind.u64.wrap (IntKind.u64.wrap n * 2)) (IntKind.u64.wrap (n / 9223372036854775808)) = ((zigI n : Nat) : Int) := by
  by_cases h0 : 0 ≤ n
  · rw [show n / 9223372036854775808 = 0 by omega, IntKind.wrap_u64, IntKind.wrap_u64, IntKind.wrap_u64]
    obtain ⟨m, rfl⟩ := Int.eq_ofNat_of_zero_le h0
    rw [show ((m : Int) % 18446744073709551616 * 2) % 18446744073709551616 = ((2 * m : Nat) : Int) by omega, show (0 : Int) % 18446744073709551616 = ((0 : Nat) : Int) by omega, u64_xor_nat _ _ (by omega) (by omega)]
    simp [zigI]; omega
  · rw [show n / 9223372036854775808 = -1 by omega, IntKind.wrap_u64, IntKind.wrap_u64, IntKind.wrap_u64]
    obtain ⟨m, hm⟩ : ∃ m : Nat, n = -((m : Int)) - 1 := ⟨(-n - 1).toNat, by omega⟩
    subst hm
    rw [show ((-(m : Int) - 1) % 18446744073709551616 * 2) % 18446744073709551616 = ((2 ^ 64 - 2 * m - 2 : Nat) : Int) by omega, show (-1 : Int) % 18446744073709551616 = ((2 ^ 64 - 1 : Nat) : Int) by omega, u64_xor_nat _ _ (by omega) (by omega), xor_ones _ (by omega)]
    simp only [zigI]; rw [if_neg (by omega)]; omega

theorem i64_xor_m1 (x : Int) (h1 : -9223372036854775808 ≤ x) (h2 : x ≤ 9223372036854775807) : bits .xor .i64 x (-1) = -x - 1 := by
  show IntKind.i64.wrap ((BitVec.ofInt 64 x ^^^ BitVec.ofInt 64 (-1)).toNat : Int) = _
  rw [show BitVec.ofInt 64 (-1) = BitVec.allOnes 64 from rfl, BitVec.xor_allOnes, BitVec.toNat_not, BitVec.toNat_ofInt, IntKind.wrap_i64]
  omega
theorem zag_pure (n : Nat) (h2 : n < 18446744073709551616) :
    bits .xor .i64 ((n : Int) / 2) (wrap64 (-wrap64 (bits .and .u64 (n : Int) 1))) = zagI n := by
  have hb : bits .and .u64 (n : Int) 1 = ((n % 2 : Nat) : Int) := by
    rw [show (1 : Int) = ((1 : Nat) : Int) from rfl, u64_and_nat _ _ (by omega) (by omega), nat_mask1]
  rw [hb]
  by_cases h : n % 2 = 0
  · rw [h, show wrap64 (-wrap64 ((0 : Nat) : Int)) = ((0 : Nat) : Int) by simp [wrap64]]
    have : bits .xor .i64 ((n : Int) / 2) ((0 : Nat) : Int) = (n : Int) / 2 := by
      show IntKind.i64.wrap ((BitVec.ofInt 64 ((n : Int) / 2) ^^^ BitVec.ofInt 64 0).toNat : Int) = _
      rw [show BitVec.ofInt 64 0 = 0#64 from rfl, BitVec.xor_zero, BitVec.toNat_ofInt, IntKind.wrap_i64]
      omega
    rw [this]; simp [zagI, h]
  · rw [show n % 2 = 1 by omega, show wrap64 (-wrap64 ((1 : Nat) : Int)) = -1 by simp [wrap64]]
    rw [i64_xor_m1 _ (by omega) (by omega)]; simp [zagI, h]

theorem vrd_cons {k acc x : Nat} {l : List Nat} (h : l[k]? = some x) : vrd k acc (l.drop k) = if (k = 9 ∧ 1 < x) ∨ (0 < k ∧ x = 0) then (0, 0, 2)
    else if x < 128 then (acc + x % 128 * 2 ^ (7 * k), k + 1, 0) else vrd (k + 1) (acc + x % 128 * 2 ^ (7 * k)) (l.drop (k + 1)) := by
  obtain ⟨hk, e⟩ := List.getElem?_eq_some_iff.1 h
  rw [List.drop_eq_getElem_cons hk, e, vrd]
theorem or_add (a b i : Nat) (h : a < 2 ^ i) : a ||| b * 2 ^ i = a + b * 2 ^ i := by
  rw [Nat.or_comm, Nat.mul_comm, Nat.add_comm, Nat.two_pow_add_eq_or_of_lt h b]
theorem andNot128 : ∀ x : Nat, x < 256 → x &&& (255 - 128) = x % 128 := by decide +kernel
theorem two_step (y p T : Nat) (hp : p + p = T) (hy : y ≤ 1) : y * p + p ≤ T := by
  match y, hy with
  | 0, _ => omega
  | 1, _ => omega
theorem or_step {acc x k : Nat} (hx : x < 256) (hk : k ≤ 9) (hacc : acc < 2 ^ (7 * k)) (h9 : k = 9 → x ≤ 1) :
    bits .or .u64 (acc : Int) (IntKind.u64.wrap (IntKind.u64.wrap (bits .andNot .u8 (x : Int) 128) * 2 ^ (7 * k))) = ((acc + x % 128 * 2 ^ (7 * k) : Nat) : Int) ∧ acc + x % 128 * 2 ^ (7 * k) < 2 ^ (7 * k + 7) ∧ acc + x % 128 * 2 ^ (7 * k) < 18446744073709551616 := by
  have hp : 2 ^ (7 * k + 7) = 2 ^ (7 * k) * 128 := by rw [Nat.pow_add]
  have h1 : x % 128 * 2 ^ (7 * k) ≤ 127 * 2 ^ (7 * k) := Nat.mul_le_mul_right _ (by omega)
  have hlt : x % 128 * 2 ^ (7 * k) + 2 ^ (7 * k) ≤ 18446744073709551616 := by
    by_cases h : k = 9
    · subst h
      exact two_step _ _ _ (by decide +kernel) (Nat.le_trans (Nat.mod_le _ _) (h9 rfl))
    · have h2 : 2 ^ (7 * k) * 2 ^ (56 - 7 * k) = 2 ^ 56 := by rw [← Nat.pow_add]; congr 1; omega
      have h3 : 0 < 2 ^ (56 - 7 * k) := Nat.pow_pos (by omega)
      have h4 : 2 ^ (7 * k) * 1 ≤ 2 ^ (7 * k) * 2 ^ (56 - 7 * k) := Nat.mul_le_mul_left _ h3
      rw [h2] at h4
      simp only [Nat.reducePow] at h4
      omega
  refine ⟨?_, by omega, by omega⟩
  have e1 : bits .andNot .u8 (x : Int) 128 = ((x % 128 : Nat) : Int) := by
    rw [show (128 : Int) = ((128 : Nat) : Int) from rfl, u8_andNot_nat _ _ hx (by omega), andNot128 x hx]
  have e2 : IntKind.u64.wrap ((x % 128 : Nat) : Int) = ((x % 128 : Nat) : Int) := by rw [IntKind.wrap_u64]; omega
  have e3 : ((x % 128 : Nat) : Int) * 2 ^ (7 * k) = ((x % 128 * 2 ^ (7 * k) : Nat) : Int) := by simp
  have e4 : IntKind.u64.wrap ((x % 128 * 2 ^ (7 * k) : Nat) : Int) = ((x % 128 * 2 ^ (7 * k) : Nat) : Int) := by
    rw [IntKind.wrap_u64]; have : 0 < 2 ^ (7 * k) := Nat.pow_pos (by omega); omega
  rw [e1, e2, e3, e4, u64_or_nat _ _ (by have : 0 < 2 ^ (7 * k) := Nat.pow_pos (by omega); omega) (by have : 0 < 2 ^ (7 * k) := Nat.pow_pos (by omega); omega), or_add _ _ _ hacc]

theorem vrd_ok : ∀ (l : List Nat) (k acc : Nat), k ≤ 9 → acc < 2 ^ (7 * k) → (∀ x ∈ l, x < 256) → (vrd k acc l).2.2 = 0 → (vrd k acc l).1 < 18446744073709551616 ∧ (vrd k acc l).2.1 ≤ k + l.length ∧ (vrd k acc l).2.1 ≤ 10 ∧ 1 ≤ (vrd k acc l).2.1
  | [], k, acc, _, _, _, h => by simp [vrd] at h
  | x :: r, k, acc, hk, ha, hx, h => by
    have hx0 := hx x (by simp)
    rw [vrd] at h ⊢
    by_cases hb : (k = 9 ∧ 1 < x) ∨ (0 < k ∧ x = 0)
    · rw [if_pos hb] at h; simp at h
    · rw [if_neg hb] at h ⊢
      obtain ⟨_, h2, h3⟩ := or_step hx0 hk ha (by omega)
      by_cases h8 : x < 128
      · rw [if_pos h8] at h ⊢
        simp only [List.length_cons]; omega
      · rw [if_neg h8] at h ⊢
        have := vrd_ok r (k + 1) _ (by omega) h2 (fun y hy => hx y (by simp [hy])) h
        simp only [List.length_cons]; omega
theorem vrd_err : ∀ (l : List Nat) (k acc : Nat), 0 ≤ (vrd k acc l).2.2 ∧ (vrd k acc l).2.2 ≤ 3 ∧ ((vrd k acc l).2.2 = 0 ∨ (vrd k acc l).1 = 0)
  | [], k, acc => by simp [vrd]
  | x :: r, k, acc => by
    rw [vrd]; split
    · simp
    · split
      · simp
      · exact vrd_err r _ _
/-- What 'Num most' gives: the number, how far, the error. -/
def rdNum (l : List Nat) (at_ : Nat) (er : Int) (most : Nat) : Nat × Nat × Int :=
  if er = 0 then
    (if (vrd 0 0 (l.drop at_)).2.2 = 0 then (if most < (vrd 0 0 (l.drop at_)).1 then (0, at_, 4) else ((vrd 0 0 (l.drop at_)).1, at_ + (vrd 0 0 (l.drop at_)).2.1, 0)) else (0, at_, (vrd 0 0 (l.drop at_)).2.2))
  else (0, at_, er)
/-- What 'next n' gives: the bytes, how far, the error. -/
def rdTake (l : List Nat) (at_ : Nat) (er : Int) (n : Nat) : List Nat × Nat × Int :=
  if er = 0 then (if l.length - at_ < n then ([], at_, 3) else ((l.drop at_).take n, at_ + n, 0)) else ([], at_, er)
def rdLump (l : List Nat) (at_ : Nat) (er : Int) (most : Nat) : List Nat × Nat × Int :=
  let r := rdNum l at_ er most
  let t := rdTake l r.2.1 r.2.2 r.1
  if t.2.2 = 0 then t else ([], at_, t.2.2)

theorem beV_snoc (l : List Nat) (x : Nat) : beV (l ++ [x]) = beV l * 256 + x := by simp [beV]
theorem beV_lt (l : List Nat) (h : ∀ x ∈ l, x < 256) : ∀ k, k ≤ l.length → beV (l.take k) < 256 ^ k := by
  intro k
  induction k with
  | zero => intro _; simp [beV]
  | succ k ih =>
    intro hk
    rw [List.take_succ_eq_append_getElem (by omega), beV_snoc, Nat.pow_succ]
    have h1 := ih (by omega)
    have h2 := h l[k] (List.getElem_mem _)
    omega
theorem pow256_le {k : Nat} (h : k ≤ 7) : 256 ^ k ≤ 72057594037927936 := Nat.pow_le_pow_right (n := 256) (by omega) h
theorem be_step {n x : Nat} (hn : n < 72057594037927936) (hx : x < 256) : bits .or .u64 (IntKind.u64.wrap ((n : Int) * 256)) (x : Int) = ((n * 256 + x : Nat) : Int) := by
  have e1 : IntKind.u64.wrap ((n : Int) * 256) = ((n * 256 : Nat) : Int) := by rw [IntKind.wrap_u64]; omega
  rw [e1, u64_or_nat _ _ (by omega) (by omega), Nat.or_comm]
  have := or_add x n 8 (by omega)
  rw [show (2 : Nat) ^ 8 = 256 from rfl] at this
  rw [this]; congr 1; omega
theorem leV_snoc (l : List Nat) (x : Nat) : leV (l ++ [x]) = leV l + x * 256 ^ l.length := by
  induction l with
  | nil => simp [leV]
  | cons y r ih =>
    simp only [List.cons_append, leV, ih, List.length_cons, Nat.pow_succ]
    rw [Nat.mul_add, Nat.add_assoc, ← Nat.mul_assoc, Nat.mul_comm 256 x, Nat.mul_assoc, Nat.mul_comm 256 (256 ^ r.length)]
theorem leV_lt (l : List Nat) (h : ∀ x ∈ l, x < 256) : leV l < 256 ^ l.length := by
  induction l with
  | nil => simp [leV]
  | cons y r ih =>
    have h1 := ih (fun x hx => h x (by simp [hx]))
    have h2 := h y (by simp)
    simp only [leV, List.length_cons, Nat.pow_succ]; omega
theorem pow256 (k : Nat) : (256 : Nat) ^ k = 2 ^ (8 * k) := by rw [Nat.pow_mul]
theorem le_step {n x k : Nat} (hk : k ≤ 7) (hn : n < 256 ^ k) (hx : x < 256) : bits .or .u64 (n : Int) (IntKind.u64.wrap ((x : Int) * 2 ^ (8 * k))) = ((n + x * 256 ^ k : Nat) : Int) := by
  have hp : x * 256 ^ k ≤ 255 * 256 ^ k := Nat.mul_le_mul_right _ (by omega)
  have hq := pow256_le hk
  have hpos : 0 < 256 ^ k := Nat.pow_pos (by omega)
  have e3 : ((x : Nat) : Int) * 2 ^ (8 * k) = ((x * 256 ^ k : Nat) : Int) := by rw [pow256]; simp
  have e4 : IntKind.u64.wrap ((x * 256 ^ k : Nat) : Int) = ((x * 256 ^ k : Nat) : Int) := by rw [IntKind.wrap_u64]; omega
  rw [e3, e4, u64_or_nat _ _ (by omega) (by omega)]
  rw [pow256] at hn ⊢
  rw [or_add _ _ _ hn]
theorem rdTake_len (l : List Nat) (at_ : Nat) (er : Int) (n : Nat) : (rdTake l at_ er n).1.length ≤ n := by
  unfold rdTake; split
  · split <;> simp; omega
  · simp
theorem rdTake_byte (l : List Nat) (at_ : Nat) (er : Int) (n : Nat) (h : ∀ x ∈ l, x < 256) : ∀ x ∈ (rdTake l at_ er n).1, x < 256 := by
  unfold rdTake; split
  · split
    · simp
    · exact fun x hx => h x (List.mem_of_mem_drop (List.mem_of_mem_take hx))
  · simp
theorem clampN_le (n : Int) : clampN n ≤ 8 := by unfold clampN; omega

theorem or128' (y : Nat) (h : y < 128) : bits .or .u8 (y : Int) 128 = ((y + 128 : Nat) : Int) := by
  have e : ∀ a, a < 128 → a ||| 128 = a + 128 := by decide +kernel
  rw [show (128 : Int) = ((128 : Nat) : Int) from rfl, u8_or_nat _ _ (by omega) (by omega), e y h]

end Go.Proofs.Ytggddckckfilgaa
