/- bits, plain: bits of bytes, numbers of bits, writing at the end. -/
import Derived.Test.YthecibabpcfoaaaByt
import Derived.Test.YthecibabpcfoaaaClone
namespace Go.Proofs.Ythecibabpcfoaaa
open Go.RowKit
set_option maxRecDepth 100000

/-- Bit i of bytes, the most significant one of each first. -/
def bitAt (l : List Nat) (i : Nat) : Bool := (l.getD (i / 8) 0).testBit (7 - i % 8)
/-- The number of bits p .. p + n. -/
def bnum (f : Nat → Bool) (p : Nat) : Nat → Nat
  | 0 => 0
  | n + 1 => 2 * bnum f p n + (f (p + n)).toNat
/-- n bits of v, the most significant one first. -/
def msb (v n : Nat) : List Bool := (List.range n).map fun i => v.testBit (n - 1 - i)
def gb (L : List Bool) (i : Nat) : Bool := L.getD i false

structure Packed (l : List Nat) (L : List Bool) : Prop where
  len : l.length = (L.length + 7) / 8
  byte : ∀ x ∈ l, x < 256
  bit : ∀ i, bitAt l i = gb L i

theorem gb_app (L M : List Bool) (i : Nat) : gb (L ++ M) i = if i < L.length then gb L i else gb M (i - L.length) := by
  unfold gb
  rw [List.getD_eq_getElem?_getD, List.getD_eq_getElem?_getD, List.getD_eq_getElem?_getD, List.getElem?_append]
  split <;> rfl
theorem gb_out {L : List Bool} {i : Nat} (h : L.length ≤ i) : gb L i = false := by
  unfold gb; rw [List.getD_eq_getElem?_getD, List.getElem?_eq_none h]; rfl
theorem msb_len (v n : Nat) : (msb v n).length = n := by simp [msb]
theorem gb_msb (v n i : Nat) : gb (msb v n) i = (decide (i < n) && v.testBit (n - 1 - i)) := by
  by_cases h : i < n
  · unfold gb msb
    rw [List.getD_eq_getElem?_getD, List.getElem?_map, List.getElem?_range h]; simp [h]
  · rw [gb_out (by rw [msb_len]; omega)]; simp [h]
theorem gb_ext {L M : List Bool} (hl : L.length = M.length) (h : ∀ i, i < L.length → gb L i = gb M i) : L = M := by
  refine List.ext_getElem hl fun i h1 h2 => ?_
  have := h i h1
  unfold gb at this
  rw [List.getD_eq_getElem?_getD, List.getD_eq_getElem?_getD, List.getElem?_eq_getElem h1, List.getElem?_eq_getElem h2] at this
  simpa using this
theorem gb_zeros (n i : Nat) : gb (List.replicate n false) i = false := by
  unfold gb; rw [List.getD_eq_getElem?_getD, List.getElem?_replicate]; split <;> rfl

theorem bnum_lt (f : Nat → Bool) (p n : Nat) : bnum f p n < 2 ^ n := by
  induction n with
  | zero => simp [bnum]
  | succ n ih => rw [bnum, Nat.pow_succ]; cases f (p + n) <;> simp <;> omega
theorem bnum_add (f : Nat → Bool) (p a b : Nat) : bnum f p (a + b) = bnum f p a * 2 ^ b + bnum f (p + a) b := by
  induction b with
  | zero => simp [bnum]
  | succ b ih =>
    have e : bnum f p a * (2 ^ b * 2) = 2 * (bnum f p a * 2 ^ b) := by rw [← Nat.mul_assoc, Nat.mul_comm]
    rw [← Nat.add_assoc, bnum, ih, bnum, Nat.pow_succ, Nat.add_assoc p a b, e]; omega
theorem bnum_congr {f g : Nat → Bool} {p q n : Nat} (h : ∀ i, i < n → f (p + i) = g (q + i)) : bnum f p n = bnum g q n := by
  induction n with
  | zero => rfl
  | succ n ih => rw [bnum, bnum, ih fun i hi => h i (by omega), h n (by omega)]
theorem mod_succ (y s : Nat) : y % 2 ^ (s + 1) = 2 * (y / 2 % 2 ^ s) + y % 2 := by
  rw [Nat.pow_succ, Nat.mul_comm, Nat.mod_mul]; omega
theorem toNat_testBit (x i : Nat) : (x.testBit i).toNat = x / 2 ^ i % 2 := by
  rw [Nat.testBit_eq_decide_div_mod_eq]
  have := Nat.mod_two_eq_zero_or_one (x / 2 ^ i)
  rcases this with h | h <;> rw [h] <;> rfl
theorem bnum_byte (l : List Nat) (at_ s : Nat) (h : at_ % 8 + s ≤ 8) : bnum (bitAt l) at_ s = l.getD (at_ / 8) 0 / 2 ^ (8 - at_ % 8 - s) % 2 ^ s := by
  induction s with
  | zero => simp [bnum, Nat.mod_one]
  | succ s ih =>
    rw [bnum, ih (by omega), bitAt, show (at_ + s) / 8 = at_ / 8 by omega, show (at_ + s) % 8 = at_ % 8 + s by omega, toNat_testBit, mod_succ, show 8 - at_ % 8 - s = (8 - at_ % 8 - (s + 1)) + 1 by omega, show 7 - (at_ % 8 + s) = 8 - at_ % 8 - (s + 1) by omega, Nat.pow_succ, ← Nat.div_div_eq_div_mul]
theorem bnum_msb {f : Nat → Bool} {p : Nat} : ∀ {n v : Nat}, (∀ i, i < n → f (p + i) = v.testBit (n - 1 - i)) → bnum f p n = v % 2 ^ n := by
  intro n
  induction n with
  | zero => intro v _; simp [bnum, Nat.mod_one]
  | succ n ih =>
    intro v h
    rw [bnum, ih (v := v / 2) fun i hi => ?_, h n (by omega), mod_succ, show n + 1 - 1 - n = 0 by omega, toNat_testBit]
    · simp
    · rw [h i (by omega), show n + 1 - 1 - i = (n - 1 - i) + 1 by omega, Nat.testBit_succ]
theorem bnum_zero {f : Nat → Bool} {p n : Nat} : bnum f p n = 0 ↔ ∀ i, i < n → f (p + i) = false := by
  induction n with
  | zero => simp [bnum]
  | succ n ih =>
    rw [bnum]
    constructor
    · intro h i hi
      have h1 : bnum f p n = 0 := by omega
      have h2 : (f (p + n)).toNat = 0 := by omega
      by_cases e : i = n
      · subst e; cases hf : f (p + i) <;> simp_all
      · exact ih.1 h1 i (by omega)
    · intro h
      rw [ih.2 fun i hi => h i (by omega), h n (by omega)]; rfl

theorem msb_add (v a b : Nat) : msb v (a + b) = msb (v / 2 ^ b) a ++ msb v b := by
  refine gb_ext (by simp [msb_len]) fun i hi => ?_
  rw [msb_len] at hi
  rw [gb_app, gb_msb, gb_msb, gb_msb, msb_len]
  by_cases h : i < a
  · rw [if_pos h, ← Nat.shiftRight_eq_div_pow, Nat.testBit_shiftRight, show b + (a - 1 - i) = a + b - 1 - i by omega]; simp [h, hi]
  · rw [if_neg h, show b - 1 - (i - a) = a + b - 1 - i by omega, decide_eq_true hi, decide_eq_true (show i - a < b by omega)]
theorem msb_mod (v n : Nat) : msb (v % 2 ^ n) n = msb v n := by
  refine gb_ext (by simp [msb_len]) fun i hi => ?_
  rw [msb_len] at hi
  rw [gb_msb, gb_msb, Nat.testBit_mod_two_pow, decide_eq_true (show n - 1 - i < n by omega)]; simp
theorem msb_zero (n : Nat) : msb 0 n = List.replicate n false := by
  refine gb_ext (by simp [msb_len]) fun i hi => ?_
  rw [gb_msb, gb_zeros]; simp

theorem getD_lt {l : List Nat} (h : ∀ x ∈ l, x < 256) (j : Nat) : l.getD j 0 < 256 := by
  rw [List.getD_eq_getElem?_getD]
  rcases hj : l[j]? with _ | x
  · simp
  · exact h x (List.mem_of_getElem? hj)
theorem bits_inj {l m : List Nat} (hl : l.length = m.length) (xl : ∀ x ∈ l, x < 256) (xm : ∀ x ∈ m, x < 256) (h : ∀ i, bitAt l i = bitAt m i) : l = m := by
  refine List.ext_getElem hl fun j h1 h2 => ?_
  apply Nat.eq_of_testBit_eq
  intro i
  by_cases hi : i < 8
  · have := h (8 * j + (7 - i))
    unfold bitAt at this
    rw [show (8 * j + (7 - i)) / 8 = j by omega, show 7 - (8 * j + (7 - i)) % 8 = i by omega, List.getD_eq_getElem?_getD, List.getD_eq_getElem?_getD, List.getElem?_eq_getElem h1, List.getElem?_eq_getElem h2] at this
    simpa using this
  · have a1 := xl l[j] (List.getElem_mem _)
    have a2 := xm m[j] (List.getElem_mem _)
    have h8 : 2 ^ 8 ≤ 2 ^ i := Nat.pow_le_pow_right (by omega) (by omega)
    rw [Nat.testBit_lt_two_pow (Nat.lt_of_lt_of_le a1 h8), Nat.testBit_lt_two_pow (Nat.lt_of_lt_of_le a2 h8)]
theorem Packed.uniq {l m : List Nat} {L : List Bool} (h : Packed l L) (k : Packed m L) : l = m :=
  bits_inj (h.len.trans k.len.symm) h.byte k.byte fun i => (h.bit i).trans (k.bit i).symm
theorem Packed.nil : Packed [] [] := ⟨rfl, by simp, fun i => by simp [bitAt, gb]⟩
theorem bitAt_set (l : List Nat) (k y i : Nat) (hk : k < l.length) : bitAt (l.set k y) i = if i / 8 = k then y.testBit (7 - i % 8) else bitAt l i := by
  unfold bitAt
  rw [List.getD_eq_getElem?_getD, List.getElem?_set]
  by_cases h : i / 8 = k
  · subst h; simp [hk]
  · rw [if_neg (by omega), if_neg h, List.getD_eq_getElem?_getD]

/-- Bits at the end, into a byte that has room. -/
theorem Packed.put {l : List Nat} {L : List Bool} {c s x : Nat} (hlen : l.length = L.length / 8 + 1) (hb : ∀ x ∈ l, x < 256) (hbit : ∀ i, bitAt l i = gb L i)
    (hs : 1 ≤ s) (hs8 : L.length % 8 + s ≤ 8) (hc : c < 2 ^ s) (hx : l[L.length / 8]? = some x) :
    Packed (l.set (L.length / 8) (x ||| c * 2 ^ (8 - L.length % 8 - s))) (L ++ msb c s) := by
  have hxb := hb x (List.mem_of_getElem? hx)
  have hy : x ||| c * 2 ^ (8 - L.length % 8 - s) < 256 := by
    refine Nat.or_lt_two_pow (n := 8) hxb ?_
    have h1 : c * 2 ^ (8 - L.length % 8 - s) < 2 ^ s * 2 ^ (8 - L.length % 8 - s) := Nat.mul_lt_mul_of_pos_right hc (Nat.pow_pos (by omega))
    rw [← Nat.pow_add] at h1
    exact Nat.lt_of_lt_of_le h1 (Nat.pow_le_pow_right (by omega) (by omega))
  refine ⟨by simp [msb_len]; omega, fun y hy' => ?_, fun i => ?_⟩
  · rcases List.mem_or_eq_of_mem_set hy' with h | h
    · exact hb y h
    · omega
  · rw [bitAt_set _ _ _ _ (by omega), gb_app, gb_msb]
    by_cases hk : i / 8 = L.length / 8
    · rw [if_pos hk, Nat.testBit_or, ← Nat.shiftLeft_eq, Nat.testBit_shiftLeft]
      have hxi : x.testBit (7 - i % 8) = gb L i := by
        rw [← hbit i, bitAt, hk, List.getD_eq_getElem?_getD, hx]; rfl
      rw [hxi]
      by_cases hi : i < L.length
      · rw [if_pos hi, Nat.testBit_lt_two_pow (Nat.lt_of_lt_of_le hc (Nat.pow_le_pow_right (by omega) (show s ≤ 7 - i % 8 - (8 - L.length % 8 - s) by omega)))]; simp
      · rw [if_neg hi, gb_out (by omega), Bool.false_or]
        by_cases h2 : i - L.length < s
        · rw [decide_eq_true h2, decide_eq_true (show 7 - i % 8 ≥ 8 - L.length % 8 - s by omega), show 7 - i % 8 - (8 - L.length % 8 - s) = s - 1 - (i - L.length) by omega]
        · rw [decide_eq_false h2, decide_eq_false (show ¬ 7 - i % 8 ≥ 8 - L.length % 8 - s by omega)]; rfl
    · rw [if_neg hk, hbit i]
      by_cases hi : i < L.length
      · rw [if_pos hi]
      · rw [if_neg hi, gb_out (by omega), decide_eq_false (show ¬ i - L.length < s by omega)]; rfl
/-- A byte 0 behind the last one. -/
theorem bitAt_zero (l : List Nat) (i : Nat) : bitAt (l ++ [0]) i = bitAt l i := by
  unfold bitAt
  rw [List.getD_eq_getElem?_getD, List.getD_eq_getElem?_getD, List.getElem?_append]
  split
  · rfl
  · rename_i h
    rw [List.getElem?_eq_none (by omega : l.length ≤ i / 8)]
    rcases h2 : ([0] : List Nat)[i / 8 - l.length]? with _ | y
    · rfl
    · have := List.mem_of_getElem? h2
      have : y = 0 := by simpa using this
      subst this; rfl
theorem Packed.align {l : List Nat} {L : List Bool} (h : Packed l L) : Packed l (L ++ List.replicate (8 * l.length - L.length) false) := by
  have := h.len
  refine ⟨by simp; omega, h.byte, fun i => ?_⟩
  rw [h.bit, gb_app, gb_zeros]
  split
  · rfl
  · exact gb_out (by omega)

/-- The number of bits 0 before the next bit 1. -/
def zer (f : Nat → Bool) (most p : Nat) : Nat → Nat → Nat × Int
  | 0, _ => (0, 3)
  | left + 1, i => if f (p + i) = true then (i, 0) else if most ≤ i then (0, 2) else zer f most p left (i + 1)
theorem zer_at {f : Nat → Bool} {most p k : Nat} : ∀ left i, i ≤ k → k < i + left → i ≤ most → (∀ j, i ≤ j → j < k → f (p + j) = false) → f (p + k) = true → zer f most p left i = if k ≤ most then (k, 0) else (0, 2) := by
  intro left
  induction left with
  | zero => intro i h1 h2; omega
  | succ left ih =>
    intro i h1 h2 h3 h4 h5
    rw [zer]
    by_cases hk : i = k
    · subst hk; rw [if_pos h5, if_pos h3]
    · rw [if_neg (by rw [h4 i (by omega) (by omega)]; simp)]
      by_cases hm : most ≤ i
      · rw [if_pos hm, if_neg (by omega)]
      · rw [if_neg hm]
        exact ih (i + 1) (by omega) (by omega) (by omega) (fun j h6 h7 => h4 j (by omega) h7) h5
theorem zer_ok {f : Nat → Bool} {most p : Nat} : ∀ left i, (zer f most p left i).2 = 0 → (zer f most p left i).1 < i + left := by
  intro left
  induction left with
  | zero => intro i h; simp [zer] at h
  | succ left ih =>
    intro i
    rw [zer]
    split
    · intro _; show i < _; omega
    · split
      · intro h; simp at h
      · intro h; have := ih (i + 1) h; omega
theorem zer_er {f : Nat → Bool} {most p : Nat} : ∀ left i, (zer f most p left i).2 = 0 ∨ (zer f most p left i).2 = 2 ∨ (zer f most p left i).2 = 3 := by
  intro left
  induction left with
  | zero => intro i; simp [zer]
  | succ left ih =>
    intro i
    rw [zer]
    split
    · simp
    · split
      · simp
      · exact ih _

/-- What a reader's methods answer: of n bits 'len' bits, at 'at_', with error er. -/
def gGet (f : Nat → Bool) (len at_ : Nat) (er n : Int) : Nat × Nat × Int :=
  if er = 0 then (if n < 0 ∨ 64 < n then (0, at_, 1) else if len - at_ < n.toNat then (0, at_, 3) else (bnum f at_ n.toNat, at_ + n.toNat, 0)) else (0, at_, er)
def gUnary (f : Nat → Bool) (len at_ : Nat) (er n : Int) : Nat × Nat × Int :=
  if er = 0 then (if (zer f n.toNat at_ (len - at_) 0).2 = 0 then ((zer f n.toNat at_ (len - at_) 0).1, at_ + (zer f n.toNat at_ (len - at_) 0).1 + 1, 0) else (0, at_, (zer f n.toNat at_ (len - at_) 0).2)) else (0, at_, er)
def gAlign (f : Nat → Bool) (len at_ : Nat) (er : Int) : Nat × Int :=
  if er = 0 then (if bnum f at_ ((len - at_) % 8) = 0 then (at_ + (len - at_) % 8, 0) else (at_, 2)) else (at_, er)
/-- What a writer's methods make. -/
def wPut (L : List Bool) (v : Nat) (n : Int) : List Bool × Int :=
  if n < 0 ∨ 64 < n ∨ 2 ^ n.toNat ≤ v then (L, 1) else (L ++ msb v n.toNat, 0)
def wUnary (L : List Bool) (n : Int) : List Bool × Int :=
  if n < 0 ∨ 4096 < n then (L, 1) else (L ++ msb 1 (n.toNat + 1), 0)
def wAlign (L : List Bool) : List Bool := L ++ List.replicate (8 * ((L.length + 7) / 8) - L.length) false
end Go.Proofs.Ythecibabpcfoaaa
