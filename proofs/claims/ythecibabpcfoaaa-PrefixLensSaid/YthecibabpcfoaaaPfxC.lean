/- prefix, plain: canonical code words: each fits its length, none begins another. -/
import Derived.Test.YthecibabpcfoaaaPfxP
namespace Go.Proofs.Ythecibabpcfoaaa
set_option maxRecDepth 100000

/-- Where the k-th word's share of the 2^L leaves begins (lengths in rising order). -/
def startC (L : Nat) (ls : List Nat) (k : Nat) : Nat := kraft (ls.take k) L
/-- The words one after another: the word of the length l before is v. -/
def codesFrom (l v : Nat) : List Nat → List Nat
  | [] => []
  | n :: ls => (v + 1) * 2 ^ (n - l) :: codesFrom n ((v + 1) * 2 ^ (n - l)) ls
def codesC : List Nat → List Nat
  | [] => []
  | n :: ls => 0 :: codesFrom n 0 ls
theorem kraft_cons (l : Nat) (ls : List Nat) (L : Nat) : kraft (l :: ls) L = 2 ^ (L - l) + kraft ls L := sumOn_cons ..
theorem kraft_nil (L : Nat) : kraft [] L = 0 := rfl
theorem codesFrom_len (ls : List Nat) : ∀ l v, (codesFrom l v ls).length = ls.length := by
  induction ls with
  | nil => intro l v; rfl
  | cons n ls ih => intro l v; simp [codesFrom, ih]
theorem codesC_len (ls : List Nat) : (codesC ls).length = ls.length := by
  cases ls with
  | nil => rfl
  | cons n ls => simp [codesC, codesFrom_len]
theorem shift_eq {L l n v : Nat} (h1 : l ≤ n) (h2 : n ≤ L) : v * 2 ^ (n - l) * 2 ^ (L - n) = v * 2 ^ (L - l) := by
  rw [Nat.mul_assoc, ← Nat.pow_add, show n - l + (L - n) = L - l by omega]
theorem codesFrom_start {L : Nat} : ∀ (ls : List Nat) (l v : Nat), (l :: ls).Pairwise (· ≤ ·) → (∀ x ∈ ls, x ≤ L) → ∀ k (hk : k < ls.length), ((codesFrom l v ls)[k]'(by rw [codesFrom_len]; exact hk)) * 2 ^ (L - ls[k]) = (v + 1) * 2 ^ (L - l) + kraft (ls.take k) L
  | [], _, _, _, _, k, hk => absurd hk (by simp)
  | n :: ls, l, v, hp, hL, k, hk => by
    have hp' := List.pairwise_cons.1 hp
    have hln := hp'.1 n (List.mem_cons_self ..)
    have hnL := hL n (List.mem_cons_self ..)
    have hs := shift_eq (v := v + 1) hln hnL
    rcases k with _ | k
    · show (v + 1) * 2 ^ (n - l) * 2 ^ (L - n) = _
      rw [hs]; simp [kraft, sumOn]
    · have hk' : k < ls.length := by simpa using hk
      have ih := codesFrom_start ls n ((v + 1) * 2 ^ (n - l)) hp'.2 (fun x hx => hL x (List.mem_cons_of_mem _ hx)) k (by simpa using hk)
      show ((codesFrom n ((v + 1) * 2 ^ (n - l)) ls)[k]'_) * 2 ^ (L - ls[k]) = _
      rw [ih, Nat.add_mul, hs, List.take_succ_cons, kraft_cons]; omega
theorem codesC_start {L : Nat} {ls : List Nat} (hp : ls.Pairwise (· ≤ ·)) (hL : ∀ x ∈ ls, x ≤ L) (k : Nat) (hk : k < ls.length) : ((codesC ls)[k]'(by rw [codesC_len]; exact hk)) * 2 ^ (L - ls[k]) = startC L ls k := by
  cases ls with
  | nil => exact absurd hk (by simp)
  | cons n ls =>
    rcases k with _ | k
    · show 0 * 2 ^ (L - n) = kraft [] L
      rw [Nat.zero_mul]; rfl
    · have hk' : k < ls.length := by simpa using hk
      have := codesFrom_start ls n 0 hp (fun x hx => hL x (List.mem_cons_of_mem _ hx)) k (by simpa using hk)
      show ((codesFrom n 0 ls)[k]'_) * 2 ^ (L - ls[k]) = kraft ((n :: ls).take (k + 1)) L
      rw [this, List.take_succ_cons, kraft_cons]; omega
theorem kraft_take_le (ls : List Nat) (L : Nat) {i k : Nat} (h : i ≤ k) : kraft (ls.take i) L ≤ kraft (ls.take k) L := by
  have : ls.take k = ls.take i ++ (ls.drop i).take (k - i) := by
    conv => lhs; rw [show k = i + (k - i) by omega]
    rw [List.take_add]
  rw [this]
  unfold kraft
  unfold sumOn
  rw [List.map_append, List.sum_append]; omega
theorem start_next {L : Nat} (ls : List Nat) (k : Nat) (hk : k < ls.length) : startC L ls (k + 1) = startC L ls k + 2 ^ (L - ls[k]) := by
  unfold startC
  rw [List.take_succ_eq_append_getElem hk]
  unfold kraft sumOn
  rw [List.map_append, List.sum_append]; simp
/-- THE SHARES LIE APART. -/
theorem start_lt {L : Nat} {ls : List Nat} {i k : Nat} (hik : i < k) (hk : k ≤ ls.length) : startC L ls i + 2 ^ (L - (ls[i]'(by omega))) ≤ startC L ls k := by
  rw [← start_next ls i (by omega)]
  exact kraft_take_le ls L hik
/-- A WORD FITS ITS LENGTH. -/
theorem code_fits {L : Nat} {ls : List Nat} (hp : ls.Pairwise (· ≤ ·)) (hL : ∀ x ∈ ls, x ≤ L) (hk : kraft ls L ≤ 2 ^ L) (k : Nat) (h : k < ls.length) : ((codesC ls)[k]'(by rw [codesC_len]; exact h)) < 2 ^ ls[k] := by
  have h1 := codesC_start hp hL k h
  have h2 := start_lt (L := L) (ls := ls) (i := k) (k := ls.length) h (Nat.le_refl _)
  have h3 : startC L ls ls.length = kraft ls L := by unfold startC; rw [List.take_length]
  have h4 : 2 ^ ls[k] * 2 ^ (L - ls[k]) = 2 ^ L := by rw [← Nat.pow_add, show ls[k] + (L - ls[k]) = L by have := hL ls[k] (List.getElem_mem _); omega]
  have h5 := Nat.two_pow_pos (L - ls[k])
  refine Nat.lt_of_mul_lt_mul_right (a := 2 ^ (L - ls[k])) ?_
  rw [h1, h4]; omega
/-- NO WORD BEGINS ANOTHER: the words of i and k (of no smaller length), cut to i's length, are not one. -/
theorem code_apart {L : Nat} {ls : List Nat} (hp : ls.Pairwise (· ≤ ·)) (hL : ∀ x ∈ ls, x ≤ L) (i k : Nat) (hi : i < ls.length) (hk : k < ls.length) (hne : i ≠ k) (hle : ls[i] ≤ ls[k]) :
    ((codesC ls)[k]'(by rw [codesC_len]; exact hk)) / 2 ^ (ls[k] - ls[i]) ≠ ((codesC ls)[i]'(by rw [codesC_len]; exact hi)) := by
  have h1 := codesC_start hp hL i hi
  have h2 := codesC_start hp hL k hk
  have hkL := hL ls[k] (List.getElem_mem _)
  generalize hc : ((codesC ls)[k]'(by rw [codesC_len]; exact hk)) = ck at *
  generalize hd : ((codesC ls)[i]'(by rw [codesC_len]; exact hi)) = ci at *
  intro he
  have hpos := Nat.two_pow_pos (ls[k] - ls[i])
  have e1 : ci * 2 ^ (ls[k] - ls[i]) ≤ ck := by rw [← he]; exact Nat.div_mul_le_self ..
  have e2 : ck < (ci + 1) * 2 ^ (ls[k] - ls[i]) := by rw [← he, Nat.add_mul, Nat.one_mul]; exact Nat.lt_div_mul_add hpos
  have f1 := shift_eq (v := ci) hle hkL
  have f2 := shift_eq (v := ci + 1) hle hkL
  have g1 := Nat.mul_le_mul_right (2 ^ (L - ls[k])) e1
  have g2 := Nat.mul_lt_mul_of_pos_right e2 (Nat.two_pow_pos (L - ls[k]))
  rw [f1, h1, h2] at g1
  rw [f2, h2, Nat.add_mul, h1, Nat.one_mul] at g2
  rcases Nat.lt_or_ge i k with h | h
  · have := start_lt (L := L) (ls := ls) h (Nat.le_of_lt hk); omega
  · have h' : k < i := by omega
    have h3 := start_lt (L := L) (ls := ls) h' (Nat.le_of_lt hi)
    have := Nat.two_pow_pos (L - ls[k])
    omega
end Go.Proofs.Ythecibabpcfoaaa
