/- rice, plain: folded numbers, costs, codes as bits, what is read. -/
import Derived.Test.YtohbpjehphmedaaInt
import Derived.Test.YtohbpjehphmedaaBitP
import Derived.Test.YtohbpjehphmedaaOct
namespace Go.Proofs.Ytohbpjehphmedaa
open Go.RowKit
set_option maxRecDepth 100000

def foldN (x : Int) : Nat := if wideB x = true then zigI x else 0
def unfoldI (u : Nat) : Int := if u < 2147483648 then zagI u else 0
def paramB (k : Int) : Bool := decide (0 ≤ k) && decide (k ≤ 25)
theorem paramB_iff {k : Int} : paramB k = true ↔ 0 ≤ k ∧ k ≤ 25 := by simp [paramB]
theorem foldN_lt (x : Int) : foldN x < 2147483648 := by
  unfold foldN
  split
  · rename_i h
    rw [wide_iff] at h
    unfold zigI; split <;> omega
  · omega
theorem unfold_fold {x : Int} (h : wideB x = true) : unfoldI (foldN x) = x := by
  unfold unfoldI
  rw [if_pos (foldN_lt x)]
  unfold foldN
  rw [if_pos h]
  rw [wide_iff] at h
  unfold zigI zagI
  split <;> split <;> omega
theorem fold_unfold {u : Nat} (h : u < 2147483648) : foldN (unfoldI u) = u ∧ wideB (unfoldI u) = true := by
  unfold unfoldI
  rw [if_pos h]
  have hw : wideB (zagI u) = true := by
    rw [wide_iff]; unfold zagI; split <;> omega
  refine ⟨?_, hw⟩
  unfold foldN
  rw [if_pos hw]
  unfold zigI zagI
  split <;> split <;> omega
theorem foldN_inj {a b : Int} (ha : wideB a = true) (hb : wideB b = true) (h : foldN a = foldN b) : a = b := by
  rw [← unfold_fold ha, h, unfold_fold hb]
/-- What the code of u by k takes. -/
def codeN (k u : Nat) : Nat := if u / 2 ^ k < 32 then u / 2 ^ k + 1 + k else 65
def costI (k x : Int) : Nat := if paramB k = true ∧ wideB x = true then codeN k.toNat (foldN x) else 0
def sumI (k : Int) (l : List Int) : Nat := (l.map (costI k)).sum
theorem codeN_le {k u : Nat} (hk : k ≤ 25) : 1 ≤ codeN k u ∧ codeN k u ≤ 65 := by
  unfold codeN; generalize u / 2 ^ k = q; split <;> omega
theorem costI_le (k x : Int) : costI k x ≤ 65 := by
  unfold costI
  split
  · rename_i h
    have := paramB_iff.1 h.1
    exact (codeN_le (by omega)).2
  · omega
theorem sumI_le (k : Int) (l : List Int) : sumI k l ≤ 65 * l.length := by
  unfold sumI
  induction l with
  | nil => simp
  | cons x l ih => have := costI_le k x; rw [List.map_cons, List.sum_cons, List.length_cons]; omega
theorem sumI_app (k : Int) (a b : List Int) : sumI k (a ++ b) = sumI k a + sumI k b := by simp [sumI]
theorem codeN_mono {k u v : Nat} (h : u ≤ v) (hk : k ≤ 25) : codeN k u ≤ codeN k v := by
  unfold codeN
  have := Nat.div_le_div_right (c := 2 ^ k) h
  generalize u / 2 ^ k = p at *
  generalize v / 2 ^ k = q at *
  split <;> split <;> omega
/-- The best parameter: the least sum, the smallest of them. -/
def bestFrom (l : List Int) : Nat → Nat
  | 0 => 0
  | k + 1 => if sumI ((k + 1 : Nat) : Int) l < sumI ((bestFrom l k : Nat) : Int) l then k + 1 else bestFrom l k
def bestN (l : List Int) : Nat := bestFrom l 25
theorem bestFrom_le (l : List Int) : ∀ k, bestFrom l k ≤ k
  | 0 => Nat.le_refl _
  | k + 1 => by
    rw [bestFrom]
    split
    · omega
    · have := bestFrom_le l k; omega
theorem bestFrom_least (l : List Int) : ∀ k j, j ≤ k → sumI ((bestFrom l k : Nat) : Int) l ≤ sumI (j : Int) l ∧ (j < bestFrom l k → sumI ((bestFrom l k : Nat) : Int) l < sumI (j : Int) l)
  | 0, j, h => by
    obtain rfl : j = 0 := by omega
    exact ⟨Nat.le_refl _, fun h => by simp [bestFrom] at h⟩
  | k + 1, j, h => by
    rw [bestFrom]
    have ih := bestFrom_least l k
    split
    · rename_i hlt
      by_cases hj : j = k + 1
      · subst hj; exact ⟨Nat.le_refl _, fun h => absurd h (Nat.lt_irrefl _)⟩
      · have h1 := (ih j (by omega)).1
        exact ⟨by omega, fun _ => by omega⟩
    · rename_i hlt
      by_cases hj : j = k + 1
      · subst hj
        have := bestFrom_le l k
        exact ⟨by omega, fun h => by omega⟩
      · exact ih j (by omega)
/-- The least sum's smallest parameter is one. -/
theorem best_uniq {l : List Int} {b c : Nat} (hb : b ≤ 25) (hc : c ≤ 25) (h1 : ∀ j : Nat, j ≤ 25 → sumI (b : Int) l ≤ sumI (j : Int) l ∧ (j < b → sumI (b : Int) l < sumI (j : Int) l))
    (h2 : ∀ j : Nat, j ≤ 25 → sumI (c : Int) l ≤ sumI (j : Int) l ∧ (j < c → sumI (c : Int) l < sumI (j : Int) l)) : b = c := by
  rcases Nat.lt_trichotomy b c with h | h | h
  · have := (h2 b hb).2 h
    have := (h1 c hc).1
    omega
  · exact h
  · have := (h1 c hc).2 h
    have := (h2 b hb).1
    omega

/-- The code of u by k. -/
def code (k u : Nat) : List Bool := if u / 2 ^ k < 32 then msb 1 (u / 2 ^ k + 1) ++ msb u k else msb 1 33 ++ msb u 32
theorem code_len (k u : Nat) : (code k u).length = codeN k u := by
  unfold code codeN
  split <;> simp [msb_len]
def codes (k : Nat) (l : List Int) : List Bool := l.flatMap fun x => code k (foldN x)
theorem codes_app (k : Nat) (a b : List Int) : codes k (a ++ b) = codes k a ++ codes k b := by simp [codes]
theorem codes_len {k : Nat} (hk : k ≤ 25) (l : List Int) (hw : ∀ x ∈ l, wideB x = true) : (codes k l).length = sumI (k : Int) l := by
  have hp : paramB (k : Int) = true := by rw [paramB_iff]; omega
  unfold codes sumI
  induction l with
  | nil => rfl
  | cons x l ih =>
    rw [List.flatMap_cons, List.length_append, List.map_cons, List.sum_cons, ih fun y hy => hw y (by simp [hy]), code_len]
    unfold costI
    rw [if_pos ⟨hp, hw x (by simp)⟩, Int.toNat_natCast]
/-- One code that is read: the number, how far, the error. -/
def rGet1 (f : Nat → Bool) (len k at_ : Nat) : Nat × Nat × Int :=
  let r := gUnary f len at_ 0 32
  if r.2.2 = 0 then
    (if r.1 < 32 then
      (let g := gGet f len r.2.1 0 k
       if g.2.2 = 0 then (r.1 * 2 ^ k + g.1, g.2.1, 0) else (0, 0, g.2.2))
     else
      (let g := gGet f len r.2.1 0 32
       if g.2.2 = 0 then (if 2147483648 ≤ g.1 ∨ g.1 / 2 ^ k < 32 then (0, 0, 2) else (g.1, g.2.1, 0)) else (0, 0, g.2.2)))
  else (0, 0, r.2.2)
/-- n codes. -/
def rGets (f : Nat → Bool) (len k : Nat) : Nat → Nat → List Int × Nat × Int
  | 0, at_ => ([], at_, 0)
  | n + 1, at_ =>
    let r := rGet1 f len k at_
    if r.2.2 = 0 then (let t := rGets f len k n r.2.1; if t.2.2 = 0 then (unfoldI r.1 :: t.1, t.2.1, 0) else ([], 0, t.2.2)) else ([], 0, r.2.2)

/-- A unary number that stands at p. -/
theorem unary_at {f : Nat → Bool} {len p q m : Nat} (h : ∀ i, i < q + 1 → f (p + i) = gb (msb 1 (q + 1)) i) (hl : p + q + 1 ≤ len) (hm : q ≤ m) : gUnary f len p 0 (m : Int) = (q, p + q + 1, 0) := by
  have h1 : ∀ j, 0 ≤ j → j < q → f (p + j) = false := fun j _ hj => by
    rw [h j (by omega), gb_msb, show q + 1 - 1 - j = (q - j - 1) + 1 by omega, Nat.testBit_succ]
    simp
  have h2 : f (p + q) = true := by
    rw [h q (by omega), gb_msb, show q + 1 - 1 - q = 0 by omega]
    simp
  unfold gUnary
  rw [Int.toNat_natCast, zer_at (len - p) 0 (by omega) (by omega) (by omega) h1 h2, if_pos hm]
  simp
theorem get_at {f : Nat → Bool} {len p n v : Nat} (h : ∀ i, i < n → f (p + i) = gb (msb v n) i) (hl : p + n ≤ len) (hn : n ≤ 64) : gGet f len p 0 (n : Int) = (v % 2 ^ n, p + n, 0) := by
  have h1 : bnum f p n = v % 2 ^ n := bnum_msb fun i hi => by rw [h i hi, gb_msb, decide_eq_true hi, Bool.true_and]
  unfold gGet
  rw [if_pos rfl, if_neg (by omega), Int.toNat_natCast, if_neg (by omega), h1]
/-- A code that stands at p is read. -/
theorem code_at {f : Nat → Bool} {len p k u : Nat} (hk : k ≤ 25) (hu : u < 2147483648) (h : ∀ i, i < codeN k u → f (p + i) = gb (code k u) i) (hl : p + codeN k u ≤ len) : rGet1 f len k p = (u, p + codeN k u, 0) := by
  unfold rGet1
  unfold code codeN at *
  by_cases hq : u / 2 ^ k < 32
  · rw [if_pos hq] at h hl ⊢
    have h1 : gUnary f len p 0 (32 : Nat) = (u / 2 ^ k, p + u / 2 ^ k + 1, 0) := unary_at (fun i hi => by
      rw [h i (by omega), if_pos hq, gb_app, msb_len, if_pos hi]) (by omega) (by omega)
    have h2 : gGet f len (p + u / 2 ^ k + 1) 0 (k : Int) = (u % 2 ^ k, p + u / 2 ^ k + 1 + k, 0) := get_at (fun i hi => by
      rw [show p + u / 2 ^ k + 1 + i = p + (u / 2 ^ k + 1 + i) by omega, h _ (by omega), if_pos hq, gb_app, msb_len, if_neg (by omega), show u / 2 ^ k + 1 + i - (u / 2 ^ k + 1) = i by omega]) (by omega) (by omega)
    rw [show (32 : Int) = ((32 : Nat) : Int) from rfl, h1]
    simp only [if_true, hq]
    rw [h2]
    simp only [if_true]
    have := Nat.div_add_mod u (2 ^ k)
    rw [Nat.mul_comm] at this
    rw [this]
    congr 2; omega
  · rw [if_neg hq] at h hl ⊢
    have h1 : gUnary f len p 0 (32 : Nat) = (32, p + 32 + 1, 0) := unary_at (fun i hi => by
      rw [h i (by omega), if_neg hq, gb_app, msb_len, if_pos hi]) (by omega) (by omega)
    have h2 : gGet f len (p + 32 + 1) 0 (32 : Nat) = (u % 2 ^ 32, p + 32 + 1 + 32, 0) := get_at (fun i hi => by
      rw [show p + 32 + 1 + i = p + (33 + i) by omega, h _ (by omega), if_neg hq, gb_app, msb_len, if_neg (by omega), show 33 + i - 33 = i by omega]) (by omega) (by omega)
    have h3 : u % 2 ^ 32 = u := Nat.mod_eq_of_lt (by omega)
    rw [h3] at h2
    rw [show (32 : Int) = ((32 : Nat) : Int) from rfl, h1]
    simp only [if_true, Nat.lt_irrefl, if_false]
    rw [h2]
    simp only [if_true]
    rw [if_neg (by omega)]
/-- What was put is got. -/
theorem codes_at {f : Nat → Bool} {len k : Nat} (hk : k ≤ 25) : ∀ (l : List Int) (p : Nat), (∀ x ∈ l, wideB x = true) → (∀ i, i < (codes k l).length → f (p + i) = gb (codes k l) i) → p + (codes k l).length ≤ len → rGets f len k l.length p = (l, p + (codes k l).length, 0)
  | [], p, _, _, _ => by simp [rGets, codes]
  | x :: l, p, hw, h, hl => by
    have hc : codes k (x :: l) = code k (foldN x) ++ codes k l := by simp [codes]
    rw [hc, List.length_append, code_len] at h hl
    have h1 : rGet1 f len k p = (foldN x, p + codeN k (foldN x), 0) := code_at hk (foldN_lt x) (fun i hi => by
      rw [h i (by omega), gb_app, code_len, if_pos hi]) (by omega)
    have h2 : rGets f len k l.length (p + codeN k (foldN x)) = (l, p + codeN k (foldN x) + (codes k l).length, 0) := codes_at hk l (p + codeN k (foldN x)) (fun y hy => hw y (by simp [hy])) (fun i hi => by
      rw [show p + codeN k (foldN x) + i = p + (codeN k (foldN x) + i) by omega, h _ (by omega), gb_app, code_len, if_neg (by omega), show codeN k (foldN x) + i - codeN k (foldN x) = i by omega]) (by omega)
    rw [List.length_cons, rGets, h1]
    simp only [if_true]
    rw [h2]
    simp only [if_true]
    rw [unfold_fold (hw x (by simp)), hc, List.length_append, code_len, Nat.add_assoc]
/-- Nearer to 0, and no costlier. -/
theorem rises {k : Int} {a b : Int} (hk : paramB k = true) (ha : wideB a = true) (hb : wideB b = true) (h : foldN a ≤ foldN b) : costI k a ≤ costI k b := by
  have := paramB_iff.1 hk
  unfold costI
  rw [if_pos ⟨hk, ha⟩, if_pos ⟨hk, hb⟩]
  exact codeN_mono h (by omega)
theorem nearer {a b : Int} (ha : wideB a = true) (hb : wideB b = true) (h : max a (-1 - a) < max b (-1 - b)) : foldN a < foldN b := by
  unfold foldN
  rw [if_pos ha, if_pos hb]
  unfold zigI
  split <;> split <;> omega
end Go.Proofs.Ytohbpjehphmedaa
