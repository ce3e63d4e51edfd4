/- parts, plain: reading on behind an error; what is read so far. -/
import Derived.Test.YtohbpjehphmedaaParP
import Derived.Test.YtohbpjehphmedaaRicQ
namespace Go.Proofs.Ytohbpjehphmedaa
open Go.RowKit
set_option maxRecDepth 100000

theorem shl_shr (x : Int) (c k : Nat) (h : c + (k + 1) = 64) : wrap64 (x * 2 ^ c) / 2 ^ c = (x + 2 ^ k) % 2 ^ (k + 1) - 2 ^ k := by
  have e1 : (9223372036854775808 : Int) = 2 ^ c * 2 ^ k := by rw [← Int.pow_add, show c + k = 63 by omega]; rfl
  have e2 : (18446744073709551616 : Int) = 2 ^ c * 2 ^ (k + 1) := by rw [← Int.pow_add, h]; rfl
  have h0 : (0 : Int) < 2 ^ c := Int.pow_pos (by omega)
  unfold wrap64
  rw [e2, e1, Int.mul_comm x, ← Int.mul_add, Int.mul_emod_mul_of_pos _ _ h0, ← Int.mul_sub, Int.mul_ediv_cancel_left _ (by omega)]
theorem sgnI_sgn {V w c : Nat} (hV : V < 2 ^ w) (h : w + c = 64) : sgnI V c = sgn w V := by
  by_cases hw : w = 0
  · subst hw
    have : V = 0 := by simpa using hV
    subst this
    rw [sgn_zero]; rfl
  · obtain ⟨k, rfl⟩ : ∃ k, w = k + 1 := ⟨w - 1, by omega⟩
    have hVc : V * 2 ^ c < 18446744073709551616 := by
      have := Nat.mul_lt_mul_of_pos_right hV (Nat.pow_pos (n := c) (show 0 < 2 by omega))
      rw [← Nat.pow_add, h] at this
      exact this
    have e : IntKind.u64.wrap ((V : Int) * 2 ^ c) = (V : Int) * 2 ^ c := by
      have : (V : Int) * 2 ^ c = ((V * 2 ^ c : Nat) : Int) := by rw [Int.natCast_mul, Int.natCast_pow]; rfl
      rw [this]; exact IntWalk.u64_in _ (by omega)
    unfold sgnI sgn
    rw [e, shl_shr _ c k (by omega), Nat.add_sub_cancel]
    have e2 : (2 : Int) ^ k = ((2 ^ k : Nat) : Int) := by simp
    have e3 : (2 : Int) ^ (k + 1) = ((2 * 2 ^ k : Nat) : Int) := by rw [Int.pow_succ, e2]; omega
    have e4 : 2 ^ (k + 1) = 2 * 2 ^ k := by rw [Nat.pow_succ]; omega
    rw [e2, e3, e4]
    rw [e4] at hV
    generalize 2 ^ k = p at *
    by_cases hlt : V < p
    · rw [if_pos (.inl hlt), Int.emod_eq_of_lt (by omega) (by omega)]; omega
    · rw [if_neg (by omega)]
      have : ((V : Int) + (p : Int)) % ((2 * p : Nat) : Int) = (V : Int) + p - ((2 * p : Nat) : Int) := by
        rw [← Int.sub_emod_right]; exact Int.emod_eq_of_lt (by omega) (by omega)
      rw [this]; omega
/-- What 'Signed' answers, where the bits suffice. -/
theorem gSigned_sgn {f : Nat → Bool} {len at_ b : Nat} (hb : b ≤ 31) (h : (gGet f len at_ 0 (b : Nat)).2.2 = 0) : gSigned f len at_ 0 (b : Nat) = sgn b (gGet f len at_ 0 (b : Nat)).1 := by
  unfold gSigned
  rw [if_pos h]
  have hlt : (gGet f len at_ 0 (b : Nat)).1 < 2 ^ b := by
    have h0 : 0 < 2 ^ b := Nat.pow_pos (by omega)
    unfold gGet
    rw [Int.toNat_natCast, if_pos rfl, if_neg (by omega)]
    split
    · exact h0
    · exact bnum_lt _ _ _
  exact sgnI_sgn hlt (by omega)

/-- s numbers in b bits each, without a look at the error. -/
def rawsE (f : Nat → Bool) (len b : Nat) : Nat → Nat → Int → List Int × Nat × Int
  | 0, at_, er => ([], at_, er)
  | s + 1, at_, er =>
    let r := gGet f len at_ er (b : Nat)
    let t := rawsE f len b s r.2.1 r.2.2
    (gSigned f len at_ er (b : Nat) :: t.1, t.2)
theorem rawsE_succ (f : Nat → Bool) (len b s at_ : Nat) (er : Int) : rawsE f len b (s + 1) at_ er = (gSigned f len at_ er (b : Nat) :: (rawsE f len b s (gGet f len at_ er (b : Nat)).2.1 (gGet f len at_ er (b : Nat)).2.2).1, (rawsE f len b s (gGet f len at_ er (b : Nat)).2.1 (gGet f len at_ er (b : Nat)).2.2).2) := rfl
theorem rawsE_len (f : Nat → Bool) (len b : Nat) : ∀ s at_ er, (rawsE f len b s at_ er).1.length = s
  | 0, _, _ => rfl
  | s + 1, at_, er => by rw [rawsE_succ, List.length_cons, rawsE_len f len b s]
theorem gGet_err {f : Nat → Bool} {len at_ : Nat} {er n : Int} (h : er ≠ 0) : gGet f len at_ er n = (0, at_, er) := by unfold gGet; rw [if_neg h]
theorem rawsE_err {f : Nat → Bool} {len b : Nat} : ∀ s at_ er, er ≠ 0 → (rawsE f len b s at_ er).2 = (at_, er)
  | 0, _, _, _ => rfl
  | s + 1, at_, er, h => by
    rw [rawsE_succ, gGet_err h]
    exact rawsE_err s at_ er h
/-- The error of both, and, where there is none, all of both. -/
theorem rawsE_raw {f : Nat → Bool} {len b : Nat} (hb : b ≤ 31) : ∀ s at_, (rawsE f len b s at_ 0).2.2 = (rRaw f len b s at_).2.2 ∧ ((rRaw f len b s at_).2.2 = 0 → rawsE f len b s at_ 0 = rRaw f len b s at_)
  | 0, at_ => ⟨rfl, fun _ => rfl⟩
  | s + 1, at_ => by
    rw [rawsE_succ, rRaw]
    by_cases h : (gGet f len at_ 0 (b : Nat)).2.2 = 0
    · obtain ⟨i1, i2⟩ := rawsE_raw (f := f) (len := len) hb s (gGet f len at_ 0 (b : Nat)).2.1
      simp only [h, if_true]
      by_cases h2 : (rRaw f len b s (gGet f len at_ 0 (b : Nat)).2.1).2.2 = 0
      · rw [if_pos h2, i2 h2, gSigned_sgn hb h]
        exact ⟨h2, fun _ => Prod.ext rfl (Prod.ext rfl h2)⟩
      · rw [if_neg h2]
        exact ⟨i1, fun h3 => absurd h3 h2⟩
    · simp only [if_neg h]
      rw [rawsE_err _ _ _ h]
      exact ⟨rfl, fun h3 => absurd h3 h⟩
theorem rRaw_no {f : Nat → Bool} {len b : Nat} : ∀ s at_, (rRaw f len b s at_).2.2 ≠ 0 → (rRaw f len b s at_).1 = [] ∧ (rRaw f len b s at_).2.1 = 0
  | 0, at_, h => by simp [rRaw] at h
  | s + 1, at_, h => by
    rw [rRaw] at h ⊢
    by_cases h1 : (gGet f len at_ 0 (b : Nat)).2.2 = 0
    · simp only [h1, if_true] at h ⊢
      by_cases h2 : (rRaw f len b s (gGet f len at_ 0 (b : Nat)).2.1).2.2 = 0
      · rw [if_pos h2] at h; simp at h
      · rw [if_neg h2]; exact ⟨rfl, rfl⟩
    · simp only [if_neg h1]
      exact ⟨trivial, trivial⟩
theorem rPart_no {f : Nat → Bool} {len at_ s : Nat} {k : Int} (h : (rPart f len at_ k s).2.2 ≠ 0) : (rPart f len at_ k s).1 = [] ∧ (rPart f len at_ k s).2.1 = 0 := by
  unfold rPart at h ⊢
  by_cases h1 : k = 31
  · simp only [if_pos h1] at h ⊢
    by_cases h2 : (gGet f len at_ 0 5).2.2 = 0
    · simp only [h2, if_true] at h ⊢
      by_cases h3 : (rRaw f len (gGet f len at_ 0 5).1 s (gGet f len at_ 0 5).2.1).2.2 = 0
      · simp only [if_pos h3] at h ⊢
        by_cases h4 : widN (rRaw f len (gGet f len at_ 0 5).1 s (gGet f len at_ 0 5).2.1).1 = (gGet f len at_ 0 5).1
        · rw [if_pos h4] at h; exact absurd h3 h
        · rw [if_neg h4]; exact ⟨rfl, rfl⟩
      · rw [if_neg h3]; exact ⟨rfl, rfl⟩
    · simp only [if_neg h2]; exact ⟨trivial, trivial⟩
  · simp only [if_neg h1] at h ⊢
    by_cases h2 : paramB k = true
    · rw [if_pos h2] at h ⊢; exact rGets_no f len k.toNat s at_ h
    · rw [if_neg h2]; exact ⟨rfl, rfl⟩
/-- What is read so far, and what follows. -/
def glue2 (ks l : List Int) (t : List Int × List Int × Nat × Int) : List Int × List Int × Nat × Int := if t.2.2.2 = 0 then (ks ++ t.1, l ++ t.2.1, t.2.2.1, 0) else ([], [], 0, t.2.2.2)
theorem rParts_no {f : Nat → Bool} {len : Nat} : ∀ ss at_, (rParts f len ss at_).2.2.2 ≠ 0 → rParts f len ss at_ = ([], [], 0, (rParts f len ss at_).2.2.2)
  | [], at_, h => by simp [rParts] at h
  | s :: ss, at_, h => by
    rw [rParts] at h ⊢
    by_cases h1 : (gGet f len at_ 0 5).2.2 = 0
    · simp only [h1, if_true] at h ⊢
      by_cases h2 : (rPart f len (gGet f len at_ 0 5).2.1 ((gGet f len at_ 0 5).1 : Nat) s).2.2 = 0
      · simp only [h2, if_true] at h ⊢
        by_cases h3 : (rParts f len ss (rPart f len (gGet f len at_ 0 5).2.1 ((gGet f len at_ 0 5).1 : Nat) s).2.1).2.2.2 = 0
        · rw [if_pos h3] at h; simp at h
        · rw [if_neg h3]
      · simp only [if_neg h2]
    · simp only [if_neg h1]
theorem glue2_nil (t : List Int × List Int × Nat × Int) (h : t.2.2.2 ≠ 0 → t = ([], [], 0, t.2.2.2)) : glue2 [] [] t = t := by
  unfold glue2
  by_cases h0 : t.2.2.2 = 0
  · rw [if_pos h0, List.nil_append, List.nil_append, ← h0]
  · rw [if_neg h0]; exact (h h0).symm
theorem glue2_glue2 (a b c d : List Int) (t : List Int × List Int × Nat × Int) : glue2 a b (glue2 c d t) = glue2 (a ++ c) (b ++ d) t := by
  unfold glue2
  by_cases h : t.2.2.2 = 0
  · simp [h]
  · simp [h]
theorem rParts_cons (f : Nat → Bool) (len s : Nat) (ss : List Nat) (at_ : Nat) : rParts f len (s :: ss) at_ =
    if (gGet f len at_ 0 5).2.2 = 0 then
      (if (rPart f len (gGet f len at_ 0 5).2.1 ((gGet f len at_ 0 5).1 : Nat) s).2.2 = 0 then glue2 [((gGet f len at_ 0 5).1 : Int)] (rPart f len (gGet f len at_ 0 5).2.1 ((gGet f len at_ 0 5).1 : Nat) s).1 (rParts f len ss (rPart f len (gGet f len at_ 0 5).2.1 ((gGet f len at_ 0 5).1 : Nat) s).2.1)
       else ([], [], 0, (rPart f len (gGet f len at_ 0 5).2.1 ((gGet f len at_ 0 5).1 : Nat) s).2.2))
    else ([], [], 0, (gGet f len at_ 0 5).2.2) := rfl
/-- One part and its K. -/
def kPart (f : Nat → Bool) (len at_ s : Nat) : Int × List Int × Nat × Int :=
  if (gGet f len at_ 0 5).2.2 = 0 then
    (((gGet f len at_ 0 5).1 : Int), rPart f len (gGet f len at_ 0 5).2.1 ((gGet f len at_ 0 5).1 : Nat) s)
  else (0, [], 0, (gGet f len at_ 0 5).2.2)
theorem rParts_k (f : Nat → Bool) (len s : Nat) (ss : List Nat) (at_ : Nat) : rParts f len (s :: ss) at_ =
    if (kPart f len at_ s).2.2.2 = 0 then glue2 [(kPart f len at_ s).1] (kPart f len at_ s).2.1 (rParts f len ss (kPart f len at_ s).2.2.1) else ([], [], 0, (kPart f len at_ s).2.2.2) := by
  rw [rParts_cons]
  unfold kPart
  by_cases h : (gGet f len at_ 0 5).2.2 = 0
  · simp only [if_pos h]
  · simp only [if_neg h]
theorem rRaw_len {f : Nat → Bool} {len b : Nat} : ∀ s at_, (rRaw f len b s at_).1.length ≤ s
  | 0, _ => by simp [rRaw]
  | s + 1, at_ => by
    rw [rRaw]
    by_cases h1 : (gGet f len at_ 0 (b : Nat)).2.2 = 0
    · simp only [h1, if_true]
      have ih := rRaw_len (f := f) (len := len) (b := b) s (gGet f len at_ 0 (b : Nat)).2.1
      split
      · simp only [List.length_cons]; omega
      · simp
    · simp only [if_neg h1]; simp
theorem rGets_le (f : Nat → Bool) (len k : Nat) : ∀ n at_, (rGets f len k n at_).1.length ≤ n
  | 0, at_ => by simp [rGets]
  | n + 1, at_ => by
    rw [rGets_succ]
    split
    · have := rGets_le f len k n (rGet1 f len k at_).2.1
      unfold glue
      split
      · simp; omega
      · simp
    · simp
theorem rPart_len {f : Nat → Bool} {len at_ s : Nat} {k : Int} : (rPart f len at_ k s).1.length ≤ s := by
  unfold rPart
  by_cases h1 : k = 31
  · simp only [if_pos h1]
    have ih := rRaw_len (f := f) (len := len) (b := (gGet f len at_ 0 5).1) s (gGet f len at_ 0 5).2.1
    split
    · split
      · split
        · exact ih
        · simp
      · simp
    · simp
  · simp only [if_neg h1]
    split
    · exact rGets_le f len k.toNat s at_
    · simp
theorem kPart_len {f : Nat → Bool} {len at_ s : Nat} : (kPart f len at_ s).2.1.length ≤ s := by
  unfold kPart
  split
  · exact rPart_len
  · simp
end Go.Proofs.Ytohbpjehphmedaa
