/- sample: Down, Up; the reference's. -/
import Derived.Test.YtggddckckfilgaaSmpW
import Derived.Deep.RegionWith
namespace Go.Proofs.Ytggddckckfilgaa
open Go.RowKit
set_option maxRecDepth 100000
set_option maxHeartbeats 400000

theorem IsZ.ex (A : Int) : ∃ k, IsZ A k := by
  by_cases h0 : A = 0
  · exact ⟨0, by rw [h0]; exact IsZ.zero⟩
  · have : ∀ m : Nat, ∃ n, n ≤ m ∧ A % ((2 ^ n : Nat) : Int) = 0 ∧ (n < m → A % ((2 ^ (n + 1) : Nat) : Int) ≠ 0) := by
      intro m
      induction m with
      | zero => exact ⟨0, by omega, by simp, by omega⟩
      | succ m ih =>
        obtain ⟨n, h1, h2, h3⟩ := ih
        by_cases hn : n < m
        · exact ⟨n, by omega, h2, fun _ => h3 hn⟩
        · obtain rfl : n = m := by omega
          by_cases hz : A % ((2 ^ (n + 1) : Nat) : Int) = 0
          · exact ⟨n + 1, by omega, hz, by omega⟩
          · exact ⟨n, by omega, h2, fun _ => hz⟩
    obtain ⟨n, h1, h2, h3⟩ := this 30
    exact ⟨n, h1, fun h => absurd h h0, fun _ => ⟨h2, h3⟩⟩
theorem MidW.ex {l : List Int} {x : Int} : ∀ (f w : Nat), MidW l x w → 32 - w ≤ f → ∃ k, IsW (l ++ [x]) k
  | 0, w, h, hf => ⟨w, h.done (.inr (.inl (by omega)))⟩
  | f + 1, w, h, hf => by
    rcases Classical.em (okW x w) with hk | hk
    · exact ⟨w, h.done hk⟩
    · have h31 : w ≤ 31 := by
        rcases Nat.lt_or_ge 31 w with h1 | h1
        · exact absurd (.inr (.inl h1)) hk
        · exact h1
      exact MidW.ex f (w + 1) (h.more hk) (by omega)
theorem IsW.ex (l : List Int) : ∃ k, IsW l k := by
  have : ∀ n, n ≤ l.length → ∃ k, IsW (l.take n) k := by
    intro n
    induction n with
    | zero => intro _; exact ⟨0, IsW.nil⟩
    | succ n ih =>
      intro hn
      obtain ⟨k, hk⟩ := ih (by omega)
      rw [List.take_succ_eq_append_getElem (by omega)]
      exact MidW.ex 32 k (hk.mid _) (by omega)
  simpa using this l.length (Nat.le_refl _)
def dOk (p : Int) (x : Int) : Bool := wideB x && x % p == 0
def uOk (p : Int) (x : Int) : Bool := wideB x && wideB (x * p)
def downR (l : List Int) (n : Int) : List Int × Int :=
  if shiftB n = true then (if l.all (dOk ((2 : Int) ^ n.toNat)) = true then (l.map (· / ((2 : Int) ^ n.toNat)), 0) else ([], 6)) else ([], 1)
def upR (l : List Int) (n : Int) : List Int × Int :=
  if shiftB n = true then (if l.all (uOk ((2 : Int) ^ n.toNat)) = true then (l.map (· * ((2 : Int) ^ n.toNat)), 0) else ([], 6)) else ([], 1)
theorem wide_mul {x : Int} {k : Nat} (hx : wideB x = true) (hk : k ≤ 30) : -9223372036854775808 ≤ x * ((2 ^ k : Nat) : Int) ∧ x * ((2 ^ k : Nat) : Int) ≤ 9223372036854775807 := by
  rw [wide_iff] at hx
  have hp : 2 ^ k ≤ 1073741824 := Nat.pow_le_pow_right (n := 2) (by omega) hk
  have h0 : 0 < 2 ^ k := Nat.two_pow_pos k
  generalize 2 ^ k = p at hp h0
  have h1 : x * (p : Int) ≤ 1073741824 * p := Int.mul_le_mul_of_nonneg_right (by omega) (by omega)
  have h2 : -1073741824 * (p : Int) ≤ x * p := Int.mul_le_mul_of_nonneg_right (by omega) (by omega)
  omega

theorem dback {x : Int} {k : Nat} (hw : wideB x = true) (hd : x % (2 : Int) ^ k = 0) : (wrap64 (x / 2 ^ k * 2 ^ k) != x) = false := by
  rw [Int.ediv_mul_cancel (Int.dvd_of_emod_eq_zero hd)]
  rw [wide_iff] at hw
  rw [wrap_in (by omega) (by omega)]; simp
theorem dnot {x : Int} {k : Nat} (hw : wideB x = true) (hk : k ≤ 30) (hd : ¬ x % (2 : Int) ^ k = 0) : (wrap64 (x / 2 ^ k * 2 ^ k) != x) = true := by
  rw [wide_iff] at hw
  have hp : 2 ^ k ≤ 1073741824 := Nat.pow_le_pow_right (n := 2) (by omega) hk
  have h0 : 0 < 2 ^ k := Nat.two_pow_pos k
  rw [← pow_cast] at hd ⊢
  generalize 2 ^ k = p at *
  have h1 := Int.emod_nonneg x (b := (p : Int)) (by omega)
  have h2 := Int.emod_lt_of_pos x (b := (p : Int)) (by omega)
  have h3 := Int.mul_ediv_add_emod x p
  rw [Int.mul_comm] at h3
  generalize x / (p : Int) * (p : Int) = z at *
  rw [wrap_in (by omega) (by omega)]
  simp only [bne_iff_ne, ne_eq]; omega
theorem dOk_all {l : List Int} {k m : Nat} (hz : IsZ (orAll l) k) (hm : m ≤ 30) : l.all (dOk ((2 : Int) ^ m)) = (l.all wideB && !(decide (k < m) && !(l.all (· == 0)))) := by
  cases hw : l.all wideB
  · rw [Bool.false_and]
    obtain ⟨x, hx, hn⟩ := List.all_eq_false.1 hw
    refine List.all_eq_false.2 ⟨x, hx, ?_⟩
    unfold dOk
    simp only [Bool.not_eq_true] at hn
    rw [hn]; simp
  · have hl : i64s l := fun x hx => by
      have := wide_iff.1 (List.all_eq_true.1 hw x hx)
      omega
    have h := hz.lt hl hm
    rw [Bool.true_and, Bool.eq_iff_iff]
    have h1 : l.all (dOk ((2 : Int) ^ m)) = true ↔ ∀ x ∈ l, x % ((2 ^ m : Nat) : Int) = 0 := by
      rw [List.all_eq_true]
      constructor
      · intro h x hx
        have := h x hx
        unfold dOk at this
        rw [pow_cast]
        simpa using (Bool.and_eq_true_iff.1 this).2
      · intro h x hx
        have h2 := h x hx
        rw [pow_cast] at h2
        unfold dOk
        rw [List.all_eq_true.1 hw x hx, h2]; rfl
    have h2 : l.all (· == 0) = true ↔ ∀ x ∈ l, x = 0 := by simp
    rw [h1]
    constructor
    · intro ha
      by_cases hc : k < m ∧ ¬ ∀ x ∈ l, x = 0
      · exact absurd ha (h.1 hc)
      · simp only [Bool.not_eq_true', Bool.and_eq_false_iff, decide_eq_false_iff_not, Bool.not_eq_false']
        by_cases hkm : k < m
        · right; exact h2.2 (Classical.byContradiction fun hne => hc ⟨hkm, hne⟩)
        · left; exact hkm
    · intro hb
      refine Classical.byContradiction fun hne => ?_
      obtain ⟨h3, h4⟩ := h.2 hne
      simp only [Bool.not_eq_true', Bool.and_eq_false_iff, decide_eq_false_iff_not, Bool.not_eq_false'] at hb
      rcases hb with hb | hb
      · exact hb h3
      · exact h4 (h2.1 hb)

end Go.Proofs.Ytggddckckfilgaa
