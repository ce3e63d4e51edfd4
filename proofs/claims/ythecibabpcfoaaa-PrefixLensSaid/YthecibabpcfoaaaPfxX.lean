/- prefix: Lengths, where two symbols or more are used. -/
import Derived.Test.YthecibabpcfoaaaPfxW
import Derived.Test.YthecibabpcfoaaaPfxV
namespace Go.Proofs.Ythecibabpcfoaaa
open Go.RowKit Go.Shelf
set_option maxRecDepth 100000
set_option maxHeartbeats 4000000
attribute [local go_sem] Oper.semAt_some

/-- How many are taken of the row after k rounds. -/
def takE (c : List Thing) (n K : Nat) : Nat → Nat
  | 0 => K
  | k + 1 => 2 * (takE c n K k - coinsIn c (n - k) (takE c n K k))
theorem takE_le (c : List Thing) (n K : Nat) (hK : K ≤ (rowsM c n).length) : ∀ k, k ≤ n → takE c n K k ≤ (rowsM c (n - k)).length
  | 0, _ => hK
  | k + 1, h => by
    have ih := takE_le c n K hK k (by omega)
    have e : n - k = (n - (k + 1)) + 1 := by omega
    rw [e] at ih
    have := (rest_le c (n - (k + 1)) ih).1
    rw [← e] at this
    exact this
theorem takE_shift (c : List Thing) (n K : Nat) : ∀ k, takE c (n + 1) K (k + 1) = takE c n (2 * (K - coinsIn c (n + 1) K)) k
  | 0 => rfl
  | k + 1 => by
    have ih := takE_shift c n K k
    show 2 * (takE c (n + 1) K (k + 1) - coinsIn c (n + 1 - (k + 1)) (takE c (n + 1) K (k + 1))) = _
    rw [ih, show n + 1 - (k + 1) = n - k by omega]
    rfl
theorem msE_is (c : List Thing) : ∀ n K, msE c n K = (List.range (n + 1)).map fun k => coinsIn c (n - k) (takE c n K k)
  | 0, K => rfl
  | n + 1, K => by
    rw [msE, msE_is c n]
    conv => rhs; rw [List.range_succ_eq_map, List.map_cons, List.map_map]
    congr 1
    refine List.map_congr_left fun k _ => ?_
    show _ = coinsIn c (n + 1 - (k + 1)) (takE c (n + 1) K (k + 1))
    rw [takE_shift, show n + 1 - (k + 1) = n - k by omega]
/-- What the lengths hold behind k rounds. -/
structure LenAt (ss : List Nat) (ms : List Nat) (n : Nat) (k : Nat) (R : List Nat) : Prop where
  len : R.length = n
  at_ : ∀ i, i < ss.length → atN R (atN ss i) = lenM (ms.take k) i
  none : ∀ s, s ∉ ss → atN R s = 0
/-- .. within a round: the coins up to the q-th are counted. -/
structure LenIn (ss : List Nat) (ms : List Nat) (n : Nat) (k q : Nat) (R : List Nat) : Prop where
  len : R.length = n
  at_ : ∀ i, i < ss.length → atN R (atN ss i) = lenM (ms.take k) i + if i < q then 1 else 0
  none : ∀ s, s ∉ ss → atN R s = 0
theorem LenAt.into {ss ms : List Nat} {n k : Nat} {R : List Nat} (h : LenAt ss ms n k R) : LenIn ss ms n k 0 R := ⟨h.len, fun i hi => by rw [h.at_ i hi]; simp, h.none⟩
theorem lenM_app (a b : List Nat) (i : Nat) : lenM (a ++ b) i = lenM a i + lenM b i := by unfold lenM; rw [List.countP_append]
theorem LenIn.out {ss ms : List Nat} {n k q : Nat} {R : List Nat} (h : LenIn ss ms n k q R) (hk : k < ms.length) (hq : ms[k] = q) : LenAt ss ms n (k + 1) R :=
  ⟨h.len, fun i hi => by
    rw [h.at_ i hi, List.take_succ_eq_append_getElem hk, lenM_app, hq]
    congr 1
    unfold lenM
    by_cases hiq : i < q <;> simp [hiq], h.none⟩
theorem LenIn.count {ss ms : List Nat} {n k q : Nat} {R : List Nat} (h : LenIn ss ms n k q R) (hn : ss.Nodup) (hq : q < ss.length) (hs : ∀ s ∈ ss, s < n) : LenIn ss ms n k (q + 1) (R.set (atN ss q) (atN R (atN ss q) + 1)) := by
  have hql : atN ss q < R.length := by rw [h.len, atN_get hq]; exact hs _ (List.getElem_mem hq)
  refine ⟨by rw [List.length_set]; exact h.len, fun i hi => ?_, fun s hx => ?_⟩
  · rw [atN_set hql]
    by_cases e : atN ss i = atN ss q
    · have hiq : i = q := by
        rw [atN_get hi, atN_get hq] at e
        rcases Nat.lt_trichotomy i q with h1 | h1 | h1
        · exact absurd e (List.pairwise_iff_getElem.1 hn i q hi hq h1)
        · exact h1
        · exact absurd e.symm (List.pairwise_iff_getElem.1 hn q i hq hi h1)
      subst hiq
      rw [if_pos rfl, h.at_ i hi]
      simp
    · rw [if_neg e, h.at_ i hi]
      have hiq : i ≠ q := fun e' => e (by rw [e'])
      congr 1
      by_cases h1 : i < q
      · rw [if_pos h1, if_pos (by omega)]
      · rw [if_neg h1, if_neg (by omega)]
  · rw [atN_set hql, if_neg (fun e => hx (by rw [e, atN_get hq]; exact List.getElem_mem hq))]
    exact h.none s hx
theorem LenAt.start (ss ms : List Nat) (n : Nat) : LenAt ss ms n 0 (List.replicate n 0) := ⟨by simp, fun i _ => by rw [atN_rep]; simp [lenM], fun s _ => atN_rep n s⟩
theorem LenAt.done {fs ss ms : List Nat} {L k : Nat} {R : List Nat} (h : LenAt ss ms fs.length k R) (hk : ms.length = k) (hms : ms = msE (coinsF (atN fs) ss) (L - 1) (2 * ss.length - 2)) (hn : ss.Nodup) (h2 : 2 ≤ ss.length) (hL : 1 ≤ L) (hu : ss.length ≤ 2 ^ L) : R = lensN fs ss L := by
  refine List.ext_getElem (by rw [h.len, lensN_len]) fun s h1 h3 => ?_
  rw [← atN_get h1, ← atN_get h3, lensN_at (by rw [← h.len]; exact h1), if_neg (by omega)]
  by_cases hs : s ∈ ss
  · obtain ⟨i, hi, rfl⟩ := List.getElem_of_mem hs
    rw [mergeO_ms hn h2 hL hu hi]
    have := h.at_ i hi
    rw [atN_get hi, List.take_of_length_le (by omega)] at this
    rw [this, hms]
  · rw [h.none s hs]
    unfold mergeO
    rw [(msE_flat (coinsF (atN fs) ss) _ _ (msE_bound hL hu)).count_eq, count_other _ hs]
end Go.Proofs.Ythecibabpcfoaaa
