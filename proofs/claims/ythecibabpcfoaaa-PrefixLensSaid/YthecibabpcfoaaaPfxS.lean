/- prefix, plain: package-merge by symbols: lengths of symbols, what they cost, that nothing costs less, that a more frequent one has no longer word. -/
import Derived.Test.YthecibabpcfoaaaPfxL
namespace Go.Proofs.Ythecibabpcfoaaa
set_option maxRecDepth 100000

def coinsF (F : Nat → Nat) (ss : List Nat) : List Thing := ss.map (fun s => (F s, [s]))
theorem coinsF_len (F : Nat → Nat) (ss : List Nat) : (coinsF F ss).length = ss.length := by simp [coinsF]
theorem coinsF_weighs (F : Nat → Nat) (ss : List Nat) : Weighs F (coinsF F ss) := fun t ht => by
  obtain ⟨s, _, rfl⟩ := List.mem_map.1 ht
  simp
theorem flat_coins (F : Nat → Nat) (ss : List Nat) (k : Nat) : flat ((coinsF F ss).take k) = ss.take k := by
  unfold coinsF flat
  rw [← List.map_take]
  induction ss.take k with
  | nil => rfl
  | cons s l ih => rw [List.map_cons, List.flatMap_cons, ih]; rfl
theorem coinsF_rises {F : Nat → Nat} {ss : List Nat} (h : ss.Pairwise (fun a b => F a ≤ F b)) : Rises (coinsF F ss) := by
  unfold Rises coinsF
  rw [List.pairwise_map]
  exact h
theorem cost_coins (F : Nat → Nat) (f o : Nat → Nat) : ∀ ss : List Nat, costOn f (coinsF F ss) (ss.map o) = sumOn (fun s => F s * f (o s)) ss
  | [] => by simp [coinsF, costOn, sumOn]
  | s :: ss => by
    show costOn f ((F s, [s]) :: coinsF F ss) (o s :: ss.map o) = _
    rw [costOn_cons, sumOn_cons, cost_coins F f o ss]
theorem count_take : ∀ (ss : List Nat) (k i : Nat) (hi : i < ss.length), ss.Nodup → (ss.take k).count ss[i] = if i < k then 1 else 0
  | [], _, i, hi, _ => absurd hi (by simp)
  | a :: ss, 0, i, _, _ => by simp
  | a :: ss, k + 1, 0, _, h => by
    have h' := List.nodup_cons.1 h
    rw [List.take_succ_cons, if_pos (Nat.succ_pos k)]
    show (a :: ss.take k).count a = 1
    rw [List.count_cons_self, List.count_eq_zero.2 fun hm => h'.1 (List.mem_of_mem_take hm)]
  | a :: ss, k + 1, i + 1, hi, h => by
    have h' := List.nodup_cons.1 h
    have hi' : i < ss.length := by simpa using hi
    have ih := count_take ss k i hi' h'.2
    rw [List.take_succ_cons]
    show (a :: ss.take k).count ss[i] = _
    rw [List.count_cons_of_ne (fun e => h'.1 (by rw [e]; exact List.getElem_mem _)), ih]
    by_cases hk : i < k <;> simp [hk]
theorem count_flats (F : Nat → Nat) (ss : List Nat) (hn : ss.Nodup) : ∀ (ms : List Nat) (i : Nat) (hi : i < ss.length), (ms.flatMap (fun k => flat ((coinsF F ss).take k))).count ss[i] = lenM ms i
  | [], i, _ => rfl
  | m :: ms, i, hi => by rw [List.flatMap_cons, List.count_append, count_flats F ss hn ms i hi, flat_coins, count_take ss m i hi hn, lenM_cons]
theorem count_other (F : Nat → Nat) {ss : List Nat} {s : Nat} (h : s ∉ ss) : ∀ ms : List Nat, (ms.flatMap (fun k => flat ((coinsF F ss).take k))).count s = 0
  | [] => rfl
  | m :: ms => by rw [List.flatMap_cons, List.count_append, count_other F h ms, flat_coins, List.count_eq_zero.2 fun hm => h (List.mem_of_mem_take hm)]
/-- The lengths that package-merge gives to the symbols ss (in the order of the coins), of at most L bits. -/
def mergeO (F : Nat → Nat) (ss : List Nat) (L : Nat) (s : Nat) : Nat := (flat ((rowsM (coinsF F ss) (L - 1)).take (2 * ss.length - 2))).count s
theorem mergeO_is {F : Nat → Nat} {ss : List Nat} {L : Nat} (hn : ss.Nodup) (hr : ss.Pairwise (fun a b => F a ≤ F b)) (h2 : 2 ≤ ss.length) (hL : 1 ≤ L) (hu : ss.length ≤ 2 ^ L) :
    ∃ ms : List Nat, ms.length = L ∧ (∀ i (hi : i < ss.length), mergeO F ss L ss[i] = lenM ms i) ∧ (∀ s, s ∉ ss → mergeO F ss L s = 0) ∧ (∀ s ∈ ss, 1 ≤ mergeO F ss L s ∧ mergeO F ss L s ≤ L) ∧
      kraft (ss.map (mergeO F ss L)) L = 2 ^ L ∧ sumOn (fun s => F s * mergeO F ss L s) ss = wsum ((rowsM (coinsF F ss) (L - 1)).take (2 * ss.length - 2)) := by
  have hc := coinsF_rises hr
  have hl := coinsF_len F ss
  obtain ⟨ms, hms, hle, hpos, hk, hperm, hcost⟩ := merge_lens hc (coinsF_weighs F ss) (L := L) (by rw [hl]; exact h2) hL (by rw [hl]; exact hu)
  rw [hl] at hle hpos hk hperm hcost
  have hget : ∀ i (hi : i < ss.length), mergeO F ss L ss[i] = lenM ms i := fun i hi => by
    unfold mergeO
    rw [hperm.count_eq, count_flats F ss hn ms i hi]
  have hmap : ss.map (mergeO F ss L) = lensM ss.length ms := by
    refine List.ext_getElem (by simp [lensM]) fun i h1 h2 => ?_
    rw [List.getElem_map, hget i (by simpa using h1)]
    simp [lensM]
  refine ⟨ms, hms, hget, fun s hs => ?_, fun s hs => ?_, by rw [hmap]; exact hk, ?_⟩
  · unfold mergeO
    rw [hperm.count_eq, count_other F hs]
  · obtain ⟨i, hi, rfl⟩ := List.getElem_of_mem hs
    rw [hget i hi]
    exact ⟨hpos i hi, by have := lenM_le ms i; omega⟩
  · rw [hcost, ← hmap, cost_coins F (fun l => l)]
/-- NO OTHER LENGTHS OF A CODE COST LESS. -/
theorem mergeO_least {F : Nat → Nat} {ss : List Nat} {L : Nat} (hn : ss.Nodup) (hr : ss.Pairwise (fun a b => F a ≤ F b)) (h2 : 2 ≤ ss.length) (hL : 1 ≤ L) (hu : ss.length ≤ 2 ^ L)
    {o : Nat → Nat} (h1 : ∀ s ∈ ss, 1 ≤ o s) (ho : ∀ s ∈ ss, o s ≤ L) (hk : kraft (ss.map o) L = 2 ^ L) : sumOn (fun s => F s * mergeO F ss L s) ss ≤ sumOn (fun s => F s * o s) ss := by
  obtain ⟨ms, _, _, _, _, _, hc⟩ := mergeO_is hn hr h2 hL hu
  rw [hc]
  have := code_least (coinsF_rises hr) (ls := ss.map o) (by rw [coinsF_len, List.length_map]) (L := L) (fun l hl => by obtain ⟨s, hs, rfl⟩ := List.mem_map.1 hl; exact h1 s hs) (fun l hl => by obtain ⟨s, hs, rfl⟩ := List.mem_map.1 hl; exact ho s hs) hL hk
  rw [coinsF_len, cost_coins F (fun l => l)] at this
  exact this
/-- A MORE FREQUENT SYMBOL has no longer word. -/
theorem mergeO_often {F : Nat → Nat} {ss : List Nat} {L : Nat} (hn : ss.Nodup) (hr : ss.Pairwise (fun a b => F a ≤ F b)) (h2 : 2 ≤ ss.length) (hL : 1 ≤ L) (hu : ss.length ≤ 2 ^ L)
    {a b : Nat} (ha : a ∈ ss) (hb : b ∈ ss) (h : F a < F b) : mergeO F ss L b ≤ mergeO F ss L a := by
  obtain ⟨ms, _, hget, _, _, _, _⟩ := mergeO_is hn hr h2 hL hu
  obtain ⟨i, hi, rfl⟩ := List.getElem_of_mem ha
  obtain ⟨k, hk, rfl⟩ := List.getElem_of_mem hb
  rw [hget i hi, hget k hk]
  refine lenM_anti ms ?_
  rcases Nat.lt_or_ge k i with hki | hki
  · have := List.pairwise_iff_getElem.1 hr k i hk hi hki; omega
  · exact hki
/-- Kraft's sum in a smaller unit. -/
theorem kraft_scale {ls : List Nat} {L : Nat} (h : ∀ l ∈ ls, l ≤ L) (d : Nat) : kraft ls (L + d) = kraft ls L * 2 ^ d := by
  unfold kraft
  rw [← sumOn_mul]
  exact sumOn_congr fun l hl => by rw [← Nat.pow_add, show L + d - l = L - l + d by have := h l hl; omega]
theorem kraft_full {ls : List Nat} {L M : Nat} (h : ∀ l ∈ ls, l ≤ L) (hLM : L ≤ M) : kraft ls M = 2 ^ M ↔ kraft ls L = 2 ^ L := by
  obtain ⟨d, rfl⟩ : ∃ d, M = L + d := ⟨M - L, by omega⟩
  rw [kraft_scale h, Nat.pow_add]
  exact ⟨fun e => Nat.eq_of_mul_eq_mul_right (Nat.two_pow_pos d) e, fun e => by rw [e]⟩
/-- A LARGER MAXIMUM never costs more. -/
theorem mergeO_room {F : Nat → Nat} {ss : List Nat} {L M : Nat} (hn : ss.Nodup) (hr : ss.Pairwise (fun a b => F a ≤ F b)) (h2 : 2 ≤ ss.length) (hL : 1 ≤ L) (hu : ss.length ≤ 2 ^ L) (hLM : L ≤ M) :
    sumOn (fun s => F s * mergeO F ss M s) ss ≤ sumOn (fun s => F s * mergeO F ss L s) ss := by
  obtain ⟨ms, _, _, _, hb, hk, _⟩ := mergeO_is hn hr h2 hL hu
  refine mergeO_least hn hr h2 (by omega) (Nat.le_trans hu (Nat.pow_le_pow_right (by decide) hLM)) (fun s hs => (hb s hs).1) (fun s hs => Nat.le_trans (hb s hs).2 hLM) ?_
  exact (kraft_full (fun l hl => by obtain ⟨s, hs, rfl⟩ := List.mem_map.1 hl; exact (hb s hs).2) hLM).2 hk
end Go.Proofs.Ythecibabpcfoaaa
