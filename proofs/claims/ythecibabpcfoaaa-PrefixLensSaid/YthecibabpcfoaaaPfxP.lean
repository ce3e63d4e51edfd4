/- prefix, plain: package-merge: rows of coins and packages; what the first things of a row are; no code costs less. -/
import Derived.Test.YthecibabpcfoaaaByt
namespace Go.Proofs.Ythecibabpcfoaaa
set_option maxRecDepth 100000

/-- A thing: its weight, its symbols. -/
abbrev Thing := Nat × List Nat
def pack : List Thing → List Thing
  | a :: b :: t => (a.1 + b.1, a.2 ++ b.2) :: pack t
  | _ => []
def mrg : List Thing → List Thing → List Thing
  | [], b => b
  | a, [] => a
  | a :: s, b :: t => if a.1 ≤ b.1 then a :: mrg s (b :: t) else b :: mrg (a :: s) t
termination_by a b => a.length + b.length
def rowsM (coins : List Thing) : Nat → List Thing
  | 0 => coins
  | j + 1 => mrg coins (pack (rowsM coins j))
def wsum (l : List Thing) : Nat := (l.map (·.1)).sum
/-- It rises in weight. -/
def Rises (l : List Thing) : Prop := l.Pairwise (fun a b => a.1 ≤ b.1)

theorem mrg_nil (b : List Thing) : mrg [] b = b := by unfold mrg; rfl
theorem mrg_nil' (a : List Thing) : mrg a [] = a := by cases a <;> (unfold mrg; rfl)
theorem mrg_le {a b : Thing} {s t : List Thing} (h : a.1 ≤ b.1) : mrg (a :: s) (b :: t) = a :: mrg s (b :: t) := by rw [mrg, if_pos h]
theorem mrg_gt {a b : Thing} {s t : List Thing} (h : ¬ a.1 ≤ b.1) : mrg (a :: s) (b :: t) = b :: mrg (a :: s) t := by rw [mrg, if_neg h]
theorem mrg_perm : ∀ a b : List Thing, (mrg a b).Perm (a ++ b)
  | [], b => by rw [mrg_nil]; exact List.Perm.refl _
  | a :: s, [] => by rw [mrg_nil', List.append_nil]
  | a :: s, b :: t => by
    by_cases h : a.1 ≤ b.1
    · rw [mrg_le h]; exact (mrg_perm s (b :: t)).cons a
    · rw [mrg_gt h]
      exact ((mrg_perm (a :: s) t).cons b).trans List.perm_middle.symm
termination_by a b => a.length + b.length
theorem mrg_len (a b : List Thing) : (mrg a b).length = a.length + b.length := by rw [(mrg_perm a b).length_eq, List.length_append]
theorem mrg_mem {a b : List Thing} {x : Thing} : x ∈ mrg a b ↔ x ∈ a ∨ x ∈ b := by rw [(mrg_perm a b).mem_iff, List.mem_append]
theorem mrg_rises : ∀ a b : List Thing, Rises a → Rises b → Rises (mrg a b)
  | [], b, _, hb => by rw [mrg_nil]; exact hb
  | a :: s, [], ha, _ => by rw [mrg_nil']; exact ha
  | a :: s, b :: t, ha, hb => by
    have ha' := List.pairwise_cons.1 ha
    have hb' := List.pairwise_cons.1 hb
    by_cases h : a.1 ≤ b.1
    · rw [mrg_le h]
      refine List.pairwise_cons.2 ⟨fun x hx => ?_, mrg_rises s (b :: t) ha'.2 hb⟩
      rcases mrg_mem.1 hx with hx | hx
      · exact ha'.1 x hx
      · rcases List.mem_cons.1 hx with rfl | hx
        · exact h
        · exact Nat.le_trans h (hb'.1 x hx)
    · rw [mrg_gt h]
      refine List.pairwise_cons.2 ⟨fun x hx => ?_, mrg_rises (a :: s) t ha hb'.2⟩
      rcases mrg_mem.1 hx with hx | hx
      · rcases List.mem_cons.1 hx with rfl | hx
        · omega
        · exact Nat.le_trans (by omega) (ha'.1 x hx)
      · exact hb'.1 x hx
termination_by a b => a.length + b.length

theorem wsum_nil : wsum [] = 0 := rfl
theorem wsum_cons (a : Thing) (l : List Thing) : wsum (a :: l) = a.1 + wsum l := by simp [wsum]
/-- One more of a row that rises weighs no less than its first. -/
theorem wsum_more {a : Thing} {s : List Thing} {x : Nat} (h : Rises (a :: s)) (hx : x ≤ a.1) : ∀ k, k ≤ s.length → x + wsum ((a :: s).take k) ≤ wsum ((a :: s).take (k + 1)) := by
  induction s generalizing a with
  | nil => intro k hk; simp at hk; subst hk; simp [wsum]; exact hx
  | cons b t ih =>
    intro k hk
    have h' := List.pairwise_cons.1 h
    rcases k with _ | k
    · simp [wsum]; exact hx
    · have := ih h'.2 (Nat.le_trans hx (h'.1 b (List.mem_cons_self ..))) k (by simp at hk; omega)
      rw [List.take_succ_cons, wsum_cons, List.take_succ_cons, wsum_cons]
      omega
/-- The first m + p of both weigh no more than the first m and the first p. -/
theorem wsum_mrg : ∀ (a b : List Thing), Rises a → Rises b → ∀ m p, m ≤ a.length → p ≤ b.length → wsum ((mrg a b).take (m + p)) ≤ wsum (a.take m) + wsum (b.take p)
  | [], b, _, _, m, p, hm, _ => by
    simp at hm; subst hm
    rw [mrg_nil, Nat.zero_add]; simp [wsum]
  | a :: s, [], _, _, m, p, _, hp => by
    simp at hp; subst hp
    rw [mrg_nil']; simp [wsum]
  | a :: s, b :: t, ha, hb, m, p, hm, hp => by
    have ha' := List.pairwise_cons.1 ha
    have hb' := List.pairwise_cons.1 hb
    simp only [List.length_cons] at hm hp
    by_cases h : a.1 ≤ b.1
    · rw [mrg_le h]
      rcases m with _ | m
      · rcases p with _ | p
        · simp [wsum]
        · have h1 := wsum_mrg s (b :: t) ha'.2 hb 0 p (by omega) (by simp; omega)
          have h2 := wsum_more hb h p (by omega)
          rw [Nat.zero_add] at h1 ⊢
          rw [List.take_succ_cons, wsum_cons]
          simp only [List.take_zero, wsum_nil] at h1 ⊢
          omega
      · have h1 := wsum_mrg s (b :: t) ha'.2 hb m p (by omega) (by simp; omega)
        rw [show m + 1 + p = (m + p) + 1 by omega, List.take_succ_cons, wsum_cons, List.take_succ_cons, wsum_cons]
        omega
    · rw [mrg_gt h]
      rcases p with _ | p
      · rcases m with _ | m
        · simp [wsum]
        · have h1 := wsum_mrg (a :: s) t ha hb'.2 m 0 (by simp; omega) (by omega)
          have h2 := wsum_more ha (Nat.le_of_lt (Nat.lt_of_not_le h)) m (by omega)
          rw [Nat.add_zero] at h1 ⊢
          rw [List.take_succ_cons, wsum_cons]
          simp only [List.take_zero, wsum_nil] at h1 ⊢
          omega
      · have h1 := wsum_mrg (a :: s) t ha hb'.2 m p (by simp; omega) (by omega)
        rw [show m + (p + 1) = (m + p) + 1 by omega, List.take_succ_cons, wsum_cons, List.take_succ_cons, wsum_cons]
        omega
termination_by a b => a.length + b.length

/-- The first k of both: the first m and the first p, and the coins that weigh no more than one of those packages are among them. -/
theorem mrg_take : ∀ (a b : List Thing), Rises a → ∀ k, k ≤ a.length + b.length → ∃ m p, m + p = k ∧ m ≤ a.length ∧ p ≤ b.length ∧ ((mrg a b).take k).Perm (a.take m ++ b.take p) ∧ ∀ i q (hi : i < a.length) (hq : q < b.length), q < p → (a[i]).1 ≤ (b[q]).1 → i < m
  | [], b, _, k, hk => ⟨0, k, by omega, by simp, by simpa using hk, by rw [mrg_nil]; simp, fun i q hi _ _ _ => absurd hi (by simp)⟩
  | a :: s, [], _, k, hk => ⟨k, 0, by omega, by simpa using hk, by simp, by rw [mrg_nil']; simp, fun i q _ hq _ _ => absurd hq (by simp)⟩
  | a :: s, b :: t, ha, 0, _ => ⟨0, 0, rfl, by simp, by simp, by simp, fun i q _ _ hq _ => absurd hq (by omega)⟩
  | a :: s, b :: t, ha, k + 1, hk => by
    have ha' := List.pairwise_cons.1 ha
    by_cases h : a.1 ≤ b.1
    · obtain ⟨m, p, hmp, hm, hp, hperm, hin⟩ := mrg_take s (b :: t) ha'.2 k (by simp at hk ⊢; omega)
      refine ⟨m + 1, p, by omega, by simp; omega, hp, ?_, ?_⟩
      · rw [mrg_le h, List.take_succ_cons, List.take_succ_cons]; exact hperm.cons a
      · intro i q hi hq hqp hle
        rcases i with _ | i
        · omega
        · exact Nat.succ_lt_succ (hin i q (by simpa using hi) hq hqp (by simpa using hle))
    · obtain ⟨m, p, hmp, hm, hp, hperm, hin⟩ := mrg_take (a :: s) t ha k (by simp at hk ⊢; omega)
      refine ⟨m, p + 1, by omega, hm, by simp; omega, ?_, ?_⟩
      · rw [mrg_gt h, List.take_succ_cons, List.take_succ_cons]
        exact (hperm.cons b).trans List.perm_middle.symm
      · intro i q hi hq hqp hle
        rcases q with _ | q
        · have hia : a.1 ≤ ((a :: s)[i]).1 := by
            rcases i with _ | i
            · exact Nat.le_refl _
            · exact ha'.1 _ (List.getElem_mem _)
          have hb0 : ((b :: t)[0]).1 = b.1 := rfl
          omega
        · exact hin i q hi (by simpa using hq) (by omega) (by simpa using hle)
termination_by a b => a.length + b.length

theorem pack_nil : pack [] = [] := rfl
theorem pack_one (a : Thing) : pack [a] = [] := rfl
theorem pack_two (a b : Thing) (t : List Thing) : pack (a :: b :: t) = (a.1 + b.1, a.2 ++ b.2) :: pack t := rfl
theorem pack_len : ∀ l : List Thing, (pack l).length = l.length / 2
  | [] => rfl
  | [a] => by simp [pack]
  | a :: b :: t => by rw [pack_two]; simp only [List.length_cons]; rw [pack_len t]; omega
theorem pack_get : ∀ (l : List Thing) (i : Nat) (h : i < (pack l).length) (h0 : 2 * i < l.length) (h1 : 2 * i + 1 < l.length), (pack l)[i] = ((l[2 * i]).1 + (l[2 * i + 1]).1, (l[2 * i]).2 ++ (l[2 * i + 1]).2)
  | [], i, h, _, _ => absurd h (by simp [pack])
  | [a], i, h, _, _ => absurd h (by simp [pack])
  | a :: b :: t, 0, _, _, _ => rfl
  | a :: b :: t, i + 1, h, h0, h1 => by
    have := pack_get t i (by simpa [pack] using h) (by simp at h0; omega) (by simp at h1; omega)
    simp only [pack_two, List.getElem_cons_succ, this]
    rfl
theorem pack_rises : ∀ l : List Thing, Rises l → Rises (pack l)
  | [], _ => List.Pairwise.nil
  | [a], _ => List.Pairwise.nil
  | a :: b :: t, h => by
    have h1 := List.pairwise_cons.1 h
    have h2 := List.pairwise_cons.1 h1.2
    rw [pack_two]
    refine List.pairwise_cons.2 ⟨fun x hx => ?_, pack_rises t h2.2⟩
    obtain ⟨i, hi, rfl⟩ := List.getElem_of_mem hx
    have hl := pack_len t
    rw [pack_get t i hi (by omega) (by omega)]
    have e1 := h1.1 t[2 * i] (List.mem_cons_of_mem _ (List.getElem_mem _))
    have e2 := h2.1 t[2 * i + 1] (List.getElem_mem _)
    show a.1 + b.1 ≤ _
    exact Nat.add_le_add e1 e2
theorem pack_take : ∀ (l : List Thing) (p : Nat), (pack l).take p = pack (l.take (2 * p))
  | _, 0 => by simp [pack]
  | [], p + 1 => by simp [pack]
  | [a], p + 1 => by rw [show 2 * (p + 1) = 2 * p + 1 + 1 by omega, List.take_succ_cons, List.take_nil, pack_one]; rfl
  | a :: b :: t, p + 1 => by
    rw [show 2 * (p + 1) = 2 * p + 1 + 1 by omega, List.take_succ_cons, List.take_succ_cons, pack_two, pack_two, List.take_succ_cons, pack_take t p]
theorem wsum_pack : ∀ l : List Thing, wsum (pack l) ≤ wsum l
  | [] => Nat.le_refl _
  | [a] => by simp [pack, wsum]
  | a :: b :: t => by have := wsum_pack t; rw [pack_two, wsum_cons, wsum_cons, wsum_cons]; omega
theorem wsum_take_le (l : List Thing) {k n : Nat} (h : k ≤ n) : wsum (l.take k) ≤ wsum (l.take n) := by
  rw [show l.take k = (l.take n).take k by rw [List.take_take, Nat.min_eq_left h]]
  generalize l.take n = s
  have : wsum s = wsum (s.take k) + wsum (s.drop k) := by
    conv => lhs; rw [← List.take_append_drop k s]
    unfold wsum
    rw [List.map_append, List.sum_append]
  omega

theorem rowsM_rises {c : List Thing} (h : Rises c) : ∀ j, Rises (rowsM c j)
  | 0 => h
  | j + 1 => mrg_rises _ _ h (pack_rises _ (rowsM_rises h j))
theorem rowsM_len (c : List Thing) (j : Nat) : (rowsM c (j + 1)).length = c.length + (rowsM c j).length / 2 := by
  show (mrg c (pack (rowsM c j))).length = _
  rw [mrg_len, pack_len]
/-- How many things of row j a choice of coins (M j of them at row j) makes. -/
def many (M : Nat → Nat) : Nat → Nat
  | 0 => M 0
  | j + 1 => M (j + 1) + many M j / 2
/-- What the coins of a choice weigh, when the lightest are taken. -/
def lightest (c : List Thing) (M : Nat → Nat) : Nat → Nat
  | 0 => wsum (c.take (M 0))
  | j + 1 => wsum (c.take (M (j + 1))) + lightest c M j
/-- The first things of a row weigh no more than any choice that makes as many. -/
theorem rows_least {c : List Thing} (hc : Rises c) {M : Nat → Nat} (hM : ∀ j, M j ≤ c.length) : ∀ j, many M j ≤ (rowsM c j).length ∧ wsum ((rowsM c j).take (many M j)) ≤ lightest c M j
  | 0 => ⟨hM 0, Nat.le_refl _⟩
  | j + 1 => by
    obtain ⟨h1, h2⟩ := rows_least hc hM j
    have hl := rowsM_len c j
    have hp := pack_len (rowsM c j)
    refine ⟨by rw [hl]; have := hM (j + 1); unfold many; omega, ?_⟩
    have h3 := wsum_mrg c (pack (rowsM c j)) hc (pack_rises _ (rowsM_rises hc j)) (M (j + 1)) (many M j / 2) (hM (j + 1)) (by omega)
    rw [pack_take] at h3
    have h4 := wsum_pack ((rowsM c j).take (2 * (many M j / 2)))
    have h5 := wsum_take_le (rowsM c j) (show 2 * (many M j / 2) ≤ many M j by omega)
    show wsum ((mrg c (pack (rowsM c j))).take (M (j + 1) + many M j / 2)) ≤ wsum (c.take (M (j + 1))) + lightest c M j
    omega

/- What a code's lengths choose: Kraft's sum. -/
def sumOn (f : Nat → Nat) (ls : List Nat) : Nat := (ls.map f).sum
theorem sumOn_nil (f : Nat → Nat) : sumOn f [] = 0 := rfl
theorem sumOn_cons (f : Nat → Nat) (l : Nat) (ls : List Nat) : sumOn f (l :: ls) = f l + sumOn f ls := by simp [sumOn]
theorem sumOn_congr {f g : Nat → Nat} {ls : List Nat} (h : ∀ l ∈ ls, f l = g l) : sumOn f ls = sumOn g ls := by
  unfold sumOn; rw [List.map_congr_left h]
theorem sumOn_add (f g : Nat → Nat) (ls : List Nat) : sumOn (fun l => f l + g l) ls = sumOn f ls + sumOn g ls := by
  induction ls with
  | nil => rfl
  | cons l ls ih => rw [sumOn_cons, sumOn_cons, sumOn_cons, ih]; omega
theorem sumOn_mul (f : Nat → Nat) (k : Nat) (ls : List Nat) : sumOn (fun l => f l * k) ls = sumOn f ls * k := by
  induction ls with
  | nil => simp [sumOn]
  | cons l ls ih => rw [sumOn_cons, sumOn_cons, ih, Nat.add_mul]
theorem sumOn_dvd {f : Nat → Nat} {k : Nat} {ls : List Nat} (h : ∀ l ∈ ls, k ∣ f l) : k ∣ sumOn f ls := by
  induction ls with
  | nil => exact Nat.dvd_zero k
  | cons l ls ih => rw [sumOn_cons]; exact Nat.dvd_add (h l (List.mem_cons_self ..)) (ih fun x hx => h x (List.mem_cons_of_mem _ hx))
/-- How many words are on level L - n or deeper. -/
def cntN (ls : List Nat) (L n : Nat) : Nat := sumOn (fun l => if L ≤ l + n then 1 else 0) ls
def lowN (ls : List Nat) (L n : Nat) : Nat := sumOn (fun l => if L ≤ l + n then 2 ^ (L - l) else 0) ls
def highN (ls : List Nat) (L n : Nat) : Nat := sumOn (fun l => if L ≤ l + n then 0 else 2 ^ (L - l)) ls
def kraft (ls : List Nat) (L : Nat) : Nat := sumOn (fun l => 2 ^ (L - l)) ls
theorem low_high (ls : List Nat) (L n : Nat) : lowN ls L n + highN ls L n = kraft ls L := by
  unfold lowN highN kraft
  rw [← sumOn_add]
  exact sumOn_congr fun l _ => by split <;> simp
theorem high_dvd (ls : List Nat) (L n : Nat) : 2 ^ (n + 1) ∣ highN ls L n := by
  refine sumOn_dvd fun l _ => ?_
  split
  · exact Nat.dvd_zero _
  · exact Nat.pow_dvd_pow 2 (by omega)
theorem cnt_le (ls : List Nat) (L n : Nat) : cntN ls L n ≤ ls.length := by
  unfold cntN
  induction ls with
  | nil => simp [sumOn]
  | cons l ls ih => rw [sumOn_cons, List.length_cons]; split <;> omega
theorem low_succ (ls : List Nat) (L n : Nat) : lowN ls L (n + 1) + cntN ls L n * 2 ^ (n + 1) = lowN ls L n + cntN ls L (n + 1) * 2 ^ (n + 1) := by
  unfold lowN cntN
  rw [← sumOn_mul, ← sumOn_mul, ← sumOn_add, ← sumOn_add]
  refine sumOn_congr fun l _ => ?_
  by_cases h1 : L ≤ l + n
  · rw [if_pos h1, if_pos h1, if_pos (show L ≤ l + (n + 1) by omega), if_pos (show L ≤ l + (n + 1) by omega)]
  · by_cases h2 : L ≤ l + (n + 1)
    · rw [if_neg h1, if_neg h1, if_pos h2, if_pos h2, show L - l = n + 1 by omega]; omega
    · rw [if_neg h1, if_neg h1, if_neg h2, if_neg h2]
/-- The coins that the lengths choose, in the unit of the deepest level. -/
def allT (ls : List Nat) (L : Nat) : Nat → Nat
  | 0 => cntN ls L 0
  | n + 1 => allT ls L n + cntN ls L (n + 1) * 2 ^ (n + 1)
theorem allT_low {ls : List Nat} {L : Nat} (hL : ∀ l ∈ ls, l ≤ L) : ∀ n, allT ls L n + lowN ls L n = cntN ls L n * 2 ^ (n + 1)
  | 0 => by
    have : lowN ls L 0 = cntN ls L 0 := sumOn_congr fun l hl => by
      have := hL l hl
      split
      · rw [show L - l = 0 by omega]
      · rfl
    show cntN ls L 0 + lowN ls L 0 = _
    rw [this]; omega
  | n + 1 => by
    have h1 := allT_low hL n
    have h2 := low_succ ls L n
    show allT ls L n + cntN ls L (n + 1) * 2 ^ (n + 1) + lowN ls L (n + 1) = cntN ls L (n + 1) * 2 ^ (n + 1 + 1)
    have h3 : cntN ls L (n + 1) * 2 ^ (n + 1 + 1) = cntN ls L (n + 1) * 2 ^ (n + 1) + cntN ls L (n + 1) * 2 ^ (n + 1) := by rw [Nat.pow_succ 2 (n + 1), ← Nat.mul_assoc]; omega
    omega
theorem many_allT {ls : List Nat} {L : Nat} (hL : ∀ l ∈ ls, l ≤ L) (hk : kraft ls L = 2 ^ L) : ∀ n, n < L → many (cntN ls L) n * 2 ^ n = allT ls L n
  | 0, _ => by show cntN ls L 0 * 2 ^ 0 = cntN ls L 0; omega
  | n + 1, hn => by
    have h1 := many_allT hL hk n (by omega)
    have h2 := allT_low hL n
    have h3 := low_high ls L n
    have hd : 2 ^ (n + 1) ∣ allT ls L n := by
      have hd1 : 2 ^ (n + 1) ∣ lowN ls L n := by
        refine (Nat.dvd_add_left (high_dvd ls L n)).1 ?_
        rw [h3, hk]
        exact Nat.pow_dvd_pow 2 (by omega)
      refine (Nat.dvd_add_left hd1).1 ?_
      rw [h2]
      exact Nat.dvd_mul_left ..
    rw [← h1, Nat.pow_succ, Nat.mul_comm (2 ^ n) 2] at hd
    have he : 2 ∣ many (cntN ls L) n := Nat.dvd_of_mul_dvd_mul_right (Nat.two_pow_pos n) hd
    obtain ⟨q, hq⟩ := he
    show (cntN ls L (n + 1) + many (cntN ls L) n / 2) * 2 ^ (n + 1) = allT ls L n + cntN ls L (n + 1) * 2 ^ (n + 1)
    rw [← h1, hq, Nat.mul_div_cancel_left q (by decide), Nat.add_mul, Nat.pow_succ]
    have : q * (2 ^ n * 2) = 2 * q * 2 ^ n := by rw [Nat.mul_comm (2 ^ n) 2, ← Nat.mul_assoc, Nat.mul_comm q 2]
    omega
theorem cnt_top {ls : List Nat} {L : Nat} (h1 : ∀ l ∈ ls, 1 ≤ l) (hL : 1 ≤ L) : cntN ls L (L - 1) = ls.length := by
  unfold cntN
  induction ls with
  | nil => rfl
  | cons l ls ih =>
    have := h1 l (List.mem_cons_self ..)
    rw [sumOn_cons, ih fun x hx => h1 x (List.mem_cons_of_mem _ hx), if_pos (by omega), List.length_cons]; omega
theorem low_top {ls : List Nat} {L : Nat} (h1 : ∀ l ∈ ls, 1 ≤ l) : lowN ls L (L - 1) = kraft ls L :=
  sumOn_congr fun l hl => by rw [if_pos (by have := h1 l hl; omega)]
/-- A full code chooses 2u - 2 things of the last row. -/
theorem many_top {ls : List Nat} {L : Nat} (h1 : ∀ l ∈ ls, 1 ≤ l) (hL : ∀ l ∈ ls, l ≤ L) (hL1 : 1 ≤ L) (hk : kraft ls L = 2 ^ L) : many (cntN ls L) (L - 1) = 2 * ls.length - 2 := by
  have h2 := many_allT hL hk (L - 1) (by omega)
  have h3 := allT_low hL (L - 1)
  rw [cnt_top h1 hL1, low_top h1, hk, Nat.sub_add_cancel hL1] at h3
  have hp : 2 ^ L = 2 * 2 ^ (L - 1) := by
    conv => lhs; rw [show L = L - 1 + 1 by omega]
    rw [Nat.pow_succ, Nat.mul_comm]
  rw [← h2, hp] at h3
  have hpos := Nat.two_pow_pos (L - 1)
  have h4 : (many (cntN ls L) (L - 1) + 2) * 2 ^ (L - 1) = (2 * ls.length) * 2 ^ (L - 1) := by
    rw [Nat.add_mul, h3, ← Nat.mul_assoc, Nat.mul_comm ls.length 2]
  have := Nat.eq_of_mul_eq_mul_right hpos h4
  omega

/- What lengths cost. -/
def costOn (f : Nat → Nat) (c : List Thing) (ls : List Nat) : Nat := ((c.zip ls).map (fun x => x.1.1 * f x.2)).sum
theorem costOn_cons (f : Nat → Nat) (a : Thing) (c : List Thing) (l : Nat) (ls : List Nat) : costOn f (a :: c) (l :: ls) = a.1 * f l + costOn f c ls := by simp [costOn]
theorem costOn_nil (f : Nat → Nat) (c : List Thing) : costOn f c [] = 0 := by simp [costOn]
theorem costOn_nil' (f : Nat → Nat) (ls : List Nat) : costOn f [] ls = 0 := by simp [costOn]
theorem costOn_congr {f g : Nat → Nat} : ∀ {c : List Thing} {ls : List Nat}, (∀ l ∈ ls, f l = g l) → costOn f c ls = costOn g c ls
  | [], ls, _ => by rw [costOn_nil', costOn_nil']
  | a :: c, [], _ => by rw [costOn_nil, costOn_nil]
  | a :: c, l :: ls, h => by
    rw [costOn_cons, costOn_cons, h l (List.mem_cons_self ..), costOn_congr fun x hx => h x (List.mem_cons_of_mem _ hx)]
theorem costOn_add (f g : Nat → Nat) : ∀ (c : List Thing) (ls : List Nat), costOn (fun l => f l + g l) c ls = costOn f c ls + costOn g c ls
  | [], ls => by rw [costOn_nil', costOn_nil', costOn_nil']
  | a :: c, [] => by rw [costOn_nil, costOn_nil, costOn_nil]
  | a :: c, l :: ls => by
    rw [costOn_cons, costOn_cons, costOn_cons, costOn_add f g c ls, Nat.mul_add]; omega
/-- Any coins weigh no less than as many of the first. -/
theorem costOn_pick (p : Nat → Bool) : ∀ (c : List Thing) (ls : List Nat), Rises c → c.length = ls.length → wsum (c.take (sumOn (fun l => if p l then 1 else 0) ls)) ≤ costOn (fun l => if p l then 1 else 0) c ls
  | [], ls, _, _ => by simp [wsum]
  | a :: c, [], _, h => by simp at h
  | a :: c, l :: ls, hc, h => by
    have hc' := List.pairwise_cons.1 hc
    have ih := costOn_pick p c ls hc'.2 (by simpa using h)
    have hle : sumOn (fun l => if p l then 1 else 0) ls ≤ ls.length := by
      clear ih h
      induction ls with
      | nil => simp [sumOn]
      | cons x xs ih2 => rw [sumOn_cons, List.length_cons]; split <;> omega
    rw [sumOn_cons, costOn_cons]
    generalize sumOn (fun l => if p l then 1 else 0) ls = m at *
    by_cases hp : p l = true
    · rw [if_pos hp, Nat.add_comm 1 m, List.take_succ_cons, wsum_cons]; omega
    · rw [if_neg hp, Nat.zero_add]
      rcases m with _ | m
      · simp [wsum]
      · rcases c with _ | ⟨b, t⟩
        · simp at h; subst h; simp at hle
        · have := wsum_more hc'.2 (hc'.1 b (List.mem_cons_self ..)) m (by simp at h hle; omega)
          rw [List.take_succ_cons, wsum_cons]
          omega
/-- What the coins of all levels up to L - n weigh. -/
def gather (c : List Thing) (ls : List Nat) (L : Nat) : Nat → Nat
  | 0 => costOn (fun l => if L ≤ l + 0 then 1 else 0) c ls
  | n + 1 => costOn (fun l => if L ≤ l + (n + 1) then 1 else 0) c ls + gather c ls L n
theorem gather_eq (c : List Thing) {ls : List Nat} {L : Nat} (hL : ∀ l ∈ ls, l ≤ L) : ∀ n, gather c ls L n = costOn (fun l => l + n + 1 - L) c ls
  | 0 => costOn_congr fun l hl => by have := hL l hl; split <;> omega
  | n + 1 => by
    show costOn _ c ls + gather c ls L n = _
    rw [gather_eq c hL n, ← costOn_add]
    exact costOn_congr fun l hl => by have := hL l hl; split <;> omega
theorem lightest_le {c : List Thing} (hc : Rises c) {ls : List Nat} (hl : c.length = ls.length) (L : Nat) : ∀ n, lightest c (cntN ls L) n ≤ gather c ls L n
  | 0 => by
    have := costOn_pick (fun l => decide (L ≤ l + 0)) c ls hc hl
    simp only [decide_eq_true_eq] at this
    exact this
  | n + 1 => by
    have h1 := lightest_le hc hl L n
    have h2 := costOn_pick (fun l => decide (L ≤ l + (n + 1))) c ls hc hl
    simp only [decide_eq_true_eq] at h2
    exact Nat.add_le_add h2 h1
/-- NO CODE COSTS LESS than the first 2u - 2 things of the last row weigh. -/
theorem code_least {c : List Thing} (hc : Rises c) {ls : List Nat} (hl : c.length = ls.length) {L : Nat} (h1 : ∀ l ∈ ls, 1 ≤ l) (hL : ∀ l ∈ ls, l ≤ L) (hL1 : 1 ≤ L) (hk : kraft ls L = 2 ^ L) :
    wsum ((rowsM c (L - 1)).take (2 * c.length - 2)) ≤ costOn (fun l => l) c ls := by
  have h2 := (rows_least hc (M := cntN ls L) (fun j => by rw [hl]; exact cnt_le ls L j) (L - 1)).2
  rw [many_top h1 hL hL1 hk, ← hl] at h2
  have h3 := lightest_le hc hl L (L - 1)
  rw [gather_eq c hL (L - 1)] at h3
  rw [costOn_congr (g := fun l => l) (fun l hl => by have := hL l hl; omega)] at h3
  omega
end Go.Proofs.Ythecibabpcfoaaa
