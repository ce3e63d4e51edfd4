/- prefix: the reference's things beside the plain ones; plain: the coins one after another; packs by their number; rows that agree, cut; how large the rows of package-merge become. -/
import Derived.Test.YthecibabpcfoaaaPfxRA
import Derived.Test.YthecibabpcfoaaaPfxF
namespace Go.Proofs.Ythecibabpcfoaaa
open Go.RowKit
set_option maxRecDepth 100000

/-- Rows that agree thing by thing. -/
def RelT (R : Thm → Thing → Prop) : List Thm → List Thing → Prop
  | [], [] => True
  | t :: ts, u :: us => R t u ∧ RelT R ts us
  | [], _ :: _ => False
  | _ :: _, [] => False
theorem RelT.len {R : Thm → Thing → Prop} : ∀ {a : List Thm} {b : List Thing}, RelT R a b → a.length = b.length
  | [], [], _ => rfl
  | _ :: _, _ :: _, h => by simp [RelT.len h.2]
  | [], _ :: _, h => h.elim
  | _ :: _, [], h => h.elim
theorem RelT.app {R : Thm → Thing → Prop} : ∀ {a c : List Thm} {b d : List Thing}, RelT R a b → RelT R c d → RelT R (a ++ c) (b ++ d)
  | [], _, [], _, _, k => k
  | _ :: _, _, _ :: _, _, h, k => ⟨h.1, RelT.app h.2 k⟩
  | [], _, _ :: _, _, h, _ => h.elim
  | _ :: _, _, [], _, h, _ => h.elim
theorem RelT.get {R : Thm → Thing → Prop} : ∀ {a : List Thm} {b : List Thing} {i : Nat} {t : Thm}, RelT R a b → a[i]? = some t → ∃ u, b[i]? = some u ∧ R t u
  | [], [], i, t, _, e => by simp at e
  | x :: _, y :: _, 0, t, h, e => by
    have hx : x = t := by simpa using e
    exact ⟨y, rfl, hx ▸ h.1⟩
  | _ :: _, _ :: _, i + 1, t, h, e => by
    obtain ⟨u, h1, h2⟩ := RelT.get (i := i) h.2 (by simpa using e)
    exact ⟨u, by simpa using h1, h2⟩
  | [], _ :: _, _, _, h, _ => h.elim
  | _ :: _, [], _, _, h, _ => h.elim
theorem RelT.mono {R S : Thm → Thing → Prop} (hs : ∀ t u, R t u → S t u) : ∀ {a : List Thm} {b : List Thing}, RelT R a b → RelT S a b
  | [], [], _ => trivial
  | _ :: _, _ :: _, h => ⟨hs _ _ h.1, RelT.mono hs h.2⟩
  | [], _ :: _, h => h.elim
  | _ :: _, [], h => h.elim
theorem RelT.mrg {R : Thm → Thing → Prop} (hw : ∀ t u, R t u → t.1 = u.1) : ∀ {a c : List Thm} {b d : List Thing}, RelT R a b → RelT R c d → RelT R (mrgV a c) (mrg b d)
  | [], c, [], d, _, k => by rw [mrgV_nil, mrg_nil]; exact k
  | x :: s, [], y :: t, [], h, _ => by rw [mrgV_nil', mrg_nil']; exact h
  | x :: s, x2 :: s2, y :: t, y2 :: t2, h, k => by
    have e1 := hw _ _ h.1
    have e2 := hw _ _ k.1
    by_cases hle : x.1 ≤ x2.1
    · rw [mrgV_le hle, mrg_le (by rw [← e1, ← e2]; exact hle)]
      exact ⟨h.1, RelT.mrg hw h.2 k⟩
    · rw [mrgV_gt hle, mrg_gt (by rw [← e1, ← e2]; exact hle)]
      exact ⟨k.1, RelT.mrg hw h k.2⟩
  | [], _, _ :: _, _, h, _ => h.elim
  | _ :: _, _, [], _, h, _ => h.elim
  | _ :: _, [], _ :: _, _ :: _, _, k => k.elim
  | _ :: _, _ :: _, _ :: _, [], _, k => k.elim
termination_by a c _ _ => a.length + c.length
/-- A thing of memory reads as a plain one: its weight, its symbols. -/
def ReadsT (w : World) (B : Nat) (t : Thm) (u : Thing) : Prop := t.1 = u.1 ∧ Sli w B (slT t) (u.2.map fun (s : Nat) => Value.int .i64 (s : Int))
theorem ReadsT.below {w w' : World} {B : Nat} {t : Thm} {u : Thing} (h : ReadsT w B t u) (hb : Below B w w') : ReadsT w' B t u := ⟨h.1, h.2.below hb⟩
theorem ReadsT.more {w : World} {B B' : Nat} {t : Thm} {u : Thing} (h : ReadsT w B t u) (hB : B ≤ B') : ReadsT w B' t u := ⟨h.1, h.2.more hB⟩
/-- The order of the coins: by weight, then by number. -/
def CoinLt (fs : List Nat) (a b : Nat) : Prop := atN fs a < atN fs b ∨ atN fs a = atN fs b ∧ a < b
/-- The coins of the first i symbols. -/
def CoinsTo (fs : List Nat) (i : Nat) (ss : List Nat) : Prop := ss.Perm ((List.range i).filter (fun s => decide (0 < atN fs s))) ∧ ss.Pairwise (CoinLt fs)
theorem CoinsTo.start (fs : List Nat) : CoinsTo fs 0 [] := ⟨List.Perm.refl _, List.Pairwise.nil⟩
theorem CoinsTo.skip {fs ss : List Nat} {i : Nat} (h : CoinsTo fs i ss) (h0 : atN fs i = 0) : CoinsTo fs (i + 1) ss := by
  refine ⟨?_, h.2⟩
  rw [List.range_succ, List.filter_append]
  simpa [h0] using h.1
theorem CoinsTo.mem {fs ss : List Nat} {i : Nat} (h : CoinsTo fs i ss) {s : Nat} (hs : s ∈ ss) : s < i ∧ 0 < atN fs s := by
  have := h.1.mem_iff.1 hs
  simpa using this
theorem CoinsTo.full {fs ss : List Nat} (h : CoinsTo fs fs.length ss) : ss.Perm (usedN fs) ∧ ss.Pairwise (CoinLt fs) := h
theorem CoinsTo.coined {fs ss : List Nat} (h : CoinsTo fs fs.length ss) : Coined fs ss := ⟨h.1, h.2.imp fun hab => by rcases hab with e | e <;> omega⟩
/-- The next used symbol goes behind all that weigh no more. -/
theorem CoinsTo.step {fs ss : List Nat} {i p : Nat} (h : CoinsTo fs i ss) (hu : 0 < atN fs i) (hp : p ≤ ss.length)
    (h1 : ∀ t, 0 < p → ss[p - 1]? = some t → atN fs t ≤ atN fs i) (h2 : ∀ j t, p ≤ j → ss[j]? = some t → atN fs i < atN fs t) :
    CoinsTo fs (i + 1) (ss.take p ++ [i] ++ ss.drop p) := by
  have hall := fun s hs => h.mem (s := s) hs
  refine ⟨?_, ?_⟩
  · rw [List.range_succ, List.filter_append]
    have e : [i].filter (fun s => decide (0 < atN fs s)) = [i] := by simp [hu]
    rw [e, List.append_assoc]
    refine (List.perm_append_comm_assoc (ss.take p) [i] (ss.drop p)).trans ?_
    rw [List.take_append_drop]
    exact (h.1.append_left [i]).trans List.perm_append_comm
  · have hsplit : (ss.take p ++ ss.drop p).Pairwise (CoinLt fs) := by rw [List.take_append_drop]; exact h.2
    obtain ⟨ha, hb, hc⟩ := List.pairwise_append.1 hsplit
    have hin : ∀ a ∈ ss.take p, CoinLt fs a i := by
      intro a hma
      have hai := (hall a (List.mem_of_mem_take hma)).1
      obtain ⟨k, hk, hka⟩ := List.getElem_of_mem hma
      have hk' : k < p ∧ k < ss.length := by rw [List.length_take] at hk; omega
      rw [List.getElem_take] at hka
      have hp1 : p - 1 < ss.length := by omega
      have hlast := h1 ss[p - 1] (by omega) (List.getElem?_eq_getElem hp1)
      have hle : atN fs a ≤ atN fs ss[p - 1] := by
        by_cases hkp : k = p - 1
        · subst hkp; rw [hka]; exact Nat.le_refl _
        · have := List.pairwise_iff_getElem.1 h.2 k (p - 1) hk'.2 hp1 (by omega)
          rw [hka] at this
          rcases this with e | e <;> omega
      rcases Nat.lt_or_ge (atN fs a) (atN fs i) with e | e
      · exact .inl e
      · exact .inr ⟨by omega, hai⟩
    have hout : ∀ b ∈ ss.drop p, CoinLt fs i b := by
      intro b hmb
      obtain ⟨k, hk, hkb⟩ := List.getElem_of_mem hmb
      rw [List.getElem_drop] at hkb
      have hlt : p + k < ss.length := by have : k < ss.length - p := by simpa using hk
                                         omega
      exact .inl (h2 (p + k) b (by omega) (by rw [List.getElem?_eq_getElem hlt, hkb]))
    rw [List.append_assoc]
    refine List.pairwise_append.2 ⟨ha, ?_, ?_⟩
    · exact List.pairwise_cons.2 ⟨hout, hb⟩
    · intro a hma b hmb
      rcases List.mem_cons.1 hmb with rfl | hmb
      · exact hin a hma
      · exact hc a hma b hmb
theorem coinsF_step (F : Nat → Nat) (ss : List Nat) (p i : Nat) : coinsF F (ss.take p ++ [i] ++ ss.drop p) = (coinsF F ss).take p ++ [(F i, [i])] ++ (coinsF F ss).drop p := by
  simp [coinsF, List.map_take, List.map_drop]

/- Packs by their number. -/
theorem pack_at : ∀ (row : List Thing) (j : Nat) (a b : Thing), row[2 * j]? = some a → row[2 * j + 1]? = some b → (pack row)[j]? = some (a.1 + b.1, a.2 ++ b.2)
  | [], j, a, b, h, _ => by simp at h
  | [x], 0, a, b, _, h => by simp at h
  | [x], j + 1, a, b, h, _ => by rw [show 2 * (j + 1) = (2 * j + 1) + 1 by omega] at h; simp at h
  | x :: y :: t, 0, a, b, h, k => by
    have e1 : x = a := by simpa using h
    have e2 : y = b := by simpa using k
    rw [pack, e1, e2]; rfl
  | x :: y :: t, j + 1, a, b, h, k => by
    rw [show 2 * (j + 1) = (2 * j + 1) + 1 by omega, List.getElem?_cons_succ, List.getElem?_cons_succ] at h
    rw [show 2 * (j + 1) + 1 = (2 * j + 1 + 1) + 1 by omega, List.getElem?_cons_succ, List.getElem?_cons_succ] at k
    rw [pack, List.getElem?_cons_succ]
    exact pack_at t j a b h k
theorem pack_next {row : List Thing} {j : Nat} {a b : Thing} (h : row[2 * j]? = some a) (k : row[2 * j + 1]? = some b) : (pack row).take (j + 1) = (pack row).take j ++ [(a.1 + b.1, a.2 ++ b.2)] := by
  rw [List.take_add_one, pack_at row j a b h k]; rfl

/- Rows that agree, cut and joined. -/
theorem RelT.take {R : Thm → Thing → Prop} : ∀ {a : List Thm} {b : List Thing} (p : Nat), RelT R a b → RelT R (a.take p) (b.take p)
  | [], [], p, _ => by simp [RelT]
  | _ :: _, _ :: _, 0, _ => trivial
  | _ :: _, _ :: _, p + 1, h => ⟨h.1, RelT.take p h.2⟩
  | [], _ :: _, _, h => h.elim
  | _ :: _, [], _, h => h.elim
theorem RelT.drop {R : Thm → Thing → Prop} : ∀ {a : List Thm} {b : List Thing} (p : Nat), RelT R a b → RelT R (a.drop p) (b.drop p)
  | [], [], p, _ => by simp [RelT]
  | _ :: _, _ :: _, 0, h => h
  | _ :: _, _ :: _, p + 1, h => RelT.drop p h.2
  | [], _ :: _, _, h => h.elim
  | _ :: _, [], _, h => h.elim
theorem RelT.one {R : Thm → Thing → Prop} {t : Thm} {u : Thing} (h : R t u) : RelT R [t] [u] := ⟨h, trivial⟩
theorem RelT.put {R : Thm → Thing → Prop} {a : List Thm} {b : List Thing} {t : Thm} {u : Thing} (p : Nat) (h : RelT R a b) (k : R t u) : RelT R (a.take p ++ [t] ++ a.drop p) (b.take p ++ [u] ++ b.drop p) :=
  ((h.take p).app (RelT.one k)).app (h.drop p)
theorem RelT.back {R : Thm → Thing → Prop} : ∀ {a : List Thm} {b : List Thing} {i : Nat} {u : Thing}, RelT R a b → b[i]? = some u → ∃ t, a[i]? = some t ∧ R t u
  | [], [], i, u, _, e => by simp at e
  | x :: _, y :: _, 0, u, h, e => by
    have hx : y = u := by simpa using e
    exact ⟨x, rfl, hx ▸ h.1⟩
  | _ :: _, _ :: _, i + 1, u, h, e => by
    obtain ⟨t, h1, h2⟩ := RelT.back (i := i) h.2 (by simpa using e)
    exact ⟨t, by simpa using h1, h2⟩
  | [], _ :: _, _, _, h, _ => h.elim
  | _ :: _, [], _, _, h, _ => h.elim
/-- Rows of memory beside the coins: what 'rising' has put is the coins of one symbol more. -/
theorem coins_put {R : Thm → Thing → Prop} (hw : ∀ t u, R t u → t.1 = u.1) {fs ss : List Nat} {l : List Thm} {x : Thm} {i p : Nat} (h : RelT R l (coinsF (atN fs) ss)) (hc : CoinsTo fs i ss) (hx : R x (atN fs i, [i])) (hu : 0 < atN fs i) (hp : p ≤ l.length)
    (h1 : ∀ t, 0 < p → l[p - 1]? = some t → t.1 ≤ x.1) (h2 : ∀ j t, p ≤ j → l[j]? = some t → x.1 < t.1) :
    ∃ ss', CoinsTo fs (i + 1) ss' ∧ RelT R (l.take p ++ [x] ++ l.drop p) (coinsF (atN fs) ss') := by
  have hxw : x.1 = atN fs i := hw _ _ hx
  have hlen : l.length = ss.length := by rw [h.len, coinsF_len]
  have hget : ∀ (j s : Nat), ss[j]? = some s → ∃ t : Thm, l[j]? = some t ∧ t.1 = atN fs s := by
    intro j s hs
    obtain ⟨t, e1, e2⟩ := h.back (i := j) (u := (atN fs s, [s])) (by simp [coinsF, hs])
    exact ⟨t, e1, hw _ _ e2⟩
  refine ⟨ss.take p ++ [i] ++ ss.drop p, hc.step hu (by omega) ?_ ?_, ?_⟩
  · intro s h0 hs
    obtain ⟨t, e1, e2⟩ := hget _ _ hs
    have := h1 t h0 e1
    omega
  · intro j s hj hs
    obtain ⟨t, e1, e2⟩ := hget _ _ hs
    have := h2 j t hj e1
    omega
  · rw [coinsF_step]
    exact h.put p hx
theorem wsumH_app (a b : List Thing) : wsum (a ++ b) = wsum a + wsum b := by simp [wsum]
theorem wsumH_perm {a b : List Thing} (h : a.Perm b) : wsum a = wsum b := by
  unfold wsum
  exact (h.map _).sum_nat
theorem wsumH_mem {l : List Thing} {t : Thing} (h : t ∈ l) : t.1 ≤ wsum l := by
  induction l with
  | nil => cases h
  | cons a l ih =>
    rw [wsum_cons]
    rcases List.mem_cons.1 h with rfl | h
    · omega
    · have := ih h; omega
theorem flat_mem {l : List Thing} {t : Thing} (h : t ∈ l) : t.2.length ≤ (flat l).length := by
  induction l with
  | nil => cases h
  | cons a l ih =>
    rw [flat_cons, List.length_append]
    rcases List.mem_cons.1 h with rfl | h
    · omega
    · have := ih h; omega
theorem flat_packs : ∀ l : List Thing, (flat (pack l)).length ≤ (flat l).length
  | [] => by simp [pack_nil]
  | [a] => by rw [pack_one]; simp [flat]
  | a :: b :: t => by
    have := flat_packs t
    rw [pack_two, flat_cons, flat_cons, flat_cons]
    simp only [List.length_append]
    omega
/-- All weights of a row together: at most as many times the coins' as there are rows. -/
theorem rowsM_wsum (c : List Thing) : ∀ j, wsum (rowsM c j) ≤ (j + 1) * wsum c
  | 0 => by simp [rowsM]
  | j + 1 => by
    have h1 := rowsM_wsum c j
    have h2 := wsum_pack (rowsM c j)
    rw [rowsM, wsumH_perm (mrg_perm _ _), wsumH_app, Nat.succ_mul (j + 1)]
    omega
theorem rowsM_flat (c : List Thing) : ∀ j, (flat (rowsM c j)).length ≤ (j + 1) * (flat c).length
  | 0 => by simp [rowsM]
  | j + 1 => by
    have h1 := rowsM_flat c j
    have h2 := flat_packs (rowsM c j)
    rw [rowsM, (flat_perm (mrg_perm _ _)).length_eq, flat_append, List.length_append, Nat.succ_mul (j + 1)]
    omega
theorem coins_flat (F : Nat → Nat) (ss : List Nat) : (flat (coinsF F ss)).length = ss.length := by
  have := flat_coins F ss ss.length
  rw [List.take_of_length_le (by rw [coinsF_len]; exact Nat.le_refl _), List.take_of_length_le (Nat.le_refl _)] at this
  rw [this]
theorem coins_wsum {F : Nat → Nat} {M : Nat} : ∀ {ss : List Nat}, (∀ s ∈ ss, F s ≤ M) → wsum (coinsF F ss) ≤ ss.length * M
  | [], _ => by simp [coinsF, wsum]
  | s :: ss, h => by
    have h1 := coins_wsum (ss := ss) fun x hx => h x (List.mem_cons_of_mem _ hx)
    have h2 := h s (List.mem_cons_self ..)
    show wsum ((F s, [s]) :: coinsF F ss) ≤ _
    rw [wsum_cons, List.length_cons, Nat.succ_mul]
    omega
/-- A thing of any row: its weight and its symbols are small (80 coins of 2^40, 24 rows). -/
theorem row_small {F : Nat → Nat} {ss : List Nat} {j : Nat} {t : Thing} (h : ∀ s ∈ ss, F s ≤ 1099511627776) (hs : ss.length ≤ 80) (hj : j ≤ 23) (ht : t ∈ rowsM (coinsF F ss) j) : t.1 ≤ 2111062325329920 ∧ t.2.length ≤ 1920 := by
  have h1 := rowsM_wsum (coinsF F ss) j
  have h2 := rowsM_flat (coinsF F ss) j
  have h3 := coins_wsum h
  rw [coins_flat] at h2
  have h4 : wsum (coinsF F ss) ≤ 80 * 1099511627776 := Nat.le_trans h3 (Nat.mul_le_mul_right _ hs)
  have h5 : (j + 1) * wsum (coinsF F ss) ≤ 24 * (80 * 1099511627776) := Nat.mul_le_mul (by omega) h4
  have h6 : (j + 1) * ss.length ≤ 24 * 80 := Nat.mul_le_mul (by omega) hs
  exact ⟨Nat.le_trans (wsumH_mem ht) (by omega), Nat.le_trans (flat_mem ht) (by omega)⟩
theorem flat_packs_mem : ∀ (l : List Thing) {s : Nat}, s ∈ flat (pack l) → s ∈ flat l
  | [], s, h => by rw [pack_nil] at h; exact h
  | [a], s, h => by rw [pack_one] at h; simp [flat] at h
  | a :: b :: t, s, h => by
    rw [pack_two, flat_cons] at h
    rw [flat_cons, flat_cons]
    rcases List.mem_append.1 h with h | h
    · rcases List.mem_append.1 h with h | h
      · exact List.mem_append_left _ h
      · exact List.mem_append_right _ (List.mem_append_left _ h)
    · exact List.mem_append_right _ (List.mem_append_right _ (flat_packs_mem t h))
theorem rowsM_mem (c : List Thing) : ∀ (j : Nat) {s : Nat}, s ∈ flat (rowsM c j) → s ∈ flat c
  | 0, _, h => h
  | j + 1, s, h => by
    rw [rowsM] at h
    have h' := (flat_perm (mrg_perm _ _)).mem_iff.1 h
    rw [flat_append] at h'
    rcases List.mem_append.1 h' with e | e
    · exact e
    · exact rowsM_mem c j (flat_packs_mem _ e)
/-- How often each of the first n numbers stands in a row. -/
def howN (n : Nat) (l : List Nat) : List Nat := (List.range n).map (fun s => l.count s)
theorem howN_len (n : Nat) (l : List Nat) : (howN n l).length = n := by simp [howN]
theorem howN_nil (n : Nat) : howN n [] = List.replicate n 0 := by
  refine List.ext_getElem (by simp [howN]) fun i h1 h2 => ?_
  simp [howN]
theorem howN_step {n s : Nat} (l : List Nat) : howN n (l ++ [s]) = (howN n l).set s (l.count s + 1) := by
  refine List.ext_getElem (by simp [howN]) fun i h1 h2 => ?_
  rw [List.getElem_set]
  simp only [howN, List.getElem_map, List.getElem_range, List.count_append]
  by_cases h : s = i
  · subst h; rw [if_pos rfl]; simp
  · rw [if_neg h]
    have : List.count i [s] = 0 := List.count_eq_zero.2 (by simp; exact fun e => h e.symm)
    omega
theorem howN_at {n s : Nat} (l : List Nat) (hs : s < n) : (howN n l)[s]'(by rw [howN_len]; exact hs) = l.count s := by simp [howN]
theorem flat_next {l : List Thing} {t : Nat} {u : Thing} (h : l[t]? = some u) : flat (l.take (t + 1)) = flat (l.take t) ++ u.2 := by
  rw [List.take_add_one, h, flat_append]
  simp [flat]
end Go.Proofs.Ythecibabpcfoaaa
