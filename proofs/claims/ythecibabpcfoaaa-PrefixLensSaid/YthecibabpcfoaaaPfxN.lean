/- prefix, plain: rows of coins and packages with marks; how many coins lie among the first. -/
import Derived.Test.YthecibabpcfoaaaPfxJ
import Derived.Test.YthecibabpcfoaaaSrtQ
import Derived.Test.YthecibabpcfoaaaPfxF
namespace Go.Proofs.Ythecibabpcfoaaa
set_option maxRecDepth 100000

/-- A thing and whether it is a coin. -/
abbrev TT := Thing × Bool
def elT (t : TT) : Nat × Bool := (t.1.1, t.2)
def mrgT : List TT → List TT → List TT
  | [], b => b
  | a, [] => a
  | a :: s, b :: t => if a.1.1 ≤ b.1.1 then a :: mrgT s (b :: t) else b :: mrgT (a :: s) t
termination_by a b => a.length + b.length
theorem mrgT_nil (b : List TT) : mrgT [] b = b := by unfold mrgT; rfl
theorem mrgT_nil' (a : List TT) : mrgT a [] = a := by cases a <;> (unfold mrgT; rfl)
theorem mrgT_le {a b : TT} {s t : List TT} (h : a.1.1 ≤ b.1.1) : mrgT (a :: s) (b :: t) = a :: mrgT s (b :: t) := by rw [mrgT, if_pos h]
theorem mrgT_gt {a b : TT} {s t : List TT} (h : ¬ a.1.1 ≤ b.1.1) : mrgT (a :: s) (b :: t) = b :: mrgT (a :: s) t := by rw [mrgT, if_neg h]
theorem mrgT_perm : ∀ a b : List TT, (mrgT a b).Perm (a ++ b)
  | [], b => by rw [mrgT_nil]; exact List.Perm.refl _
  | a :: s, [] => by rw [mrgT_nil', List.append_nil]
  | a :: s, b :: t => by
    by_cases h : a.1.1 ≤ b.1.1
    · rw [mrgT_le h]; exact (mrgT_perm s (b :: t)).cons a
    · rw [mrgT_gt h]
      exact ((mrgT_perm (a :: s) t).cons b).trans List.perm_middle.symm
termination_by a b => a.length + b.length
theorem mrgT_fst : ∀ a b : List TT, (mrgT a b).map (·.1) = mrg (a.map (·.1)) (b.map (·.1))
  | [], b => by rw [mrgT_nil, List.map_nil, mrg_nil]
  | a :: s, [] => by rw [mrgT_nil', List.map_nil, mrg_nil']
  | a :: s, b :: t => by
    by_cases h : a.1.1 ≤ b.1.1
    · rw [mrgT_le h, List.map_cons, mrgT_fst s (b :: t), List.map_cons, List.map_cons, mrg_le h]
    · rw [mrgT_gt h, List.map_cons, mrgT_fst (a :: s) t, List.map_cons, List.map_cons, mrg_gt h]
termination_by a b => a.length + b.length
theorem mrgT_yes : ∀ a b : List TT, (∀ x ∈ a, x.2 = true) → (∀ x ∈ b, x.2 = false) → (mrgT a b).filter (·.2) = a
  | [], b, _, hb => by rw [mrgT_nil, List.filter_eq_nil_iff]; intro x hx; rw [hb x hx]; simp
  | a :: s, [], ha, _ => by rw [mrgT_nil', List.filter_eq_self]; exact ha
  | a :: s, b :: t, ha, hb => by
    by_cases h : a.1.1 ≤ b.1.1
    · rw [mrgT_le h, List.filter_cons_of_pos (ha a (List.mem_cons_self ..)), mrgT_yes s (b :: t) (fun x hx => ha x (List.mem_cons_of_mem _ hx)) hb]
    · rw [mrgT_gt h, List.filter_cons_of_neg (by rw [hb b (List.mem_cons_self ..)]; simp), mrgT_yes (a :: s) t ha (fun x hx => hb x (List.mem_cons_of_mem _ hx))]
termination_by a b => a.length + b.length
theorem mrgT_no : ∀ a b : List TT, (∀ x ∈ a, x.2 = true) → (∀ x ∈ b, x.2 = false) → (mrgT a b).filter (fun x => !x.2) = b
  | [], b, _, hb => by rw [mrgT_nil, List.filter_eq_self]; intro x hx; rw [hb x hx]; rfl
  | a :: s, [], ha, _ => by rw [mrgT_nil', List.filter_eq_nil_iff]; intro x hx; rw [ha x hx]; simp
  | a :: s, b :: t, ha, hb => by
    by_cases h : a.1.1 ≤ b.1.1
    · rw [mrgT_le h, List.filter_cons_of_neg (by rw [ha a (List.mem_cons_self ..)]; simp), mrgT_no s (b :: t) (fun x hx => ha x (List.mem_cons_of_mem _ hx)) hb]
    · rw [mrgT_gt h, List.filter_cons_of_pos (by rw [hb b (List.mem_cons_self ..)]; rfl), mrgT_no (a :: s) t ha (fun x hx => hb x (List.mem_cons_of_mem _ hx))]
termination_by a b => a.length + b.length
/-- Weight, then coins first. -/
def LexE (x y : Nat × Bool) : Prop := x.1 < y.1 ∨ x.1 = y.1 ∧ (x.2 = true ∨ y.2 = false)
theorem mrgT_lex : ∀ a b : List TT, (∀ x ∈ a, x.2 = true) → (∀ x ∈ b, x.2 = false) → a.Pairwise (fun x y => x.1.1 ≤ y.1.1) → b.Pairwise (fun x y => x.1.1 ≤ y.1.1) → (mrgT a b).Pairwise (fun x y => LexE (elT x) (elT y))
  | [], b, _, hb, _, h2 => by
    rw [mrgT_nil]
    refine h2.imp_of_mem fun {x y} hx hy h => ?_
    have := hb y hy
    unfold LexE elT
    simp only
    rcases Nat.lt_or_eq_of_le h with h | h
    · exact .inl h
    · exact .inr ⟨h, .inr this⟩
  | a :: s, [], ha, _, h1, _ => by
    rw [mrgT_nil']
    refine h1.imp_of_mem fun {x y} hx hy h => ?_
    have := ha x hx
    unfold LexE elT
    simp only
    rcases Nat.lt_or_eq_of_le h with h | h
    · exact .inl h
    · exact .inr ⟨h, .inl this⟩
  | a :: s, b :: t, ha, hb, h1, h2 => by
    have h1' := List.pairwise_cons.1 h1
    have h2' := List.pairwise_cons.1 h2
    by_cases h : a.1.1 ≤ b.1.1
    · rw [mrgT_le h]
      refine List.pairwise_cons.2 ⟨fun x hx => ?_, mrgT_lex s (b :: t) (fun x hx => ha x (List.mem_cons_of_mem _ hx)) hb h1'.2 h2⟩
      have hle : a.1.1 ≤ x.1.1 := by
        rcases List.mem_append.1 ((mrgT_perm _ _).mem_iff.1 hx) with hx | hx
        · exact h1'.1 x hx
        · rcases List.mem_cons.1 hx with rfl | hx
          · exact h
          · exact Nat.le_trans h (h2'.1 x hx)
      have := ha a (List.mem_cons_self ..)
      unfold LexE elT
      simp only
      rcases Nat.lt_or_eq_of_le hle with h | h
      · exact .inl h
      · exact .inr ⟨h, .inl this⟩
    · rw [mrgT_gt h]
      refine List.pairwise_cons.2 ⟨fun x hx => ?_, mrgT_lex (a :: s) t ha (fun x hx => hb x (List.mem_cons_of_mem _ hx)) h1 h2'.2⟩
      unfold LexE elT
      simp only
      rcases List.mem_append.1 ((mrgT_perm _ _).mem_iff.1 hx) with hx | hx
      · left
        rcases List.mem_cons.1 hx with rfl | hx
        · omega
        · have := h1'.1 x hx; omega
      · have hle := h2'.1 x hx
        have := hb x (List.mem_cons_of_mem _ hx)
        rcases Nat.lt_or_eq_of_le hle with h | h
        · exact .inl h
        · exact .inr ⟨h, .inr this⟩
termination_by a b => a.length + b.length

def coinT (c : List Thing) : List TT := c.map fun t => (t, true)
def packT (l : List Thing) : List TT := (pack l).map fun t => (t, false)
def rowsT (c : List Thing) : Nat → List TT
  | 0 => coinT c
  | j + 1 => mrgT (coinT c) (packT ((rowsT c j).map (·.1)))
theorem coinT_yes (c : List Thing) : ∀ x ∈ coinT c, x.2 = true := by intro x hx; obtain ⟨t, _, rfl⟩ := List.mem_map.1 hx; rfl
theorem packT_no (l : List Thing) : ∀ x ∈ packT l, x.2 = false := by intro x hx; obtain ⟨t, _, rfl⟩ := List.mem_map.1 hx; rfl
theorem coinT_fst (c : List Thing) : (coinT c).map (·.1) = c := by
  unfold coinT; rw [List.map_map]; conv => rhs; rw [← List.map_id c]
  exact List.map_congr_left fun x _ => rfl
theorem packT_fst (l : List Thing) : (packT l).map (·.1) = pack l := by
  unfold packT; rw [List.map_map]; conv => rhs; rw [← List.map_id (pack l)]
  exact List.map_congr_left fun x _ => rfl
theorem rowsT_fst (c : List Thing) : ∀ j, (rowsT c j).map (·.1) = rowsM c j
  | 0 => coinT_fst c
  | j + 1 => by rw [rowsT, mrgT_fst, coinT_fst, packT_fst, rowsT_fst c j]; rfl
theorem packE_el : ∀ l : List TT, packE (l.map elT) = (packT (l.map (·.1))).map elT
  | [] => rfl
  | [_] => rfl
  | a :: b :: t => by
    have ih := packE_el t
    simp only [List.map_cons, packE, ih, packT, pack]
    rfl
/-- The row that the program has. -/
def rowsE (c : List Thing) (j : Nat) : List (Nat × Bool) := (rowsT c j).map elT
theorem rowsE_len (c : List Thing) (j : Nat) : (rowsE c j).length = (rowsM c j).length := by unfold rowsE; rw [List.length_map, ← rowsT_fst, List.length_map]
/-- A stable sort of the coins with the packages behind them is the next row. -/
theorem rowsE_sorted {c : List Thing} (hc : Rises c) (j : Nat) {ys : List (Nat × Bool)} (h : Stably (fun x : Nat × Bool => (x.1 : Int)) (rowsE c 0 ++ packE (rowsE c j)) ys) : ys = rowsE c (j + 1) := by
  obtain ⟨zs, hp, ho, rfl⟩ := h
  have hpk : packE (rowsE c j) = (packT (rowsM c j)).map elT := by unfold rowsE; rw [packE_el, rowsT_fst]
  rw [hpk] at hp
  have hc0 : rowsE c 0 = (coinT c).map elT := rfl
  rw [hc0] at hp
  have hperm : (zs.map Prod.fst).Perm ((coinT c).map elT ++ (packT (rowsM c j)).map elT) := by
    have := hp.map Prod.fst
    rwa [List.zipIdx_map_fst] at this
  have hperm2 : (rowsE c (j + 1)).Perm ((coinT c).map elT ++ (packT (rowsM c j)).map elT) := by
    unfold rowsE
    rw [rowsT, rowsT_fst, ← List.map_append]
    exact (mrgT_perm _ _).map elT
  refine (hperm.trans hperm2.symm).eq_of_pairwise (le := LexE) (fun a b _ _ h1 h2 => ?_) ?_ ?_
  · obtain ⟨a1, a2⟩ := a
    obtain ⟨b1, b2⟩ := b
    unfold LexE at h1 h2
    simp only at h1 h2
    have e : a1 = b1 := by omega
    subst e
    have h1' : a2 = true ∨ b2 = false := by rcases h1 with h | h; · omega
                                            · exact h.2
    have h2' : b2 = true ∨ a2 = false := by rcases h2 with h | h; · omega
                                            · exact h.2
    cases a2 <;> cases b2 <;> simp_all
  · rw [List.pairwise_map]
    refine ho.imp_of_mem fun {x y} hx hy hxy => ?_
    unfold LexE
    have hxy' : ((x.1.1 : Nat) : Int) < ((y.1.1 : Nat) : Int) ∨ ((x.1.1 : Nat) : Int) = ((y.1.1 : Nat) : Int) ∧ x.2 < y.2 := hxy
    clear hxy
    rcases hxy' with h | ⟨h1, h2⟩
    · exact .inl (by omega)
    · refine .inr ⟨by omega, ?_⟩
      have ex := hp.mem_iff.1 hx
      have ey := hp.mem_iff.1 hy
      obtain ⟨x1, xi⟩ := x
      obtain ⟨y1, yi⟩ := y
      rw [List.mk_mem_zipIdx_iff_getElem?] at ex ey
      simp only at h2
      rcases Nat.lt_or_ge xi ((coinT c).map elT).length with h3 | h3
      · left
        rw [List.getElem?_append_left h3] at ex
        obtain ⟨t, ht, rfl⟩ := List.mem_map.1 (List.mem_of_getElem? ex)
        exact coinT_yes c t ht
      · right
        rw [List.getElem?_append_right (by omega)] at ey
        obtain ⟨t, ht, rfl⟩ := List.mem_map.1 (List.mem_of_getElem? ey)
        exact packT_no _ t ht
  · unfold rowsE
    rw [List.pairwise_map, rowsT, rowsT_fst]
    refine mrgT_lex _ _ (coinT_yes c) (packT_no _) ?_ ?_
    · unfold coinT; rw [List.pairwise_map]; exact hc
    · unfold packT; rw [List.pairwise_map]; exact pack_rises _ (rowsM_rises hc j)

/-- How many coins lie among the first K of row n. -/
def coinsIn (c : List Thing) (n K : Nat) : Nat := ((rowsE c n).take K).countP (·.2)
/-- .. and of the rows below it. -/
def msE (c : List Thing) : Nat → Nat → List Nat
  | 0, K => [coinsIn c 0 K]
  | n + 1, K => coinsIn c (n + 1) K :: msE c n (2 * (K - coinsIn c (n + 1) K))
theorem take_filter {α : Type} (p : α → Bool) : ∀ (l : List α) (K : Nat), (l.take K).filter p = (l.filter p).take ((l.take K).countP p)
  | [], K => by simp
  | a :: l, 0 => by simp
  | a :: l, K + 1 => by
    have ih := take_filter p l K
    rw [List.take_succ_cons]
    by_cases h : p a = true
    · rw [List.filter_cons_of_pos h, List.filter_cons_of_pos h, List.countP_cons_of_pos h, List.take_succ_cons, ih]
    · rw [List.filter_cons_of_neg h, List.filter_cons_of_neg h, List.countP_cons_of_neg h, ih]
theorem coinsIn_is (c : List Thing) (n K : Nat) : coinsIn c n K = ((rowsT c n).take K).countP (·.2) := by
  unfold coinsIn rowsE
  rw [← List.map_take, List.countP_map]; rfl
theorem coinsIn_le (c : List Thing) (n K : Nat) : coinsIn c n K ≤ c.length ∧ coinsIn c n K ≤ K := by
  constructor
  · rw [coinsIn_is]
    have h1 : ((rowsT c n).take K).countP (·.2) ≤ (rowsT c n).countP (·.2) := (List.take_sublist ..).countP_le
    have h2 : (rowsT c n).countP (·.2) = c.length := by
      rw [List.countP_eq_length_filter]
      cases n with
      | zero => show ((coinT c).filter (·.2)).length = _; rw [List.filter_eq_self.2 (coinT_yes c)]; simp [coinT]
      | succ n => rw [rowsT, mrgT_yes _ _ (coinT_yes c) (packT_no _)]; simp [coinT]
    omega
  · exact Nat.le_trans List.countP_le_length (by simp; omega)
theorem coinsIn_zero (c : List Thing) {K : Nat} (h : K ≤ c.length) : coinsIn c 0 K = K := by
  rw [coinsIn_is, rowsT, List.countP_eq_length.2 fun x hx => coinT_yes c x (List.mem_of_mem_take hx)]
  simp [coinT]; omega
/-- The rest of the first K of row n + 1 are packages of the first ones of row n. -/
theorem rest_le (c : List Thing) (n : Nat) {K : Nat} (hK : K ≤ (rowsM c (n + 1)).length) : 2 * (K - coinsIn c (n + 1) K) ≤ (rowsM c n).length ∧ (flat ((rowsM c (n + 1)).take K)).Perm (flat (c.take (coinsIn c (n + 1) K)) ++ flat ((rowsM c n).take (2 * (K - coinsIn c (n + 1) K)))) := by
  have hR : rowsT c (n + 1) = mrgT (coinT c) (packT (rowsM c n)) := by rw [rowsT, rowsT_fst]
  obtain ⟨m, hm⟩ : ∃ m, coinsIn c (n + 1) K = m := ⟨_, rfl⟩
  have hm' : ((mrgT (coinT c) (packT (rowsM c n))).take K).countP (·.2) = m := by rw [← hR, ← coinsIn_is]; exact hm
  have hlen : (mrgT (coinT c) (packT (rowsM c n))).length = (rowsM c (n + 1)).length := by rw [← hR, ← rowsT_fst, List.length_map]
  have hno : ((mrgT (coinT c) (packT (rowsM c n))).take K).countP (fun x => !x.2) = K - m := by
    have h1 := List.length_eq_countP_add_countP (l := (mrgT (coinT c) (packT (rowsM c n))).take K) (p := fun x => x.2)
    rw [hm', List.length_take, hlen, Nat.min_eq_left hK] at h1
    have h2 : ((mrgT (coinT c) (packT (rowsM c n))).take K).countP (fun x => !x.2) = ((mrgT (coinT c) (packT (rowsM c n))).take K).countP (fun x => decide ¬x.2 = true) := by
      refine List.countP_congr fun x _ => ?_
      cases x.2 <;> simp
    omega
  have e1 := take_filter (·.2) (mrgT (coinT c) (packT (rowsM c n))) K
  have e2 := take_filter (fun x => !x.2) (mrgT (coinT c) (packT (rowsM c n))) K
  rw [mrgT_yes _ _ (coinT_yes c) (packT_no _), hm'] at e1
  rw [mrgT_no _ _ (coinT_yes c) (packT_no _), hno] at e2
  have hpl : (packT (rowsM c n)).length = (rowsM c n).length / 2 := by unfold packT; rw [List.length_map, pack_len]
  have hle : K - m ≤ (rowsM c n).length / 2 := by
    have := congrArg List.length e2
    rw [← List.countP_eq_length_filter, hno, List.length_take, hpl] at this
    omega
  rw [hm]
  refine ⟨by omega, ?_⟩
  have hp : ((rowsM c (n + 1)).take K).Perm (c.take m ++ (pack (rowsM c n)).take (K - m)) := by
    have h1 := (List.filter_append_perm (fun x : TT => x.2) ((mrgT (coinT c) (packT (rowsM c n))).take K)).symm
    have h2 := h1.map (·.1)
    rw [List.map_append] at h2
    have h3 : (((mrgT (coinT c) (packT (rowsM c n))).take K).map (·.1)) = (rowsM c (n + 1)).take K := by rw [List.map_take, ← hR, rowsT_fst]
    rw [h3, e1, e2, List.map_take, List.map_take, coinT_fst, packT_fst] at h2
    exact h2
  refine (flat_perm hp).trans ?_
  rw [flat_append, pack_take, flat_pack _ (by rw [List.length_take]; omega)]
theorem msE_flat (c : List Thing) : ∀ n K, K ≤ (rowsM c n).length → (flat ((rowsM c n).take K)).Perm ((msE c n K).flatMap fun k => flat (c.take k))
  | 0, K, hK => by
    have hK' : K ≤ c.length := hK
    simp only [msE, List.flatMap_cons, List.flatMap_nil, List.append_nil, coinsIn_zero c hK']
    exact List.Perm.refl _
  | n + 1, K, hK => by
    obtain ⟨h1, h2⟩ := rest_le c n hK
    simp only [msE, List.flatMap_cons]
    exact h2.trans ((msE_flat c n _ h1).append_left _)
/-- The length of the i-th coin's symbol. -/
theorem mergeO_ms {F : Nat → Nat} {ss : List Nat} {L : Nat} (hn : ss.Nodup) (h2 : 2 ≤ ss.length) (hL : 1 ≤ L) (hu : ss.length ≤ 2 ^ L) {i : Nat} (hi : i < ss.length) :
    mergeO F ss L ss[i] = lenM (msE (coinsF F ss) (L - 1) (2 * ss.length - 2)) i := by
  have hl := coinsF_len F ss
  have hK : 2 * ss.length - 2 ≤ (rowsM (coinsF F ss) (L - 1)).length := by
    have := rowsM_big (coinsF F ss) (L - 1) 1 (by rw [hl, show L - 1 + 1 = L by omega]; exact hu)
    rw [hl] at this
    simp at this
    omega
  unfold mergeO
  rw [(msE_flat (coinsF F ss) _ _ hK).count_eq, count_flats F ss hn _ i hi]
theorem msE_bound {F : Nat → Nat} {ss : List Nat} {L : Nat} (hL : 1 ≤ L) (hu : ss.length ≤ 2 ^ L) : 2 * ss.length - 2 ≤ (rowsM (coinsF F ss) (L - 1)).length := by
  have hl := coinsF_len F ss
  have := rowsM_big (coinsF F ss) (L - 1) 1 (by rw [hl, show L - 1 + 1 = L by omega]; exact hu)
  rw [hl] at this
  simp at this
  omega
end Go.Proofs.Ythecibabpcfoaaa
