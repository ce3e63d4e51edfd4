/- rows of rows of one's own: one cell of one row; one row more. -/
import Derived.Test.YtggddckckfilgaaBloM
namespace Go.Proofs.Ytggddckckfilgaa
open Go.RowKit
set_option maxRecDepth 100000
set_option maxHeartbeats 1600000

/-- A row of one's own stays where the blocks from its base on stay. -/
theorem Own.stays {w w' : World} {base : Nat} {e : TypeId} {v : Value} {xs : List Value} (h : Own w base e v xs) (hk : ∀ k, base ≤ k → k < w.heap.size → w'.heap[k]? = w.heap[k]?) : Own w' base e v xs := by
  rcases h.2 with ⟨rfl, h0⟩ | ⟨k, cap, cur, rfl, hb, hg, r⟩
  · exact ⟨h.1, .inl ⟨rfl, h0⟩⟩
  · exact ⟨h.1, .inr ⟨k, cap, cur, rfl, hb, (hk k hb (Array.getElem?_eq_some_iff.1 hg).1).trans hg, r⟩⟩
theorem RwG.stays {w w' : World} {base : Nat} {v : Value} {vs : List Value} {rs : List (List Int)} (h : RwG w base v vs rs) (hk : ∀ k, base ≤ k → k < w.heap.size → w'.heap[k]? = w.heap[k]?) : RwG w' base v vs rs :=
  ⟨h.top.stays hk, h.len, fun j x l hx hl => (h.row j x l hx hl).stays hk, h.ap⟩
/-- 'v[i][k] = z'. -/
theorem RwG.cell {w : World} {base g n c i k : Nat} {v : Value} {vs : List Value} {rs : List (List Int)} {row : List Int} (h : RwG w base v vs rs) (hx : vs[i]? = some (.slice (some ⟨g, 0, none⟩) n c)) (hr : rs[i]? = some row) (z : Int) :
    RwG (w.setCell ⟨g, k, none⟩ (.int .i64 z)) base v vs (rs.set i (row.set k z)) := by
  have hi := (List.getElem?_eq_some_iff.1 hr).1
  have ho := h.row i _ _ hx hr
  obtain ⟨cs, hblk⟩ := ho.blk (k := g) rfl
  have hgr := grown_set w g k (.int .i64 z)
  refine ⟨h.top.far hblk (by decide) hgr, by simp [h.len], fun j x l hy hl => ?_, h.ap⟩
  by_cases hij : i = j
  · subst hij
    rw [hx] at hy
    injection hy with hy
    subst hy
    rw [List.getElem?_set_self hi] at hl
    injection hl with hl
    subst hl
    have := ho.put k (.int .i64 z)
    rw [ci_set] at this
    exact this
  · rw [List.getElem?_set_ne hij] at hl
    have hy1 := h.row j x l hy hl
    refine World.ownsRow.kept (row := some g) hy1 hgr ?_
    right
    have := h.ap i j _ x hij hx hy g rfl
    exact this

/-- Row i of rows of one's own: where it lies. -/
theorem RwG.row_at {w : World} {base gS m c i n : Nat} {vs : List Value} {rows : List (List Int)} {row : List Int} (h : RwG w base (.slice (some ⟨gS, 0, none⟩) m c) vs rows) (hr : rows[i]? = some row) (hn : row.length = n) (hp : 0 < n) :
    ∃ gi ki, vs[i]? = some (.slice (some ⟨gi, 0, none⟩) n ki) ∧ n ≤ ki ∧ ki ≤ maxLen ∧ i < vs.length ∧ base ≤ gi := by
  have hvil : i < vs.length := by rw [h.len]; exact (List.getElem?_eq_some_iff.1 hr).1
  have hrow := h.row i vs[i] row (List.getElem?_eq_getElem hvil) hr
  obtain ⟨g, k, e, h1, h2, h3, _⟩ := hrow.at_ (by rw [ci_len, hn]; exact hp)
  rw [ci_len, hn] at e h2
  exact ⟨g, k, by rw [List.getElem?_eq_getElem hvil, e], h2, h3, hvil, h1⟩
theorem RwG.row_cells {w : World} {base gS m c i n gi ki : Nat} {vs : List Value} {rows : List (List Int)} {row : List Int} (h : RwG w base (.slice (some ⟨gS, 0, none⟩) m c) vs rows) (hv : vs[i]? = some (.slice (some ⟨gi, 0, none⟩) n ki)) (hr : rows[i]? = some row) (hn : row.length = n) (hp : 0 < n) :
    w.cell? ⟨gS, i, none⟩ = some (.slice (some ⟨gi, 0, none⟩) n ki) ∧ w.frozen? ⟨gS, i, none⟩ = false ∧ Own w base 3 (.slice (some ⟨gi, 0, none⟩) n ki) (ci row) ∧ (∀ j, w.frozen? ⟨gi, j, none⟩ = false) ∧ ∀ k, k < n → ∃ z, w.cell? ⟨gi, k, none⟩ = some (.int .i64 z) := by
  have hvil := (List.getElem?_eq_some_iff.1 hv).1
  obtain ⟨g, k, e, _, _, _, hc, hf, _⟩ := h.top.at_ (by omega)
  injection e with e1 e2 e3
  injection e1 with e1
  injection e1 with e1
  subst e1
  have hrow := h.row i _ row hv hr
  obtain ⟨g', k', e', _, _, _, hc', hf', _⟩ := hrow.at_ (by rw [ci_len, hn]; exact hp)
  injection e' with e1 e2 e3
  injection e1 with e1
  injection e1 with e1
  subst e1
  refine ⟨(hc i hvil).trans hv, hf i, hrow, hf', fun k hk => ?_⟩
  have hkr : k < row.length := by omega
  exact ⟨row[k], by rw [hc' k (by rw [ci_len]; exact hkr)]; simp [ci, hkr]⟩

/-- 'rows = append(rows, u)', u a row that was made just now. -/
theorem RwG.push {w w1 w2 : World} {base : Nat} {v v' u : Value} {vs : List Value} {rs : List (List Int)} {l : List Int} (h : RwG w base v vs rs) (hbase : base ≤ w.heap.size) (hb : Below w.heap.size w w1) (hu : Own w1 w.heap.size 3 u (ci l)) (ht : Own w2 base 43 v' (vs ++ [u])) (hm : ∀ g, Mov w1 w2 g v v') : RwG w2 base v' (vs ++ [u]) (rs ++ [l]) := by
  have h1 := h.kept hb
  have keep : ∀ (x : Value) (xs : List Value) (b : Nat), Own w1 b 3 x xs → Own w2 b 3 x xs := by
    intro x xs b hx
    rcases hx.2 with ⟨rfl, h0⟩ | ⟨k, cap, cur, rfl, hbk, hk, r⟩
    · exact ⟨hx.1, .inl ⟨rfl, h0⟩⟩
    · have hlt := (Array.getElem?_eq_some_iff.1 hk).1
      exact ⟨hx.1, .inr ⟨k, cap, cur, rfl, hbk, ((hm (k + 1)).block k hlt (by omega) (h1.top.ne hk (by decide))).trans hk, r⟩⟩
  have hul := hu.lt
  refine ⟨ht, by simp [h.len], fun j x l' hx hl => ?_, fun i j x y hij hx hy => ?_⟩
  · rcases Nat.lt_trichotomy j vs.length with hj | hj | hj
    · rw [List.getElem?_append_left hj] at hx
      rw [List.getElem?_append_left (by rw [← h.len]; exact hj)] at hl
      exact keep _ _ _ (h1.row j x l' hx hl)
    · subst hj
      rw [List.getElem?_append_right (Nat.le_refl _), Nat.sub_self] at hx
      rw [h.len, List.getElem?_append_right (Nat.le_refl _), Nat.sub_self] at hl
      simp at hx hl
      subst hx; subst hl
      exact keep _ _ _ (hu.mono hbase)
    · rw [List.getElem?_eq_none (by simp; omega)] at hx
      simp at hx
  · have old : ∀ (i : Nat) (x : Value), vs[i]? = some x → ∀ k, x.ownBlock = some k → k < w.heap.size := by
      intro i x hx k hk
      have hi : i < rs.length := by rw [← h.len]; exact (List.getElem?_eq_some_iff.1 hx).1
      exact ((h.row i x rs[i] hx (List.getElem?_eq_getElem hi)).lt k hk).2
    have cases1 : ∀ (i : Nat) (x : Value), (vs ++ [u])[i]? = some x → (i < vs.length ∧ vs[i]? = some x) ∨ (i = vs.length ∧ x = u) := by
      intro i x hx
      rcases Nat.lt_trichotomy i vs.length with hi | hi | hi
      · rw [List.getElem?_append_left hi] at hx
        exact .inl ⟨hi, hx⟩
      · subst hi
        rw [List.getElem?_append_right (Nat.le_refl _), Nat.sub_self] at hx
        simp at hx
        exact .inr ⟨rfl, hx.symm⟩
      · rw [List.getElem?_eq_none (by simp; omega)] at hx
        simp at hx
    rcases cases1 i x hx with ⟨hi, hx'⟩ | ⟨hi, rfl⟩ <;> rcases cases1 j y hy with ⟨hj, hy'⟩ | ⟨hj, rfl⟩
    · exact h.ap i j x y hij hx' hy'
    · intro k hk hk'
      have h2 := old i x hx' k hk
      have h3 := (hul k hk').1
      omega
    · intro k hk hk'
      have h2 := old j y hy' k hk'
      have h3 := (hul k hk).1
      omega
    · omega
theorem Mov.belowK {w w' : World} {base : Nat} {v v' : Value} (h : ∀ g, Mov w w' g v v') (hv : ∀ k, v.ownBlock = some k → base ≤ k) (hb : base ≤ w.heap.size) : Below base w w' := (h base).below (Nat.le_refl _) hv hb
/-- 'append(v, u)' where an element is longer. -/
theorem wpl_pushS {P : Program} {w : World} {base : Nat} {e t : TypeId} {z v : Value} {bytes : Nat} {xs : List Value} (hown : Own w base e v xs) (hbase : base ≤ w.heap.size) (hroom : xs.length + 1 ≤ 1099511627776)
    (ht : P.underlying t = some (.slice e)) (hinf : (P.info? e).map (fun i => (i.zero, i.size, i.bytes)) = some (some z, 1, bytes)) (hzs : z.cells.size = 1) (hb16 : bytes ≤ 64)
    {ops : Array Oper} {rest : List Oper} {o : Oper} {a : Act} {Q : Exit → Act → World → Prop} {s x : Operand} {u : Value} (hgd : o.guard = none)
    (ho : o.op = .call { callee := .builtin .append, args := #[s, x], argTypes := #[t, t] })
    (hs : a.eval s = v) {k : Nat} (hx : a.eval x = .slice (some ⟨k, 0, none⟩) 1 1) (hu : u.oneCell' = true) (hk : k = w.heap.size := by simp)
    (h : ∀ v' w', Own w' base e v' (xs ++ [u]) → (∀ g, Mov w w' g v v') → wpList P ops Q rest (a.put o.dst v') w') : wpList P ops Q (o :: rest) a (w.alloc (.cells #[u] e)) := by
  subst hk
  obtain ⟨i, hi, hz0, hz1, hz2⟩ := info_parts hinf
  have hown' := World.ownsRow.alloc hown (.cells #[u] e)
  refine wpList_append_own_at _ hgd s x t ho base e i z 1 bytes ht hi hz0 hz1 hz2 hzs (by decide) v _ xs hs hown' ⟨w.heap.size, 0, none⟩ 1 1 [u] hx rfl ?_ ?_ ?_ ?_ ?_ ?_
  · intro j u' hj
    match j, hj with
    | 0, hj =>
      simp at hj; subst hj
      show (w.alloc (.cells #[u] e)).cell? ⟨w.heap.size, 0, none⟩ = some u
      rw [cell_of_row _ _ _ _ _ _ (heap_alloc_new w _)]; rfl
    | j + 1, hj => simp at hj
  · intro u' hu'; simp at hu'; subst hu'; exact hu
  · unfold maxLen; omega
  · have : (xs.length + 1) * bytes ≤ 1099511627776 * 64 := Nat.mul_le_mul hroom hb16
    omega
  · simp; omega
  · intro v' w' ho' hg' _ hv'
    have h1 : Below w.heap.size w (w.alloc (.cells #[u] e)) := (Below.refl _ _).alloc (Nat.le_refl _) _
    refine h v' w' (by unfold Own; simpa using ho') fun g => ?_
    refine (Mov.of_below h1).grown hg' fun k hk => ?_
    rcases hv' with e | e
    · exact .inl (e ▸ hk)
    · rw [e] at hk; injection hk with hk; exact .inr (by omega)
theorem lit_rows (w : World) (a b c d : Int) : Rws (((w.alloc (.cells #[.int .i64 a, .int .i64 b] 3)).alloc (.cells #[.int .i64 c, .int .i64 d] 3)).alloc (.cells #[.slice (some ⟨w.heap.size, 0, none⟩) 2 2, .slice (some ⟨w.heap.size + 1, 0, none⟩) 2 2] 43)) (w.heap.size + 3) (.slice (some ⟨w.heap.size + 1 + 1, 0, none⟩) 2 2) [[a, b], [c, d]] := by
  obtain ⟨w1, h1⟩ : ∃ w1, w.alloc (.cells #[.int .i64 a, .int .i64 b] 3) = w1 := ⟨_, rfl⟩
  have s1 : w1.heap.size = w.heap.size + 1 := by rw [← h1]; simp
  have q1 := Sli.lit w #[.int .i64 a, .int .i64 b] 3 2 rfl (by simp [maxLen])
  rw [h1] at q1 ⊢
  obtain ⟨w2, h2⟩ : ∃ w2, w1.alloc (.cells #[.int .i64 c, .int .i64 d] 3) = w2 := ⟨_, rfl⟩
  have s2 : w2.heap.size = w.heap.size + 2 := by rw [← h2]; simp [s1]
  have q2 := Sli.lit w1 #[.int .i64 c, .int .i64 d] 3 2 rfl (by simp [maxLen])
  have b2 := below_new w1 #[.int .i64 c, .int .i64 d] 3
  rw [h2] at q2 b2 ⊢
  have q3 := Sli.lit w2 #[.slice (some ⟨w.heap.size, 0, none⟩) 2 2, .slice (some ⟨w.heap.size + 1, 0, none⟩) 2 2] 43 2 rfl (by simp [maxLen])
  have b3 := below_new w2 #[.slice (some ⟨w.heap.size, 0, none⟩) 2 2, .slice (some ⟨w.heap.size + 1, 0, none⟩) 2 2] 43
  rw [s1] at q2; rw [s2] at q3
  refine ⟨_, q3.more (Nat.le_refl _), rfl, fun j x l hx hl => ?_⟩
  match j, hx, hl with
  | 0, hx, hl =>
    simp at hx hl
    subst hx; subst hl
    exact ((q1.below (b2.mono (by omega))).below (b3.mono (by omega))).more (by omega)
  | 1, hx, hl =>
    simp at hx hl
    subst hx; subst hl
    exact (q2.below (b3.mono (by omega))).more (by omega)
  | j + 2, hx, hl => simp at hx
end Go.Proofs.Ytggddckckfilgaa
