/- block: rows that grow row by row. -/
import Derived.Test.YtfbhiaoodompdaaBloC
namespace Go.Proofs.Ytfbhiaoodompdaa
open Go.RowKit
set_option maxRecDepth 100000
set_option maxHeartbeats 4000000

/-- 'append(v, u)' where an element is longer, one operation of a region that draws its order. -/
theorem step_pushS {P : Program} {w : World} {base : Nat} {e t : TypeId} {z v : Value} {bytes : Nat} {xs : List Value} (hown : Own w base e v xs) (hbase : base ≤ w.heap.size) (hroom : xs.length + 1 ≤ 1099511627776)
    (ht : P.underlying t = some (.slice e)) (hinf : (P.info? e).map (fun i => (i.zero, i.size, i.bytes)) = some (some z, 1, bytes)) (hzs : z.cells.size = 1) (hb16 : bytes ≤ 64)
    {ops : Array Oper} {o : Oper} {a : Act} {K : Act → World → Prop} {Q : Exit → Act → World → Prop} {E : Prop} {s x : Operand} {u : Value} (hgd : o.guard = none)
    (ho : o.op = .call { callee := .builtin .append, args := #[s, x], argTypes := #[t, t] })
    (hs : a.eval s = v) {k : Nat} (hx : a.eval x = .slice (some ⟨k, 0, none⟩) 1 1) (hu : u.oneCell' = true) (hk : k = w.heap.size := by simp)
    (h : ∀ v' w', Own w' base e v' (xs ++ [u]) → (∀ g, Mov w w' g v v') → K (a.put o.dst v') w') : if Region.wanted o (yielded ops a.tmps) = true then Oper.wp P o a (w.alloc (.cells #[u] e)) K Q else E := by
  subst hk
  rw [if_pos (by simp [Region.wanted, hgd])]
  obtain ⟨i, hi, hz0, hz1, hz2⟩ := info_parts hinf
  have hown' := World.ownsRow.alloc hown (.cells #[u] e)
  have hbytes : (xs.length + 1) * bytes ≤ 140737488355328 := by
    have : (xs.length + 1) * bytes ≤ 1099511627776 * 64 := Nat.mul_le_mul hroom hb16
    omega
  obtain ⟨v', w', hr, h2, h3, _, h5⟩ := run_append_own_at (P := P) (w.alloc (.cells #[u] e)) base t o.type e i z 1 bytes ht hi hz0 hz1 hz2 hzs (by decide) v _ xs hown' ⟨w.heap.size, 0, none⟩ 1 1 [u] rfl (cell_one_new w u e) (by intro u' hu'; simp at hu'; subst hu'; exact hu) (by unfold maxLen; omega) hbytes (by simp; omega)
  unfold Oper.wp execOp
  simp only [ho, resolve, invoke, builtin, Sem.run_bind, Sem.run_pure, Result.andThen_ok, List.map_toArray, List.map_cons, List.map_nil, hs, hx, hr]
  have h1 : Below w.heap.size w (w.alloc (.cells #[u] e)) := (Below.refl _ _).alloc (Nat.le_refl _) _
  refine h v' w' (by unfold Own; simpa using h2) fun g => ?_
  refine (Mov.of_below h1).grown h3 fun k hk => ?_
  rcases h5 with e | e
  · exact .inl (e ▸ hk)
  · rw [e] at hk; injection hk with hk; exact .inr (by omega)
/-- 'rows = append(rows, u)', u a row that was made just now. -/
theorem RwG.push {w w1 w2 : World} {base : Nat} {v v' u : Value} {vs : List Value} {rs : List (List Int)} {l : List Int} (h : RwG w base v vs rs) (hbase : base ≤ w.heap.size) (hb : Below w.heap.size w w1) (hu : Own w1 w.heap.size 3 u (ci l)) (ht : Own w2 base 37 v' (vs ++ [u])) (hm : ∀ g, Mov w1 w2 g v v') : RwG w2 base v' (vs ++ [u]) (rs ++ [l]) := by
  have h1 := h.kept hb
  have keep : ∀ (x : Value) (xs : List Value) (b : Nat), Own w1 b 3 x xs → Own w2 b 3 x xs := by
    intro x xs b hx
    rcases hx.2 with ⟨rfl, h0⟩ | ⟨k, cap, cur, rfl, hbk, hk, r⟩
    · exact ⟨hx.1, .inl ⟨rfl, h0⟩⟩
    · have hlt := (Array.getElem?_eq_some_iff.1 hk).1
      exact ⟨hx.1, .inr ⟨k, cap, cur, rfl, hbk, ((hm (k + 1)).block k hlt (by omega) (h1.top.ne hk (by decide))).trans hk, r⟩⟩
  have hul := hu.lt
  refine ⟨ht, by simp [h.len], fun j x l' hx hl => ?_, fun i j x y hij hx hy => ?_⟩
  · rcases Nat.lt_trichotomy j vs.length with hj | hj | hj
    · rw [List.getElem?_append_left hj] at hx
      rw [List.getElem?_append_left (by rw [← h.len]; exact hj)] at hl
      exact keep _ _ _ (h1.row j x l' hx hl)
    · subst hj
      rw [List.getElem?_append_right (Nat.le_refl _), Nat.sub_self] at hx
      rw [h.len, List.getElem?_append_right (Nat.le_refl _), Nat.sub_self] at hl
      simp at hx hl
      subst hx; subst hl
      exact keep _ _ _ (hu.mono hbase)
    · rw [List.getElem?_eq_none (by simp; omega)] at hx
      simp at hx
  · have old : ∀ (i : Nat) (x : Value), vs[i]? = some x → ∀ k, x.ownBlock = some k → k < w.heap.size := by
      intro i x hx k hk
      have hi : i < rs.length := by rw [← h.len]; exact (List.getElem?_eq_some_iff.1 hx).1
      exact ((h.row i x rs[i] hx (List.getElem?_eq_getElem hi)).lt k hk).2
    have cases1 : ∀ (i : Nat) (x : Value), (vs ++ [u])[i]? = some x → (i < vs.length ∧ vs[i]? = some x) ∨ (i = vs.length ∧ x = u) := by
      intro i x hx
      rcases Nat.lt_trichotomy i vs.length with hi | hi | hi
      · rw [List.getElem?_append_left hi] at hx
        exact .inl ⟨hi, hx⟩
      · subst hi
        rw [List.getElem?_append_right (Nat.le_refl _), Nat.sub_self] at hx
        simp at hx
        exact .inr ⟨rfl, hx.symm⟩
      · rw [List.getElem?_eq_none (by simp; omega)] at hx
        simp at hx
    rcases cases1 i x hx with ⟨hi, hx'⟩ | ⟨hi, rfl⟩ <;> rcases cases1 j y hy with ⟨hj, hy'⟩ | ⟨hj, rfl⟩
    · exact h.ap i j x y hij hx' hy'
    · intro k hk hk'
      have h2 := old i x hx' k hk
      have h3 := (hul k hk').1
      omega
    · intro k hk hk'
      have h2 := old j y hy' k hk'
      have h3 := (hul k hk).1
      omega
    · omega
theorem Mov.belowK {w w' : World} {base : Nat} {v v' : Value} (h : ∀ g, Mov w w' g v v') (hv : ∀ k, v.ownBlock = some k → base ≤ k) (hb : base ≤ w.heap.size) : Below base w w' := (h base).below (Nat.le_refl _) hv hb
end Go.Proofs.Ytfbhiaoodompdaa
