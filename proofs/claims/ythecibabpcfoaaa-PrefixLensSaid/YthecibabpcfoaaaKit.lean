import Derived.WalkKit
import Derived.WalkSpells
import Derived.WalkLawsBesides
import Derived.Lib.Hide
import Derived.Lib.SliceRun
namespace Go.Proofs.Ythecibabpcfoaaa
open Go.RowKit

/-- A slice value '(A, n)' whose n one-cell elements, below block B, are the values xs. -/
def Has (w : World) (B : Nat) (A : Option Addr) (n : Nat) (xs : List Value) : Prop :=
  n = xs.length ∧ (n = 0 ∨ ∃ b o, A = some ⟨b, o, none⟩ ∧ b < B ∧ ∀ j, j < n → w.cell? ⟨b, o + j, none⟩ = xs[j]?)

theorem Has.nil (w : World) (B : Nat) (A : Option Addr) : Has w B A 0 [] := ⟨rfl, .inl rfl⟩
theorem Has.keep {w w' : World} {B n : Nat} {A : Option Addr} {xs : List Value} (h : Has w B A n xs) (hk : ∀ p : Addr, p.block < B → w'.cell? p = w.cell? p) : Has w' B A n xs := by
  refine ⟨h.1, ?_⟩
  rcases h.2 with h0 | ⟨b, o, e, hb, hc⟩
  · exact .inl h0
  · exact .inr ⟨b, o, e, hb, fun j hj => (hk _ hb).trans (hc j hj)⟩
theorem Has.below {w w' : World} {B n : Nat} {A : Option Addr} {xs : List Value} (h : Has w B A n xs) (hb : Below B w w') : Has w' B A n xs := h.keep fun _ hp => hb.cell hp
theorem Has.more {w : World} {B B' n : Nat} {A : Option Addr} {xs : List Value} (h : Has w B A n xs) (hB : B ≤ B') : Has w B' A n xs := by
  refine ⟨h.1, ?_⟩
  rcases h.2 with h0 | ⟨b, o, e, hb, hc⟩
  · exact .inl h0
  · exact .inr ⟨b, o, e, Nat.lt_of_lt_of_le hb hB, hc⟩
/-- Inside a round, where an index lies within: the address and the cell. -/
theorem Has.get {w : World} {B n : Nat} {A : Option Addr} {xs : List Value} (h : Has w B A n xs) {j : Nat} (hj : j < n) :
    ∃ b o u, A = some ⟨b, o, none⟩ ∧ b < B ∧ w.cell? ⟨b, o + j, none⟩ = some u ∧ xs[j]? = some u := by
  rcases h.2 with h0 | ⟨b, o, e, hb, hc⟩
  · omega
  · have hl : j < xs.length := by have := h.1; omega
    exact ⟨b, o, xs[j], e, hb, by rw [hc j hj, List.getElem?_eq_getElem hl], List.getElem?_eq_getElem hl⟩
theorem Has.of_own {w : World} {base : Nat} {e : TypeId} {A : Option Addr} {n c : Nat} {xs : List Value} (h : w.ownsRow base e 1 (.slice A n c) n xs) : Has w w.heap.size A n xs := by
  have h1 : n = xs.length := by have := h.1; omega
  refine ⟨h1, ?_⟩
  rcases h.2 with ⟨hv, h0⟩ | ⟨g, cap, cur, hv, hb, hg, hn, hm, hs, ht⟩
  · exact .inl h0
  · right
    injection hv with hA
    subst hA
    refine ⟨g, 0, rfl, (Array.getElem?_eq_some_iff.1 hg).1, fun j hj => ?_⟩
    rw [Nat.zero_add, cell_of_row w g j cur e (0, 0) hg, ← ht, List.getElem?_take, if_pos (by omega)]
    simp

/-- A slice value whose one-cell elements, below block B, are the values xs. -/
def Sli (w : World) (B : Nat) (v : Value) (xs : List Value) : Prop := ∃ A c, v = .slice A xs.length c ∧ Has w B A xs.length xs ∧ xs.length ≤ c ∧ c ≤ maxLen ∧ (A = none → c = 0)
theorem Sli.nil (w : World) (B : Nat) : Sli w B (.slice none 0 0) [] := ⟨none, 0, rfl, Has.nil _ _ _, by simp, by simp [maxLen], fun _ => rfl⟩
theorem Sli.keep {w w' : World} {B : Nat} {v : Value} {xs : List Value} (h : Sli w B v xs) (hk : ∀ p : Addr, p.block < B → w'.cell? p = w.cell? p) : Sli w' B v xs := by
  obtain ⟨A, c, e, hh, r⟩ := h
  exact ⟨A, c, e, hh.keep hk, r⟩
theorem Sli.below {w w' : World} {B : Nat} {v : Value} {xs : List Value} (h : Sli w B v xs) (hb : Below B w w') : Sli w' B v xs := h.keep fun _ hp => hb.cell hp
theorem Sli.more {w : World} {B B' : Nat} {v : Value} {xs : List Value} (h : Sli w B v xs) (hB : B ≤ B') : Sli w B' v xs := by
  obtain ⟨A, c, e, hh, r⟩ := h
  exact ⟨A, c, e, hh.more hB, r⟩

/-- 'x[lo:lo+n]' of a slice that is read: where lo is not the capacity, and where it is. -/
theorem Sli.mid {w : World} {B c : Nat} {A : Option Addr} {xs : List Value} (hh : Has w B A xs.length xs) (hcm : c ≤ maxLen) (hlc : xs.length ≤ c) (hnc : A = none → c = 0) (lo n : Nat) (h : lo + n ≤ xs.length) :
    Sli w B (.slice (A.map fun x => x.add lo) n (c - lo)) ((xs.drop lo).take n) := by
  have hl : ((xs.drop lo).take n).length = n := by simp; omega
  refine ⟨A.map fun x => x.add lo, c - lo, by rw [hl], ?_, by omega, by omega, ?_⟩
  · rw [hl]
    refine ⟨hl.symm, ?_⟩
    rcases hh.2 with h0 | ⟨b, o, rfl, hb, hc⟩
    · left; omega
    · refine .inr ⟨b, o + lo, by simp [Addr.add_lit], hb, fun j hj => ?_⟩
      rw [Nat.add_assoc, hc (lo + j) (by omega), List.getElem?_take, if_pos hj, List.getElem?_drop]
  · intro hA
    rcases A with _ | a
    · have := hnc rfl; omega
    · simp at hA
theorem Sli.tip {w : World} {B c : Nat} {A : Option Addr} {xs : List Value} (hlc : xs.length ≤ c) (lo n : Nat) (h : lo + n ≤ xs.length) (he : c = lo) : Sli w B (.slice A n 0) ((xs.drop lo).take n) := by
  have hn : n = 0 := by omega
  subst hn
  exact ⟨A, 0, by simp, by simpa using Has.nil w B A, by simp, by simp [maxLen], fun _ => rfl⟩

theorem Sli.mid2 {w : World} {B n c : Nat} {A : Option Addr} {xs : List Value} (hS : Sli w B (.slice A n c) xs) (lo m : Nat) (h : lo + m ≤ n) : Sli w B (.slice (A.map fun x => x.add lo) m (c - lo)) ((xs.drop lo).take m) := by
  obtain ⟨A', c', e, hh, hlc, hcm, hnc⟩ := hS
  injection e with e1 e2 e3
  subst e1; subst e2; subst e3
  exact Sli.mid hh hcm hlc hnc lo m h

/-- A row of the call's own, from block 'base' on: one-cell elements of type e, the values xs. -/
def Own (w : World) (base : Nat) (e : TypeId) (v : Value) (xs : List Value) : Prop := w.ownsRow base e 1 v xs.length xs

theorem Own.nil (w : World) (base : Nat) (e : TypeId) : Own w base e (.slice none 0 0) [] := World.ownsRow_nil _ _ _ _
theorem Own.kept {w w' : World} {base : Nat} {e : TypeId} {v : Value} {xs : List Value} (h : Own w base e v xs) (hb : Below w.heap.size w w') : Own w' base e v xs :=
  World.ownsRow.kept (row := none) h ⟨hb.os, hb.tape, hb.output, hb.size, fun k hk _ => hb.block k hk⟩ (by cases v.ownBlock <;> simp)
theorem Own.alloc {w : World} {base : Nat} {e : TypeId} {v : Value} {xs : List Value} (h : Own w base e v xs) (o : Obj) : Own (w.alloc o) base e v xs := World.ownsRow.alloc h o
theorem Own.drew {w : World} {base : Nat} {e : TypeId} {v : Value} {xs : List Value} (h : Own w base e v xs) : Own w.drew base e v xs := h
theorem Own.drewN {w : World} {base : Nat} {e : TypeId} {v : Value} {xs : List Value} (h : Own w base e v xs) (n : Nat) : Own (w.drewN n) base e v xs := h
theorem Own.form {w : World} {base : Nat} {e : TypeId} {v : Value} {xs : List Value} (h : Own w base e v xs) : ∃ A c, v = .slice A xs.length c ∧ xs.length ≤ c ∧ c ≤ maxLen := by
  rcases h.2 with ⟨hv, h0⟩ | ⟨g, cap, cur, hv, hb, hg, hn, hm, hs, ht⟩
  · exact ⟨none, 0, by rw [h0]; exact hv, by omega, by simp [maxLen]⟩
  · exact ⟨_, cap, hv, hn, hm⟩
theorem Own.has {w : World} {base : Nat} {e : TypeId} {A : Option Addr} {n c : Nat} {xs : List Value} (h : Own w base e (.slice A n c) xs) : Has w w.heap.size A n xs := by
  have hn : n = xs.length := by
    rcases h.2 with ⟨hv, h0⟩ | ⟨g, cap, cur, hv, _⟩
    · injection hv; omega
    · injection hv
  subst hn
  exact Has.of_own h
theorem Own.sli {w : World} {base : Nat} {e : TypeId} {v : Value} {xs : List Value} (h : Own w base e v xs) : Sli w w.heap.size v xs := by
  rcases h.2 with ⟨hv, h0⟩ | ⟨g, cap, cur, hv, hb, hg, hn, hm, hs, ht⟩
  · have : xs = [] := List.eq_nil_of_length_eq_zero h0
    subst this; subst hv; exact Sli.nil _ _
  · subst hv; exact ⟨_, cap, rfl, Own.has (base := base) (e := e) h, hn, hm, by simp⟩
theorem Own.mono {w : World} {base base' : Nat} {e : TypeId} {v : Value} {xs : List Value} (h : Own w base e v xs) (hb : base' ≤ base) : Own w base' e v xs := by
  refine ⟨h.1, ?_⟩
  rcases h.2 with h' | ⟨g, cap, cur, hv, hg, r⟩
  · exact .inl h'
  · exact .inr ⟨g, cap, cur, hv, Nat.le_trans hb hg, r⟩
theorem Own.lt {w : World} {base : Nat} {e : TypeId} {v : Value} {xs : List Value} (h : Own w base e v xs) : ∀ k, v.ownBlock = some k → base ≤ k ∧ k < w.heap.size := World.ownsRow.lt h
theorem below_of_grown {w w' : World} {base : Nat} {e : TypeId} {v : Value} {xs : List Value} (h : Own w base e v xs) (hb : base ≤ w.heap.size) (hg : w.grownBy w' v.ownBlock) : Below base w w' :=
  (Below.refl base w).grown hg hb fun k hk => (h.lt k hk).1

/-- 'b = append(b, u)'. -/
theorem wpl_app1 {P : Program} {w : World} {base : Nat} {e t : TypeId} {z v : Value} {bytes : Nat} {xs : List Value} (hown : Own w base e v xs) (hbase : base ≤ w.heap.size) (hroom : xs.length + 1 ≤ 8796093022208)
    (ht : P.underlying t = some (.slice e)) (hinf : (P.info? e).map (fun i => (i.zero, i.size, i.bytes)) = some (some z, 1, bytes)) (hzs : z.cells.size = 1) (hb16 : bytes ≤ 16)
    {ops : Array Oper} {rest : List Oper} {o : Oper} {a : Act} {Q : Exit → Act → World → Prop} {s x : Operand} {u : Value} (hgd : o.guard = none)
    (ho : o.op = .call { callee := .builtin .append, args := #[s, x], argTypes := #[t, t] })
    (hs : a.eval s = v) {k : Nat} (hx : a.eval x = .slice (some ⟨k, 0, none⟩) 1 1) (hu : u.oneCell' = true) (hk : k = w.heap.size := by simp)
    (h : ∀ v' w', Own w' base e v' (xs ++ [u]) → Below base w w' → wpList P ops Q rest (a.put o.dst v') w') : wpList P ops Q (o :: rest) a (w.alloc (.cells #[u] e)) := by
  subst hk
  obtain ⟨i, hi, hz0, hz1, hz2⟩ := info_parts hinf
  have hown' := World.ownsRow.alloc hown (.cells #[u] e)
  refine wpList_append_own _ hgd s x t ho base e i z 1 bytes ht hi hz0 hz1 hz2 hzs (by decide) v _ xs hs hown' ⟨w.heap.size, 0, none⟩ 1 1 [u] hx rfl ?_ ?_ ?_ ?_ ?_ ?_
  · intro j u' hj
    match j, hj with
    | 0, hj =>
      simp at hj; subst hj
      show (w.alloc (.cells #[u] e)).cell? ⟨w.heap.size, 0, none⟩ = some u
      rw [cell_of_row _ _ _ _ _ _ (heap_alloc_new w _)]; rfl
    | j + 1, hj => simp at hj
  · intro u' hu'; simp at hu'; subst hu'; exact hu
  · unfold maxLen; omega
  · have : (xs.length + 1) * bytes ≤ 8796093022208 * 16 := Nat.mul_le_mul hroom hb16
    omega
  · simp; omega
  · intro v' w' ho' hg' _
    refine h v' w' (by unfold Own; simpa using ho') ?_
    have h1 : Below base w (w.alloc (.cells #[u] e)) := (Below.refl _ _).alloc hbase _
    exact h1.grown hg' (by simp; omega) fun k hk => (hown.lt k hk).1
/-- 'b = append(b, x...)', x a slice that is read. -/
theorem wpl_appN {P : Program} {w : World} {base B : Nat} {e t : TypeId} {z v vx : Value} {bytes : Nat} {xs ys : List Value} (hown : Own w base e v xs) (hr : Sli w B vx ys) (hbase : base ≤ w.heap.size) (hroom : xs.length + ys.length ≤ 8796093022208)
    (ht : P.underlying t = some (.slice e)) (hinf : (P.info? e).map (fun i => (i.zero, i.size, i.bytes)) = some (some z, 1, bytes)) (hzs : z.cells.size = 1) (hb16 : bytes ≤ 16) (hone : ∀ u ∈ ys, u.oneCell' = true)
    {ops : Array Oper} {rest : List Oper} {o : Oper} {a : Act} {Q : Exit → Act → World → Prop} {s x : Operand} (hgd : o.guard = none)
    (ho : o.op = .call { callee := .builtin .append, args := #[s, x], argTypes := #[t, t] })
    (hs : a.eval s = v) (hx : a.eval x = vx)
    (h : ∀ v' w', Own w' base e v' (xs ++ ys) → Below base w w' → wpList P ops Q rest (a.put o.dst v') w') : wpList P ops Q (o :: rest) a w := by
  obtain ⟨i, hi, hz0, hz1, hz2⟩ := info_parts hinf
  obtain ⟨A, c, rfl, hh, hyc, hcm, hn⟩ := hr
  have hle : (xs.length + ys.length) * bytes ≤ 140737488355328 := by
    have : (xs.length + ys.length) * bytes ≤ 8796093022208 * 16 := Nat.mul_le_mul hroom hb16
    omega
  rcases A with _ | ad
  · have hy0 : ys = [] := by
      rcases hh.2 with h0 | ⟨b, o, he, _⟩
      · exact List.eq_nil_of_length_eq_zero h0
      · simp at he
    have hc0 := hn rfl
    subst hy0; subst hc0
    refine wpList_plain hgd fun K hK' => ?_
    have hrun := run_append_owned_none (P := P) w base t o.type e i 1 ht hi _ xs.length xs hown
    unfold Oper.wp
    simp [execOp, ho, resolve, invoke, builtin, hs, hx, hrun, Result.andThen]
    exact hK' _ _ (h _ _ (by simpa using hown) (Below.refl _ _))
  · refine wpList_append_own _ hgd s x t ho base e i z 1 bytes ht hi hz0 hz1 hz2 hzs (by decide) v _ xs hs hown ad ys.length c ys hx (by omega) ?_ hone ?_ ?_ hbase ?_
    · intro j u hj
      obtain ⟨hjl, hje⟩ := List.getElem?_eq_some_iff.1 hj
      obtain ⟨b, o, u', hA, _, hc, hu⟩ := hh.get hjl
      injection hA with hA; subst hA
      rw [Addr.add_lit, hc, ← hu, hj]
    · unfold maxLen; omega
    · exact hle
    · intro v' w' ho' hg' _
      exact h v' w' (by unfold Own; rw [List.length_append]; exact ho') (below_of_grown hown hbase hg')

/-- 'append(v, x...)', one operation. -/
theorem wp_appN {P : Program} {w : World} {base B : Nat} {e t : TypeId} {z v vx : Value} {bytes : Nat} {xs ys : List Value} (hown : Own w base e v xs) (hr : Sli w B vx ys) (hbase : base ≤ w.heap.size) (hroom : xs.length + ys.length ≤ 8796093022208)
    (ht : P.underlying t = some (.slice e)) (hinf : (P.info? e).map (fun i => (i.zero, i.size, i.bytes)) = some (some z, 1, bytes)) (hzs : z.cells.size = 1) (hb16 : bytes ≤ 16) (hone : ∀ u ∈ ys, u.oneCell' = true)
    {o : Oper} {a : Act} {K : Act → World → Prop} {Q : Exit → Act → World → Prop} {s x : Operand}
    (ho : o.op = .call { callee := .builtin .append, args := #[s, x], argTypes := #[t, t] })
    (hs : a.eval s = v) (hx : a.eval x = vx)
    (h : ∀ v' w', Own w' base e v' (xs ++ ys) → Below base w w' → K (a.put o.dst v') w') : o.wp P a w K Q := by
  obtain ⟨i, hi, hz0, hz1, hz2⟩ := info_parts hinf
  obtain ⟨A, c, rfl, hh, hyc, hcm, hn⟩ := hr
  have hle : (xs.length + ys.length) * bytes ≤ 140737488355328 := by
    have : (xs.length + ys.length) * bytes ≤ 8796093022208 * 16 := Nat.mul_le_mul hroom hb16
    omega
  rcases A with _ | ad
  · have hy0 : ys = [] := by
      rcases hh.2 with h0 | ⟨b, o, he, _⟩
      · exact List.eq_nil_of_length_eq_zero h0
      · simp at he
    have hc0 := hn rfl
    subst hy0; subst hc0
    have hrun := run_append_owned_none (P := P) w base t o.type e i 1 ht hi _ xs.length xs hown
    unfold Oper.wp
    simp [execOp, ho, resolve, invoke, builtin, hs, hx, hrun, Result.andThen]
    exact h _ _ (by simpa using hown) (Below.refl _ _)
  · refine wp_append_own w s x t ho base e i z 1 bytes ht hi hz0 hz1 hz2 hzs (by decide) v _ xs hs hown ad ys.length c ys hx (by omega) ?_ hone ?_ ?_ hbase ?_
    · intro j u hj
      obtain ⟨hjl, hje⟩ := List.getElem?_eq_some_iff.1 hj
      obtain ⟨b, o, u', hA, _, hc, hu⟩ := hh.get hjl
      injection hA with hA; subst hA
      rw [Addr.add_lit, hc, ← hu, hj]
    · unfold maxLen; omega
    · exact hle
    · intro v' w' ho' hg' _
      exact h v' w' (by unfold Own; rw [List.length_append]; exact ho') (below_of_grown hown hbase hg')
/-- 'append([]T{}, x...)'. -/
theorem wp_copy {P : Program} {w : World} {B : Nat} {e t : TypeId} {z vx : Value} {bytes : Nat} {ys : List Value} (hr : Sli w B vx ys) (hB : B ≤ w.heap.size) (hroom : ys.length ≤ 8796093022208)
    (ht : P.underlying t = some (.slice e)) (hinf : (P.info? e).map (fun i => (i.zero, i.size, i.bytes)) = some (some z, 1, bytes)) (hzs : z.cells.size = 1) (hb16 : bytes ≤ 16) (hone : ∀ u ∈ ys, u.oneCell' = true)
    {o : Oper} {a : Act} {K : Act → World → Prop} {Q : Exit → Act → World → Prop} {s x : Operand}
    (ho : o.op = .call { callee := .builtin .append, args := #[s, x], argTypes := #[t, t] })
    {k : Nat} (hs : a.eval s = .slice (some ⟨k, 0, none⟩) 0 0) (hx : a.eval x = vx) (hk : k = w.heap.size := by simp)
    (h : ∀ v' w', Own w' w.heap.size e v' ys → Below w.heap.size w w' → K (a.put o.dst v') w') : o.wp P a (w.alloc (.cells #[] e)) K Q := by
  subst hk
  have h0 : Below w.heap.size w (w.alloc (.cells #[] e)) := (Below.refl _ w).alloc (Nat.le_refl _) _
  have hO : Own (w.alloc (.cells #[] e)) w.heap.size e (.slice (some ⟨w.heap.size, 0, none⟩) 0 0) [] := World.ownsRow_made w #[] 0 (Nat.le_refl _) (by simp [maxLen]) rfl
  refine wp_appN hO (hr.below (h0.mono hB)) h0.size (by simpa using hroom) ht hinf hzs hb16 hone ho hs hx fun v' w' ho' hb' => ?_
  rw [List.nil_append] at ho'
  exact h v' w' ho' (h0.trans hb')
theorem wpl_copy {P : Program} {w : World} {B : Nat} {e t : TypeId} {z vx : Value} {bytes : Nat} {ys : List Value} (hr : Sli w B vx ys) (hB : B ≤ w.heap.size) (hroom : ys.length ≤ 8796093022208)
    (ht : P.underlying t = some (.slice e)) (hinf : (P.info? e).map (fun i => (i.zero, i.size, i.bytes)) = some (some z, 1, bytes)) (hzs : z.cells.size = 1) (hb16 : bytes ≤ 16) (hone : ∀ u ∈ ys, u.oneCell' = true)
    {ops : Array Oper} {rest : List Oper} {o : Oper} {a : Act} {Q : Exit → Act → World → Prop} {s x : Operand} (hgd : o.guard = none)
    (ho : o.op = .call { callee := .builtin .append, args := #[s, x], argTypes := #[t, t] })
    {k : Nat} (hs : a.eval s = .slice (some ⟨k, 0, none⟩) 0 0) (hx : a.eval x = vx) (hk : k = w.heap.size := by simp)
    (h : ∀ v' w', Own w' w.heap.size e v' ys → Below w.heap.size w w' → wpList P ops Q rest (a.put o.dst v') w') : wpList P ops Q (o :: rest) a (w.alloc (.cells #[] e)) :=
  wpList_plain hgd fun _ hK => wp_copy hr hB hroom ht hinf hzs hb16 hone ho hs hx hk fun v' w' h1 h2 => hK _ _ (h v' w' h1 h2)
/-- The same in a region that draws its order. -/
theorem step_copy {P : Program} {w : World} {B : Nat} {e t : TypeId} {z vx : Value} {bytes : Nat} {ys : List Value} (hr : Sli w B vx ys) (hB : B ≤ w.heap.size) (hroom : ys.length ≤ 8796093022208)
    (ht : P.underlying t = some (.slice e)) (hinf : (P.info? e).map (fun i => (i.zero, i.size, i.bytes)) = some (some z, 1, bytes)) (hzs : z.cells.size = 1) (hb16 : bytes ≤ 16) (hone : ∀ u ∈ ys, u.oneCell' = true)
    {ops : Array Oper} {o : Oper} {a : Act} {K : Act → World → Prop} {Q : Exit → Act → World → Prop} {E : Prop} {s x : Operand} (hgd : o.guard = none)
    (ho : o.op = .call { callee := .builtin .append, args := #[s, x], argTypes := #[t, t] })
    {k : Nat} (hs : a.eval s = .slice (some ⟨k, 0, none⟩) 0 0) (hx : a.eval x = vx) (hk : k = w.heap.size := by simp)
    (h : ∀ v' w', Own w' w.heap.size e v' ys → Below w.heap.size w w' → K (a.put o.dst v') w') : if Region.wanted o (yielded ops a.tmps) = true then Oper.wp P o a (w.alloc (.cells #[] e)) K Q else E := by
  rw [if_pos (by simp [Region.wanted, hgd])]
  exact wp_copy hr hB hroom ht hinf hzs hb16 hone ho hs hx hk h

/-- A row of the call's own that is not empty: its cells, and a store into it. -/
theorem Own.at_ {w : World} {base : Nat} {e : TypeId} {v : Value} {xs : List Value} (h : Own w base e v xs) (hp : 0 < xs.length) :
    ∃ g c, v = .slice (some ⟨g, 0, none⟩) xs.length c ∧ base ≤ g ∧ xs.length ≤ c ∧ c ≤ maxLen ∧ (∀ j, j < xs.length → w.cell? ⟨g, j, none⟩ = xs[j]?) ∧ (∀ j, w.frozen? ⟨g, j, none⟩ = false) ∧ ∀ j u, Own (w.setCell ⟨g, j, none⟩ u) base e v (xs.set j u) := by
  rcases h.2 with ⟨_, h0⟩ | ⟨g, cap, cur, rfl, hb, hg, hn, hm, hs, ht⟩
  · omega
  · refine ⟨g, cap, rfl, hb, hn, hm, fun j hj => ?_, fun j => frozen_of_row w g j cur e hg, fun j u => ?_⟩
    · rw [cell_of_row w g j cur e (0, 0) hg, ← ht, List.getElem?_take, if_pos (by omega)]; simp
    · unfold Own
      rw [List.length_set]
      exact (World.ownsRow.stored (w := w) h j u).1
theorem Own.put {w : World} {base g n c : Nat} {e : TypeId} {xs : List Value} (h : Own w base e (.slice (some ⟨g, 0, none⟩) n c) xs) (j : Nat) (u : Value) : Own (w.setCell ⟨g, j, none⟩ u) base e (.slice (some ⟨g, 0, none⟩) n c) (xs.set j u) := by
  rcases h.2 with ⟨h0, _⟩ | ⟨g', cap, cur, hv, hb, hg, hn, hm, hs, ht⟩
  · simp at h0
  · injection hv with e1 e2 e3
    subst e2; subst e3
    unfold Own at h ⊢
    rw [List.length_set]
    exact (World.ownsRow.stored (w := w) h j u).1
theorem Sli.hasn {w : World} {B n c : Nat} {A : Option Addr} {xs : List Value} (h : Sli w B (.slice A n c) xs) : Has w B A n xs := by
  obtain ⟨A', c', e, hh, _⟩ := h
  injection e with e1 e2 e3
  subst e1; subst e2
  exact hh
/-- A row of the call's own stays where a block below it is written. -/
theorem Own.keptAt {w w' : World} {base g : Nat} {e : TypeId} {v : Value} {xs : List Value} (h : Own w base e v xs) (hb : w.grownBy w' (some g)) (hg : g < base) : Own w' base e v xs := by
  refine World.ownsRow.kept (row := some g) h hb ?_
  rcases hv : v.ownBlock with _ | k
  · exact .inl rfl
  · right; intro he; injection he with he; have := (h.lt k hv).1; omega
theorem Sli.head {w : World} {B n c : Nat} {A : Option Addr} {xs : List Value} (h : Sli w B (.slice A n c) xs) {k : Nat} (hk : k ≤ n) : Sli w B (.slice A k c) (xs.take k) := by
  obtain ⟨A', c', e, hh, hlc, hcm, hnc⟩ := h
  injection e with e1 e2 e3
  subst e1; subst e2; subst e3
  have hl : (xs.take k).length = k := by simp; omega
  refine ⟨A, c, by rw [hl], ⟨rfl, ?_⟩, by omega, hcm, hnc⟩
  rw [hl]
  rcases hh.2 with h0 | ⟨b, o, hA, hb, hc⟩
  · left; omega
  · exact .inr ⟨b, o, hA, hb, fun j hj => by rw [hc j (by omega), List.getElem?_take, if_pos hj]⟩
theorem i64_mask (k : Nat) (hk : k ≤ 62) (c : Int) : bits .and .i64 c ((2 ^ k - 1 : Nat) : Int) = c % (2 ^ k : Nat) := by
  show IntKind.i64.wrap ((BitVec.ofInt 64 c &&& BitVec.ofInt 64 ((2 ^ k - 1 : Nat) : Int)).toNat : Int) = _
  have h1 : 2 ^ k ≤ 2 ^ 62 := Nat.pow_le_pow_right (by omega) hk
  have h0 : 0 < 2 ^ k := Nat.pow_pos (by omega)
  have h64 : 2 ^ k * 2 ^ (64 - k) = 2 ^ 64 := by rw [← Nat.pow_add]; congr 1; omega
  rw [BitVec.toNat_and, BitVec.ofInt_natCast, BitVec.toNat_ofNat, BitVec.toNat_ofInt, Nat.mod_eq_of_lt (a := 2 ^ k - 1) (by simp only [Nat.reducePow] at *; omega), Nat.and_two_pow_sub_one_eq_mod]
  have e : ((c % ((2 ^ 64 : Nat) : Int)).toNat : Int) = c % ((2 ^ 64 : Nat) : Int) := Int.toNat_of_nonneg (Int.emod_nonneg _ (by decide))
  have e2 : (((c % ((2 ^ 64 : Nat) : Int)).toNat % 2 ^ k : Nat) : Int) = c % (2 ^ k : Nat) := by
    rw [Int.natCast_emod, e]
    exact Int.emod_emod_of_dvd c ⟨((2 ^ (64 - k) : Nat) : Int), by rw [← Int.natCast_mul, h64]⟩
  rw [e2, IntKind.wrap_i64]
  have h2 := Int.emod_nonneg c (b := ((2 ^ k : Nat) : Int)) (by omega)
  have h3 := Int.emod_lt_of_pos c (b := ((2 ^ k : Nat) : Int)) (by omega)
  simp only [Nat.reducePow] at h1
  omega

theorem u64_mask (k : Nat) (hk : k ≤ 63) (n : Nat) : bits .and .u64 (n : Int) ((2 ^ k - 1 : Nat) : Int) = ((n % 2 ^ k : Nat) : Int) := by
  show IntKind.u64.wrap ((BitVec.ofInt 64 (n : Int) &&& BitVec.ofInt 64 ((2 ^ k - 1 : Nat) : Int)).toNat : Int) = _
  have h1 : 2 ^ k ≤ 2 ^ 63 := Nat.pow_le_pow_right (by omega) hk
  have h0 : 0 < 2 ^ k := Nat.pow_pos (by omega)
  have h64 : 2 ^ k * 2 ^ (64 - k) = 2 ^ 64 := by rw [← Nat.pow_add]; congr 1; omega
  rw [BitVec.toNat_and, BitVec.ofInt_natCast, BitVec.toNat_ofNat, BitVec.ofInt_natCast, BitVec.toNat_ofNat, Nat.mod_eq_of_lt (a := 2 ^ k - 1) (by simp only [Nat.reducePow] at *; omega), Nat.and_two_pow_sub_one_eq_mod, ← h64, Nat.mod_mul_right_mod, IntKind.wrap_u64]
  have h2 := Nat.mod_lt n h0
  simp only [Nat.reducePow] at h1
  omega
/-- The walk stands still here until 'unfold CutHere'. -/
def CutHere (p : Prop) : Prop := p
theorem cut_here {p : Prop} (h : CutHere p) : p := h

/-- 'make([]T, n)'. -/
theorem wpl_make {P : Program} {w : World} {e t : TypeId} {z : Value} {bytes n : Nat} (ht : P.underlying t = some (.slice e)) (hinf : (P.info? e).map (fun i => (i.zero, i.size, i.bytes)) = some (some z, 1, bytes)) (hz : z.cells = #[z]) (hb16 : bytes ≤ 16) (hroom : n ≤ 8796093022208)
    {ops : Array Oper} {rest : List Oper} {o : Oper} {a : Act} {Q : Exit → Act → World → Prop} {l c : Operand} {kl kc : IntKind} (hgd : o.guard = none)
    (ho : o.op = .makeSlice t l c) (hl : a.eval l = .int kl (n : Int)) (hc : a.eval c = .int kc (n : Int))
    (h : ∀ w', Own w' w.heap.size e (.slice (some ⟨w.heap.size, 0, none⟩) n n) (List.replicate n z) → Below w.heap.size w w' → wpList P ops Q rest (a.put o.dst (.slice (some ⟨w.heap.size, 0, none⟩) n n)) w') : wpList P ops Q (o :: rest) a w := by
  obtain ⟨i, hi, hz0, hz1, hz2⟩ := info_parts hinf
  have hle : bytes * n ≤ 281474976710656 := by
    have : bytes * n ≤ 16 * 8796093022208 := Nat.mul_le_mul hb16 hroom
    omega
  refine wpList_make_full w hgd l c t ho w.heap.size e i z 1 ht hi hz0 hz1 kl kc _ _ n hl hc rfl rfl (by rw [hz2]; exact hle) (by unfold maxLen; omega) (Nat.le_refl _) fun w' ho' hg' => ?_
  rw [hz, Nat.mul_one, toList_madeCells_one] at ho'
  exact h w' (by unfold Own; rw [List.length_replicate]; exact ho') ⟨hg'.os, hg'.tape, hg'.output, hg'.size, fun k hk => hg'.block k hk (by simp)⟩

/-- A row of the call's own stays where another block, of another element type, is written. -/
theorem Own.far {w w' : World} {base g : Nat} {e t : TypeId} {v : Value} {xs : List Value} {cs : Array Value} {fr : Nat × Nat} (h : Own w base e v xs) (hg : w.heap[g]? = some (.cells cs t fr)) (hne : e ≠ t) (hb : w.grownBy w' (some g)) : Own w' base e v xs := by
  refine World.ownsRow.kept (row := some g) h hb ?_
  rcases h.2 with ⟨rfl, _⟩ | ⟨g', cap, cur, rfl, _, hg', _⟩
  · left; rfl
  · right
    intro he
    have : g' = g := by simpa [Value.ownBlock] using he
    subst this
    rw [hg] at hg'
    injection hg' with hg'
    injection hg' with _ h2
    exact hne h2.symm


/-- A struct of three cells behind a pointer. -/
theorem blk3 {w : World} {g : Nat} {a b c : Value} {t : TypeId} (h : w.heap[g]? = some (.cells #[a, b, c] t (0, 0))) :
    w.cell? ⟨g, 0, none⟩ = some a ∧ w.cell? ⟨g, 1, none⟩ = some b ∧ w.cell? ⟨g, 2, none⟩ = some c ∧ ∀ i, w.frozen? ⟨g, i, none⟩ = false :=
  ⟨by rw [cell_of_row w g 0 _ t (0, 0) h]; rfl, by rw [cell_of_row w g 1 _ t (0, 0) h]; rfl, by rw [cell_of_row w g 2 _ t (0, 0) h]; rfl, fun i => frozen_of_row w g i _ t h⟩
theorem grown_set (w : World) (g j : Nat) (u : Value) : w.grownBy (w.setCell ⟨g, j, none⟩ u) (some g) :=
  ⟨rfl, rfl, rfl, by simp, fun k _ hk => heap_setCell_other w ⟨g, j, none⟩ k u (fun e => hk (by simp [e]))⟩
theorem grown_trans {a b c : World} {r : Option Nat} (h : a.grownBy b r) (k : b.grownBy c r) : a.grownBy c r :=
  ⟨k.os.trans h.os, k.tape.trans h.tape, k.output.trans h.output, Nat.le_trans h.size k.size, fun i hi hn => (k.block i (Nat.lt_of_lt_of_le hi h.size) hn).trans (h.block i hi hn)⟩
theorem grown_of_below {a b : World} (h : Below a.heap.size a b) (r : Option Nat) : a.grownBy b r := ⟨h.os, h.tape, h.output, h.size, fun i hi _ => h.block i hi⟩
theorem grown_drewN {a b : World} {r : Option Nat} (h : a.grownBy b r) (n : Nat) : a.grownBy (b.drewN n) r := ⟨h.os, h.tape, h.output, h.size, h.block⟩
theorem grown_drew {a b : World} {r : Option Nat} (h : a.grownBy b r) : a.grownBy b.drew r := ⟨h.os, h.tape, h.output, h.size, h.block⟩
theorem below_of_only {a b : World} {B g : Nat} (h : a.grownBy b (some g)) (hB : B ≤ g) (hs : B ≤ a.heap.size) : Below B a b :=
  ⟨h.os, h.tape, h.output, h.size, fun k hk => h.block k (by omega) (by simp; omega)⟩
theorem grown_below {a b c : World} {r : Option Nat} (h : Below b.heap.size b c) (_ : a.heap.size ≤ b.heap.size) : b.grownBy c r := grown_of_below h r
/-- A literal's cells, in the block just made. -/
theorem Sli.lit (w : World) (xs : Array Value) (e : TypeId) (n : Nat) (hn : n = xs.size) (hm : xs.size ≤ maxLen) : Sli (w.alloc (.cells xs e)) (w.heap.size + 1) (.slice (some ⟨w.heap.size, 0, none⟩) n n) xs.toList := by
  subst hn
  refine ⟨_, xs.size, by simp, ⟨rfl, .inr ⟨w.heap.size, 0, rfl, by omega, fun j hj => ?_⟩⟩, by simp, hm, by simp⟩
  rw [Nat.zero_add, cell_of_row _ _ _ _ _ _ (heap_alloc_new w _)]
  simp

/-- The bytes of a string. -/
def bstr (l : List Nat) : ByteArray := ⟨(l.map fun x => UInt8.ofNat x).toArray⟩
theorem bstr_inj {l m : List Nat} (hl : ∀ x ∈ l, x < 256) (hm : ∀ x ∈ m, x < 256) (h : bstr l = bstr m) : l = m := by
  have h1 : (l.map fun x => UInt8.ofNat x) = m.map fun x => UInt8.ofNat x := by
    have := congrArg (fun b => b.data.toList) h
    simpa [bstr] using this
  have h2 := congrArg (List.map UInt8.toNat) h1
  simp only [List.map_map] at h2
  have e : ∀ k : List Nat, (∀ x ∈ k, x < 256) → k.map (UInt8.toNat ∘ fun x => UInt8.ofNat x) = k := by
    intro k hk
    conv => rhs; rw [← List.map_id k]
    apply List.map_congr_left
    intro x hx
    have := hk x hx
    simp [Nat.mod_eq_of_lt this]
  rwa [e l hl, e m hm] at h2
/-- 'string(b)'. -/
theorem run_str {P : Program} {w : World} {B : Nat} {v : Value} {l : List Nat} (hS : Sli w B v (l.map fun x => .int .u8 (x : Nat))) {src dst e : TypeId} (hs : P.underlying src = some (.slice e)) (he : P.underlying e = some (.int .u8)) (hd : P.underlying dst = some .string) :
    (convert src dst v).run P w = .ok (.string (bstr l)) w := by
  obtain ⟨A, c, rfl, hh, _⟩ := hS
  rcases A with _ | ad
  · have h0 : l = [] := by
      rcases hh.2 with h0 | ⟨b, o, e, _⟩
      · simpa using h0
      · simp at e
    subst h0
    exact run_convert_bytes_nil w src e hs he _ _ dst hd
  · rcases hh.2 with h0 | ⟨b, o, hA, _, hc⟩
    · have h0 : l = [] := by simpa using h0
      subst h0
      rw [run_convert_bytes_string w src dst e _ _ c hs he hd]
      simp [Conv.bytesToString, loadCells, loadCellsFrom, bstr]
      rfl
    · injection hA with hA; subst hA
      have := run_convert_bytes_arg (P := P) w src e hs he b o l.length c (l.map fun (x : Nat) => (x : Int)) (by simp) (fun i hi => by
        rw [hc i (by simpa using hi)]; simp [List.getElem?_eq_getElem hi]) dst hd
      rw [List.length_map]
      rw [this]
      simp [strOfNums, bstr]
theorem bthen {B C : Nat} {a b c : World} (h : Below B a b) (k : Below C b c) (hBC : B ≤ C) : Below B a c := h.trans (k.mono hBC)
theorem bonly {B g : Nat} {a b c : World} (h : Below B a b) (k : b.grownBy c (some g)) (hB : B ≤ a.heap.size) (hg : B ≤ g) : Below B a c := h.trans (below_of_only k hg (Nat.le_trans hB h.size))
theorem below_drewN {B : Nat} {a w : World} (h : Below B a w) (n : Nat) : Below B a (w.drewN n) := ⟨h.os, h.tape, h.output, h.size, h.block⟩
/-- 'make([]T, 0, n)'. -/
theorem wpl_make0 {P : Program} {w : World} {e t : TypeId} {z : Value} {bytes n : Nat} {C : Int} (ht : P.underlying t = some (.slice e)) (hinf : (P.info? e).map (fun i => (i.zero, i.size, i.bytes)) = some (some z, 1, bytes)) (hb16 : bytes ≤ 16) (hroom : n ≤ 8796093022208)
    {ops : Array Oper} {rest : List Oper} {o : Oper} {a : Act} {Q : Exit → Act → World → Prop} {l c : Operand} {kl kc : IntKind} (hgd : o.guard = none)
    (ho : o.op = .makeSlice t l c) (hl : a.eval l = .int kl 0) (hc : a.eval c = .int kc C) (hC : C = (n : Int))
    (h : ∀ w', Own w' w.heap.size e (.slice (some ⟨w.heap.size, 0, none⟩) 0 n) [] → Below w.heap.size w w' → wpList P ops Q rest (a.put o.dst (.slice (some ⟨w.heap.size, 0, none⟩) 0 n)) w') : wpList P ops Q (o :: rest) a w := by
  obtain ⟨i, hi, hz0, hz1, hz2⟩ := info_parts hinf
  have hle : bytes * n ≤ 281474976710656 := by
    have : bytes * n ≤ 16 * 8796093022208 := Nat.mul_le_mul hb16 hroom
    omega
  refine wpList_make_own w hgd l c t ho w.heap.size e i z 1 ht hi hz0 hz1 kl kc C n hl hc hC (by rw [hz2]; exact hle) (by unfold maxLen; omega) (Nat.le_refl _) fun w' ho' hg' => ?_
  exact h w' ho' ⟨hg'.os, hg'.tape, hg'.output, hg'.size, fun k hk => hg'.block k hk (by simp)⟩
/-- 'append(v, x...)', an operation behind a guard that is met. -/
theorem wpl_appG {P : Program} {w : World} {base B : Nat} {e t : TypeId} {z v vx : Value} {bytes : Nat} {xs ys : List Value} (hown : Own w base e v xs) (hr : Sli w B vx ys) (hbase : base ≤ w.heap.size) (hroom : xs.length + ys.length ≤ 8796093022208)
    (ht : P.underlying t = some (.slice e)) (hinf : (P.info? e).map (fun i => (i.zero, i.size, i.bytes)) = some (some z, 1, bytes)) (hzs : z.cells.size = 1) (hb16 : bytes ≤ 16) (hone : ∀ u ∈ ys, u.oneCell' = true)
    {ops : Array Oper} {rest : List Oper} {o : Oper} {a : Act} {Q : Exit → Act → World → Prop} {s x : Operand} (hgd : Region.wanted o (yielded ops a.tmps) = true)
    (ho : o.op = .call { callee := .builtin .append, args := #[s, x], argTypes := #[t, t] })
    (hs : a.eval s = v) (hx : a.eval x = vx)
    (h : ∀ v' w', Own w' base e v' (xs ++ ys) → Below base w w' → wpList P ops Q rest (a.put o.dst v') w') : wpList P ops Q (o :: rest) a w := by
  unfold wpList
  rw [if_pos hgd]
  exact .inl (wp_appN hown hr hbase hroom ht hinf hzs hb16 hone ho hs hx h)
end Go.Proofs.Ythecibabpcfoaaa
