/- What a method may change: its receiver's block, the block of its receiver's row. -/
import Derived.Test.YthecibabpcfoaaaKit
import Derived.Maps.AppendAt
namespace Go.Proofs.Ythecibabpcfoaaa
open Go.RowKit

/-- From world w to w' only block g and the block of the row v have changed; v' is the row now: the same block, or a new one. -/
structure Mov (w w' : World) (g : Nat) (v v' : Value) : Prop where
  os : w'.os = w.os
  tape : w'.tape = w.tape
  output : w'.output = w.output
  size : w.heap.size ≤ w'.heap.size
  block : ∀ k, k < w.heap.size → k ≠ g → v.ownBlock ≠ some k → w'.heap[k]? = w.heap[k]?
  own : ∀ k, v'.ownBlock = some k → v.ownBlock = some k ∨ w.heap.size ≤ k
theorem Mov.refl (w : World) (g : Nat) (v : Value) : Mov w w g v v := ⟨rfl, rfl, rfl, Nat.le_refl _, fun _ _ _ _ => rfl, fun _ h => .inl h⟩
theorem Mov.trans {w w1 w2 : World} {g : Nat} {v v1 v2 : Value} (h : Mov w w1 g v v1) (k : Mov w1 w2 g v1 v2) : Mov w w2 g v v2 := by
  refine ⟨k.os.trans h.os, k.tape.trans h.tape, k.output.trans h.output, Nat.le_trans h.size k.size, fun i hi hg hv => ?_, fun i hi => ?_⟩
  · refine (k.block i (Nat.lt_of_lt_of_le hi h.size) hg fun e => ?_).trans (h.block i hi hg hv)
    rcases h.own i e with e | e
    · exact hv e
    · omega
  · rcases k.own i hi with e | e
    · exact h.own i e
    · exact .inr (Nat.le_trans h.size e)
theorem Mov.below {w w' : World} {g base : Nat} {v v' : Value} (h : Mov w w' g v v') (hg : base ≤ g) (hv : ∀ k, v.ownBlock = some k → base ≤ k) (hb : base ≤ w.heap.size) : Below base w w' :=
  ⟨h.os, h.tape, h.output, h.size, fun k hk => h.block k (Nat.lt_of_lt_of_le hk hb) (by omega) (fun e => by have := hv k e; omega)⟩
theorem Mov.of_only {w w' : World} {g : Nat} {v : Value} (h : w.grownBy w' (some g)) : Mov w w' g v v :=
  ⟨h.os, h.tape, h.output, h.size, fun k hk hg _ => h.block k hk (by simp; omega), fun _ e => .inl e⟩
theorem Mov.of_below {w w' : World} {g : Nat} {v : Value} (h : Below w.heap.size w w') : Mov w w' g v v :=
  ⟨h.os, h.tape, h.output, h.size, fun k hk _ _ => h.block k hk, fun _ e => .inl e⟩
theorem Mov.drewN {w w' : World} {g : Nat} {v v' : Value} (h : Mov w w' g v v') (n : Nat) : Mov w (w'.drewN n) g v v' := ⟨h.os, h.tape, h.output, h.size, h.block, h.own⟩
theorem Mov.drew {w w' : World} {g : Nat} {v v' : Value} (h : Mov w w' g v v') : Mov w w'.drew g v v' := ⟨h.os, h.tape, h.output, h.size, h.block, h.own⟩
/-- A store into the row itself, or into the receiver. -/
theorem Mov.set {w w' : World} {g b j : Nat} {v v' : Value} (h : Mov w w' g v v') (u : Value) (hb : b = g ∨ v'.ownBlock = some b) : Mov w (w'.setCell ⟨b, j, none⟩ u) g v v' := by
  refine h.trans ⟨rfl, rfl, rfl, by simp, fun k hk hg hv => heap_setCell_other w' ⟨b, j, none⟩ k u (fun e => ?_), fun _ e => .inl e⟩
  have e : k = b := e
  subst e
  rcases hb with rfl | hb
  · exact hg rfl
  · exact hv hb
/-- 'x.b = append(x.b, ..)', the part behind append. -/
theorem Mov.grown {w w1 w2 : World} {g : Nat} {v v1 v2 : Value} (h : Mov w w1 g v v1) (hb : w1.grownBy w2 v1.ownBlock) (hv : ∀ k, v2.ownBlock = some k → v1.ownBlock = some k ∨ w1.heap.size ≤ k) : Mov w w2 g v v2 :=
  h.trans ⟨hb.os, hb.tape, hb.output, hb.size, fun k hk _ hn => hb.block k hk (fun e => hn e.symm), hv⟩

theorem Mov.cell {w w' : World} {g : Nat} {v v' u : Value} {p : Addr} (h : Mov w w' g v v') (hc : w.cell? p = some u) (hg : p.block ≠ g) (hv : v.ownBlock ≠ some p.block) : w'.cell? p = some u :=
  (World.cell?_of_block (h.block p.block (World.block_lt_of_cell? w p hc) hg hv)).trans hc
/-- Rows of different blocks. -/
def Apart (v v' : Value) : Prop := ∀ k, v.ownBlock = some k → v'.ownBlock ≠ some k
theorem Apart.symm {v v' : Value} (h : Apart v v') : Apart v' v := fun k e e' => h k e' e
theorem Own.blk {w : World} {base : Nat} {e : TypeId} {v : Value} {xs : List Value} (h : Own w base e v xs) {k : Nat} (hk : v.ownBlock = some k) : ∃ cs, w.heap[k]? = some (.cells cs e (0, 0)) := by
  rcases h.2 with ⟨rfl, _⟩ | ⟨g, cap, cur, rfl, _, hg, _⟩
  · simp [Value.ownBlock] at hk
  · have : g = k := by simpa [Value.ownBlock] using hk
    subst this; exact ⟨_, hg⟩
theorem Own.shape {w : World} {base : Nat} {e : TypeId} {v : Value} {xs : List Value} (h : Own w base e v xs) : ∃ A n c, v = .slice A n c := by
  obtain ⟨A, c, e, _⟩ := h.form; exact ⟨A, _, c, e⟩
theorem Own.ne {w : World} {base g : Nat} {e t : TypeId} {v : Value} {xs : List Value} {cs : Array Value} {fr : Nat × Nat} (h : Own w base e v xs) (hg : w.heap[g]? = some (.cells cs t fr)) (hne : e ≠ t) : v.ownBlock ≠ some g := by
  intro hv
  obtain ⟨cs', h'⟩ := h.blk hv
  rw [hg] at h'
  injection h' with h'; injection h' with _ h2
  exact hne h2.symm
/-- Another object's row, where this object's method has run. -/
theorem Own.moved {w w' : World} {base g : Nat} {e t : TypeId} {u v v' : Value} {xs : List Value} {cs : Array Value} {fr : Nat × Nat} (h : Own w base e u xs) (hm : Mov w w' g v v') (hg : w.heap[g]? = some (.cells cs t fr)) (hne : e ≠ t) (ha : Apart v u) : Own w' base e u xs := by
  rcases h.2 with ⟨rfl, h0⟩ | ⟨k, cap, cur, rfl, hb, hk, r⟩
  · exact ⟨h.1, .inl ⟨rfl, h0⟩⟩
  · have hlt := (Array.getElem?_eq_some_iff.1 hk).1
    refine ⟨h.1, .inr ⟨k, cap, cur, rfl, hb, ?_, r⟩⟩
    rw [hm.block k hlt (fun e' => ?_) (fun e' => ha k e' rfl)]
    · exact hk
    · subst e'
      rw [hg] at hk
      injection hk with hk; injection hk with _ h2
      exact hne h2.symm

/-- 'b = append(b, u)': what has changed is b's block, or b's block is new. -/
theorem wpl_push {P : Program} {w : World} {base : Nat} {e t : TypeId} {z v : Value} {bytes : Nat} {xs : List Value} (hown : Own w base e v xs) (hbase : base ≤ w.heap.size) (hroom : xs.length + 1 ≤ 8796093022208)
    (ht : P.underlying t = some (.slice e)) (hinf : (P.info? e).map (fun i => (i.zero, i.size, i.bytes)) = some (some z, 1, bytes)) (hzs : z.cells.size = 1) (hb16 : bytes ≤ 16)
    {ops : Array Oper} {rest : List Oper} {o : Oper} {a : Act} {Q : Exit → Act → World → Prop} {s x : Operand} {u : Value} (hgd : o.guard = none)
    (ho : o.op = .call { callee := .builtin .append, args := #[s, x], argTypes := #[t, t] })
    (hs : a.eval s = v) {k : Nat} (hx : a.eval x = .slice (some ⟨k, 0, none⟩) 1 1) (hu : u.oneCell' = true) (hk : k = w.heap.size := by simp)
    (h : ∀ v' w', Own w' base e v' (xs ++ [u]) → (∀ g, Mov w w' g v v') → wpList P ops Q rest (a.put o.dst v') w') : wpList P ops Q (o :: rest) a (w.alloc (.cells #[u] e)) := by
  subst hk
  obtain ⟨i, hi, hz0, hz1, hz2⟩ := info_parts hinf
  have hown' := World.ownsRow.alloc hown (.cells #[u] e)
  refine wpList_append_own_at _ hgd s x t ho base e i z 1 bytes ht hi hz0 hz1 hz2 hzs (by decide) v _ xs hs hown' ⟨w.heap.size, 0, none⟩ 1 1 [u] hx rfl ?_ ?_ ?_ ?_ ?_ ?_
  · intro j u' hj
    match j, hj with
    | 0, hj =>
      simp at hj; subst hj
      show (w.alloc (.cells #[u] e)).cell? ⟨w.heap.size, 0, none⟩ = some u
      rw [cell_of_row _ _ _ _ _ _ (heap_alloc_new w _)]; rfl
    | j + 1, hj => simp at hj
  · intro u' hu'; simp at hu'; subst hu'; exact hu
  · unfold maxLen; omega
  · have : (xs.length + 1) * bytes ≤ 8796093022208 * 16 := Nat.mul_le_mul hroom hb16
    omega
  · simp; omega
  · intro v' w' ho' hg' _ hv'
    have h1 : Below w.heap.size w (w.alloc (.cells #[u] e)) := (Below.refl _ _).alloc (Nat.le_refl _) _
    refine h v' w' (by unfold Own; simpa using ho') fun g => ?_
    refine (Mov.of_below h1).grown hg' fun k hk => ?_
    rcases hv' with e | e
    · exact .inl (e ▸ hk)
    · rw [e] at hk; injection hk with hk; exact .inr (by omega)
end Go.Proofs.Ythecibabpcfoaaa
