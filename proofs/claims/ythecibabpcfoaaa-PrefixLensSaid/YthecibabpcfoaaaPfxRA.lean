/- prefix: the reference's things: rows of a weight and a row of symbols; merged. -/
import Derived.Test.YthecibabpcfoaaaFoot
import Derived.Test.YthecibabpcfoaaaByt
import Derived.Test.YthecibabpcfoaaaPfxP
import Derived.Maps.AppendAt
namespace Go.Proofs.Ythecibabpcfoaaa
open Go.RowKit
set_option maxRecDepth 100000
set_option maxHeartbeats 4000000

/-- A thing as it lies in memory: its weight, the slice of its symbols. -/
abbrev Thm := Nat × (Option Addr × Nat × Nat)
def slT (t : Thm) : Value := .slice t.2.1 t.2.2.1 t.2.2.2
def celT (t : Thm) : List Value := [.int .i64 (t.1 : Nat), slT t]
def cT (ts : List Thm) : List Value := ts.flatMap celT
theorem cT_len (ts : List Thm) : (cT ts).length = ts.length * 2 := by
  induction ts with
  | nil => rfl
  | cons e es ih => simp only [cT, List.flatMap_cons, List.length_append, List.length_cons] at ih ⊢; rw [ih]; simp [celT]; omega
theorem cT_app (a b : List Thm) : cT (a ++ b) = cT a ++ cT b := by simp [cT]
theorem cT_at : ∀ (es : List Thm) (i : Nat) (x : Thm) (j : Nat), es[i]? = some x → j < 2 → (cT es)[i * 2 + j]? = (celT x)[j]?
  | [], i, x, j, h, _ => by simp at h
  | e :: es, 0, x, j, h, hj => by
    have : e = x := by simpa using h
    subst this
    unfold cT
    rw [List.flatMap_cons, List.getElem?_append_left (by simp [celT]; omega)]
    simp
  | e :: es, i + 1, x, j, h, hj => by
    have := cT_at es i x j (by simpa using h) hj
    unfold cT at this ⊢
    rw [List.flatMap_cons, List.getElem?_append_right (by simp [celT]; omega), ← this]
    congr 1
    simp [celT]; omega
/-- A row of things of one's own. -/
def ThO (w : World) (base : Nat) (v : Value) (es : List Thm) : Prop := w.ownsRow base 72 2 v es.length (cT es)
theorem ThO.nil (w : World) (base : Nat) : ThO w base (.slice none 0 0) [] := World.ownsRow_nil _ _ _ _
theorem ThO.form {w : World} {base : Nat} {v : Value} {es : List Thm} (h : ThO w base v es) : ∃ A c, v = .slice A es.length c ∧ es.length ≤ c ∧ c ≤ maxLen := by
  rcases h.2 with ⟨hv, h0⟩ | ⟨g, cap, cur, hv, hb, hg, hn, hm, hs, ht⟩
  · exact ⟨none, 0, by rw [h0]; exact hv, by omega, by simp [maxLen]⟩
  · exact ⟨_, cap, hv, hn, hm⟩
theorem ThO.lt {w : World} {base : Nat} {v : Value} {es : List Thm} (h : ThO w base v es) : ∀ k, v.ownBlock = some k → base ≤ k ∧ k < w.heap.size := World.ownsRow.lt h
theorem ThO.kept {w w' : World} {base : Nat} {v : Value} {es : List Thm} (h : ThO w base v es) (hk : ∀ k, v.ownBlock = some k → w'.heap[k]? = w.heap[k]?) : ThO w' base v es := by
  rcases h.2 with ⟨rfl, h0⟩ | ⟨k, cap, cur, rfl, hb, hg, r⟩
  · exact ⟨h.1, .inl ⟨rfl, h0⟩⟩
  · exact ⟨h.1, .inr ⟨k, cap, cur, rfl, hb, (hk k rfl).trans hg, r⟩⟩
theorem ThO.below {w w' : World} {base : Nat} {v : Value} {es : List Thm} (h : ThO w base v es) (hb : Below w.heap.size w w') : ThO w' base v es := h.kept fun k hk => hb.block k (h.lt k hk).2
/-- A row of things that is read. -/
def ThS (w : World) (B : Nat) (v : Value) (es : List Thm) : Prop :=
  ∃ A c, v = .slice A es.length c ∧ es.length ≤ c ∧ c ≤ maxLen ∧ (A = none → c = 0) ∧ (es.length = 0 ∨ ∃ b o, A = some ⟨b, o, none⟩ ∧ b < B ∧ ∀ j x, es[j]? = some x → w.cell? ⟨b, o + j * 2, none⟩ = some (.int .i64 (x.1 : Nat)) ∧ w.cell? ⟨b, o + j * 2 + 1, none⟩ = some (slT x))
theorem ThS.below {w w' : World} {B : Nat} {v : Value} {es : List Thm} (h : ThS w B v es) (hb : Below B w w') : ThS w' B v es := by
  obtain ⟨A, c, e, h1, h2, h3, h4⟩ := h
  refine ⟨A, c, e, h1, h2, h3, ?_⟩
  rcases h4 with h0 | ⟨b, o, hA, hlt, hc⟩
  · exact .inl h0
  · exact .inr ⟨b, o, hA, hlt, fun j x hx => ⟨(hb.cell (p := ⟨b, _, none⟩) hlt).trans (hc j x hx).1, (hb.cell (p := ⟨b, _, none⟩) hlt).trans (hc j x hx).2⟩⟩
theorem ThS.more {w : World} {B B' : Nat} {v : Value} {es : List Thm} (h : ThS w B v es) (hB : B ≤ B') : ThS w B' v es := by
  obtain ⟨A, c, e, h1, h2, h3, h4⟩ := h
  refine ⟨A, c, e, h1, h2, h3, ?_⟩
  rcases h4 with h0 | ⟨b, o, hA, hlt, hc⟩
  · exact .inl h0
  · exact .inr ⟨b, o, hA, Nat.lt_of_lt_of_le hlt hB, hc⟩
theorem ThS.form {w : World} {B : Nat} {v : Value} {es : List Thm} (h : ThS w B v es) : ∃ A c, v = .slice A es.length c ∧ es.length ≤ c ∧ c ≤ maxLen := by
  obtain ⟨A, c, e, h1, h2, _⟩ := h; exact ⟨A, c, e, h1, h2⟩
theorem ThS.get {w : World} {B n c : Nat} {A : Option Addr} {es : List Thm} (h : ThS w B (.slice A n c) es) {k : Nat} {x : Thm} (he : es[k]? = some x) :
    ∃ b o, A = some ⟨b, o, none⟩ ∧ b < B ∧ w.cell? ⟨b, o + k * 2, none⟩ = some (.int .i64 (x.1 : Nat)) ∧ w.cell? ⟨b, o + k * 2 + 1, none⟩ = some (.slice x.2.1 x.2.2.1 x.2.2.2) := by
  obtain ⟨A', c', hv, _, _, _, h3⟩ := h
  injection hv with e1 e2 e3
  subst e1
  have hl := (List.getElem?_eq_some_iff.1 he).1
  rcases h3 with h0 | ⟨b, o, rfl, hbB, hc⟩
  · omega
  · exact ⟨b, o, rfl, hbB, hc k x he⟩
theorem ThO.ths {w : World} {base : Nat} {v : Value} {es : List Thm} (h : ThO w base v es) : ThS w w.heap.size v es := by
  rcases h.2 with ⟨hv, h0⟩ | ⟨g, cap, cur, hv, hb, hg, hn, hm, hs, ht⟩
  · exact ⟨none, 0, by rw [h0]; exact hv, by omega, by simp [maxLen], fun _ => rfl, .inl h0⟩
  · refine ⟨_, cap, hv, hn, hm, fun e => by simp at e, .inr ⟨g, 0, rfl, (Array.getElem?_eq_some_iff.1 hg).1, fun i x hx => ?_⟩⟩
    have hi := (List.getElem?_eq_some_iff.1 hx).1
    have hc : ∀ j, j < 2 → w.cell? ⟨g, 0 + i * 2 + j, none⟩ = (celT x)[j]? := fun j hj => by
      rw [Nat.zero_add, cell_of_row w g _ cur _ (0, 0) hg, ← cT_at es i x j hx hj, ← ht, List.getElem?_take, if_pos (by omega)]; simp
    exact ⟨hc 0 (by omega), hc 1 (by omega)⟩

theorem info_thing : (Try.prog.info? 72).map (fun i => (i.zero, i.size, i.bytes)) = some (some (.agg #[.int .i64 0, .slice none 0 0]), 2, 32) := by kernel_rfl
/-- 'out = append(out, x)'. -/
theorem wpl_pushT {w : World} {base : Nat} {v : Value} {es : List Thm} (hown : ThO w base v es) (hbase : base ≤ w.heap.size) (hroom : es.length + 1 ≤ 1099511627776)
    {ops : Array Oper} {rest : List Oper} {o : Oper} {a : Act} {Q : Exit → Act → World → Prop} {s x : Operand} {f : Thm} (hgd : o.guard = none)
    (ho : o.op = .call { callee := .builtin .append, args := #[s, x], argTypes := #[69, 69] })
    (hs : a.eval s = v) {k : Nat} (hx : a.eval x = .slice (some ⟨k, 0, none⟩) 1 1) (hk : k = w.heap.size := by simp)
    (h : ∀ v' w', ThO w' base v' (es ++ [f]) → Below base w w' → wpList Try.prog ops Q rest (a.put o.dst v') w') : wpList Try.prog ops Q (o :: rest) a (w.alloc (.cells #[.int .i64 (f.1 : Nat), .slice f.2.1 f.2.2.1 f.2.2.2] 72)) := by
  subst hk
  obtain ⟨i, hi, hz0, hz1, hz2⟩ := info_parts info_thing
  have hown' := World.ownsRow.alloc hown (.cells #[.int .i64 (f.1 : Nat), .slice f.2.1 f.2.2.1 f.2.2.2] 72)
  refine wpList_append_own _ hgd s x 69 ho base 72 i _ 2 32 Try.underlying69 hi hz0 hz1 hz2 rfl (by decide) v _ (cT es) hs hown' ⟨w.heap.size, 0, none⟩ 1 1 (celT f) hx rfl ?_ ?_ ?_ ?_ ?_ ?_
  · intro j u hj
    rw [Addr.add_lit, Nat.zero_add, cell_of_row _ _ _ _ _ _ (heap_alloc_new w _)]
    match j, hj with
    | 0, hj => simpa [celT] using hj
    | 1, hj => simpa [celT, slT] using hj
    | j + 2, hj => simp [celT] at hj
  · intro u hu; simp [celT] at hu; rcases hu with rfl | rfl <;> rfl
  · unfold maxLen; omega
  · omega
  · simp; omega
  · intro v' w' ho' hg' _
    have h1 : Below base w (w.alloc (.cells #[.int .i64 (f.1 : Nat), .slice f.2.1 f.2.2.1 f.2.2.2] 72)) := (Below.refl _ _).alloc hbase _
    refine h v' w' ?_ (h1.grown hg' (by simp; omega) fun k hk => (hown.lt k hk).1)
    unfold ThO; rw [List.length_append, cT_app]
    have : cT [f] = celT f := by simp [cT]
    rw [this]
    exact ho'

/-- Two rows as one, in their weights' order. -/
def mrgV : List Thm → List Thm → List Thm
  | [], b => b
  | a, [] => a
  | a :: s, b :: t => if a.1 ≤ b.1 then a :: mrgV s (b :: t) else b :: mrgV (a :: s) t
termination_by a b => a.length + b.length
theorem mrgV_nil (b : List Thm) : mrgV [] b = b := by unfold mrgV; rfl
theorem mrgV_nil' (a : List Thm) : mrgV a [] = a := by cases a <;> (unfold mrgV; rfl)
theorem mrgV_le {a b : Thm} {s t : List Thm} (h : a.1 ≤ b.1) : mrgV (a :: s) (b :: t) = a :: mrgV s (b :: t) := by rw [mrgV, if_pos h]
theorem mrgV_gt {a b : Thm} {s t : List Thm} (h : ¬ a.1 ≤ b.1) : mrgV (a :: s) (b :: t) = b :: mrgV (a :: s) t := by rw [mrgV, if_neg h]
theorem mrgV_len : ∀ a b : List Thm, (mrgV a b).length = a.length + b.length
  | [], b => by rw [mrgV_nil]; simp
  | a :: s, [] => by rw [mrgV_nil']; simp
  | a :: s, b :: t => by
    by_cases h : a.1 ≤ b.1
    · rw [mrgV_le h, List.length_cons, mrgV_len s (b :: t)]; simp; omega
    · rw [mrgV_gt h, List.length_cons, mrgV_len (a :: s) t]; simp; omega
termination_by a b => a.length + b.length
end Go.Proofs.Ythecibabpcfoaaa
