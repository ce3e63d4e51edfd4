/- arith: steps: rows of them; which may be, what they write. -/
import Derived.Test.YtghbjlmbehljdaaAriO
import Derived.Maps.AppendAt
namespace Go.Proofs.Ytghbjlmbehljdaa
open Go.RowKit
set_option maxRecDepth 100000
set_option maxHeartbeats 1000000

def celA (x : Ac) : List Value := [.int .i64 x.what, .int .i64 x.ctx, .int .i64 x.bit, .int .i64 x.n, .int .u64 (x.v : Nat)]
def ca (es : List Ac) : List Value := es.flatMap celA
theorem ca_len (es : List Ac) : (ca es).length = es.length * 5 := by
  induction es with
  | nil => rfl
  | cons e es ih => simp only [ca, List.flatMap_cons, List.length_append, List.length_cons] at ih ⊢; rw [ih]; simp [celA]; omega
theorem ca_app (a b : List Ac) : ca (a ++ b) = ca a ++ ca b := by simp [ca]
theorem ca_at : ∀ (es : List Ac) (i : Nat) (x : Ac) (j : Nat), es[i]? = some x → j < 5 → (ca es)[i * 5 + j]? = (celA x)[j]?
  | [], i, x, j, h, _ => by simp at h
  | e :: es, 0, x, j, h, hj => by
    have : e = x := by simpa using h
    subst this
    unfold ca
    rw [List.flatMap_cons, List.getElem?_append_left (by simp [celA]; omega)]
    simp
  | e :: es, i + 1, x, j, h, hj => by
    have := ca_at es i x j (by simpa using h) hj
    unfold ca at this ⊢
    rw [List.flatMap_cons, List.getElem?_append_right (by simp [celA]; omega), ← this]
    congr 1
    simp [celA]; omega
/-- A row of steps of one's own. -/
def AcO (w : World) (base : Nat) (v : Value) (es : List Ac) : Prop := w.ownsRow base 33 5 v es.length (ca es)
theorem AcO.nil (w : World) (base : Nat) : AcO w base (.slice none 0 0) [] := World.ownsRow_nil _ _ _ _
theorem AcO.form {w : World} {base : Nat} {v : Value} {es : List Ac} (h : AcO w base v es) : ∃ A c, v = .slice A es.length c ∧ es.length ≤ c ∧ c ≤ maxLen := by
  rcases h.2 with ⟨hv, h0⟩ | ⟨g, cap, cur, hv, hb, hg, hn, hm, hs, ht⟩
  · exact ⟨none, 0, by rw [h0]; exact hv, by omega, by simp [maxLen]⟩
  · exact ⟨_, cap, hv, hn, hm⟩
theorem AcO.lt {w : World} {base : Nat} {v : Value} {es : List Ac} (h : AcO w base v es) : ∀ k, v.ownBlock = some k → base ≤ k ∧ k < w.heap.size := World.ownsRow.lt h
theorem AcO.blk {w : World} {base : Nat} {v : Value} {es : List Ac} (h : AcO w base v es) {k : Nat} (hk : v.ownBlock = some k) : ∃ cs, w.heap[k]? = some (.cells cs 33 (0, 0)) := by
  rcases h.2 with ⟨rfl, _⟩ | ⟨g, cap, cur, rfl, _, hg, _⟩
  · simp [Value.ownBlock] at hk
  · have : g = k := by simpa [Value.ownBlock] using hk
    subst this; exact ⟨_, hg⟩
theorem AcO.kept {w w' : World} {base : Nat} {v : Value} {es : List Ac} (h : AcO w base v es) (hk : ∀ k, v.ownBlock = some k → w'.heap[k]? = w.heap[k]?) : AcO w' base v es := by
  rcases h.2 with ⟨rfl, h0⟩ | ⟨k, cap, cur, rfl, hb, hg, r⟩
  · exact ⟨h.1, .inl ⟨rfl, h0⟩⟩
  · exact ⟨h.1, .inr ⟨k, cap, cur, rfl, hb, (hk k rfl).trans hg, r⟩⟩
theorem AcO.below {w w' : World} {base : Nat} {v : Value} {es : List Ac} (h : AcO w base v es) (hb : Below w.heap.size w w') : AcO w' base v es := h.kept fun k hk => hb.block k (h.lt k hk).2
theorem AcO.acs {w : World} {base : Nat} {v : Value} {es : List Ac} (h : AcO w base v es) : Acs w w.heap.size v es := by
  obtain ⟨A, c, rfl, h1, h2⟩ := h.form
  refine ⟨A, c, rfl, h1, h2, ?_⟩
  rcases h.2 with ⟨hv, h0⟩ | ⟨g, cap, cur, hv, hb, hg, hn, hm, hs, ht⟩
  · exact .inl h0
  · refine .inr ⟨g, 0, by injection hv, (Array.getElem?_eq_some_iff.1 hg).1, fun i x hx => ?_⟩
    have hi := (List.getElem?_eq_some_iff.1 hx).1
    have hc : ∀ j, j < 5 → w.cell? ⟨g, 0 + i * 5 + j, none⟩ = (celA x)[j]? := fun j hj => by
      rw [Nat.zero_add, cell_of_row w g _ cur _ (0, 0) hg, ← ca_at es i x j hx hj, ← ht, List.getElem?_take, if_pos (by omega)]; simp
    exact ⟨hc 0 (by omega), hc 1 (by omega), hc 2 (by omega), hc 3 (by omega), hc 4 (by omega)⟩

theorem info_act : (Try.prog.info? 33).map (fun i => (i.zero, i.size, i.bytes)) = some (some (.agg #[.int .i64 0, .int .i64 0, .int .i64 0, .int .i64 0, .int .u64 0]), 5, 40) := by kernel_rfl
/-- 'l = append(l, a)'. -/
theorem wpl_push5 {w : World} {base : Nat} {v : Value} {es : List Ac} (hown : AcO w base v es) (hbase : base ≤ w.heap.size) (hroom : es.length + 1 ≤ 1099511627776)
    {ops : Array Oper} {rest : List Oper} {o : Oper} {a : Act} {Q : Exit → Act → World → Prop} {s x : Operand} {f : Ac} (hgd : o.guard = none)
    (ho : o.op = .call { callee := .builtin .append, args := #[s, x], argTypes := #[22, 22] })
    (hs : a.eval s = v) {k : Nat} (hx : a.eval x = .slice (some ⟨k, 0, none⟩) 1 1) (hk : k = w.heap.size := by simp)
    (h : ∀ v' w', AcO w' base v' (es ++ [f]) → (∀ g, Mov w w' g v v') → wpList Try.prog ops Q rest (a.put o.dst v') w') : wpList Try.prog ops Q (o :: rest) a (w.alloc (.cells (acCells f) 33)) := by
  subst hk
  obtain ⟨i, hi, hz0, hz1, hz2⟩ := info_parts info_act
  have hown' := World.ownsRow.alloc hown (.cells (acCells f) 33)
  refine wpList_append_own_at _ hgd s x 22 ho base 33 i _ 5 40 Try.underlying22 hi hz0 hz1 hz2 rfl (by decide) v _ (ca es) hs hown' ⟨w.heap.size, 0, none⟩ 1 1 (celA f) hx rfl ?_ ?_ ?_ ?_ ?_ ?_
  · intro j u hj
    rw [Addr.add_lit, Nat.zero_add, cell_of_row _ _ _ _ _ _ (heap_alloc_new w _)]
    match j, hj with
    | 0, hj => simpa [celA, acCells] using hj
    | 1, hj => simpa [celA, acCells] using hj
    | 2, hj => simpa [celA, acCells] using hj
    | 3, hj => simpa [celA, acCells] using hj
    | 4, hj => simpa [celA, acCells] using hj
    | j + 5, hj => simp [celA] at hj
  · intro u hu; simp [celA] at hu; rcases hu with rfl | rfl | rfl | rfl | rfl <;> rfl
  · unfold maxLen; omega
  · omega
  · simp; omega
  · intro v' w' ho' hg' _ hv'
    have h1 : Below w.heap.size w (w.alloc (.cells (acCells f) 33)) := (Below.refl _ _).alloc (Nat.le_refl _) _
    refine h v' w' ?_ fun g => ?_
    · unfold AcO; rw [List.length_append, ca_app]
      have : ca [f] = celA f := by simp [ca]
      rw [this]
      exact ho'
    · refine (Mov.of_below h1).grown hg' fun k hk => ?_
      rcases hv' with e | e
      · exact .inl (e ▸ hk)
      · rw [e] at hk; injection hk with hk; exact .inr (by omega)

/-- Which steps may be; what they write. -/
def okA (n : Nat) (a : Ac) : Bool := if a.what = 0 then putB n a.ctx a.bit else if a.what = 1 then rawB a.v a.n else numB n a.v a.ctx
def opsA (a : Ac) : List (Option Nat × Nat) := if a.what = 0 then [(some a.ctx.toNat, a.bit.toNat)] else if a.what = 1 then rawOps a.v a.n.toNat else numOps a.ctx.toNat a.v
def opsL (l : List Ac) : List (Option Nat × Nat) := l.flatMap opsA
def doneA (n : Nat) (l : List Ac) : List Ac := l.filter (okA n)
def actE (n : Nat) (a : Ac) : Nat := if okA n a then 0 else 1
def actS (n : Nat) (s : Co) (a : Ac) : Co := if okA n a then run s (opsA a) else s
theorem opsA_good {n : Nat} {a : Ac} (h : okA n a = true) : ∀ x ∈ opsA a, good n x := by
  unfold okA at h
  unfold opsA
  by_cases h0 : a.what = 0
  · rw [if_pos h0] at h ⊢
    simp only [putB, Bool.and_eq_true, has_iff, decide_eq_true_eq] at h
    intro x hx
    obtain rfl := List.mem_singleton.1 hx
    exact ⟨by simp only; omega, fun c e => by injection e with e; omega⟩
  · rw [if_neg h0] at h ⊢
    by_cases h1 : a.what = 1
    · rw [if_pos h1]; exact raw_good n _ _
    · rw [if_neg h1] at h ⊢
      simp only [numB, Bool.and_eq_true, have_iff, decide_eq_true_eq] at h
      exact num_good (by omega) h.1
theorem opsA_len {n : Nat} {a : Ac} (h : okA n a = true) : (opsA a).length ≤ if a.what = 0 then 1 else if a.what = 1 then a.n.toNat else 65 := by
  unfold okA at h
  unfold opsA
  by_cases h0 : a.what = 0
  · simp [h0]
  · rw [if_neg h0] at h ⊢
    rw [if_neg h0]
    by_cases h1 : a.what = 1
    · rw [if_pos h1, if_pos h1, raw_len]; exact Nat.le_refl _
    · rw [if_neg h1] at h ⊢
      rw [if_neg h1]
      simp only [numB, Bool.and_eq_true, have_iff, decide_eq_true_eq] at h
      exact num_len h.1
theorem opsA_65 {n : Nat} {a : Ac} (h : okA n a = true) : (opsA a).length ≤ 65 := by
  have h1 := opsA_len h
  unfold okA at h
  by_cases h0 : a.what = 0
  · rw [if_pos h0] at h1; omega
  · rw [if_neg h0] at h h1
    by_cases h2 : a.what = 1
    · rw [if_pos h2] at h h1
      have := raw_iff.1 h
      omega
    · rw [if_neg h2] at h1; exact h1
theorem opsL_good {n : Nat} {l : List Ac} (h : ∀ a ∈ l, okA n a = true) : ∀ x ∈ opsL l, good n x := by
  intro x hx
  obtain ⟨a, ha, hx⟩ := List.mem_flatMap.1 hx
  exact opsA_good (h a ha) x hx
theorem opsL_len {n : Nat} {l : List Ac} (h : ∀ a ∈ l, okA n a = true) : (opsL l).length ≤ 65 * l.length := by
  induction l with
  | nil => simp [opsL]
  | cons a l ih =>
    have h1 := opsA_65 (h a (by simp))
    have h2 := ih (fun x hx => h x (by simp [hx]))
    unfold opsL at h2 ⊢
    rw [List.flatMap_cons, List.length_append, List.length_cons]
    omega
theorem doneA_ok (n : Nat) (l : List Ac) : ∀ a ∈ doneA n l, okA n a = true := fun a ha => (List.mem_filter.1 ha).2
theorem doneA_len (n : Nat) (l : List Ac) : (doneA n l).length ≤ l.length := List.length_filter_le _ _
theorem doneA_snoc {n i : Nat} {l : List Ac} {a : Ac} (h : l[i]? = some a) : doneA n (l.take (i + 1)) = doneA n (l.take i) ++ if okA n a then [a] else [] := by
  unfold doneA
  rw [List.take_add_one, h, List.filter_append]
  congr 1
  cases e : okA n a <;> simp [e]
theorem actS_is {n i : Nat} {l : List Ac} {a : Ac} (h : l[i]? = some a) : run (start n) (opsL (doneA n (l.take (i + 1)))) = actS n (run (start n) (opsL (doneA n (l.take i)))) a := by
  rw [doneA_snoc h]
  unfold actS
  cases e : okA n a
  · simp
  · simp only [if_true]
    unfold opsL
    rw [List.flatMap_append, run_app]
    simp
/-- What loop i knows. -/
theorem done_run (n : Nat) (l : List Ac) : Ok (run (start n) (opsL (doneA n l))) n ∧ (run (start n) (opsL (doneA n l))).k ≤ 4 + 65 * l.length := by
  obtain ⟨h1, m, h2, h3, _⟩ := runs_in (opsL (doneA n l)) (start_ok n) (opsL_good (doneA_ok n l))
  have h4 := opsL_len (doneA_ok n l)
  have h5 := doneA_len n l
  have h6 : (start n).k = 4 := rfl
  have h7 : 65 * (doneA n l).length ≤ 65 * l.length := Nat.mul_le_mul_left _ h5
  exact ⟨h1, by omega⟩
end Go.Proofs.Ytghbjlmbehljdaa
