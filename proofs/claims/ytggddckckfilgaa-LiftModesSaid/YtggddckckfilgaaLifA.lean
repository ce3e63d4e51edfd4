/- lift: steps in memory: rows of them. -/
import Derived.Test.YtggddckckfilgaaLifP
import Derived.Test.YtggddckckfilgaaFoot
import Derived.Test.YtggddckckfilgaaLawKit
import Derived.Maps.AppendAt
namespace Go.Proofs.Ytggddckckfilgaa
open Go.ChangeShapes Go.WideShapes Go.ChangeAt Go.RowKit
set_option maxRecDepth 100000
set_option maxHeartbeats 1000000

def liCells (x : Li) : Array Value := #[.int .i64 x.fr, .int .i64 x.to, .int .i64 x.gn]
def LiAt (w : World) (b o : Nat) (x : Li) : Prop := w.cell? ⟨b, o, none⟩ = some (.int .i64 x.fr) ∧ w.cell? ⟨b, o + 1, none⟩ = some (.int .i64 x.to) ∧ w.cell? ⟨b, o + 2, none⟩ = some (.int .i64 x.gn)
def Lis (w : World) (B : Nat) (v : Value) (l : List Li) : Prop :=
  ∃ A c, v = .slice A l.length c ∧ l.length ≤ c ∧ c ≤ maxLen ∧ (A = none → c = 0) ∧ (l.length = 0 ∨ ∃ b o, A = some ⟨b, o, none⟩ ∧ b < B ∧ ∀ j x, l[j]? = some x → LiAt w b (o + j * 3) x)
theorem Lis.nil (w : World) (B : Nat) : Lis w B (.slice none 0 0) [] := ⟨none, 0, rfl, Nat.le_refl _, by simp [maxLen], fun _ => rfl, .inl rfl⟩
theorem Lis.keep {w w' : World} {B : Nat} {v : Value} {l : List Li} (h : Lis w B v l) (hk : ∀ p : Addr, p.block < B → w'.cell? p = w.cell? p) : Lis w' B v l := by
  obtain ⟨A, c, e, h1, h2, hz, h3⟩ := h
  refine ⟨A, c, e, h1, h2, hz, ?_⟩
  rcases h3 with h0 | ⟨b, o, hA, hlt, hc⟩
  · exact .inl h0
  · refine .inr ⟨b, o, hA, hlt, fun j x hx => ?_⟩
    obtain ⟨c0, c1, c2⟩ := hc j x hx
    exact ⟨(hk ⟨b, _, none⟩ hlt).trans c0, (hk ⟨b, _, none⟩ hlt).trans c1, (hk ⟨b, _, none⟩ hlt).trans c2⟩
theorem Lis.below {w w' : World} {B : Nat} {v : Value} {l : List Li} (h : Lis w B v l) (hb : Below B w w') : Lis w' B v l := h.keep fun _ hp => hb.cell hp
theorem Lis.drewN {w : World} {B : Nat} {v : Value} {l : List Li} (h : Lis w B v l) (q : Nat) : Lis (w.drewN q) B v l := h.keep fun _ _ => rfl
theorem Lis.more {w : World} {B B' : Nat} {v : Value} {l : List Li} (h : Lis w B v l) (hB : B ≤ B') : Lis w B' v l := by
  obtain ⟨A, c, e, h1, h2, hz, h3⟩ := h
  refine ⟨A, c, e, h1, h2, hz, ?_⟩
  rcases h3 with h0 | ⟨b, o, hA, hlt, hc⟩
  · exact .inl h0
  · exact .inr ⟨b, o, hA, Nat.lt_of_lt_of_le hlt hB, hc⟩
theorem Lis.form {w : World} {B : Nat} {v : Value} {l : List Li} (h : Lis w B v l) : ∃ A c, v = .slice A l.length c ∧ l.length ≤ c ∧ c ≤ maxLen := by
  obtain ⟨A, c, e, h1, h2, _⟩ := h; exact ⟨A, c, e, h1, h2⟩
theorem Lis.zero {w : World} {B n c : Nat} {l : List Li} (h : Lis w B (.slice none n c) l) : n = 0 ∧ c = 0 ∧ l = [] := by
  obtain ⟨A', c', hv, h1, _, hz, h3⟩ := h
  injection hv with e1 e2 e3
  subst e1; subst e2; subst e3
  have := hz rfl
  subst this
  exact ⟨by omega, rfl, List.eq_nil_of_length_eq_zero (by omega)⟩
theorem Lis.get {w : World} {B n c : Nat} {A : Option Addr} {l : List Li} (h : Lis w B (.slice A n c) l) {k : Nat} {x : Li} (he : l[k]? = some x) : ∃ b o, A = some ⟨b, o, none⟩ ∧ LiAt w b (o + k * 3) x ∧ b < B := by
  obtain ⟨A', c', hv, _, _, _, h3⟩ := h
  injection hv with e1 e2 e3
  subst e1
  have hl := (List.getElem?_eq_some_iff.1 he).1
  rcases h3 with h0 | ⟨b, o, rfl, hbB, hc⟩
  · omega
  · exact ⟨b, o, rfl, hc k _ he, hbB⟩
def i64I (x : Int) : Prop := -9223372036854775808 ≤ x ∧ x ≤ 9223372036854775807
/-- Within Go's types. -/
def LiOk (x : Li) : Prop := i64I x.fr ∧ i64I x.to ∧ i64I x.gn
theorem lis_of_recs {w : World} {B : Nat} {v : Value} {rows : List (List Int)} (h : Recs w B v [.i64, .i64, .i64] rows) (hz : ∀ n c, v = .slice none n c → c = 0) :
    ∃ l, Lis w B v l ∧ ∀ x ∈ l, LiOk x := by
  obtain ⟨A, c, rfl, h1, h2, hlen, hwf, h3⟩ := h
  have get : ∀ (i : Nat) (r : List Int), rows[i]? = some r → ∃ a b d : Int, r = [a, b, d] := by
    intro i r hr
    have := hlen r (List.mem_of_getElem? hr)
    match r, this with
    | [a, b, d], _ => exact ⟨a, b, d, rfl⟩
  let f : List Int → Li := fun r => ⟨r.getD 0 0, r.getD 1 0, r.getD 2 0⟩
  refine ⟨rows.map f, ⟨A, c, by simp, by simpa using h1, h2, fun e => hz _ c (by rw [e]), ?_⟩, ?_⟩
  · rcases h3 with h0 | ⟨b, o, hA, hb, hc⟩
    · left; simpa using h0
    · refine .inr ⟨b, o, hA, hb, fun j x hx => ?_⟩
      rw [List.getElem?_map] at hx
      obtain ⟨r, hr, rfl⟩ := Option.map_eq_some_iff.1 hx
      obtain ⟨a, p, d, rfl⟩ := get j r hr
      exact ⟨hc j _ 0 .i64 a hr rfl rfl, hc j _ 1 .i64 p hr rfl rfl, hc j _ 2 .i64 d hr rfl rfl⟩
  · intro x hx
    obtain ⟨r, hr, rfl⟩ := List.mem_map.1 hx
    obtain ⟨i, hi, e⟩ := List.mem_iff_getElem.1 hr
    have hri : rows[i]? = some r := by rw [List.getElem?_eq_getElem hi, e]
    obtain ⟨a, p, d, rfl⟩ := get i r hri
    exact ⟨wf_i64_rng (hwf i _ 0 .i64 a hri rfl rfl), wf_i64_rng (hwf i _ 1 .i64 p hri rfl rfl), wf_i64_rng (hwf i _ 2 .i64 d hri rfl rfl)⟩

/- Rows of steps of one's own. -/
def celL (x : Li) : List Value := [.int .i64 x.fr, .int .i64 x.to, .int .i64 x.gn]
def cli (es : List Li) : List Value := es.flatMap celL
theorem cli_len (es : List Li) : (cli es).length = es.length * 3 := by
  induction es with
  | nil => rfl
  | cons e es ih => simp only [cli, List.flatMap_cons, List.length_append, List.length_cons] at ih ⊢; rw [ih]; simp [celL]; omega
theorem cli_app (a b : List Li) : cli (a ++ b) = cli a ++ cli b := by simp [cli]
theorem cli_at : ∀ (es : List Li) (i : Nat) (x : Li) (j : Nat), es[i]? = some x → j < 3 → (cli es)[i * 3 + j]? = (celL x)[j]?
  | [], i, x, j, h, _ => by simp at h
  | e :: es, 0, x, j, h, hj => by
    have : e = x := by simpa using h
    subst this
    unfold cli
    rw [List.flatMap_cons, List.getElem?_append_left (by simp [celL]; omega)]
    simp
  | e :: es, i + 1, x, j, h, hj => by
    have := cli_at es i x j (by simpa using h) hj
    unfold cli at this ⊢
    rw [List.flatMap_cons, List.getElem?_append_right (by simp [celL]; omega), ← this]
    congr 1
    simp [celL]; omega
def LiO (w : World) (base : Nat) (v : Value) (es : List Li) : Prop := w.ownsRow base 50 3 v es.length (cli es)
theorem LiO.nil (w : World) (base : Nat) : LiO w base (.slice none 0 0) [] := World.ownsRow_nil _ _ _ _
theorem LiO.mono {w : World} {base base' : Nat} {v : Value} {es : List Li} (h : LiO w base v es) (hb : base' ≤ base) : LiO w base' v es := by
  rcases h.2 with ⟨rfl, h0⟩ | ⟨k, cap, cur, rfl, hb', hg, r⟩
  · exact ⟨h.1, .inl ⟨rfl, h0⟩⟩
  · exact ⟨h.1, .inr ⟨k, cap, cur, rfl, by omega, hg, r⟩⟩
theorem LiO.form {w : World} {base : Nat} {v : Value} {es : List Li} (h : LiO w base v es) : ∃ A c, v = .slice A es.length c ∧ es.length ≤ c ∧ c ≤ maxLen := by
  rcases h.2 with ⟨hv, h0⟩ | ⟨g, cap, cur, hv, hb, hg, hn, hm, hs, ht⟩
  · exact ⟨none, 0, by rw [h0]; exact hv, by omega, by simp [maxLen]⟩
  · exact ⟨_, cap, hv, hn, hm⟩
theorem LiO.lt {w : World} {base : Nat} {v : Value} {es : List Li} (h : LiO w base v es) : ∀ k, v.ownBlock = some k → base ≤ k ∧ k < w.heap.size := World.ownsRow.lt h
theorem LiO.blk {w : World} {base : Nat} {v : Value} {es : List Li} (h : LiO w base v es) {k : Nat} (hk : v.ownBlock = some k) : ∃ cs, w.heap[k]? = some (.cells cs 50 (0, 0)) := by
  rcases h.2 with ⟨rfl, _⟩ | ⟨g, cap, cur, rfl, _, hg, _⟩
  · simp [Value.ownBlock] at hk
  · have : g = k := by simpa [Value.ownBlock] using hk
    subst this; exact ⟨_, hg⟩
theorem LiO.kept {w w' : World} {base : Nat} {v : Value} {es : List Li} (h : LiO w base v es) (hk : ∀ k, v.ownBlock = some k → w'.heap[k]? = w.heap[k]?) : LiO w' base v es := by
  rcases h.2 with ⟨rfl, h0⟩ | ⟨k, cap, cur, rfl, hb, hg, r⟩
  · exact ⟨h.1, .inl ⟨rfl, h0⟩⟩
  · exact ⟨h.1, .inr ⟨k, cap, cur, rfl, hb, (hk k rfl).trans hg, r⟩⟩
theorem LiO.below {w w' : World} {base : Nat} {v : Value} {es : List Li} (h : LiO w base v es) (hb : Below w.heap.size w w') : LiO w' base v es := h.kept fun k hk => hb.block k (h.lt k hk).2
theorem LiO.lis {w : World} {base : Nat} {v : Value} {es : List Li} (h : LiO w base v es) : Lis w w.heap.size v es := by
  rcases h.2 with ⟨hv, h0⟩ | ⟨g, cap, cur, hv, hb, hg, hn, hm, hs, ht⟩
  · exact ⟨none, 0, by rw [h0]; exact hv, by omega, by simp [maxLen], fun _ => rfl, .inl h0⟩
  · refine ⟨_, cap, hv, hn, hm, (fun e => by simp at e), ?_⟩
    refine .inr ⟨g, 0, rfl, (Array.getElem?_eq_some_iff.1 hg).1, fun i x hx => ?_⟩
    have hi := (List.getElem?_eq_some_iff.1 hx).1
    have hc : ∀ j, j < 3 → w.cell? ⟨g, 0 + i * 3 + j, none⟩ = (celL x)[j]? := fun j hj => by
      rw [Nat.zero_add, cell_of_row w g _ cur _ (0, 0) hg, ← cli_at es i x j hx hj, ← ht, List.getElem?_take, if_pos (by omega)]; simp
    exact ⟨hc 0 (by omega), hc 1 (by omega), hc 2 (by omega)⟩
theorem info_lift : (Try.prog.info? 50).map (fun i => (i.zero, i.size, i.bytes)) = some (some (.agg #[.int .i64 0, .int .i64 0, .int .i64 0]), 3, 24) := by kernel_rfl
/-- 'l = append(l, a)'. -/
theorem wpl_push3 {w : World} {base : Nat} {v : Value} {es : List Li} (hown : LiO w base v es) (hbase : base ≤ w.heap.size) (hroom : es.length + 1 ≤ 1099511627776)
    {ops : Array Oper} {rest : List Oper} {o : Oper} {a : Act} {Q : Exit → Act → World → Prop} {s x : Operand} {f : Li} (hgd : o.guard = none)
    (ho : o.op = .call { callee := .builtin .append, args := #[s, x], argTypes := #[22, 22] })
    (hs : a.eval s = v) {k : Nat} (hx : a.eval x = .slice (some ⟨k, 0, none⟩) 1 1) (hk : k = w.heap.size := by simp)
    (h : ∀ v' w', LiO w' base v' (es ++ [f]) → (∀ g, Mov w w' g v v') → wpList Try.prog ops Q rest (a.put o.dst v') w') : wpList Try.prog ops Q (o :: rest) a (w.alloc (.cells (liCells f) 50)) := by
  subst hk
  obtain ⟨i, hi, hz0, hz1, hz2⟩ := info_parts info_lift
  have hown' := World.ownsRow.alloc hown (.cells (liCells f) 50)
  refine wpList_append_own_at _ hgd s x 22 ho base 50 i _ 3 24 Try.underlying22 hi hz0 hz1 hz2 rfl (by decide) v _ (cli es) hs hown' ⟨w.heap.size, 0, none⟩ 1 1 (celL f) hx rfl ?_ ?_ ?_ ?_ ?_ ?_
  · intro j u hj
    rw [Addr.add_lit, Nat.zero_add, cell_of_row _ _ _ _ _ _ (heap_alloc_new w _)]
    match j, hj with
    | 0, hj => simpa [celL, liCells] using hj
    | 1, hj => simpa [celL, liCells] using hj
    | 2, hj => simpa [celL, liCells] using hj
    | j + 3, hj => simp [celL] at hj
  · intro u hu; simp [celL] at hu; rcases hu with rfl | rfl | rfl <;> rfl
  · unfold maxLen; omega
  · omega
  · simp; omega
  · intro v' w' ho' hg' _ hv'
    have h1 : Below w.heap.size w (w.alloc (.cells (liCells f) 50)) := (Below.refl _ _).alloc (Nat.le_refl _) _
    refine h v' w' ?_ fun g => ?_
    · unfold LiO; rw [List.length_append, cli_app]
      have : cli [f] = celL f := by simp [cli]
      rw [this]
      exact ho'
    · refine (Mov.of_below h1).grown hg' fun k hk => ?_
      rcases hv' with e | e
      · exact .inl (e ▸ hk)
      · rw [e] at hk; injection hk with hk; exact .inr (by omega)
theorem LiO.alloc {w : World} {base : Nat} {v : Value} {es : List Li} (h : LiO w base v es) (o : Obj) : LiO (w.alloc o) base v es := World.ownsRow.alloc h o
theorem LiO.grow {w w' : World} {base : Nat} {v : Value} {es : List Li} (h : LiO w base v es) (hb : base ≤ w.heap.size) (hg : w.grownBy w' v.ownBlock) : Below base w w' :=
  (Below.refl base w).grown hg hb fun k hk => (h.lt k hk).1
/-- 'append(v, vx...)'. -/
theorem wpl_appL {w : World} {base B : Nat} {v vx : Value} {es fs : List Li} (hown : LiO w base v es) (hr : Lis w B vx fs) (hbase : base ≤ w.heap.size) (hroom : es.length + fs.length ≤ 1099511627776)
    {ops : Array Oper} {rest : List Oper} {o : Oper} {a : Act} {Q : Exit → Act → World → Prop} {s x : Operand} (hgd : o.guard = none)
    (ho : o.op = .call { callee := .builtin .append, args := #[s, x], argTypes := #[22, 22] })
    (hs : a.eval s = v) (hx : a.eval x = vx)
    (h : ∀ v' w', LiO w' base v' (es ++ fs) → Below base w w' → wpList Try.prog ops Q rest (a.put o.dst v') w') : wpList Try.prog ops Q (o :: rest) a w := by
  obtain ⟨i, hi, hz0, hz1, hz2⟩ := info_parts info_lift
  obtain ⟨A, c, rfl, hyc, hcm, hz, hcell⟩ := hr
  rcases A with _ | ad
  · have hy0 : fs = [] := by
      rcases hcell with h0 | ⟨b, o, he, _⟩
      · exact List.eq_nil_of_length_eq_zero h0
      · simp at he
    have hc0 := hz rfl
    subst hy0; subst hc0
    refine wpList_plain hgd fun K hK' => ?_
    have hrun := run_append_owned_none (P := Try.prog) w base 22 o.type 50 i 3 Try.underlying22 hi _ es.length (cli es) hown
    unfold Oper.wp
    simp [execOp, ho, resolve, invoke, builtin, hs, hx, hrun, Result.andThen]
    exact hK' _ _ (h _ _ (by simpa using hown) (Below.refl _ _))
  · refine wpList_append_own _ hgd s x 22 ho base 50 i _ 3 24 Try.underlying22 hi hz0 hz1 hz2 rfl (by decide) v _ (cli es) hs hown ad fs.length c (cli fs) hx (cli_len fs) ?_ ?_ ?_ ?_ hbase ?_
    · intro j u hj
      have hjl := (List.getElem?_eq_some_iff.1 hj).1
      rw [cli_len] at hjl
      rcases hcell with h0 | ⟨b, o2, he, hb, hc⟩
      · omega
      · injection he with he
        subst he
        obtain ⟨x0, hx0⟩ : ∃ x0, fs[j / 3]? = some x0 := ⟨_, List.getElem?_eq_getElem (by omega)⟩
        have hat := cli_at fs (j / 3) x0 (j % 3) hx0 (Nat.mod_lt _ (by omega))
        rw [show j / 3 * 3 + j % 3 = j by omega, hj] at hat
        obtain ⟨c0, c1, c2⟩ := hc _ _ hx0
        rw [Addr.add_lit, show o2 + j = o2 + j / 3 * 3 + j % 3 by omega]
        have h5 : j % 3 = 0 ∨ j % 3 = 1 ∨ j % 3 = 2 := by omega
        rcases h5 with h5 | h5 | h5 <;> rw [h5] at hat ⊢ <;> rw [hat]
        · exact c0
        · exact c1
        · exact c2
    · intro u hu
      obtain ⟨y, _, hy⟩ := List.mem_flatMap.1 hu
      simp [celL] at hy
      rcases hy with rfl | rfl | rfl <;> rfl
    · unfold maxLen; omega
    · omega
    · intro v' w' ho' hg' _
      exact h v' w' (by unfold LiO; rw [List.length_append, cli_app]; exact ho') (hown.grow hbase hg')
theorem LiO.empty (w : World) : LiO (w.alloc (.cells #[] 50)) w.heap.size (.slice (some ⟨w.heap.size, 0, none⟩) 0 0) [] := World.ownsRow_made w #[] 0 (Nat.le_refl _) (by simp [maxLen]) rfl

/-- Three cells made just now: a slice of one step, of two, of three. -/
theorem LiO.fresh (w : World) (es : List Li) (h0 : 0 < es.length) (h1 : es.length ≤ 16) : LiO (w.alloc (.cells (cli es).toArray 50)) w.heap.size (.slice (some ⟨w.heap.size, 0, none⟩) es.length es.length) es := by
  refine ⟨cli_len es, .inr ⟨w.heap.size, es.length, (cli es).toArray, rfl, Nat.le_refl _, heap_alloc_new w _, Nat.le_refl _, by unfold maxLen; omega, by simp [cli_len], ?_⟩⟩
  rw [List.take_of_length_le (by simp [cli_len])]
end Go.Proofs.Ytggddckckfilgaa
