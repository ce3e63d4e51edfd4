/- prefix: rows of coins and packages: elements of two cells. -/
import Derived.Test.YthecibabpcfoaaaPfxA
import Derived.Deep.RegionLaw
import Derived.Shelf.Abstract
namespace Go.Proofs.Ythecibabpcfoaaa
open Go.RowKit
set_option maxRecDepth 100000
set_option maxHeartbeats 1600000

def celE (e : Nat × Bool) : List Value := [.int .i64 (e.1 : Nat), .bool e.2]
def ce (es : List (Nat × Bool)) : List Value := es.flatMap celE
theorem ce_len (es : List (Nat × Bool)) : (ce es).length = es.length * 2 := by
  induction es with
  | nil => rfl
  | cons e es ih => simp only [ce, List.flatMap_cons, List.length_append, List.length_cons] at ih ⊢; rw [ih]; simp [celE]; omega
theorem ce_app (a b : List (Nat × Bool)) : ce (a ++ b) = ce a ++ ce b := by simp [ce]
theorem ce_one (es : List (Nat × Bool)) : ∀ u ∈ ce es, u.oneCell' = true := by
  intro u hu
  obtain ⟨e, _, he⟩ := List.mem_flatMap.1 hu
  simp [celE] at he
  rcases he with rfl | rfl <;> rfl
theorem ce_at : ∀ (es : List (Nat × Bool)) (i : Nat) (h : i < es.length), (ce es)[i * 2]? = some (.int .i64 ((es[i]).1 : Nat)) ∧ (ce es)[i * 2 + 1]? = some (.bool (es[i]).2)
  | [], i, h => absurd h (by simp)
  | e :: es, 0, _ => by constructor <;> rfl
  | e :: es, i + 1, h => by
    have := ce_at es i (by simpa using h)
    have e1 : (i + 1) * 2 = i * 2 + 2 := by omega
    rw [e1]
    exact this
/-- A row of elements of one's own. -/
def Els (w : World) (base : Nat) (v : Value) (es : List (Nat × Bool)) : Prop := w.ownsRow base 68 2 v es.length (ce es)
theorem Els.nil (w : World) (base : Nat) : Els w base (.slice none 0 0) [] := World.ownsRow_nil _ _ _ _
theorem Els.form {w : World} {base : Nat} {v : Value} {es : List (Nat × Bool)} (h : Els w base v es) : ∃ A c, v = .slice A es.length c ∧ es.length ≤ c ∧ c ≤ maxLen := by
  rcases h.2 with ⟨hv, h0⟩ | ⟨g, cap, cur, hv, hb, hg, hn, hm, hs, ht⟩
  · exact ⟨none, 0, by rw [h0]; exact hv, by omega, by simp [maxLen]⟩
  · exact ⟨_, cap, hv, hn, hm⟩
theorem Els.lt {w : World} {base : Nat} {v : Value} {es : List (Nat × Bool)} (h : Els w base v es) : ∀ k, v.ownBlock = some k → base ≤ k ∧ k < w.heap.size := World.ownsRow.lt h
theorem Els.blk {w : World} {base : Nat} {v : Value} {es : List (Nat × Bool)} (h : Els w base v es) {k : Nat} (hk : v.ownBlock = some k) : ∃ cs, w.heap[k]? = some (.cells cs 68 (0, 0)) := by
  rcases h.2 with ⟨rfl, _⟩ | ⟨g, cap, cur, rfl, _, hg, _⟩
  · simp [Value.ownBlock] at hk
  · have : g = k := by simpa [Value.ownBlock] using hk
    subst this; exact ⟨_, hg⟩
theorem Els.ne {w : World} {base g : Nat} {t : TypeId} {v : Value} {es : List (Nat × Bool)} {cs : Array Value} {fr : Nat × Nat} (h : Els w base v es) (hg : w.heap[g]? = some (.cells cs t fr)) (hne : 68 ≠ t) : v.ownBlock ≠ some g := by
  intro hv
  obtain ⟨cs', h'⟩ := h.blk hv
  rw [hg] at h'
  injection h' with h'; injection h' with _ h2
  exact hne h2.symm
theorem Els.mono {w : World} {base base' : Nat} {v : Value} {es : List (Nat × Bool)} (h : Els w base v es) (hb : base' ≤ base) : Els w base' v es := by
  refine ⟨h.1, ?_⟩
  rcases h.2 with h' | ⟨g, cap, cur, hv, hg, r⟩
  · exact .inl h'
  · exact .inr ⟨g, cap, cur, hv, Nat.le_trans hb hg, r⟩
theorem Els.kept {w w' : World} {base : Nat} {v : Value} {es : List (Nat × Bool)} (h : Els w base v es) (hb : Below w.heap.size w w') : Els w' base v es :=
  World.ownsRow.kept (row := none) h ⟨hb.os, hb.tape, hb.output, hb.size, fun k hk _ => hb.block k hk⟩ (by cases v.ownBlock <;> simp)
/-- A row of elements that is read. -/
def Sle (w : World) (B : Nat) (v : Value) (es : List (Nat × Bool)) : Prop := ∃ A c, v = .slice A es.length c ∧ es.length ≤ c ∧ c ≤ maxLen ∧ (es.length = 0 ∨ ∃ b o, A = some ⟨b, o, none⟩ ∧ b < B ∧ ∀ j, j < es.length * 2 → w.cell? ⟨b, o + j, none⟩ = (ce es)[j]?)
theorem Sle.keep {w w' : World} {B : Nat} {v : Value} {es : List (Nat × Bool)} (h : Sle w B v es) (hk : ∀ p : Addr, p.block < B → w'.cell? p = w.cell? p) : Sle w' B v es := by
  obtain ⟨A, c, e, h1, h2, h3⟩ := h
  refine ⟨A, c, e, h1, h2, ?_⟩
  rcases h3 with h0 | ⟨b, o, e, hb, hc⟩
  · exact .inl h0
  · exact .inr ⟨b, o, e, hb, fun j hj => (hk _ hb).trans (hc j hj)⟩
theorem Sle.below {w w' : World} {B : Nat} {v : Value} {es : List (Nat × Bool)} (h : Sle w B v es) (hb : Below B w w') : Sle w' B v es := h.keep fun _ hp => hb.cell hp
theorem Sle.more {w : World} {B B' : Nat} {v : Value} {es : List (Nat × Bool)} (h : Sle w B v es) (hB : B ≤ B') : Sle w B' v es := by
  obtain ⟨A, c, e, h1, h2, h3⟩ := h
  refine ⟨A, c, e, h1, h2, ?_⟩
  rcases h3 with h0 | ⟨b, o, e, hb, hc⟩
  · exact .inl h0
  · exact .inr ⟨b, o, e, Nat.lt_of_lt_of_le hb hB, hc⟩
theorem Els.sle {w : World} {base : Nat} {v : Value} {es : List (Nat × Bool)} (h : Els w base v es) : Sle w w.heap.size v es := by
  obtain ⟨A, c, rfl, h1, h2⟩ := h.form
  refine ⟨A, c, rfl, h1, h2, ?_⟩
  rcases h.2 with ⟨hv, h0⟩ | ⟨g, cap, cur, hv, hb, hg, hn, hm, hs, ht⟩
  · exact .inl h0
  · refine .inr ⟨g, 0, by injection hv, (Array.getElem?_eq_some_iff.1 hg).1, fun j hj => ?_⟩
    rw [Nat.zero_add, cell_of_row w g j cur _ (0, 0) hg, ← ht, List.getElem?_take, if_pos hj]; simp
theorem Sle.at {w : World} {B n c : Nat} {A : Option Addr} {es : List (Nat × Bool)} (h : Sle w B (.slice A n c) es) {i : Nat} (hi : i < es.length) :
    ∃ b o, A = some ⟨b, o, none⟩ ∧ b < B ∧ w.cell? ⟨b, o + i * 2, none⟩ = some (.int .i64 ((es[i]).1 : Nat)) ∧ w.cell? ⟨b, o + i * 2 + 1, none⟩ = some (.bool (es[i]).2) := by
  obtain ⟨A', c', e, h1, h2, h3⟩ := h
  injection e with e1 e2 e3
  subst e1; subst e2; subst e3
  rcases h3 with h0 | ⟨b, o, e, hb, hc⟩
  · omega
  · have := ce_at es i hi
    exact ⟨b, o, e, hb, by rw [hc _ (by omega), this.1], by rw [Nat.add_assoc, hc _ (by omega), this.2]⟩
theorem Sle.form {w : World} {B : Nat} {v : Value} {es : List (Nat × Bool)} (h : Sle w B v es) : ∃ A c, v = .slice A es.length c ∧ es.length ≤ c ∧ c ≤ maxLen := by
  obtain ⟨A, c, e, h1, h2, _⟩ := h; exact ⟨A, c, e, h1, h2⟩

theorem info_elt : (Try.prog.info? 68).map (fun i => (i.zero, i.size, i.bytes)) = some (some (.agg #[.int .i64 0, .bool false]), 2, 16) := by kernel_rfl
theorem cells_two_new (w : World) (e : Nat × Bool) : ∀ j u, (celE e)[j]? = some u → (w.alloc (.cells #[.int .i64 (e.1 : Nat), .bool e.2] 68)).cell? ((⟨w.heap.size, 0, none⟩ : Addr).add j) = some u := by
  intro j u hj
  rw [Addr.add_lit, Nat.zero_add, cell_of_row _ _ _ _ _ _ (heap_alloc_new w _)]
  match j, hj with
  | 0, hj => simpa [celE] using hj
  | 1, hj => simpa [celE] using hj
  | j + 2, hj => simp [celE] at hj
/-- 'es = append(es, element{..})'. -/
theorem wpl_push2 {w : World} {base : Nat} {v : Value} {es : List (Nat × Bool)} (hown : Els w base v es) (hbase : base ≤ w.heap.size) (hroom : es.length + 1 ≤ 1099511627776)
    {ops : Array Oper} {rest : List Oper} {o : Oper} {a : Act} {Q : Exit → Act → World → Prop} {s x : Operand} {f : Nat × Bool} (hgd : o.guard = none)
    (ho : o.op = .call { callee := .builtin .append, args := #[s, x], argTypes := #[65, 65] })
    (hs : a.eval s = v) {k : Nat} (hx : a.eval x = .slice (some ⟨k, 0, none⟩) 1 1) (hk : k = w.heap.size := by simp)
    (h : ∀ v' w', Els w' base v' (es ++ [f]) → (∀ g, Mov w w' g v v') → wpList Try.prog ops Q rest (a.put o.dst v') w') : wpList Try.prog ops Q (o :: rest) a (w.alloc (.cells #[.int .i64 (f.1 : Nat), .bool f.2] 68)) := by
  subst hk
  obtain ⟨i, hi, hz0, hz1, hz2⟩ := info_parts info_elt
  have hown' := World.ownsRow.alloc hown (.cells #[.int .i64 (f.1 : Nat), .bool f.2] 68)
  refine wpList_append_own_at _ hgd s x 65 ho base 68 i _ 2 16 Try.underlying65 hi hz0 hz1 hz2 rfl (by decide) v _ (ce es) hs hown' ⟨w.heap.size, 0, none⟩ 1 1 (celE f) hx rfl (cells_two_new w f) ?_ ?_ ?_ ?_ ?_
  · intro u hu; simp [celE] at hu; rcases hu with rfl | rfl <;> rfl
  · unfold maxLen; omega
  · omega
  · simp; omega
  · intro v' w' ho' hg' _ hv'
    have h1 : Below w.heap.size w (w.alloc (.cells #[.int .i64 (f.1 : Nat), .bool f.2] 68)) := (Below.refl _ _).alloc (Nat.le_refl _) _
    refine h v' w' ?_ fun g => ?_
    · unfold Els; rw [List.length_append, ce_app]
      have : ce [f] = celE f := by simp [ce]
      rw [this]; exact ho'
    · refine (Mov.of_below h1).grown hg' fun k hk => ?_
      rcases hv' with e | e
      · exact .inl (e ▸ hk)
      · rw [e] at hk; injection hk with hk; exact .inr (by omega)
/-- The same in a region that draws its order. -/
theorem step_push2 {w : World} {base : Nat} {v : Value} {es : List (Nat × Bool)} (hown : Els w base v es) (hbase : base ≤ w.heap.size) (hroom : es.length + 1 ≤ 1099511627776)
    {ops : Array Oper} {o : Oper} {a : Act} {K : Act → World → Prop} {Q : Exit → Act → World → Prop} {E : Prop} {s x : Operand} {f : Nat × Bool} (hgd : o.guard = none)
    (ho : o.op = .call { callee := .builtin .append, args := #[s, x], argTypes := #[65, 65] })
    (hs : a.eval s = v) {k : Nat} (hx : a.eval x = .slice (some ⟨k, 0, none⟩) 1 1) (hk : k = w.heap.size := by simp)
    (h : ∀ v' w', Els w' base v' (es ++ [f]) → (∀ g, Mov w w' g v v') → K (a.put o.dst v') w') : if Region.wanted o (yielded ops a.tmps) = true then Oper.wp Try.prog o a (w.alloc (.cells #[.int .i64 (f.1 : Nat), .bool f.2] 68)) K Q else E := by
  subst hk
  rw [if_pos (by simp [Region.wanted, hgd])]
  obtain ⟨i, hi, hz0, hz1, hz2⟩ := info_parts info_elt
  have hown' := World.ownsRow.alloc hown (.cells #[.int .i64 (f.1 : Nat), .bool f.2] 68)
  obtain ⟨v', w', hr, h2, h3, _, h5⟩ := run_append_own_at (P := Try.prog) (w.alloc (.cells #[.int .i64 (f.1 : Nat), .bool f.2] 68)) base 65 o.type 68 i _ 2 16 Try.underlying65 hi hz0 hz1 hz2 rfl (by decide) v _ (ce es) hown' ⟨w.heap.size, 0, none⟩ 1 1 (celE f) rfl (cells_two_new w f)
    (by intro u hu; simp [celE] at hu; rcases hu with rfl | rfl <;> rfl) (by unfold maxLen; omega) (by omega) (by simp; omega)
  unfold Oper.wp execOp
  simp only [ho, resolve, invoke, builtin, Sem.run_bind, Sem.run_pure, Result.andThen_ok, List.map_toArray, List.map_cons, List.map_nil, hs, hx, hr]
  have h1 : Below w.heap.size w (w.alloc (.cells #[.int .i64 (f.1 : Nat), .bool f.2] 68)) := (Below.refl _ _).alloc (Nat.le_refl _) _
  refine h v' w' ?_ fun g => ?_
  · unfold Els; rw [List.length_append, ce_app]
    have : ce [f] = celE f := by simp [ce]
    rw [this]; exact h2
  · refine (Mov.of_below h1).grown h3 fun k hk => ?_
    rcases h5 with e | e
    · exact .inl (e ▸ hk)
    · rw [e] at hk; injection hk with hk; exact .inr (by omega)

/-- Neighbours packed. -/
def packE : List (Nat × Bool) → List (Nat × Bool)
  | a :: b :: t => (a.1 + b.1, false) :: packE t
  | _ => []
theorem packE_len : ∀ l : List (Nat × Bool), (packE l).length = l.length / 2
  | [] => rfl
  | [_] => by simp [packE]
  | a :: b :: t => by simp only [packE, List.length_cons, packE_len t]; omega
theorem packE_snoc : ∀ (l : List (Nat × Bool)) (i : Nat) (h : 2 * i + 1 < l.length), packE (l.take (2 * (i + 1))) = packE (l.take (2 * i)) ++ [((l[2 * i]).1 + (l[2 * i + 1]).1, false)]
  | [], i, h => absurd h (by simp)
  | [_], i, h => absurd h (by simp)
  | a :: b :: t, 0, _ => by simp [packE]
  | a :: b :: t, i + 1, h => by
    have ih := packE_snoc t i (by simp at h; omega)
    have e1 : 2 * (i + 1 + 1) = 2 * (i + 1) + 1 + 1 := by omega
    have e2 : 2 * (i + 1) = 2 * i + 1 + 1 := by omega
    rw [e1, List.take_succ_cons, List.take_succ_cons, packE, ih]
    simp only [e2, List.take_succ_cons, packE, List.getElem_cons_succ, List.cons_append]
theorem packE_even : ∀ l : List (Nat × Bool), packE (l.take (2 * (l.length / 2))) = packE l
  | [] => rfl
  | [_] => by simp [packE]
  | a :: b :: t => by
    have ih := packE_even t
    have e : 2 * ((a :: b :: t).length / 2) = 2 * (t.length / 2) + 1 + 1 := by simp only [List.length_cons]; omega
    rw [e, List.take_succ_cons, List.take_succ_cons, packE, ih, packE]

theorem packages_any {w : World} {B : Nat} {v : Value} {es : List (Nat × Bool)} (hS : Sle w B v es) (hB : B ≤ w.heap.size) (hlen : es.length ≤ 1048576) (hw : ∀ e ∈ es, e.1 ≤ 2305843009213693951) :
    Calls Try.prog 57 #[v] w fun e w' => ∃ v', e = .returned v' ∧ Els w' w.heap.size v' (packE es) ∧ Below w.heap.size w w' := by
  obtain ⟨A, c, rfl, hlc, hcm⟩ := hS.form
  obtain ⟨n, hnl⟩ : ∃ n, es.length = n := ⟨_, rfl⟩
  rw [hnl] at hS hlc hlen ⊢
  have HNL := Lib.hid hnl; have HW := Lib.hid hw
  obtain ⟨S0, hs0⟩ : ∃ S0, w.heap.size = S0 := ⟨_, rfl⟩
  have HS0 := Lib.hid hs0
  rw [hs0] at hB
  clear hnl hw hs0
  go_enter Try.func57, Try.ntmps57
  go_wp2
  go_loopw [3, 4] (fun v3 vi wr => ∃ j i : Nat, Hid (i = 2 * j + 1) ∧ vi = .int .i64 (i : Nat) ∧ i ≤ n + 1 ∧ Els wr S0 v3 (packE (es.take (2 * j))) ∧ Below S0 w wr) (fun _ vi _ => n + 2 - (intOf vi).toNat)
  case atStart => exact ⟨0, 1, Lib.hid rfl, rfl, by omega, Els.nil _ _, Below.refl _ _⟩
  case round =>
    obtain ⟨j, i, hij, rfl, hi, hE, hb⟩ := hrel
    have HSw := Lib.hid (hS.below (hb.mono hB))
    have hszw : S0 ≤ wr.heap.size := by have := hb.size; have := HS0.out; omega
    obtain ⟨A3, c3, rfl, hl3, hm3⟩ := hE.form
    have hpl := packE_len (es.take (2 * j))
    rw [List.length_take] at hpl
    obtain ⟨m, hm⟩ : ∃ m, (packE (es.take (2 * j))).length = m := ⟨_, rfl⟩
    by_cases hlt : i < n
    · obtain ⟨q, hq⟩ : ∃ q, 2 * j = q := ⟨_, rfl⟩
      have hqi : i = q + 1 := by rw [← hq]; exact hij.out
      have hsn := packE_snoc es j (by rw [HNL.out]; have := hij.out; omega)
      have e1 : 2 * j + 1 = i := hij.out.symm
      simp only [e1] at hsn
      simp only [hq] at hsn
      obtain ⟨b, o, rfl, hbB, k1, k2⟩ := HSw.out.at (i := q) (by rw [HNL.out]; omega)
      obtain ⟨b', o', he, _, k3, k4⟩ := HSw.out.at (i := i) (by rw [HNL.out]; omega)
      injection he with he; injection he with he1 he2; subst he1; subst he2
      have hw1 := HW.out _ (List.getElem_mem (l := es) (n := q) (by rw [HNL.out]; omega))
      have hw2 := HW.out _ (List.getElem_mem (l := es) (n := i) (by rw [HNL.out]; omega))
      obtain ⟨x, hx⟩ : ∃ x, (es[q]'(by rw [HNL.out]; omega)).1 = x := ⟨_, rfl⟩
      obtain ⟨y, hy⟩ : ∃ y, (es[i]'(by rw [HNL.out]; omega)).1 = y := ⟨_, rfl⟩
      rw [hx] at k1 hw1 hsn; rw [hy] at k3 hw2 hsn
      rw [hq] at hE hm hpl hl3 ⊢
      rw [hm] at hpl hl3 hE ⊢
      rw [HNL.out] at hpl
      have hqI : (i : Int) - 1 = (q : Nat) := by omega
      have hwr : IntKind.i64.wrap ((x : Int) + (y : Int)) = ((x + y : Nat) : Int) := by rw [← Int.natCast_add, IntKind.wrap_i64]; omega
      have hwq : IntKind.i64.wrap ((q : Nat) : Int) = (q : Nat) := by rw [IntKind.wrap_i64]; omega
      have hqn : q < n := by omega
      have HM := Lib.hid hm
      have HE := Lib.hid hE
      have HSN := Lib.hid hsn; have HQ := Lib.hid hq
      have HPL := Lib.hid hpl
      clear hx hy k2 k4 hE hsn hq hm hqi e1 hpl
      go_wp2
      go_region_law (first
        | (refine step_push2 (w := wr.drew) (f := (x + y, false)) (show Els wr.drew S0 (.slice A3 m c3) (packE (es.take q)) from HE.out) (by simpa using hszw) (by rw [HM.out]; have := HPL.out; omega) rfl rfl rfl rfl rfl (h := ?_); intro v6 w6 ho6 hm6))
      all_goals
        have hb6 := (hm6 (S0 + n + wr.heap.size)).below (base := S0) (by omega) (fun k hk => (HE.out.lt k hk).1) hszw
        have hbb : Below S0 w w6 := hb.trans ⟨hb6.os, hb6.tape, hb6.output, hb6.size, hb6.block⟩
        go_wp2
        refine ⟨⟨j + 1, i + 2, Lib.hid (by have := hij.out; omega), rfl, by omega, by rw [HSN.out]; exact ho6, hbb⟩, by simp [intOf]; omega⟩
    · have hfin : packE (es.take (2 * j)) = packE es := by
        have h1 := hij.out
        have h2 : j = es.length / 2 := by rw [HNL.out]; omega
        rw [h2]; exact packE_even es
      rw [hfin] at hE ⊢
      have HE := Lib.hid hE
      clear hE hfin hpl hm hl3
      go_wp2
      go_ret
      rw [HS0.out]
      exact ⟨_, rfl, HE.out, hb⟩
end Go.Proofs.Ythecibabpcfoaaa
