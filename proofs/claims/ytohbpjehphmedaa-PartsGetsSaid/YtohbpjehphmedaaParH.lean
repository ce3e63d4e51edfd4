/- parts: Get, the rows that grow side by side. -/
import Derived.Test.YtohbpjehphmedaaParG
import Derived.Test.YtohbpjehphmedaaRicZ
namespace Go.Proofs.Ytohbpjehphmedaa
open Go.RowKit
set_option maxRecDepth 100000
set_option maxHeartbeats 1600000

/-- 'b = append(b, x...)': what has changed is b's block, or b's block is new. -/
theorem wpl_pushN {P : Program} {w : World} {base B : Nat} {e t : TypeId} {z v vx : Value} {bytes : Nat} {xs ys : List Value} (hown : Own w base e v xs) (hr : Sli w B vx ys) (hbase : base ≤ w.heap.size) (hroom : xs.length + ys.length ≤ 8796093022208)
    (ht : P.underlying t = some (.slice e)) (hinf : (P.info? e).map (fun i => (i.zero, i.size, i.bytes)) = some (some z, 1, bytes)) (hzs : z.cells.size = 1) (hb16 : bytes ≤ 16) (hone : ∀ u ∈ ys, u.oneCell' = true)
    {ops : Array Oper} {rest : List Oper} {o : Oper} {a : Act} {Q : Exit → Act → World → Prop} {s x : Operand} (hgd : o.guard = none)
    (ho : o.op = .call { callee := .builtin .append, args := #[s, x], argTypes := #[t, t] })
    (hs : a.eval s = v) (hx : a.eval x = vx)
    (h : ∀ v' w', Own w' base e v' (xs ++ ys) → (∀ g, Mov w w' g v v') → wpList P ops Q rest (a.put o.dst v') w') : wpList P ops Q (o :: rest) a w := by
  obtain ⟨i, hi, hz0, hz1, hz2⟩ := info_parts hinf
  obtain ⟨A, c, rfl, hh, hyc, hcm, hn⟩ := hr
  have hle : (xs.length + ys.length) * bytes ≤ 140737488355328 := by
    have : (xs.length + ys.length) * bytes ≤ 8796093022208 * 16 := Nat.mul_le_mul hroom hb16
    omega
  rcases A with _ | ad
  · have hy0 : ys = [] := by
      rcases hh.2 with h0 | ⟨b, o, he, _⟩
      · exact List.eq_nil_of_length_eq_zero h0
      · simp at he
    have hc0 := hn rfl
    subst hy0; subst hc0
    refine wpList_plain hgd fun K hK' => ?_
    have hrun := run_append_owned_none (P := P) w base t o.type e i 1 ht hi _ xs.length xs hown
    unfold Oper.wp
    simp [execOp, ho, resolve, invoke, builtin, hs, hx, hrun, Result.andThen]
    exact hK' _ _ (h _ _ (by simpa using hown) (fun _ => Mov.refl _ _ _))
  · refine wpList_append_own_at _ hgd s x t ho base e i z 1 bytes ht hi hz0 hz1 hz2 hzs (by decide) v _ xs hs hown ad ys.length c ys hx (by omega) ?_ hone ?_ ?_ hbase ?_
    · intro j u hj
      obtain ⟨hjl, hje⟩ := List.getElem?_eq_some_iff.1 hj
      obtain ⟨b, o, u', hA, _, hc, hu⟩ := hh.get hjl
      injection hA with hA; subst hA
      rw [Addr.add_lit, hc, ← hu, hj]
    · unfold maxLen; omega
    · exact hle
    · intro v' w' ho' hg' _ hv'
      refine h v' w' (by unfold Own; rw [List.length_append]; exact ho') fun g => ?_
      refine ⟨hg'.os, hg'.tape, hg'.output, hg'.size, fun k hk _ hn => hg'.block k hk (fun e => hn e.symm), fun k hk => ?_⟩
      rcases hv' with e | e
      · exact .inl (e ▸ hk)
      · rw [e] at hk; injection hk with hk; exact .inr (by omega)
/-- A reader, three rows of ints, a plan in its block, a result's block. -/
structure Rowing (w0 w : World) (g P R : Nat) (l : List Nat) (a1 : Nat) (o : Int) (kv lv sv : Value) (ks0 l0 ss : List Int) : Prop where
  rd : RdB w g l a1 0
  kown : Own w w0.heap.size 3 kv (ci ks0)
  lown : Own w w0.heap.size 3 lv (ci l0)
  sown : Own w w0.heap.size 3 sv (ci ss)
  kl : Apart kv lv
  ks : Apart kv sv
  ls : Apart lv sv
  box : w.heap[P]? = some (.cells #[.int .i64 o, kv] 24 (0, 0))
  res : w.heap[R]? = some (.cells #[.int .i64 0, .slice none 0 0] 24 (0, 0))
  gr : w0.grownBy w (some g)
  pr : P ≠ R
  p0 : w0.heap.size ≤ P
  r0 : w0.heap.size ≤ R
  g0 : g < w0.heap.size
theorem two_types {w : World} {g k : Nat} {a b : Array Value} {t e : TypeId} {f1 f2 : Nat × Nat} (h1 : w.heap[g]? = some (.cells a t f1)) (h2 : w.heap[k]? = some (.cells b e f2)) (hne : t ≠ e) : g ≠ k := by
  intro e; subst e
  rw [h1] at h2
  injection h2 with h2; injection h2 with _ h2
  exact hne h2
/-- The reader has read. -/
theorem Rowing.read {w0 w w' : World} {g P R : Nat} {l : List Nat} {a1 a2 : Nat} {o : Int} {kv lv sv : Value} {ks0 l0 ss : List Int} (h : Rowing w0 w g P R l a1 o kv lv sv ks0 l0 ss) (hR : RdB w' g l a2 0) (hg : w.grownBy w' (some g)) : Rowing w0 w' g P R l a2 o kv lv sv ks0 l0 ss := by
  obtain ⟨cs, hb⟩ := h.rd.blk
  have hP := (Array.getElem?_eq_some_iff.1 h.box).1
  have hRr := (Array.getElem?_eq_some_iff.1 h.res).1
  have := h.g0; have := h.p0; have := h.r0
  exact ⟨hR, h.kown.far hb (by decide) hg, h.lown.far hb (by decide) hg, h.sown.far hb (by decide) hg, h.kl, h.ks, h.ls, (hg.block P hP (by simp; omega)).trans h.box, (hg.block R hRr (by simp; omega)).trans h.res, grown_trans h.gr hg, h.pr, h.p0, h.r0, h.g0⟩
theorem Mov.fresh {w0 w w' : World} {g : Nat} {v v' : Value} (h : w0.grownBy w (some g)) (hm : ∀ g, Mov w w' g v v') (hv : ∀ k, v.ownBlock = some k → w0.heap.size ≤ k) : w0.grownBy w' (some g) := by
  have hg := hm g
  exact ⟨hg.os.trans h.os, hg.tape.trans h.tape, hg.output.trans h.output, Nat.le_trans h.size hg.size, fun i hi hn => (hg.block i (Nat.lt_of_lt_of_le hi h.size) (fun e => hn (by rw [e])) (fun e => by have := hv i e; omega)).trans (h.block i hi hn)⟩
/-- 'p.Ks = append(p.Ks, k)'. -/
theorem Rowing.pushK {w0 w w' : World} {g P R : Nat} {l : List Nat} {a1 : Nat} {o k : Int} {kv kv' lv sv : Value} {ks0 l0 ss : List Int} (h : Rowing w0 w g P R l a1 o kv lv sv ks0 l0 ss) (ho : Own w' w0.heap.size 3 kv' (ci ks0 ++ [.int .i64 k])) (hm : ∀ g, Mov w w' g kv kv') : Rowing w0 (w'.setCell ⟨P, 1, none⟩ kv') g P R l a1 o kv' lv sv (ks0 ++ [k]) l0 ss := by
  have hP := (Array.getElem?_eq_some_iff.1 h.box).1
  have hRr := (Array.getElem?_eq_some_iff.1 h.res).1
  have hrd' := h.rd.push h.kown hm
  have hbox' : w'.heap[P]? = some (.cells #[.int .i64 o, kv] 24 (0, 0)) := ((hm (P + 1)).block P hP (by omega) (h.kown.ne h.box (by decide))).trans h.box
  have hres' : w'.heap[R]? = some (.cells #[.int .i64 0, .slice none 0 0] 24 (0, 0)) := ((hm (R + 1)).block R hRr (by omega) (h.kown.ne h.res (by decide))).trans h.res
  obtain ⟨cs, hb⟩ := h.rd.blk
  have hl' := h.lown.moved (hm g) hb (by decide) h.kl
  have hs' := h.sown.moved (hm g) hb (by decide) h.ks
  have hset := grown_set w' P 1 kv'
  obtain ⟨cs', hb'⟩ := hrd'.blk
  have hgP : g ≠ P := by have := h.g0; have := h.p0; omega
  refine ⟨hrd'.only hbox' (by decide) hset hgP, by rw [ci_app]; exact ho.far hbox' (by decide) hset, hl'.far hbox' (by decide) hset, hs'.far hbox' (by decide) hset, (hm g).apart h.kl fun k hk => (h.lown.lt k hk).2, (hm g).apart h.ks fun k hk => (h.sown.lt k hk).2, h.ls, heap_setCell_same w' P 1 _ _ _ hbox', (hset.block R (Array.getElem?_eq_some_iff.1 hres').1 (by simp; exact fun e => h.pr e.symm)).trans hres', ?_, h.pr, h.p0, h.r0, h.g0⟩
  exact grown_fresh (Mov.fresh h.gr hm fun k hk => (h.kown.lt k hk).1) hset h.p0
/-- 'l = append(l, ..)'. -/
theorem Rowing.pushL {w0 w w' : World} {g P R : Nat} {l : List Nat} {a1 : Nat} {o : Int} {kv lv lv' sv : Value} {ks0 l0 l1 ss : List Int} (h : Rowing w0 w g P R l a1 o kv lv sv ks0 l0 ss) (ho : Own w' w0.heap.size 3 lv' (ci l0 ++ ci l1)) (hm : ∀ g, Mov w w' g lv lv') : Rowing w0 w' g P R l a1 o kv lv' sv ks0 (l0 ++ l1) ss := by
  have hP := (Array.getElem?_eq_some_iff.1 h.box).1
  have hRr := (Array.getElem?_eq_some_iff.1 h.res).1
  obtain ⟨cs, hb⟩ := h.rd.blk
  refine ⟨h.rd.push h.lown hm, h.kown.moved (hm g) hb (by decide) h.kl.symm, by rw [ci_app]; exact ho, h.sown.moved (hm g) hb (by decide) h.ls, ((hm g).apart h.kl.symm fun k hk => (h.kown.lt k hk).2).symm, h.ks, (hm g).apart h.ls fun k hk => (h.sown.lt k hk).2, ((hm (P + 1)).block P hP (by omega) (h.lown.ne h.box (by decide))).trans h.box, ((hm (R + 1)).block R hRr (by omega) (h.lown.ne h.res (by decide))).trans h.res, Mov.fresh h.gr hm fun k hk => (h.lown.lt k hk).1, h.pr, h.p0, h.r0, h.g0⟩
theorem Rowing.boxK {w0 w w' : World} {g P R : Nat} {l : List Nat} {a1 : Nat} {o : Int} {kv kv' lv sv : Value} {ks0 l0 ss : List Int} (h : Rowing w0 w g P R l a1 o kv lv sv ks0 l0 ss) (hm : ∀ g, Mov w w' g kv kv') : w'.heap[P]? = some (.cells #[.int .i64 o, kv] 24 (0, 0)) :=
  ((hm (P + 1)).block P (Array.getElem?_eq_some_iff.1 h.box).1 (by omega) (h.kown.ne h.box (by decide))).trans h.box
/-- Another row, where p.Ks grows and is stored. -/
theorem Rowing.restK {w0 w w' : World} {g P R base : Nat} {l : List Nat} {a1 : Nat} {o : Int} {kv kv' lv sv u : Value} {ks0 l0 ss : List Int} {xs : List Value} (h : Rowing w0 w g P R l a1 o kv lv sv ks0 l0 ss) (hm : ∀ g, Mov w w' g kv kv') (hu : Own w base 3 u xs) (ha : Apart kv u) : Own (w'.setCell ⟨P, 1, none⟩ kv') base 3 u xs := by
  obtain ⟨cs, hb⟩ := h.rd.blk
  exact (hu.moved (hm g) hb (by decide) ha).far (h.boxK hm) (by decide) (grown_set w' P 1 kv')
theorem two_grown (w : World) (R : Nat) (a b : Value) : w.grownBy ((w.setCell ⟨R, 0, none⟩ a).setCell ⟨R, 1, none⟩ b) (some R) := grown_trans (grown_set w R 0 a) (grown_set _ R 1 b)
theorem two_blk {w : World} {R : Nat} {x y a b : Value} {t : TypeId} (h : w.heap[R]? = some (.cells #[x, y] t (0, 0))) : ((w.setCell ⟨R, 0, none⟩ a).setCell ⟨R, 1, none⟩ b).heap[R]? = some (.cells #[a, b] t (0, 0)) :=
  heap_setCell_same _ R 1 _ _ _ (heap_setCell_same w R 0 _ _ _ h)
theorem results_row3 {P : Program} {fn : Func} {p u v : Tmp} {ty : TypeId} (h : fn.results = #[.cell p ty, .tmp u, .tmp v]) (tmps : Array Value) (w : World) (g : Nat) (t : TypeId) (cs : Array Value) (fr : Nat × Nat) (d : TypeDesc)
    (hp : tmps.getD p undef = .pointer (some ⟨g, 0, none⟩)) (hg : w.heap[g]? = some (.cells cs t fr))
    (hu : P.underlying ty = some d) (hd : (match d with | .struct _ | .array _ _ => true | _ => false) = true) (hi : (P.info? ty).map (·.size) = some cs.size) :
    (results fn tmps).run P w = .ok (.tuple #[.agg cs, tmps.getD u undef, tmps.getD v undef]) w := by
  have hp' : tmps[p]?.getD undef = .pointer (some ⟨g, 0, none⟩) := by simpa using hp
  simp [results, h, hp', asAddr, run_loadVar_row w g t ty cs fr d hg hu hd hi]
theorem results_row2 {P : Program} {fn : Func} {p u : Tmp} {ty : TypeId} (h : fn.results = #[.cell p ty, .tmp u]) (tmps : Array Value) (w : World) (g : Nat) (t : TypeId) (cs : Array Value) (fr : Nat × Nat) (d : TypeDesc)
    (hp : tmps.getD p undef = .pointer (some ⟨g, 0, none⟩)) (hg : w.heap[g]? = some (.cells cs t fr))
    (hu : P.underlying ty = some d) (hd : (match d with | .struct _ | .array _ _ => true | _ => false) = true) (hi : (P.info? ty).map (·.size) = some cs.size) :
    (results fn tmps).run P w = .ok (.tuple #[.agg cs, tmps.getD u undef]) w := by
  have hp' : tmps[p]?.getD undef = .pointer (some ⟨g, 0, none⟩) := by simpa using hp
  simp [results, h, hp', asAddr, run_loadVar_row w g t ty cs fr d hg hu hd hi]

/-- Get behind the look at n and warm. -/
def rowR (f : Nat → Bool) (len at_ : Nat) (er n warm : Int) : Int × List Int × List Int × Nat × Int :=
  if (gGet f len at_ er 4).2.2 = 0 then
    (if planB ((gGet f len at_ er 4).1 : Nat) n warm = true then
      (if (rParts f len (sizesN ((gGet f len at_ er 4).1 : Nat) n warm) (gGet f len at_ er 4).2.1).2.2.2 = 0 then
        (((gGet f len at_ er 4).1 : Nat), (rParts f len (sizesN ((gGet f len at_ er 4).1 : Nat) n warm) (gGet f len at_ er 4).2.1).1, (rParts f len (sizesN ((gGet f len at_ er 4).1 : Nat) n warm) (gGet f len at_ er 4).2.1).2.1, (rParts f len (sizesN ((gGet f len at_ er 4).1 : Nat) n warm) (gGet f len at_ er 4).2.1).2.2.1, 0)
       else (0, [], [], 0, (rParts f len (sizesN ((gGet f len at_ er 4).1 : Nat) n warm) (gGet f len at_ er 4).2.1).2.2.2))
     else (0, [], [], 0, 2))
  else (0, [], [], 0, (gGet f len at_ er 4).2.2)
theorem getP_row {f : Nat → Bool} {len at_ : Nat} {er n warm : Int} (h : rowB n warm = true) : getP f len at_ er n warm = rowR f len at_ er n warm := by
  unfold getP rowR
  rw [if_pos h]
  by_cases he : er = 0
  · subst he; rw [if_pos rfl]
  · rw [if_neg he, gGet_err he]; simp only [if_neg he]
theorem getP_norow {f : Nat → Bool} {len at_ : Nat} {er n warm : Int} (h : ¬ rowB n warm = true) : getP f len at_ er n warm = (0, [], [], 0, 1) := by
  unfold getP; rw [if_neg h]
def GPost (r : Int × List Int × List Int × Nat × Int) (g : Nat) (l : List Nat) (w : World) (e : Ending) (w' : World) : Prop :=
  ∃ (o : Int) (kA : Option Addr) (kn kc : Nat) (vl : Value) (a2 : Nat) (e2 : Int), e = .returned (.tuple #[.agg #[.int .i64 o, .slice kA kn kc], vl, .int .i64 r.2.2.2.2]) ∧ Own w' w.heap.size 3 vl (ci r.2.2.1) ∧ RdB w' g l a2 e2 ∧ w.grownBy w' (some g) ∧
    (r.2.2.2.2 = 0 → o = r.1 ∧ Own w' w.heap.size 3 (.slice kA kn kc) (ci r.2.1) ∧ a2 = r.2.2.2.1 ∧ e2 = 0)
theorem getRow_any {w : World} {g at_ : Nat} {l : List Nat} {er : Int} (hR : RdB w g l at_ er) (n warm : Int) (hrow : rowB n warm = true) :
    Calls Try.prog 59 #[.pointer (some ⟨g, 0, none⟩), .int .i64 n, .int .i64 warm] w (GPost (rowR (bitAt l) (8 * l.length) at_ er n warm) g l w) := by
  unfold rowR
  have h4 := fun (w1 : World) (h : RdB w1 g l at_ er) => bget_any h 4
  have hlt : (gGet (bitAt l) (8 * l.length) at_ er ((4 : Nat) : Int)).1 < 2 ^ 4 := gGet_lt
  rw [show ((4 : Nat) : Int) = 4 from rfl] at hlt
  generalize gGet (bitAt l) (8 * l.length) at_ er 4 = r at *
  obtain ⟨x, a1, e1⟩ := r
  simp only at hlt h4 ⊢
  have hx64 : IntKind.i64.wrap ((x : Nat) : Int) = (x : Nat) := IntWalk.i64_in _ (by omega)
  obtain ⟨r1, r2, r3, r4⟩ := rowB_iff.1 hrow
  have hb0 := below_box w (.int .i64 0) (.slice none 0 0) 24
  have hglt := hR.lt
  by_cases he : e1 = 0
  · subst he
    rw [if_pos rfl]
    have hsz := fun w => sizes_any (x : Int) n warm w (by omega) (by omega)
    by_cases hp : planB (x : Int) n warm = true
    · rw [if_pos hp]
      have h256 := two_256 hp
      have hsn := sizesN_len hp
      have hsum := sizesN_sum hp
      rw [show SizesP (x : Int) n warm = fun w e w' => ∃ v', e = .returned v' ∧ Own w' w.heap.size 3 v' (ci (ints (sizesN (x : Int) n warm))) ∧ Below w.heap.size w w' from rfl] at hsz
      generalize sizesN (x : Int) n warm = ss at *
      generalize 2 ^ (x : Int).toNat = m at *
      have hgp := fun (w1 : World) (a2 s : Nat) (h : RdB w1 g l a2 0) (hs : s ≤ 4194304) => getPart_any h s hs
      have hrk := rParts_k (bitAt l) (8 * l.length)
      have hgl := (glue2_nil _ (rParts_no (f := bitAt l) (len := 8 * l.length) ss a1)).symm
      obtain ⟨f, hf⟩ : ∃ f, bitAt l = f := ⟨_, rfl⟩
      obtain ⟨len, hlen⟩ : ∃ len, 8 * l.length = len := ⟨_, rfl⟩
      rw [hf, hlen] at hgp hrk hgl ⊢
      obtain ⟨T, hT⟩ : ∃ T, rParts f len ss a1 = T := ⟨_, rfl⟩
      have hgl' : T = glue2 [] [] (rParts f len (ss.drop 0) a1) := by rw [← hT]; exact hgl
      rw [hT]
      obtain ⟨R, hRR⟩ : ∃ R : Int × List Int × List Int × Nat × Int, (if T.2.2.2 = 0 then ((x : Int), T.1, T.2.1, T.2.2.1, 0) else (0, [], [], 0, T.2.2.2)) = R := ⟨_, rfl⟩
      rw [hRR]
      obtain ⟨N, hN⟩ : ∃ N : Nat, n - warm = (N : Nat) := ⟨(n - warm).toNat, by omega⟩
      have hN2 : N ≤ 4096 := by omega
      have H4 := Lib.hid h4; have HSZ := Lib.hid hsz; have HGP := Lib.hid hgp; have HRK := Lib.hid hrk; have HGL := Lib.hid hgl'; have HRR := Lib.hid hRR; have HSN := Lib.hid hsn; have HSUM := Lib.hid (show ss.sum ≤ 4096 by omega); have HR := Lib.hid hR
      clear h4 hsz hgp hrk hgl hgl' hT hRR hsn hsum hp hf hlen hrow hR
      go_enter Try.func59, Try.ntmps59
      go_wp2_with fail
      refine (H4.out _ (HR.out.below hb0)).mono ?_
      rintro e w1 ⟨rfl, hR1, hg1⟩
      have hres1 := (hg1.block w.heap.size (by simp) (by simp; omega)).trans (box_new w (.int .i64 0) (.slice none 0 0) 24)
      have hg01 := grown_trans (grown_of_below hb0 (some g)) hg1
      go_wp2_with fail
      refine (berr_any (hR1.below ((Below.refl w1.heap.size w1).alloc (Nat.le_refl _) (.cells #[.int .i64 (x : Int), .slice none 0 0] 24)))).mono ?_
      rintro e w2 ⟨rfl, rfl⟩
      have hbA := below_box w1 (.int .i64 (x : Int)) (.slice none 0 0) 24
      have hboxA := box_new w1 (.int .i64 (x : Int)) (.slice none 0 0) 24
      obtain ⟨d0, d1, _⟩ := blk2 hboxA
      have hR2 := hR1.below hbA
      have hg02 := grown_trans hg01 (grown_of_below hbA (some g))
      have hres2 := (hbA.block w.heap.size (Array.getElem?_eq_some_iff.1 hres1).1).trans hres1
      have hlt1 := (Array.getElem?_eq_some_iff.1 hres1).1
      obtain ⟨wA, hwA⟩ : ∃ wA, w1.alloc (.cells #[.int .i64 (x : Int), .slice none 0 0] 24) = wA := ⟨_, rfl⟩
      rw [hwA] at hbA hboxA d0 d1 hR2 hg02 hres2 ⊢
      clear hwA
      have hs1 := hg01.size
      go_wp2_with fail
      refine (HSZ.out _).mono ?_
      rintro e w2 ⟨v2, rfl, hso, hb2⟩
      obtain ⟨A3, c3, rfl, _, _⟩ := hso.formI
      rw [ints_len, HSN.out] at hso ⊢
      have hm0 : ((m : Int) == 0) = false := by simp only [beq_eq_false_iff_ne, ne_eq]; omega
      have hbox2 := (hb2.block w1.heap.size (Array.getElem?_eq_some_iff.1 hboxA).1).trans hboxA
      have hres3 := (hb2.block w.heap.size (Array.getElem?_eq_some_iff.1 hres2).1).trans hres2
      have hR3 := hR2.below hb2
      have hg03 := grown_trans hg02 (grown_of_below hb2 (some g))
      have hso2 := hso.mono hg02.size
      clear d0 d1
      go_wp2_with (at_make; refine wpl_make0 Try.underlying22 info_int (by decide) (by omega) rfl rfl rfl rfl rfl (n := N) (h := ?_); intro w3 ho3 hb3; refine cut_here ?_)
      unfold CutHere
      have hbox3 := (hb3.block w1.heap.size (Array.getElem?_eq_some_iff.1 hbox2).1).trans hbox2
      have hres4 := (hb3.block w.heap.size (Array.getElem?_eq_some_iff.1 hres3).1).trans hres3
      have hRow : Rowing w w3 g w1.heap.size w.heap.size l a1 (x : Int) (.slice none 0 0) (.slice (some ⟨w2.heap.size, 0, none⟩) 0 N) (.slice A3 m c3) [] [] (ints ss) :=
        ⟨hR3.below hb3, Own.nil _ _ _, by simpa [ci] using Own.mono ho3 hg03.size, hso2.kept hb3, apart_nil _, apart_nil _, fun k hk hk2 => by
          have h1 := (hso2.lt k hk2).2
          have h2 : k = w2.heap.size := by simpa [Value.ownBlock] using hk.symm
          omega, hbox3, hres4, grown_trans hg03 (grown_of_below hb3 (some g)), by omega, hs1, Nat.le_refl _, hglt⟩
      clear hbox3 hres4 hbox2 hres3 hR3 hg03 hso2 hso hb2 hb3 ho3 hboxA hres2 hR2 hg02 hbA hR1 hg1 hres1 hg01 hb0 hlt1
      go_wp2
      go_loopw [12, 43] (fun lv ii wr => ∃ (j a2 : Nat) (kv : Value) (ks0 l0 : List Int), j ≤ m ∧ ii = .int .i64 j ∧ l0.length ≤ (ss.take j).sum ∧ Rowing w wr g w1.heap.size w.heap.size l a2 (x : Int) kv lv (.slice A3 m c3) ks0 l0 (ints ss) ∧ ks0.length = j ∧ Hid (T = glue2 ks0 l0 (rParts f len (ss.drop j) a2))) (fun _ ii _ => m - (intOf ii).toNat)
      case atStart => exact ⟨0, a1, _, [], [], by omega, rfl, by simp, hRow, rfl, HGL.out⟩
      case round =>
        clear hRow
        obtain ⟨j, a2, kv, ks0, l0, hj, rfl, hll, hrw, hkl, hglue⟩ := hrel
        obtain ⟨kA, kn, kc, rfl⟩ := hrw.kown.shape
        by_cases hjm : j < m
        · have hjs : j < ss.length := by rw [HSN.out]; exact hjm
          obtain ⟨b1, o1, rfl, hbB1, hcell1⟩ := hrw.sown.sli.atI (l := ints ss) (by rw [ints_len]; exact hjs)
          rw [ints_at hjs] at hcell1
          have hdr : ss.drop j = ss[j] :: ss.drop (j + 1) := List.drop_eq_getElem_cons hjs
          rw [hdr, HRK.out] at hglue
          have hst := sum_take ss j hjs
          have hsle := sum_take_le ss (j + 1)
          have hs46 : ss[j] ≤ 4096 := by have := HSUM.out; omega
          have hgp := HGP.out wr a2 ss[j] hrw.rd (by omega)
          have hkpl := kPart_len (f := f) (len := len) (at_ := a2) (s := ss[j])
          generalize kPart f len a2 ss[j] = KP at *
          obtain ⟨k, part, a3, e3⟩ := KP
          simp only at hglue hkpl
          have hl46 : l0.length ≤ 4096 := by have := sum_take_le ss j; have := HSUM.out; omega
          have hll2 : (l0 ++ part).length ≤ (ss.take (j + 1)).sum := by rw [List.length_append, hst]; omega
          obtain ⟨d0, d1, hf⟩ := blk2 hrw.box
          have HGP1 := Lib.hid hgp
          have HLL := Lib.hid hll2
          have hltb := (Array.getElem?_eq_some_iff.1 hrw.box).1
          generalize ss[j] = s at *
          clear hgp hdr hst hsle hll2 hjs d0 d1 hf
          go_wp2_with fail
          refine HGP1.out.mono ?_
          rintro e w3 ⟨v3, a4, e4, rfl, hpo, hR3, hg3, hok⟩
          simp only at hpo hok ⊢
          by_cases he3 : e3 = 0
          · subst he3
            rw [if_pos rfl, glue2_glue2] at hglue
            obtain ⟨rfl, rfl⟩ := hok rfl
            have hrw3 := hrw.read hR3 hg3
            obtain ⟨A5, c5, rfl, _, _⟩ := hpo.formI
            have hapk : Apart (.slice kA kn kc) (.slice A5 part.length c5) := fun q hq hq2 => by
              have h1 := (hrw.kown.lt q hq).2
              have h2 := (hpo.lt q hq2).1
              omega
            obtain ⟨d0, d1, hf⟩ := blk2 hrw3.box
            have hcl : (ci ks0).length + 1 ≤ 8796093022208 := by rw [ci_len]; omega
            have hsz3 : w.heap.size ≤ w3.heap.size := hrw3.gr.size
            go_wp2_with (at_builtin; refine wpl_push hrw3.kown hsz3 hcl Try.underlying22 info_int rfl (by decide) rfl rfl rfl rfl rfl (h := ?_); intro v5 w5 ho5 hm5; refine cut_here ?_)
            unfold CutHere
            obtain ⟨A7, n7, c7, rfl⟩ := ho5.shape
            obtain ⟨d0', d1', hf'⟩ := blk2 (hrw3.boxK hm5)
            have hrw5 := hrw3.pushK ho5 hm5
            have hpo5 := hrw3.restK hm5 hpo hapk
            have hsz5 : w.heap.size ≤ (w5.setCell ⟨w1.heap.size, 1, none⟩ (.slice A7 n7 c7)).heap.size := hrw5.gr.size
            have hcl2 : (ci l0).length + (ci part).length ≤ 8796093022208 := by rw [ci_len, ci_len]; omega
            clear d0 d1 hf hok
            go_wp2_with (at_builtin; refine wpl_pushN hrw5.lown hpo5.sli hsz5 hcl2 Try.underlying22 info_int rfl (by decide) (ci_one _) rfl rfl rfl rfl (h := ?_); intro v6 w6 ho6 hm6; refine cut_here ?_)
            unfold CutHere
            have hrw6 := hrw5.pushL ho6 hm6
            go_wp2
            exact ⟨⟨j + 1, a4, _, ks0 ++ [k], l0 ++ part, by omega, by simp, HLL.out, hrw6, by simp [hkl], hglue⟩, by simp [intOf]; omega⟩
          · rw [if_neg he3] at hglue
            have hT : T = ([], [], 0, e3) := by rw [hglue.out]; unfold glue2; rw [if_neg he3]
            have hRR := HRR.out
            rw [hT] at hRR
            simp only [if_neg he3] at hRR
            subst hRR
            have hlt3 : w1.heap.size < w3.heap.size := Nat.lt_of_lt_of_le hltb hg3.size
            have hbox3 := (hg3.block w1.heap.size hltb (by simp; omega)).trans hrw.box
            have hres3 := (hg3.block w.heap.size (Array.getElem?_eq_some_iff.1 hrw.res).1 (by simp; omega)).trans hrw.res
            obtain ⟨d0, d1, hf⟩ := blk2 hbox3
            obtain ⟨c0, c1, hf1⟩ := blk2 hres3
            have hne : (e3 != 0) = true := by simpa using he3
            go_wp2
            try simp only [Exit.inBlock, Exit.then]
            refine bodyPost_ret (results_row3 rfl _ _ w.heap.size 24 #[.int .i64 (x : Int), .slice kA kn kc] (0, 0) _ rfl (two_blk hres3) Try.underlying24 rfl (by kernel_rfl)) rfl ?_
            have hg4 := two_grown w3 w.heap.size (.int .i64 (x : Int)) (.slice kA kn kc)
            exact ⟨_, kA, kn, kc, _, a4, e4, rfl, Own.nil _ _ _, hR3.only hres3 (by decide) hg4 (by omega), grown_fresh (grown_trans hrw.gr hg3) hg4 (Nat.le_refl _), fun h => absurd h he3⟩
        · have hjm2 : j = m := by omega
          have hdr : ss.drop j = [] := List.drop_eq_nil_of_le (by rw [HSN.out]; omega)
          rw [hdr] at hglue
          have hT : T = (ks0, l0, a2, 0) := by rw [hglue.out]; simp [rParts, glue2]
          have hRR := HRR.out
          rw [hT] at hRR
          simp only [if_true] at hRR
          subst hRR
          obtain ⟨d0, d1, hf⟩ := blk2 hrw.box
          obtain ⟨c0, c1, hf1⟩ := blk2 hrw.res
          go_wp2
          try simp only [Exit.inBlock, Exit.then]
          refine bodyPost_ret (results_row3 rfl _ _ w.heap.size 24 #[.int .i64 (x : Int), .slice kA kn kc] (0, 0) _ rfl (two_blk hrw.res) Try.underlying24 rfl (by kernel_rfl)) rfl ?_
          have hg4 := two_grown wr w.heap.size (.int .i64 (x : Int)) (.slice kA kn kc)
          exact ⟨_, kA, kn, kc, _, a2, 0, rfl, hrw.lown.far hrw.res (by decide) hg4, hrw.rd.only hrw.res (by decide) hg4 (by omega), grown_fresh hrw.gr hg4 (Nat.le_refl _), fun _ => ⟨rfl, hrw.kown.far hrw.res (by decide) hg4, rfl, rfl⟩⟩
    · rw [if_neg hp]
      have hno := sizesI_no (o := (x : Int)) (n := n) (warm := warm) hp
      have H4 := Lib.hid h4; have HSZ := Lib.hid hsz; have HNO := Lib.hid hno; have HR := Lib.hid hR
      clear h4 hsz hno hp hrow hR
      go_enter Try.func59, Try.ntmps59
      go_wp2_with fail
      refine (H4.out _ (HR.out.below hb0)).mono ?_
      rintro e w1 ⟨rfl, hR1, hg1⟩
      have hres1 := (hg1.block w.heap.size (by simp) (by simp; omega)).trans (box_new w (.int .i64 0) (.slice none 0 0) 24)
      have hg01 := grown_trans (grown_of_below hb0 (some g)) hg1
      go_wp2_with fail
      refine (berr_any (hR1.below ((Below.refl w1.heap.size w1).alloc (Nat.le_refl _) (.cells #[.int .i64 (x : Int), .slice none 0 0] 24)))).mono ?_
      rintro e w2 ⟨rfl, rfl⟩
      have hbA := below_box w1 (.int .i64 (x : Int)) (.slice none 0 0) 24
      have hboxA := box_new w1 (.int .i64 (x : Int)) (.slice none 0 0) 24
      obtain ⟨d0, d1, _⟩ := blk2 hboxA
      have hR2 := hR1.below hbA
      have hg02 := grown_trans hg01 (grown_of_below hbA (some g))
      have hres2 := (hbA.block w.heap.size (Array.getElem?_eq_some_iff.1 hres1).1).trans hres1
      obtain ⟨wA, hwA⟩ : ∃ wA, w1.alloc (.cells #[.int .i64 (x : Int), .slice none 0 0] 24) = wA := ⟨_, rfl⟩
      rw [hwA] at hbA hboxA d0 d1 hR2 hg02 hres2 ⊢
      clear hwA
      go_wp2_with fail
      refine (HSZ.out _).mono ?_
      rintro e w2 ⟨v2, rfl, hso, hb2⟩
      rw [HNO.out] at hso
      obtain ⟨A3, c3, rfl, _, _⟩ := hso.formI
      have hbox2 := (hb2.block w1.heap.size (Array.getElem?_eq_some_iff.1 hboxA).1).trans hboxA
      have hres3 := (hb2.block w.heap.size (Array.getElem?_eq_some_iff.1 hres2).1).trans hres2
      have hR3 := hR2.below hb2
      have hg03 := grown_trans hg02 (grown_of_below hb2 (some g))
      clear d0 d1
      obtain ⟨d0, d1, hf⟩ := blk2 hbox2
      obtain ⟨c0, c1, hf1⟩ := blk2 hres3
      go_wp2
      try simp only [Exit.inBlock, Exit.then]
      refine bodyPost_ret (results_row3 rfl _ _ w.heap.size 24 #[.int .i64 (x : Int), .slice none 0 0] (0, 0) _ rfl (two_blk hres3) Try.underlying24 rfl (by kernel_rfl)) rfl ?_
      have hg4 := two_grown w2 w.heap.size (.int .i64 (x : Int)) (.slice none 0 0)
      exact ⟨_, none, 0, 0, _, a1, 0, rfl, Own.nil _ _ _, hR3.only hres3 (by decide) hg4 (by omega), grown_fresh hg03 hg4 (Nat.le_refl _), fun h => by simp at h⟩
  · rw [if_neg he]
    have hne : (e1 != 0) = true := by simpa using he
    have H4 := Lib.hid h4; have HR := Lib.hid hR
    clear h4 hrow hR
    go_enter Try.func59, Try.ntmps59
    go_wp2_with fail
    refine (H4.out _ (HR.out.below hb0)).mono ?_
    rintro e w1 ⟨rfl, hR1, hg1⟩
    have hres1 := (hg1.block w.heap.size (by simp) (by simp; omega)).trans (box_new w (.int .i64 0) (.slice none 0 0) 24)
    have hg01 := grown_trans (grown_of_below hb0 (some g)) hg1
    go_wp2_with fail
    refine (berr_any (hR1.below ((Below.refl w1.heap.size w1).alloc (Nat.le_refl _) (.cells #[.int .i64 (x : Int), .slice none 0 0] 24)))).mono ?_
    rintro e w2 ⟨rfl, rfl⟩
    have hbA := below_box w1 (.int .i64 (x : Int)) (.slice none 0 0) 24
    have hboxA := box_new w1 (.int .i64 (x : Int)) (.slice none 0 0) 24
    have hR2 := hR1.below hbA
    have hg02 := grown_trans hg01 (grown_of_below hbA (some g))
    have hres2 := (hbA.block w.heap.size (Array.getElem?_eq_some_iff.1 hres1).1).trans hres1
    obtain ⟨d0, d1, hf⟩ := blk2 hboxA
    obtain ⟨c0, c1, hf1⟩ := blk2 hres2
    obtain ⟨wA, hwA⟩ : ∃ wA, w1.alloc (.cells #[.int .i64 (x : Int), .slice none 0 0] 24) = wA := ⟨_, rfl⟩
    rw [hwA] at hbA hboxA d0 d1 hf c0 c1 hf1 hR2 hg02 hres2 ⊢
    clear hwA
    go_wp2
    try simp only [Exit.inBlock, Exit.then]
    refine bodyPost_ret (results_row3 rfl _ _ w.heap.size 24 #[.int .i64 (x : Int), .slice none 0 0] (0, 0) _ rfl (two_blk hres2) Try.underlying24 rfl (by kernel_rfl)) rfl ?_
    have hg4 := two_grown wA w.heap.size (.int .i64 (x : Int)) (.slice none 0 0)
    exact ⟨_, none, 0, 0, _, a1, e1, rfl, Own.nil _ _ _, hR2.only hres2 (by decide) hg4 (by omega), grown_fresh hg02 hg4 (Nat.le_refl _), fun h => absurd h he⟩
end Go.Proofs.Ytohbpjehphmedaa
