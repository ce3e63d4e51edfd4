/- block: rows of rows in memory; arguments that are blocks, formats, spans. -/
import Derived.Test.YtggddckckfilgaaInt
import Derived.Test.YtggddckckfilgaaFoot
import Derived.Test.YtggddckckfilgaaLawKit
import Derived.Deep.Strs
import Derived.Maps.AppendAt
namespace Go.Proofs.Ytggddckckfilgaa
open Go.ChangeShapes Go.WideShapes Go.ChangeAt Go.RowKit
set_option maxRecDepth 100000
set_option maxHeartbeats 800000

theorem two_in {w : World} {g : Nat} {a b : Value} {t : TypeId} (h : w.heap[g]? = some (.cells #[a, b] t (0, 0))) :
    w.cell? ⟨g, 0, none⟩ = some a ∧ w.cell? ⟨g, 1, none⟩ = some b ∧ ∀ i, w.frozen? ⟨g, i, none⟩ = false :=
  ⟨by rw [cell_of_row w g 0 _ t (0, 0) h]; rfl, by rw [cell_of_row w g 1 _ t (0, 0) h]; rfl, fun i => frozen_of_row w g i _ t h⟩
theorem three_in {w : World} {g : Nat} {a b c : Value} {t : TypeId} (h : w.heap[g]? = some (.cells #[a, b, c] t (0, 0))) :
    w.cell? ⟨g, 0, none⟩ = some a ∧ w.cell? ⟨g, 1, none⟩ = some b ∧ w.cell? ⟨g, 2, none⟩ = some c ∧ ∀ i, w.frozen? ⟨g, i, none⟩ = false :=
  ⟨by rw [cell_of_row w g 0 _ t (0, 0) h]; rfl, by rw [cell_of_row w g 1 _ t (0, 0) h]; rfl, by rw [cell_of_row w g 2 _ t (0, 0) h]; rfl, fun i => frozen_of_row w g i _ t h⟩
/-- A block that was made just now, and stays. -/
theorem boxed (w : World) (cs : Array Value) (t : TypeId) : (w.alloc (.cells cs t)).heap[w.heap.size]? = some (.cells cs t (0, 0)) := heap_alloc_new w _
theorem boxed_on {w w2 : World} {cs : Array Value} {t : TypeId} (h : Below (w.alloc (.cells cs t)).heap.size (w.alloc (.cells cs t)) w2) : w2.heap[w.heap.size]? = some (.cells cs t (0, 0)) :=
  (h.block w.heap.size (by simp)).trans (boxed w cs t)
theorem below_new (w : World) (cs : Array Value) (t : TypeId) : Below w.heap.size w (w.alloc (.cells cs t)) := (Below.refl _ _).alloc (Nat.le_refl _) _
/-- A slice of slices of ints that is read. -/
def Rws (w : World) (B : Nat) (v : Value) (rs : List (List Int)) : Prop := ∃ vs, Sli w B v vs ∧ vs.length = rs.length ∧ ∀ (j : Nat) (x : Value) (l : List Int), vs[j]? = some x → rs[j]? = some l → Sli w B x (ci l)
theorem Rws.nil (w : World) (B : Nat) : Rws w B (.slice none 0 0) [] := ⟨[], Sli.nil _ _, rfl, fun j x l h => by simp at h⟩
theorem Rws.keep {w w' : World} {B : Nat} {v : Value} {rs : List (List Int)} (h : Rws w B v rs) (hk : ∀ p : Addr, p.block < B → w'.cell? p = w.cell? p) : Rws w' B v rs := by
  obtain ⟨vs, h1, h2, h3⟩ := h
  exact ⟨vs, h1.keep hk, h2, fun j x l hx hl => (h3 j x l hx hl).keep hk⟩
theorem Rws.below {w w' : World} {B : Nat} {v : Value} {rs : List (List Int)} (h : Rws w B v rs) (hb : Below B w w') : Rws w' B v rs := h.keep fun _ hp => hb.cell hp
theorem Rws.more {w : World} {B B' : Nat} {v : Value} {rs : List (List Int)} (h : Rws w B v rs) (hB : B ≤ B') : Rws w B' v rs := by
  obtain ⟨vs, h1, h2, h3⟩ := h
  exact ⟨vs, h1.more hB, h2, fun j x l hx hl => (h3 j x l hx hl).more hB⟩
theorem Rws.drewN {w : World} {B : Nat} {v : Value} {rs : List (List Int)} (h : Rws w B v rs) (q : Nat) : Rws (w.drewN q) B v rs := h.keep fun _ _ => rfl
theorem Rws.form {w : World} {B : Nat} {v : Value} {rs : List (List Int)} (h : Rws w B v rs) : ∃ A c, v = .slice A rs.length c ∧ rs.length ≤ c ∧ c ≤ maxLen := by
  obtain ⟨vs, ⟨A, c, rfl, _, h1, h2, _⟩, hl, _⟩ := h
  rw [hl] at h1 ⊢
  exact ⟨A, c, rfl, h1, h2⟩
/-- Inside a round: the cell and the row it holds. -/
theorem Rws.get {w : World} {B n c : Nat} {A : Option Addr} {rs : List (List Int)} (h : Rws w B (.slice A n c) rs) {j : Nat} (hj : j < rs.length) :
    ∃ b o A' c', A = some ⟨b, o, none⟩ ∧ b < B ∧ w.cell? ⟨b, o + j, none⟩ = some (.slice A' rs[j].length c') ∧ Sli w B (.slice A' rs[j].length c') (ci rs[j]) ∧ rs[j].length ≤ c' ∧ c' ≤ maxLen := by
  obtain ⟨vs, ⟨A', c', e, hh, h1, h2, _⟩, hlen, h3⟩ := h
  injection e with e1 e2 e3
  subst e1; subst e2
  have hj' : j < vs.length := by rw [hlen]; exact hj
  obtain ⟨b, o, u, hA, hb, hc, hu⟩ := hh.get hj'
  have hs := h3 j u _ hu (List.getElem?_eq_getElem hj)
  obtain ⟨A2, c2, rfl, g1, g2⟩ := hs.formI
  exact ⟨b, o, A2, c2, hA, hb, hc, hs, g1, g2⟩
theorem Rws.head {w : World} {B n c : Nat} {A : Option Addr} {rs : List (List Int)} (h : Rws w B (.slice A n c) rs) {k : Nat} (hk : k ≤ n) : Rws w B (.slice A k c) (rs.take k) := by
  obtain ⟨vs, h1, h2, h3⟩ := h
  refine ⟨vs.take k, h1.head hk, by simp [h2], fun j x l hx hl => ?_⟩
  have hjk : j < k := by
    have := (List.getElem?_eq_some_iff.1 hx).1
    simp at this; omega
  rw [List.getElem?_take, if_pos hjk] at hx hl
  exact h3 j x l hx hl

/-- Rows of one's own, each in a block of its own. -/
structure RwG (w : World) (base : Nat) (v : Value) (vs : List Value) (rs : List (List Int)) : Prop where
  top : Own w base 43 v vs
  len : vs.length = rs.length
  row : ∀ (j : Nat) (x : Value) (l : List Int), vs[j]? = some x → rs[j]? = some l → Own w base 3 x (ci l)
  ap : ∀ (i j : Nat) (x y : Value), i ≠ j → vs[i]? = some x → vs[j]? = some y → Apart x y
theorem RwG.nil (w : World) (base : Nat) : RwG w base (.slice none 0 0) [] [] := ⟨Own.nil _ _ _, rfl, fun j x l h => by simp at h, fun i j x y _ h => by simp at h⟩
theorem RwG.kept {w w' : World} {base : Nat} {v : Value} {vs : List Value} {rs : List (List Int)} (h : RwG w base v vs rs) (hb : Below w.heap.size w w') : RwG w' base v vs rs :=
  ⟨h.top.kept hb, h.len, fun j x l hx hl => (h.row j x l hx hl).kept hb, h.ap⟩
theorem RwG.drew {w : World} {base : Nat} {v : Value} {vs : List Value} {rs : List (List Int)} (h : RwG w base v vs rs) : RwG w.drew base v vs rs := ⟨h.top.drew, h.len, fun j x l hx hl => (h.row j x l hx hl).drew, h.ap⟩
theorem RwG.mono {w : World} {base base' : Nat} {v : Value} {vs : List Value} {rs : List (List Int)} (h : RwG w base v vs rs) (hb : base' ≤ base) : RwG w base' v vs rs :=
  ⟨h.top.mono hb, h.len, fun j x l hx hl => (h.row j x l hx hl).mono hb, h.ap⟩
theorem RwG.rws {w : World} {base : Nat} {v : Value} {vs : List Value} {rs : List (List Int)} (h : RwG w base v vs rs) : Rws w w.heap.size v rs :=
  ⟨vs, h.top.sli, h.len, fun j x l hx hl => (h.row j x l hx hl).sli⟩
theorem RwG.far {w w' : World} {base g : Nat} {v : Value} {vs : List Value} {rs : List (List Int)} {t : TypeId} {cs : Array Value} {fr : Nat × Nat} (h : RwG w base v vs rs) (hg : w.heap[g]? = some (.cells cs t fr)) (h1 : 43 ≠ t) (h2 : 3 ≠ t) (hb : w.grownBy w' (some g)) : RwG w' base v vs rs :=
  ⟨h.top.far hg h1 hb, h.len, fun j x l hx hl => (h.row j x l hx hl).far hg h2 hb, h.ap⟩
theorem RwG.made {w : World} {base : Nat} {v : Value} {n : Nat} (h : Own w base 43 v (List.replicate n (.slice none 0 0))) : RwG w base v (List.replicate n (.slice none 0 0)) (List.replicate n []) := by
  refine ⟨h, by simp, fun j x l hx hl => ?_, fun i j x y _ hx hy => ?_⟩
  · have e1 := List.eq_of_mem_replicate (List.mem_of_getElem? hx)
    have e2 := List.eq_of_mem_replicate (List.mem_of_getElem? hl)
    subst e1; subst e2
    exact Own.nil _ _ _
  · have e1 := List.eq_of_mem_replicate (List.mem_of_getElem? hx)
    subst e1
    intro k hk
    simp [Value.ownBlock] at hk
/-- 'v[i] = u', u a row that was made just now. -/
theorem RwG.put {w w' : World} {base g n c i : Nat} {vs : List Value} {rs : List (List Int)} {u : Value} {l : List Int} (h : RwG w base (.slice (some ⟨g, 0, none⟩) n c) vs rs) (hbase : base ≤ w.heap.size) (hb : Below w.heap.size w w') (hu : Own w' w.heap.size 3 u (ci l)) (hi : i < rs.length) :
    RwG (w'.setCell ⟨g, i, none⟩ u) base (.slice (some ⟨g, 0, none⟩) n c) (vs.set i u) (rs.set i l) := by
  have h' := h.kept hb
  obtain ⟨cs, hblk⟩ := h'.top.blk (k := g) rfl
  have hgr := grown_set w' g i u
  have apU : ∀ (j : Nat) (x : Value), vs[j]? = some x → Apart x u := by
    intro j x hx k hk hk'
    have hj : j < rs.length := by rw [← h.len]; exact (List.getElem?_eq_some_iff.1 hx).1
    have h1 := ((h.row j x rs[j] hx (List.getElem?_eq_getElem hj)).lt k hk).2
    have h2 := (hu.lt k hk').1
    omega
  refine ⟨h'.top.put i u, by simp [h.len], fun j x l' hx hl => ?_, fun a b x y hab hx hy => ?_⟩
  · by_cases hj : i = j
    · subst hj
      rw [List.getElem?_set_self (by rw [h.len]; exact hi)] at hx
      rw [List.getElem?_set_self hi] at hl
      injection hx with hx; injection hl with hl
      subst hx; subst hl
      exact (hu.far hblk (by decide) hgr).mono hbase
    · rw [List.getElem?_set_ne hj] at hx hl
      exact (h'.row j x l' hx hl).far hblk (by decide) hgr
  · by_cases ha : i = a
    · subst ha
      rw [List.getElem?_set_self (by rw [h.len]; exact hi)] at hx
      injection hx with hx
      subst hx
      rw [List.getElem?_set_ne hab] at hy
      exact (apU b y hy).symm
    · rw [List.getElem?_set_ne ha] at hx
      by_cases hb' : i = b
      · subst hb'
        rw [List.getElem?_set_self (by rw [h.len]; exact hi)] at hy
        injection hy with hy
        subst hy
        exact apU a x hx
      · rw [List.getElem?_set_ne hb'] at hy
        exact h.ap a b x y hab hx hy
/-- 'v[i] = append(v[i], ..)': the row x has moved to u, by itself. -/
theorem RwG.grow {w w' : World} {base g n c i : Nat} {vs : List Value} {rs : List (List Int)} {x u : Value} {l : List Int} (h : RwG w base (.slice (some ⟨g, 0, none⟩) n c) vs rs) (hx : vs[i]? = some x) (hm : ∀ g, Mov w w' g x u) (hu : Own w' base 3 u (ci l)) :
    RwG (w'.setCell ⟨g, i, none⟩ u) base (.slice (some ⟨g, 0, none⟩) n c) (vs.set i u) (rs.set i l) ∧ w'.heap[g]? = w.heap[g]? := by
  have hi : i < rs.length := by rw [← h.len]; exact (List.getElem?_eq_some_iff.1 hx).1
  obtain ⟨cs, hblk⟩ := h.top.blk (k := g) rfl
  have hgs := (Array.getElem?_eq_some_iff.1 hblk).1
  have hxo := h.row i x rs[i] hx (List.getElem?_eq_getElem hi)
  have hgx : x.ownBlock ≠ some g := hxo.ne hblk (by decide)
  have hsame : w'.heap[g]? = w.heap[g]? := (hm (g + 1)).block g hgs (by omega) hgx
  have hblk' := hsame.trans hblk
  have hgr := grown_set w' g i u
  have htop : Own w' base 43 (.slice (some ⟨g, 0, none⟩) n c) vs := by
    refine World.ownsRow.kept (row := x.ownBlock) h.top ⟨(hm g).os, (hm g).tape, (hm g).output, (hm g).size, fun k hk hn => ?_⟩ ?_
    · by_cases hkg : k = g
      · subst hkg; exact hsame
      · exact (hm g).block k hk hkg (fun e => hn e.symm)
    · right; simpa [Value.ownBlock] using hgx.symm
  have rowj : ∀ (j : Nat) (y : Value) (l' : List Int), i ≠ j → vs[j]? = some y → rs[j]? = some l' → Own w' base 3 y (ci l') := by
    intro j y l' hij hy hl
    have hyo := h.row j y l' hy hl
    exact hyo.moved (hm g) hblk (by decide) (h.ap i j x y hij hx hy)
  have apU : ∀ (j : Nat) (y : Value), i ≠ j → vs[j]? = some y → Apart y u := by
    intro j y hij hy k hk hk'
    have hj : j < rs.length := by rw [← h.len]; exact (List.getElem?_eq_some_iff.1 hy).1
    rcases (hm g).own k hk' with e | e
    · exact h.ap i j x y hij hx hy k e hk
    · have := ((h.row j y rs[j] hy (List.getElem?_eq_getElem hj)).lt k hk).2
      omega
  refine ⟨⟨htop.put i u, by simp [h.len], fun j y l' hy hl => ?_, fun a b y z hab hy hz => ?_⟩, hsame⟩
  · by_cases hj : i = j
    · subst hj
      rw [List.getElem?_set_self (by rw [h.len]; exact hi)] at hy
      rw [List.getElem?_set_self hi] at hl
      injection hy with hy; injection hl with hl
      subst hy; subst hl
      exact hu.far hblk' (by decide) hgr
    · rw [List.getElem?_set_ne hj] at hy hl
      exact (rowj j y l' hj hy hl).far hblk' (by decide) hgr
  · by_cases ha : i = a
    · subst ha
      rw [List.getElem?_set_self (by rw [h.len]; exact hi)] at hy
      injection hy with hy
      subst hy
      rw [List.getElem?_set_ne hab] at hz
      exact (apU b z hab hz).symm
    · rw [List.getElem?_set_ne ha] at hy
      by_cases hb' : i = b
      · subst hb'
        rw [List.getElem?_set_self (by rw [h.len]; exact hi)] at hz
        injection hz with hz
        subst hz
        exact apU a y ha hy
      · rw [List.getElem?_set_ne hb'] at hz
        exact h.ap a b y z hab hy hz

theorem info_sIntB : (Try.prog.info? 43).map (fun i => (i.zero, i.size, i.bytes)) = some (some (.slice none 0 0), 1, 24) := by kernel_rfl
/-- 'make([]T, n)' where a T is longer. -/
theorem wpl_makeS {P : Program} {w : World} {e t : TypeId} {z : Value} {bytes n : Nat} (ht : P.underlying t = some (.slice e)) (hinf : (P.info? e).map (fun i => (i.zero, i.size, i.bytes)) = some (some z, 1, bytes)) (hz : z.cells = #[z]) (hb16 : bytes ≤ 64) (hroom : n ≤ 1099511627776)
    {ops : Array Oper} {rest : List Oper} {o : Oper} {a : Act} {Q : Exit → Act → World → Prop} {l c : Operand} {kl kc : IntKind} (hgd : o.guard = none)
    (ho : o.op = .makeSlice t l c) (hl : a.eval l = .int kl (n : Int)) (hc : a.eval c = .int kc (n : Int))
    (h : ∀ w', Own w' w.heap.size e (.slice (some ⟨w.heap.size, 0, none⟩) n n) (List.replicate n z) → Below w.heap.size w w' → wpList P ops Q rest (a.put o.dst (.slice (some ⟨w.heap.size, 0, none⟩) n n)) w') : wpList P ops Q (o :: rest) a w := by
  obtain ⟨i, hi, hz0, hz1, hz2⟩ := info_parts hinf
  have hle : bytes * n ≤ 281474976710656 := by
    have : bytes * n ≤ 64 * 1099511627776 := Nat.mul_le_mul hb16 hroom
    omega
  refine wpList_make_full w hgd l c t ho w.heap.size e i z 1 ht hi hz0 hz1 kl kc _ _ n hl hc rfl rfl (by rw [hz2]; exact hle) (by unfold maxLen; omega) (Nat.le_refl _) fun w' ho' hg' => ?_
  rw [hz, Nat.mul_one, toList_madeCells_one] at ho'
  exact h w' (by unfold Own; rw [List.length_replicate]; exact ho') ⟨hg'.os, hg'.tape, hg'.output, hg'.size, fun k hk => hg'.block k hk (by simp)⟩

section
variable {H : Type} {enc : TypeId × Value → H} {P : Program}
/-- The cells of a slice of slices of ints. -/
theorem rws_of_trod {W : World} {t e q : TypeId} {s : Value} {fuel : Nat} {x : DataW H × List MemPlace} (ht : P.underlying t = some (.slice e)) (he : P.underlying e = some (.slice q)) (hq : P.underlying q = some (.int .i64))
    (ce : P.cellsOf e = 1) (cq : P.cellsOf q = 1) (h : DataW.trod enc P W 0 (fun _ => true) true fuel t [s] = some x) (hlt : ∀ y ∈ x.2, y.block < W.heap.size) :
    ∃ rs : List (List Int), Rws W W.heap.size s rs ∧ ∀ l ∈ rs, i64s l := by
  rcases Go.Deep.open_int_rows ht he hq ce cq h with ⟨hcs, hx⟩ | ⟨a, len, cap, A, L, C, Z, hcs, _, hl, hm, hx, hrow⟩
  · simp at hcs
    subst hcs
    exact ⟨[], Rws.nil _ _, by simp⟩
  · simp at hcs
    subst hcs
    subst hx
    let vs : List Value := (List.range len).map fun r => .slice (A r) (L r) (C r)
    let ls : List (List Int) := (List.range len).map fun r => (Z r).take (L r)
    have hvs : ∀ j, j < len → vs[j]? = some (.slice (A j) (L j) (C j)) := fun j hj => by simp [vs, hj]
    refine ⟨ls, ⟨vs, ⟨some a, cap, by simp [vs], ⟨rfl, ?_⟩, by simp [vs]; exact hl, hm, by simp⟩, by simp [vs, ls], ?_⟩, ?_⟩
    · rw [show vs.length = len by simp [vs]]
      rcases Nat.eq_zero_or_pos len with h0 | h0
      · exact .inl h0
      · right
        obtain ⟨b, off, spot⟩ := a
        have hspot : spot = none := by simpa [Addr.add] using World.cell?_spot (hrow 0 (by omega)).1
        subst hspot
        have hbW : b < W.heap.size := hlt (.cell b off) (List.mem_append_left _ (MemPlace.mem_row.2 ⟨0, by omega, by simp⟩))
        refine ⟨b, off, rfl, hbW, fun j hj => ?_⟩
        rw [← Addr.add_lit, (hrow j (by omega)).1, hvs j hj]
    · intro j x l hx hl'
      have hj : j < len := by
        have := (List.getElem?_eq_some_iff.1 hx).1
        simpa [vs] using this
      rw [hvs j hj] at hx
      obtain rfl := Option.some.inj hx
      have hl2 : l = (Z j).take (L j) := by
        simp [ls, hj] at hl'; exact hl'.symm
      subst hl2
      obtain ⟨_, r1, r2, r3, r4, r5, r6⟩ := hrow j (by omega)
      have hlen : (ci ((Z j).take (L j))).length = L j := by simp [ci]; omega
      refine ⟨A j, C j, by rw [hlen], ⟨rfl, ?_⟩, by rw [hlen]; exact r1, r2, r5⟩
      rw [hlen]
      rcases Nat.eq_zero_or_pos (L j) with h0 | h0
      · exact .inl h0
      · right
        rcases hA : A j with _ | a'
        · have := r5 hA; omega
        · obtain ⟨_, hc⟩ := r6 a' hA
          obtain ⟨b, off, spot⟩ := a'
          have hspot : spot = none := by simpa [Addr.add] using World.cell?_spot (hc 0 (by omega))
          subst hspot
          have hbW : b < W.heap.size := hlt (.cell b off) (List.mem_append_right _ (List.mem_flatMap.2 ⟨j, by simp; omega, by rw [hA]; simp [Go.Deep.intRowPlaces]; exact MemPlace.mem_row.2 ⟨0, by omega, by simp⟩⟩))
          refine ⟨b, off, rfl, hbW, fun i hi => ?_⟩
          rw [← Addr.add_lit, hc i (by omega)]
          unfold ci
          rw [List.getElem?_map, List.getElem?_take, if_pos hi, List.getElem?_eq_getElem (by omega : i < (Z j).length)]
          simp [List.getD, List.getElem?_eq_getElem (by omega : i < (Z j).length)]
    · intro l hl' x hx
      simp only [ls, List.mem_map, List.mem_range] at hl'
      obtain ⟨r, hr, rfl⟩ := hl'
      exact wf_i64_rng ((hrow r (by omega)).2.2.2.2.1 x (List.mem_of_mem_take hx))
/-- An argument that is a block. -/
theorem open_block {W : World} {base : Nat} {t e q : TypeId} {f0 f1 : Field} {v : Value} {d : DataW H} {p : List MemPlace} (ht : P.underlying t = some (.struct #[f0, f1])) (h0 : P.underlying f0.type = some (.int .i64)) (h1 : P.underlying f1.type = some (.slice e))
    (he : P.underlying e = some (.slice q)) (hq : P.underlying q = some (.int .i64)) (ce : P.cellsOf e = 1) (cq : P.cellsOf q = 1) (hone : Go.Deep.oneCellFields P #[f0, f1] = true) (hC : P.cellsOf t = 2)
    (hv : Value.okWide P W .any base t v) (h : DataW.Trod enc P W 0 (fun _ => true) true t v d p) (hlt : ∀ x ∈ p, x.block < W.heap.size) :
    ∃ (o : Int) (s : Value) (rs : List (List Int)), v = .agg #[.int .i64 o, s] ∧ (Lit.int .i64 o).wf = true ∧ Rws W W.heap.size s rs ∧ ∀ l ∈ rs, i64s l := by
  obtain ⟨cs, rfl, hcs⟩ := okWide_struct ht hv
  rw [hC] at hcs
  obtain ⟨a, b, rfl⟩ : ∃ a b, cs = #[a, b] := by
    obtain ⟨l⟩ := cs
    match l, hcs with
    | [a, b], _ => exact ⟨a, b, rfl⟩
  obtain ⟨fuel, hf⟩ := h
  obtain ⟨y0, y1, n, hx, _, g0, g1⟩ := trod_struct2 ht hf
  obtain ⟨o0, s0⟩ := Go.Deep.hone_of hone 0 f0 rfl
  obtain ⟨o1, s1⟩ := Go.Deep.hone_of hone 1 f1 rfl
  rw [o0, s0] at g0
  rw [o1, s1] at g1
  simp [Value.cells] at g0 g1
  injection hx with hx1 hx2
  obtain ⟨z, hz, _, hw⟩ := DataW.trod_int h0 g0
  simp at hz
  subst hz
  obtain ⟨rs, hS, hr⟩ := rws_of_trod h1 he hq ce cq g1 fun y hy => hlt y (by rw [hx2]; exact List.mem_append_right _ hy)
  exact ⟨z, b, rs, rfl, hw, hS, hr⟩
/-- An argument that is a struct of two ints. -/
theorem open_span {W : World} {base : Nat} {t : TypeId} {f0 f1 : Field} {v : Value} {d : DataW H} {p : List MemPlace} (ht : P.underlying t = some (.struct #[f0, f1])) (h0 : P.underlying f0.type = some (.int .i64)) (h1 : P.underlying f1.type = some (.int .i64))
    (hone : Go.Deep.oneCellFields P #[f0, f1] = true) (hC : P.cellsOf t = 2)
    (hv : Value.okWide P W .any base t v) (h : DataW.Trod enc P W 0 (fun _ => true) true t v d p) :
    ∃ x y : Int, v = .agg #[.int .i64 x, .int .i64 y] ∧ (Lit.int .i64 x).wf = true ∧ (Lit.int .i64 y).wf = true := by
  obtain ⟨cs, rfl, hcs⟩ := okWide_struct ht hv
  rw [hC] at hcs
  obtain ⟨a, b, rfl⟩ : ∃ a b, cs = #[a, b] := by
    obtain ⟨l⟩ := cs
    match l, hcs with
    | [a, b], _ => exact ⟨a, b, rfl⟩
  obtain ⟨fuel, hf⟩ := h
  obtain ⟨y0, y1, n, hx, _, g0, g1⟩ := trod_struct2 ht hf
  obtain ⟨o0, s0⟩ := Go.Deep.hone_of hone 0 f0 rfl
  obtain ⟨o1, s1⟩ := Go.Deep.hone_of hone 1 f1 rfl
  rw [o0, s0] at g0
  rw [o1, s1] at g1
  simp [Value.cells] at g0 g1
  obtain ⟨z, hz, _, hw⟩ := DataW.trod_int h0 g0
  obtain ⟨z1, hz1, _, hw1⟩ := DataW.trod_int h1 g1
  simp at hz hz1
  subst hz; subst hz1
  exact ⟨z, z1, rfl, hw, hw1⟩
/-- An argument that is a struct of three ints. -/
theorem open_three {W : World} {base : Nat} {t : TypeId} {f0 f1 f2 : Field} {v : Value} {d : DataW H} {p : List MemPlace} (ht : P.underlying t = some (.struct #[f0, f1, f2])) (h0 : P.underlying f0.type = some (.int .i64)) (h1 : P.underlying f1.type = some (.int .i64)) (h2 : P.underlying f2.type = some (.int .i64))
    (hone : Go.Deep.oneCellFields P #[f0, f1, f2] = true) (hC : P.cellsOf t = 3)
    (hv : Value.okWide P W .any base t v) (h : DataW.Trod enc P W 0 (fun _ => true) true t v d p) :
    ∃ x y z : Int, v = .agg #[.int .i64 x, .int .i64 y, .int .i64 z] ∧ (Lit.int .i64 x).wf = true ∧ (Lit.int .i64 y).wf = true ∧ (Lit.int .i64 z).wf = true := by
  obtain ⟨cs, rfl, hcs⟩ := okWide_struct ht hv
  rw [hC] at hcs
  obtain ⟨a, b, c, rfl⟩ : ∃ a b c, cs = #[a, b, c] := by
    obtain ⟨l⟩ := cs
    match l, hcs with
    | [a, b, c], _ => exact ⟨a, b, c, rfl⟩
  obtain ⟨fuel, hf⟩ := h
  obtain ⟨y0, y1, y2, n, hx, _, g0, g1, g2⟩ := Go.Deep.trod_struct3 ht hf
  obtain ⟨o0, s0⟩ := Go.Deep.hone_of hone 0 f0 rfl
  obtain ⟨o1, s1⟩ := Go.Deep.hone_of hone 1 f1 rfl
  obtain ⟨o2, s2⟩ := Go.Deep.hone_of hone 2 f2 rfl
  rw [o0, s0] at g0
  rw [o1, s1] at g1
  rw [o2, s2] at g2
  simp [Value.cells] at g0 g1 g2
  obtain ⟨z, hz, _, hw⟩ := DataW.trod_int h0 g0
  obtain ⟨z1, hz1, _, hw1⟩ := DataW.trod_int h1 g1
  obtain ⟨z2, hz2, _, hw2⟩ := DataW.trod_int h2 g2
  simp at hz hz1 hz2
  subst hz; subst hz1; subst hz2
  exact ⟨z, z1, z2, rfl, hw, hw1, hw2⟩
end
end Go.Proofs.Ytggddckckfilgaa
