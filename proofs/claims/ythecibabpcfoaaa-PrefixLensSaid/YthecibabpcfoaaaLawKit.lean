/- What every law's row asks behind its walk: the arguments read as they did. -/
import Derived.ProofKit
import Derived.OpenShut
import Derived.Below
import Derived.WideKeyArgs
import Derived.Deep.Matrix
import Derived.Deep.Slices
import Derived.Deep.Fields
import Derived.Test.YthecibabpcfoaaaKit
import Derived.Test.YthecibabpcfoaaaByt
namespace Go.Proofs.Ythecibabpcfoaaa
open Go.ChangeShapes Go.WideShapes Go.ChangeAt Go.RowKit
section
variable {H : Type} {enc : TypeId × Value → H} {P : Program}

/-- All arguments read behind the call as they did, where nothing below the heap's old size has turned. -/
theorem all_stay (hl : laidOutB P = true) {W W' : World} (hb : Below W.heap.size W W') {sp : Nat → Bool} :
    ∀ (ts : List TypeId) (vs : List Value) (ds : List (DataW H)) (ps : List MemPlace), (∀ t ∈ ts, P.readableRec t = true ∧ t < P.types.size) → DataW.TrodAll enc P W 0 (fun _ => true) true ts vs ds ps →
      (∀ x ∈ ps, x.block < W.heap.size ∧ sp x.block = true) → DataW.TrodAll enc P W' 0 sp true ts vs ds ps
  | [], vs, ds, ps, _, h, _ => by
    obtain ⟨rfl, rfl, rfl⟩ := trodAll_nil h
    exact trodAll_mk0
  | t :: ts, vs, ds, ps, hr, h, hlt => by
    obtain ⟨v, vs', d, ds', p, q, rfl, rfl, rfl, h1, h2⟩ := trodAll_cons h
    obtain ⟨r1, r2⟩ := hr t (by simp)
    exact trodAll_cons_mk (WideElems.Trod_stays hl r1 r2 h1 (fun x hx => hb.same (hlt x (by simp [hx])).1) (fun x hx => (hlt x (by simp [hx])).2))
      (all_stay hl hb ts vs' ds' q (fun t' ht => hr t' (by simp [ht])) h2 (fun x hx => hlt x (by simp [hx])))

/-- A law's row, behind the walk. -/
theorem law_post {f : Func} {s : ChangeSpec} {apart fresh handsOn again : Bool} {W W' : World} {args : Array Value} {ds gs : List (DataW H)} {before : List MemPlace} {tb : TypeId}
    (hl : laidOutB P = true) (hr : ∀ t ∈ f.params.toList, P.readableRec t = true ∧ t < P.types.size) (hv : s.vars = []) (hrt : f.resultTypes = #[tb]) (htb : P.underlying tb = some .bool)
    (hfn : ∀ ds : List (DataW H), ds.length = f.params.size → s.fn H ds = { results := [.lit (.bool true)], args := ds, vars := [] })
    (hW : DataW.Whole enc P f.params.toList s.vars apart W args.toList ds gs before) (hb : Below W.heap.size W W') : s.post enc P f apart fresh handsOn again W args (.bool true) W' := by
  obtain ⟨p, q, hA, hV, hpq, hz, hn⟩ := id hW
  rw [hv] at hV
  obtain ⟨rfl, rfl⟩ := trodVars_none hV
  have hp : before = p := by simpa using hpq
  subst hp
  have hold : ∀ x ∈ before, x.block < W.heap.size := fun x hx => hW.lt x hx
  have hlen : ds.length = f.params.size := by
    have : ∀ (ts : List TypeId) (vs : List Value) (ds : List (DataW H)) (ps : List MemPlace), DataW.TrodAll enc P W 0 (fun _ => true) true ts vs ds ps → ds.length = ts.length := by
      intro ts
      induction ts with
      | nil => intro vs ds ps h; obtain ⟨_, rfl, _⟩ := trodAll_nil h; rfl
      | cons t ts ih => intro vs ds ps h; obtain ⟨v, vs', d, ds', p, q, _, rfl, _, _, h2⟩ := trodAll_cons h; simp [ih _ _ _ h2]
    simpa using this _ _ _ _ hA
  have hfn' : s.fn H (ds ++ []) = { results := [.lit (.bool true)], args := ds, vars := [] } := by rw [List.append_nil]; exact hfn ds hlen
  have hvs : ∀ sp : Nat → Bool, DataW.TrodVars enc P W' sp s.vars (s.fn H (ds ++ [])).vars [] := by intro sp; rw [hfn', hv]; rfl
  have hargs : ∀ sp : Nat → Bool, (∀ x ∈ before, sp x.block = true) → DataW.TrodAll enc P W' 0 sp true f.params.toList args.toList (s.fn H (ds ++ [])).args before := fun sp hs => by
    rw [hfn']; exact all_stay hl hb _ _ _ _ hr hA fun x hx => ⟨hold x hx, hs x hx⟩
  have hres : ∀ (b : Nat) (sp : Nat → Bool) (hd : Bool), DataW.TrodAll enc P W' b sp hd f.resultTypes.toList ((Value.bool true).resultList f.resultTypes.size) (s.fn H (ds ++ [])).results [] := fun b sp hd => by
    rw [hfn', hrt]; exact trodAll_cons_mk (shut_bool htb _) trodAll_mk0
  refine ⟨ds, [], before, [], before, [], hW, hres _ _ _, hargs _ (fun x hx => by simpa using hold x hx), hvs _, World.keptBut_mono (fun x hx => ⟨hx, .inr (.inl hx)⟩) (hb.frame (· ∈ before)), fun _ => ?_⟩
  have hall : DataW.TrodAll enc P W' 0 (fun _ => true) true (f.resultTypes.toList ++ f.params.toList) ((Value.bool true).resultList f.resultTypes.size ++ args.toList) ((s.fn H (ds ++ [])).results ++ (s.fn H (ds ++ [])).args) ([] ++ before) :=
    trodAll_append (hargs _ (fun _ _ => rfl)) (hres _ _ _)
  refine ⟨ok_one hrt rfl (okWide_bool_mk htb _), (s.fn H (ds ++ [])).results ++ (s.fn H (ds ++ [])).args, (s.fn H (ds ++ [])).vars, before, ⟨before, [], hall, hvs _, by simp, ?_, ?_⟩, fun x hx _ => hx⟩
  · intro b off hx
    rw [hb.frozen (hold _ hx)]
    exact hz b off hx
  · intro ha
    exact hn ha
end
section
variable {H : Type} {enc : TypeId × Value → H} {P : Program}
/-- An argument that is a slice of numbers. -/
theorem open_sli {W : World} {base : Nat} {t e : TypeId} {k : IntKind} {v : Value} {d : DataW H} {p : List MemPlace} (ht : P.underlying t = some (.slice e)) (he : P.underlying e = some (.int k)) (hc : P.cellsOf e = 1)
    (hv : Value.okWide P W .any base t v) (h : DataW.Trod enc P W 0 (fun _ => true) true t v d p) (hlt : ∀ x ∈ p, x.block < W.heap.size) :
    ∃ zs : List Int, Sli W W.heap.size v (zs.map (Value.int k)) ∧ ∀ n ∈ zs, (Lit.int k n).wf = true := by
  obtain ⟨a0, len, cap, rfl⟩ := okWide_slice ht hv
  obtain ⟨fuel, hf⟩ := h
  rcases open_ints ht he hc hf with ⟨hcs, hx⟩ | ⟨a, len', cap', zs, hcs, _, hl, hm, hz, hx, hcell, hwz⟩
  · simp [Value.cells] at hcs
    obtain ⟨rfl, rfl, rfl⟩ := hcs
    exact ⟨[], Sli.nil _ _, by simp⟩
  · simp [Value.cells] at hcs
    obtain ⟨rfl, rfl, rfl⟩ := hcs
    simp only [Prod.mk.injEq] at hx
    obtain ⟨rfl, rfl⟩ := hx
    simp only [if_true] at hz
    have hlen : ((zs.take len).map (Value.int k)).length = len := by simp; omega
    refine ⟨zs.take len, ⟨some a, cap, by rw [hlen], ⟨rfl, ?_⟩, by rw [hlen]; exact hl, hm, by simp⟩, fun n hn => hwz n (List.mem_of_mem_take hn)⟩
    rw [hlen]
    rcases Nat.eq_zero_or_pos len with h0 | h0
    · exact .inl h0
    · right
      obtain ⟨b, off, spot⟩ := a
      have hspot : spot = none := by simpa [Addr.add] using World.cell?_spot (hcell 0 (by omega))
      subst hspot
      have hbW : b < W.heap.size := hlt (.cell b off) (MemPlace.mem_row.2 ⟨0, by omega, by simp⟩)
      refine ⟨b, off, rfl, hbW, fun j hj => ?_⟩
      rw [← Addr.add_lit, hcell j (by omega)]
      rw [List.getElem?_map, List.getElem?_take, if_pos hj, List.getElem?_eq_getElem (by omega : j < zs.length)]
      simp [List.getD, List.getElem?_eq_getElem (by omega : j < zs.length)]
theorem nat_of_wf {k : IntKind} {M : Nat} (hk : ∀ n : Int, (Lit.int k n).wf = true → 0 ≤ n ∧ n ≤ M) (zs : List Int) (h : ∀ n ∈ zs, (Lit.int k n).wf = true) :
    ∃ l : List Nat, zs.map (Value.int k) = l.map (fun x => .int k (x : Nat)) ∧ ∀ x ∈ l, x ≤ M := by
  refine ⟨zs.map Int.toNat, ?_, ?_⟩
  · rw [List.map_map]
    apply List.map_congr_left
    intro n hn
    have := hk n (h n hn)
    simp [Int.toNat_of_nonneg this.1]
  · intro x hx
    obtain ⟨n, hn, rfl⟩ := List.mem_map.1 hx
    have := hk n (h n hn)
    omega
end
theorem wf_i64_rng {n : Int} (h : (Lit.int .i64 n).wf = true) : -9223372036854775808 ≤ n ∧ n ≤ 9223372036854775807 := by
  simpa [Lit.wf, IntKind.min, IntKind.max, IntKind.signed, IntKind.bits] using h
theorem wf_u64_rng {n : Int} (h : (Lit.int .u64 n).wf = true) : 0 ≤ n ∧ n ≤ 18446744073709551615 := by
  simpa [Lit.wf, IntKind.min, IntKind.max, IntKind.signed, IntKind.bits] using h
theorem wf_u32_rng {n : Int} (h : (Lit.int .u32 n).wf = true) : 0 ≤ n ∧ n ≤ 4294967295 := by
  simpa [Lit.wf, IntKind.min, IntKind.max, IntKind.signed, IntKind.bits] using h
theorem wf_u16_rng {n : Int} (h : (Lit.int .u16 n).wf = true) : 0 ≤ n ∧ n ≤ 65535 := by
  simpa [Lit.wf, IntKind.min, IntKind.max, IntKind.signed, IntKind.bits] using h
theorem wf_u8_rng {n : Int} (h : (Lit.int .u8 n).wf = true) : 0 ≤ n ∧ n ≤ 255 := by
  simpa [Lit.wf, IntKind.min, IntKind.max, IntKind.signed, IntKind.bits] using h
/-- A slice of structs of numbers, row by row; ks: the kinds of the fields. -/
def Recs (w : World) (B : Nat) (v : Value) (ks : List IntKind) (rows : List (List Int)) : Prop :=
  ∃ (A : Option Addr) (c : Nat), v = .slice A rows.length c ∧ rows.length ≤ c ∧ c ≤ maxLen ∧ (∀ r ∈ rows, r.length = ks.length) ∧
    (∀ (i : Nat) (r : List Int) (j : Nat) (k : IntKind) (x : Int), rows[i]? = some r → ks[j]? = some k → r[j]? = some x → (Lit.int k x).wf = true) ∧
    (rows.length = 0 ∨ ∃ b o, A = some ⟨b, o, none⟩ ∧ b < B ∧ ∀ (i : Nat) (r : List Int) (j : Nat) (k : IntKind) (x : Int), rows[i]? = some r → ks[j]? = some k → r[j]? = some x → w.cell? ⟨b, o + i * ks.length + j, none⟩ = some (.int k x))
section
variable {H : Type} {enc : TypeId × Value → H} {P : Program}
/-- An argument that is a slice of structs of numbers: a list of rows; the kinds of the fields are ks. -/
theorem open_recs {W : World} {base : Nat} {t e : TypeId} {fs : Array Field} {ks : List IntKind} {v : Value} {d : DataW H} {p : List MemPlace} (ht : P.underlying t = some (.slice e)) (he : P.underlying e = some (.struct fs))
    (hone : Go.Deep.oneCellFields P fs = true) (hC : P.cellsOf e = ks.length) (hpos : 0 < ks.length) (hks : ∀ (j : Nat) (k : IntKind), ks[j]? = some k → ∃ f, fs[j]? = some f ∧ P.underlying f.type = some (.int k))
    (hv : Value.okWide P W .any base t v) (h : DataW.Trod enc P W 0 (fun _ => true) true t v d p) (hlt : ∀ x ∈ p, x.block < W.heap.size) :
    ∃ rows : List (List Int), Recs W W.heap.size v ks rows := by
  obtain ⟨a0, len, cap, rfl⟩ := okWide_slice ht hv
  obtain ⟨fuel, hf⟩ := h
  rcases Go.Deep.open_slice ht hf with ⟨hcs, hx⟩ | ⟨a, len', cap', m, n, D, Pl, hcs, _, hl, hm, hmm, hx, hi⟩
  · simp [Value.cells] at hcs
    obtain ⟨rfl, rfl, rfl⟩ := hcs
    exact ⟨[], none, 0, rfl, by simp, by simp [maxLen], by simp, by simp, .inl rfl⟩
  · simp [Value.cells] at hcs
    obtain ⟨rfl, rfl, rfl⟩ := hcs
    simp only [Prod.mk.injEq] at hx
    obtain ⟨rfl, rfl⟩ := hx
    simp only [if_true] at hmm
    subst hmm
    have each : ∀ i, i < len → ∃ r : List Int, r.length = ks.length ∧ ∀ (j : Nat) (k : IntKind), ks[j]? = some k → ∃ x, r[j]? = some x ∧ W.cell? (a.add (i * ks.length + j)) = some (.int k x) ∧ (Lit.int k x).wf = true := by
      intro i hil
      obtain ⟨cs', hc, htr⟩ := hi i (by omega)
      rw [hC] at hc
      obtain ⟨xs, n', _, _, hlen, _, hg⟩ := DataW.trod_struct he htr
      obtain ⟨_, hcl, hat⟩ := World.cells?_some hc
      have one : ∀ (j : Nat) (k : IntKind), ks[j]? = some k → ∃ x, cs'[j]? = some (.int k x) ∧ (Lit.int k x).wf = true := by
        intro j k hk
        obtain ⟨f, hfj, hfk⟩ := hks j k hk
        have hjl : j < ks.length := (List.getElem?_eq_some_iff.1 hk).1
        obtain ⟨ho, hsz⟩ := Go.Deep.hone_of hone j f hfj
        have h1 := hg j f hfj
        rw [ho, hsz, List.drop_eq_getElem_cons (by omega : j < cs'.length)] at h1
        simp only [List.take_succ_cons, List.take_zero] at h1
        obtain ⟨y, hy⟩ : ∃ y, xs[j]? = some y := by
          rcases hq : xs[j]? with _ | y
          · exfalso
            have := List.getElem?_eq_none_iff.1 hq
            have h2 : j < fs.size := (Array.getElem?_eq_some_iff.1 hfj).1
            omega
          · exact ⟨y, rfl⟩
        rw [hy] at h1
        obtain ⟨x, hx, _, hw⟩ := DataW.trod_int hfk h1
        refine ⟨x, ?_, hw⟩
        rw [List.getElem?_eq_getElem (by omega : j < cs'.length)]
        simp only [List.cons.injEq, and_true] at hx
        rw [hx]
      refine ⟨cs'.map fun u => match u with | .int _ q => q | _ => 0, by simp [hcl], fun j k hk => ?_⟩
      obtain ⟨x, hx, hw⟩ := one j k hk
      have hjl : j < ks.length := (List.getElem?_eq_some_iff.1 hk).1
      refine ⟨x, by simp [hx], ?_, hw⟩
      have := hat j (by omega)
      rw [Go.Deep.add_add] at this
      rw [this, hx]
    let f : Nat → List Int := fun i => if h : i < len then Classical.choose (each i h) else []
    have hf1 : ∀ i (h : i < len), f i = Classical.choose (each i h) := fun i h => by simp [f, h]
    have hrow : ∀ (i : Nat) (r : List Int), ((List.range len).map f)[i]? = some r → ∃ h : i < len, r = Classical.choose (each i h) := by
      intro i r hr
      have hil : i < len := by
        have := (List.getElem?_eq_some_iff.1 hr).1
        simpa using this
      refine ⟨hil, ?_⟩
      simp [hil] at hr
      rw [← hr, hf1 i hil]
    refine ⟨(List.range len).map f, some a, m, by simp, by simpa using hl, hm, ?_, ?_, ?_⟩
    · intro r hr
      obtain ⟨i, hi, e⟩ := List.mem_iff_getElem.1 hr
      obtain ⟨h, rfl⟩ := hrow i r (by rw [List.getElem?_eq_getElem hi, e])
      exact (Classical.choose_spec (each i h)).1
    · intro i r j k x hr hk hx
      obtain ⟨h, rfl⟩ := hrow i r hr
      obtain ⟨x', h1, _, h3⟩ := (Classical.choose_spec (each i h)).2 j k hk
      rw [h1] at hx; injection hx with hx; subst hx
      exact h3
    · rcases Nat.eq_zero_or_pos len with h0 | h0
      · left; simpa using h0
      · right
        obtain ⟨r0, _, h0c⟩ := each 0 h0
        obtain ⟨k0, hk0⟩ : ∃ k, ks[0]? = some k := ⟨_, List.getElem?_eq_getElem hpos⟩
        obtain ⟨x0, _, hc0, _⟩ := h0c 0 k0 hk0
        obtain ⟨b, off, spot⟩ := a
        have hspot : spot = none := by simpa [Addr.add] using World.cell?_spot hc0
        subst hspot
        have hbW : b < W.heap.size := hlt (.cell b off) (List.mem_append_left _ (MemPlace.mem_row.2 ⟨0, by rw [hC]; exact Nat.mul_pos (by omega) hpos, by simp⟩))
        refine ⟨b, off, rfl, hbW, fun i r j k x hr hk hx => ?_⟩
        obtain ⟨h, rfl⟩ := hrow i r hr
        obtain ⟨x', h1, h2, _⟩ := (Classical.choose_spec (each i h)).2 j k hk
        rw [h1] at hx; injection hx with hx; subst hx
        rw [Nat.add_assoc, ← Addr.add_lit]
        exact h2
end
/-- A slice of byte slices. -/
def Sls (w : World) (B : Nat) (v : Value) (ls : List (List Nat)) : Prop := ∃ vs, Sli w B v vs ∧ vs.length = ls.length ∧ ∀ (j : Nat) (x : Value) (l : List Nat), vs[j]? = some x → ls[j]? = some l → Sli w B x (cu8 l)
theorem Sls.below {w w' : World} {B : Nat} {v : Value} {ls : List (List Nat)} (h : Sls w B v ls) (hb : Below B w w') : Sls w' B v ls := by
  obtain ⟨vs, h1, h2, h3⟩ := h
  exact ⟨vs, h1.below hb, h2, fun j x l hx hl => (h3 j x l hx hl).below hb⟩
theorem Sls.form {w : World} {B : Nat} {v : Value} {ls : List (List Nat)} (h : Sls w B v ls) : ∃ A c, v = .slice A ls.length c ∧ ls.length ≤ c ∧ c ≤ maxLen := by
  obtain ⟨vs, ⟨A, c, rfl, _, h1, h2, _⟩, hl, _⟩ := h
  rw [hl] at h1 ⊢
  exact ⟨A, c, rfl, h1, h2⟩
/-- Inside a round: the cell and what it holds. -/
theorem Sls.get {w : World} {B n c : Nat} {A : Option Addr} {ls : List (List Nat)} (h : Sls w B (.slice A n c) ls) {j : Nat} {l : List Nat} (hl : ls[j]? = some l) :
    ∃ b o x, A = some ⟨b, o, none⟩ ∧ b < B ∧ w.cell? ⟨b, o + j, none⟩ = some x ∧ Sli w B x (cu8 l) := by
  obtain ⟨vs, ⟨A', c', e, hh, h1, h2, _⟩, hlen, h3⟩ := h
  injection e with e1 e2 e3
  subst e1; subst e2
  have hj : j < vs.length := by rw [hlen]; exact (List.getElem?_eq_some_iff.1 hl).1
  obtain ⟨b, o, u, hA, hb, hc, hu⟩ := hh.get hj
  exact ⟨b, o, u, hA, hb, hc, h3 j u l hu hl⟩
section
variable {H : Type} {enc : TypeId × Value → H} {P : Program}
/-- An argument that is a slice of byte slices. -/
theorem open_sls {W : World} {base : Nat} {t e q : TypeId} {v : Value} {d : DataW H} {p : List MemPlace} (ht : P.underlying t = some (.slice e)) (he : P.underlying e = some (.slice q)) (hq : P.underlying q = some (.int .u8))
    (ce : P.cellsOf e = 1) (cq : P.cellsOf q = 1) (hv : Value.okWide P W .any base t v) (h : DataW.Trod enc P W 0 (fun _ => true) true t v d p) (hlt : ∀ x ∈ p, x.block < W.heap.size) :
    ∃ ls : List (List Nat), Sls W W.heap.size v ls ∧ ∀ l ∈ ls, ∀ x ∈ l, x < 256 := by
  obtain ⟨a0, len, cap, rfl⟩ := okWide_slice ht hv
  obtain ⟨fuel, hf⟩ := h
  rcases Go.Deep.open_int_rows ht he hq ce cq hf with ⟨hcs, hx⟩ | ⟨a, len', cap', A, L, C, Z, hcs, _, hl, hm, hx, hrow⟩
  · simp [Value.cells] at hcs
    obtain ⟨rfl, rfl, rfl⟩ := hcs
    exact ⟨[], ⟨[], Sli.nil _ _, rfl, by simp⟩, by simp⟩
  · simp [Value.cells] at hcs
    obtain ⟨rfl, rfl, rfl⟩ := hcs
    simp only [Prod.mk.injEq] at hx
    obtain ⟨rfl, rfl⟩ := hx
    let vs : List Value := (List.range len).map fun r => .slice (A r) (L r) (C r)
    let ls : List (List Nat) := (List.range len).map fun r => ((Z r).take (L r)).map Int.toNat
    have hvs : ∀ j, j < len → vs[j]? = some (.slice (A j) (L j) (C j)) := fun j hj => by simp [vs, hj]
    refine ⟨ls, ⟨vs, ⟨some a, cap, by simp [vs], ⟨rfl, ?_⟩, by simp [vs]; exact hl, hm, by simp⟩, by simp [vs, ls], ?_⟩, ?_⟩
    · rw [show vs.length = len by simp [vs]]
      rcases Nat.eq_zero_or_pos len with h0 | h0
      · exact .inl h0
      · right
        obtain ⟨b, off, spot⟩ := a
        have hspot : spot = none := by simpa [Addr.add] using World.cell?_spot (hrow 0 (by omega)).1
        subst hspot
        have hbW : b < W.heap.size := hlt (.cell b off) (List.mem_append_left _ (MemPlace.mem_row.2 ⟨0, by omega, by simp⟩))
        refine ⟨b, off, rfl, hbW, fun j hj => ?_⟩
        rw [← Addr.add_lit, (hrow j (by omega)).1, hvs j hj]
    · intro j x l hx hl'
      have hj : j < len := by
        have := (List.getElem?_eq_some_iff.1 hx).1
        simpa [vs] using this
      rw [hvs j hj] at hx
      obtain rfl := Option.some.inj hx
      have hl2 : l = ((Z j).take (L j)).map Int.toNat := by
        rw [List.map_take]; simp [ls, hj] at hl'; exact hl'.symm
      subst hl2
      obtain ⟨_, r1, r2, r3, r4, r5, r6⟩ := hrow j (by omega)
      have hcu : cu8 (((Z j).take (L j)).map Int.toNat) = ((Z j).take (L j)).map (Value.int .u8) := by
        unfold cu8; rw [List.map_map]
        apply List.map_congr_left
        intro n hn
        have := wf_u8_rng (r4 n (List.mem_of_mem_take hn))
        simp [Int.toNat_of_nonneg this.1]
      rw [hcu]
      have hlen : (((Z j).take (L j)).map (Value.int .u8)).length = L j := by simp; omega
      refine ⟨A j, C j, by rw [hlen], ⟨rfl, ?_⟩, by rw [hlen]; exact r1, r2, r5⟩
      rw [hlen]
      rcases Nat.eq_zero_or_pos (L j) with h0 | h0
      · exact .inl h0
      · right
        rcases hA : A j with _ | a'
        · have := r5 hA; omega
        · obtain ⟨_, hc⟩ := r6 a' hA
          obtain ⟨b, off, spot⟩ := a'
          have hspot : spot = none := by simpa [Addr.add] using World.cell?_spot (hc 0 (by omega))
          subst hspot
          have hbW : b < W.heap.size := hlt (.cell b off) (List.mem_append_right _ (List.mem_flatMap.2 ⟨j, by simp; omega, by rw [hA]; simp [Go.Deep.intRowPlaces]; exact MemPlace.mem_row.2 ⟨0, by omega, by simp⟩⟩))
          refine ⟨b, off, rfl, hbW, fun i hi => ?_⟩
          rw [← Addr.add_lit, hc i (by omega)]
          rw [List.getElem?_map, List.getElem?_take, if_pos hi, List.getElem?_eq_getElem (by omega : i < (Z j).length)]
          simp [List.getD, List.getElem?_eq_getElem (by omega : i < (Z j).length)]
    · intro l hl' x hx
      simp only [ls, List.mem_map, List.mem_range] at hl'
      obtain ⟨r, hr, rfl⟩ := hl'
      obtain ⟨n, hn, rfl⟩ := List.mem_map.1 hx
      have := wf_u8_rng ((hrow r (by omega)).2.2.2.2.1 n (List.mem_of_mem_take hn))
      omega
end
theorem u8s_of_wf (zs : List Int) (h : ∀ n ∈ zs, (Lit.int .u8 n).wf = true) : ∃ l : List Nat, zs.map (Value.int .u8) = cu8 l ∧ ∀ x ∈ l, x < 256 := by
  obtain ⟨l, e, hl⟩ := nat_of_wf (k := .u8) (M := 255) (fun n hn => wf_u8_rng hn) zs h
  exact ⟨l, e, fun x hx => by have := hl x hx; omega⟩
theorem u64s_of_wf (zs : List Int) (h : ∀ n ∈ zs, (Lit.int .u64 n).wf = true) : ∃ l : List Nat, zs.map (Value.int .u64) = cu64 l ∧ ∀ x ∈ l, x < 18446744073709551616 := by
  obtain ⟨l, e, hl⟩ := nat_of_wf (k := .u64) (M := 18446744073709551615) (fun n hn => wf_u64_rng hn) zs h
  exact ⟨l, e, fun x hx => by have := hl x hx; omega⟩
end Go.Proofs.Ythecibabpcfoaaa
