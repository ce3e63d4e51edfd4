/- prefix: Lengths, where two symbols or more are used: the walk. -/
import Derived.Test.YthecibabpcfoaaaPfxX
import Derived.Stop.RegionWithIn
namespace Go.Proofs.Ythecibabpcfoaaa
open Go.RowKit Go.Shelf
set_option maxRecDepth 100000
set_option maxHeartbeats 4000000
attribute [local go_sem] Oper.semAt_some

theorem cells_from {W W' : World} {row : Option Nat} (hg : W.grownBy W' row) (hr : ∀ r, row = some r → ∃ o : Obj, W.heap[r]? = some o ∧ o.isCells = false) {g : Nat} {cs : Array Value} {t : TypeId} {fr : Nat × Nat} (h : W.heap[g]? = some (.cells cs t fr)) : W'.heap[g]? = some (.cells cs t fr) := by
  refine (hg.block g (Array.getElem?_eq_some_iff.1 h).1 fun e => ?_).trans h
  obtain ⟨o, ho, hc⟩ := hr g e.symm
  rw [h] at ho
  injection ho with ho
  rw [← ho] at hc
  cases hc
theorem row_from {W W' : World} {row : Option Nat} (hg : W.grownBy W' row) (hr : ∀ r, row = some r → ∃ o : Obj, W.heap[r]? = some o ∧ o.isCells = false) {base : Nat} {e : TypeId} {size : Nat} {v : Value} {n : Nat} {xs : List Value} (h : W.ownsRow base e size v n xs) : W'.ownsRow base e size v n xs := by
  refine World.ownsRow.kept (row := row) h hg ?_
  rcases h.2 with ⟨rfl, _⟩ | ⟨g, cap, cur, rfl, _, hgg, _⟩
  · left; rfl
  · right
    intro e
    obtain ⟨o, ho, hc⟩ := hr g (by rw [← e]; rfl)
    rw [hgg] at ho
    injection ho with ho
    rw [← ho] at hc
    cases hc
theorem cnt_one (a : Nat × Bool) : [a].countP (·.2) = if a.2 = true then 1 else 0 := by
  obtain ⟨x, f⟩ := a
  cases f <;> rfl
/-- Where Lengths stands behind k rounds. -/
structure LenState (S0 gU gL n L : Nat) (vu : Value) (c : List Thing) (ss ms : List Nat) (vals : List Value) (w W : World) (R : List Nat) (t : Nat) : Prop where
  bl : W.heap[gL]? = some (.cells #[.slice (some ⟨gU + 1, 0, none⟩) n n] 22 (0, 0))
  bt : W.heap[gL + 1]? = some (.cells #[.int .i64 (t : Nat)] 3 (0, 0))
  bu : W.heap[gU]? = some (.cells #[vu] 22 (0, 0))
  ou : Own W S0 3 vu (ci (ni ss))
  ol : Own W (gU + 1) 3 (.slice (some ⟨gU + 1, 0, none⟩) n n) (ci (ni R))
  all : AllE W (gL + 2) c vals
  be : Below S0 w W
theorem LenState.from {S0 gU gL n L B : Nat} {vu : Value} {c : List Thing} {ss ms : List Nat} {vals : List Value} {w W W' : World} {R : List Nat} {t : Nat} (h : LenState S0 gU gL n L vu c ss ms vals w W R t) (hS : S0 ≤ B) (hw : S0 ≤ w.heap.size) {row : Option Nat} (hg : W.grownBy W' row) (hr : ∀ r, row = some r → B ≤ r ∧ ∃ o : Obj, W.heap[r]? = some o ∧ o.isCells = false) : LenState S0 gU gL n L vu c ss ms vals w W' R t := by
  have hr' := fun r e => (hr r e).2
  exact ⟨cells_from hg hr' h.bl, cells_from hg hr' h.bt, cells_from hg hr' h.bu, row_from hg hr' h.ou, row_from hg hr' h.ol, fun j hj => by
    obtain ⟨x, h1, h2⟩ := h.all j hj
    exact ⟨x, h1, row_from hg hr' h2⟩, h.be.grown hg (Nat.le_trans hw h.be.size) fun k e => Nat.le_trans hS (hr k e).1⟩

theorem LenState.alloc {S0 gU gL n L : Nat} {vu : Value} {c : List Thing} {ss ms : List Nat} {vals : List Value} {w W : World} {R : List Nat} {t : Nat} (h : LenState S0 gU gL n L vu c ss ms vals w W R t) (hw : S0 ≤ w.heap.size) (o : Obj) : LenState S0 gU gL n L vu c ss ms vals w (W.alloc o) R t :=
  h.from (B := S0) (Nat.le_refl _) hw (World.grownBy_alloc W o none) (fun r e => by cases e)
theorem Kp2.alloc {x y : Nat} {A B : World} (h : Kp2 x y A B) (hx : x < B.heap.size) (hy : y < B.heap.size) (o : Obj) : Kp2 x y A (B.alloc o) := fun p hp => by
  refine (((Below.refl B.heap.size B).alloc (Nat.le_refl _) o).cell (p := p) ?_).trans (h p hp)
  rcases hp with e | e <;> omega
theorem Kp2.set {x y : Nat} {A B : World} (h : Kp2 x y A B) {g j : Nat} (hx : g ≠ x) (hy : g ≠ y) (u : Value) : Kp2 x y A (B.setCell ⟨g, j, none⟩ u) := fun p hp => by
  rw [World.cell?_setCell_other _ _ _ _ (fun e => by rw [← e] at hp; rcases hp with e | e <;> simp at e <;> omega)]
  exact h p hp

theorem LenState.drew {S0 gU gL n L : Nat} {vu : Value} {c : List Thing} {ss ms : List Nat} {vals : List Value} {w W : World} {R : List Nat} {t : Nat} (h : LenState S0 gU gL n L vu c ss ms vals w W R t) : LenState S0 gU gL n L vu c ss ms vals w W.drew R t :=
  ⟨h.bl, h.bt, h.bu, h.ou, h.ol, fun j hj => h.all j hj, ⟨h.be.os, h.be.tape, h.be.output, h.be.size, h.be.block⟩⟩
theorem LenState.count {S0 gU gL n L : Nat} {vu : Value} {c : List Thing} {ss ms : List Nat} {vals : List Value} {w W : World} {R : List Nat} {t : Nat} (h : LenState S0 gU gL n L vu c ss ms vals w W R t) (hU : S0 ≤ gU) (hL : gU + 2 ≤ gL) (hvu : ∀ k, vu.ownBlock = some k → k < gU) (s y : Nat) : LenState S0 gU gL n L vu c ss ms vals w (W.setCell ⟨gU + 1, s, none⟩ (.int .i64 (y : Nat))) (R.set s y) t := by
  have hg := grown_set W (gU + 1) s (.int .i64 (y : Nat))
  have lt := fun {g : Nat} {o : Obj} (e : W.heap[g]? = some o) => (Array.getElem?_eq_some_iff.1 e).1
  refine ⟨(hg.block gL (lt h.bl) (by simp; omega)).trans h.bl, (hg.block _ (lt h.bt) (by simp; omega)).trans h.bt, (hg.block _ (lt h.bu) (by simp)).trans h.bu, ?_, ?_, fun j hj => ?_, ?_⟩
  · refine World.ownsRow.kept (row := some (gU + 1)) h.ou hg ?_
    rcases hu : vu.ownBlock with _ | k
    · exact .inl rfl
    · right; intro e; injection e with e; have := hvu k hu; omega
  · have := h.ol.put s (.int .i64 (y : Nat))
    rw [show (ci (ni R)).set s (.int .i64 (y : Nat)) = ci (ni (R.set s y)) by simp [ci, ni, List.map_set]] at this
    exact this
  · obtain ⟨x, h1, h2⟩ := h.all j hj
    obtain ⟨cs, hcs⟩ := h.ol.blk (k := gU + 1) rfl
    exact ⟨x, h1, h2.grownOf hg (h2.ne hcs (by decide))⟩
  · exact h.be.setCell (p := ⟨gU + 1, s, none⟩) (by show S0 ≤ gU + 1; omega) _
theorem LenState.total {S0 gU gL n L : Nat} {vu : Value} {c : List Thing} {ss ms : List Nat} {vals : List Value} {w W : World} {R : List Nat} {t : Nat} (h : LenState S0 gU gL n L vu c ss ms vals w W R t) (hU : S0 ≤ gU) (hL : gU + 2 ≤ gL) (hvu : ∀ k, vu.ownBlock = some k → k < gU) (t' : Nat) : LenState S0 gU gL n L vu c ss ms vals w (W.setCell ⟨gL + 1, 0, none⟩ (.int .i64 (t' : Nat))) R t' := by
  have hg := grown_set W (gL + 1) 0 (.int .i64 (t' : Nat))
  have lt := fun {g : Nat} {o : Obj} (e : W.heap[g]? = some o) => (Array.getElem?_eq_some_iff.1 e).1
  refine ⟨(hg.block gL (lt h.bl) (by simp)).trans h.bl, heap_setCell_same W (gL + 1) 0 _ _ _ h.bt, (hg.block _ (lt h.bu) (by simp; omega)).trans h.bu, ?_, ?_, fun j hj => ?_, ?_⟩
  · refine World.ownsRow.kept (row := some (gL + 1)) h.ou hg ?_
    rcases hu : vu.ownBlock with _ | k
    · exact .inl rfl
    · right; intro e; injection e with e; have := hvu k hu; omega
  · refine World.ownsRow.kept (row := some (gL + 1)) h.ol hg (.inr ?_)
    intro e; injection e with e; simp at e; omega
  · obtain ⟨x, h1, h2⟩ := h.all j hj
    exact ⟨x, h1, h2.grownOf hg (h2.ne h.bt (by decide))⟩
  · exact h.be.setCell (p := ⟨gL + 1, 0, none⟩) (by show S0 ≤ gL + 1; omega) _

theorem lengths_many {w : World} {B : Nat} {v : Value} {fs ss : List Nat} {L : Nat} (hS : Sli w B v (ci (ni fs))) (hB : B ≤ w.heap.size) (h1 : 1 ≤ fs.length) (h2 : fs.length ≤ 1024) (h3 : ∀ x ∈ fs, x ≤ 1099511627776) (hA : Ascd fs ss) (hL1 : 1 ≤ L) (hL2 : L ≤ 24) (hu2 : 2 ≤ ss.length) (hu : ss.length ≤ 2 ^ L) :
    Calls Try.prog 19 #[v, .int .i64 L] w fun e w' => ∃ v', e = .returned (.tuple #[v', .int .i64 0]) ∧ Own w' w.heap.size 3 v' (ci (ni (lensN fs ss L))) ∧ Below w.heap.size w w' := by
  have hF := freqs_any hS
  rw [freqs_of h1 h2 h3] at hF
  have hAS := asc_any hS hB (by omega) hA
  have hss := hA.1.length_eq
  have huu : ss.length ≤ fs.length := by
    rw [hss]; unfold usedN; exact Nat.le_trans (List.length_filter_le _ _) (by simp)
  have hslt : ∀ s ∈ ss, s < fs.length := fun s hs => (usedN_mem.1 (hA.1.mem_iff.1 hs)).1
  have hris : Rises (coinsF (atN fs) ss) := coinsF_rises hA.coined.2
  have hnd : ss.Nodup := hA.1.nodup_iff.2 (usedN_nodup fs)
  obtain ⟨A, c, rfl, hlc, hcm⟩ := hS.formI
  obtain ⟨n, hnl⟩ : ∃ n, fs.length = n := ⟨_, rfl⟩
  obtain ⟨u, hul⟩ : ∃ u, ss.length = u := ⟨_, rfl⟩
  rw [ni_len, hnl] at hlc hS hF hAS ⊢
  obtain ⟨S0, hs0⟩ : ∃ S0, w.heap.size = S0 := ⟨_, rfl⟩
  obtain ⟨P2, hP2⟩ : ∃ P2, 2 ^ L = P2 := ⟨_, rfl⟩
  have hpw : IntKind.i64.wrap ((2 : Int) ^ L) = (P2 : Nat) := by
    have : P2 ≤ 16777216 := by rw [← hP2]; exact pow24 hL2
    rw [← pow_cast, hP2, IntKind.wrap_i64]; omega
  rw [hul, hP2] at hu
  rw [hul] at hu2
  rw [hul, hnl] at huu
  rw [hnl] at h1 h2
  rw [hs0] at hB
  have HSL := Lib.hid hS; have H3 := Lib.hid h3; have HLT := Lib.hid hslt; have HRI := Lib.hid hris; have HND := Lib.hid hnd; have HNL := Lib.hid hnl; have HUL := Lib.hid hul; have HS0 := Lib.hid hs0; have HP2 := Lib.hid hP2; have HAS := Lib.hid hAS
  clear hS h3 hslt hris hnd hnl hul hP2 hss hA hAS
  refine (callsIn_wide (n := 6)).1 ?_
  refine callsIn_of_wp_marks Try.func19 rfl trivial ?_ rfl
  refine wpIn_wide.2 ?_
  simp only [Try.ntmps19, List.size_toArray, List.length_cons, List.length_nil, Nat.reduceAdd, Nat.reduceSub, Array.replicate_succ, Array.replicate_zero, List.push_toArray, List.append_toArray, List.nil_append, List.cons_append]
  go_wp2_with fail
  refine hF.mono ?_
  rintro e w0 ⟨rfl, hw0⟩
  subst hw0
  clear hF
  go_wp2_with fail
  refine HAS.out.mono ?_
  rintro e w1 ⟨vu, rfl, hou, hb1⟩
  obtain ⟨Au, cu, rfl, hcu1, hcu2⟩ := hou.formI
  rw [ni_len, HUL.out] at hou hcu1
  rw [ni_len, HUL.out]
  rw [hs0] at hou hb1
  have hs1 : S0 ≤ w1.heap.size := by have := hb1.size; omega
  have hc2 := heap_alloc_new w1 (.cells #[.slice Au u cu] 22)
  have hb2 : Below S0 w (w1.alloc (.cells #[.slice Au u cu] 22)) := hb1.alloc hs1 _
  have hou2 : Own (w1.alloc (.cells #[.slice Au u cu] 22)) S0 3 (.slice Au u cu) (ci (ni ss)) := hou.alloc _
  have hsz2 : (w1.alloc (.cells #[.slice Au u cu] 22)).heap.size = w1.heap.size + 1 := by simp
  obtain ⟨w2, hw2⟩ : ∃ w2, w1.alloc (.cells #[.slice Au u cu] 22) = w2 := ⟨_, rfl⟩
  rw [hw2] at hc2 hb2 hou2 hsz2
  have HVU := Lib.hid (fun k (e : (Value.slice Au u cu).ownBlock = some k) => (hou.lt k e).2)
  obtain ⟨gU, hgU⟩ : ∃ gU, w1.heap.size = gU := ⟨_, rfl⟩
  rw [hgU] at HVU
  rw [hgU] at hc2 hsz2 hs1
  have d2 := (blk1 hc2).1
  have HOU := Lib.hid hou2
  clear hou hb1 hou2
  go_wp2_with fail
  go_region
  have hd2 : ∀ q, (w2.drewN q).heap.size = gU + 1 := fun q => hsz2
  go_wp2_with (at_make; refine wpl_make Try.underlying22 info_int rfl (by decide) (by omega) rfl rfl rfl rfl (n := n) (h := ?_); intro w3 ho3 hb3; refine cut_here ?_)
  unfold CutHere
  have hb3' : Below (gU + 1) w2 w3 := by
    have e : w2.drew.heap.size = gU + 1 := hsz2
    rw [e] at hb3
    exact ⟨hb3.os, hb3.tape, hb3.output, hb3.size, hb3.block⟩
  have ho3' : Own w3 (gU + 1) 3 (.slice (some ⟨gU + 1, 0, none⟩) n n) (ci (ni (List.replicate n 0))) := by
    have e : w2.drew.heap.size = gU + 1 := hsz2
    rw [e] at ho3
    have : List.replicate n (Value.int .i64 0) = ci (ni (List.replicate n 0)) := by simp [ci, ni]
    rw [← this]; exact ho3
  have HO3 := Lib.hid ho3'
  have hcU3 := (hb3'.block gU (by omega)).trans hc2
  have hb03 : Below S0 w w3 := hb2.trans (hb3'.mono (by omega))
  have hs3 : gU + 2 ≤ w3.heap.size := by have := (ho3'.lt (gU + 1) rfl).2; omega
  have d3 : w3.cell? ⟨gU, 0, none⟩ = some (.slice Au u cu) := (hb3'.cell (p := ⟨gU, 0, none⟩) (by simp)).trans d2
  have HOU3 := Lib.hid (HOU.out.kept (hb3'.mono (by omega : w2.heap.size ≤ gU + 1) |> fun h => by rw [hsz2]; exact hb3'))
  clear ho3 hb3 ho3' hb3' hd2
  obtain ⟨gL, hgL⟩ : ∃ gL, w3.heap.size = gL := ⟨_, rfl⟩
  rw [hgL] at hs3
  have hc4 := heap_alloc_new w3 (.cells #[.slice (some ⟨gU + 1, 0, none⟩) n n] 22)
  have hsz4 : (w3.alloc (.cells #[.slice (some ⟨gU + 1, 0, none⟩) n n] 22)).heap.size = gL + 1 := by simp; omega
  have hb34 : Below gL w3 (w3.alloc (.cells #[.slice (some ⟨gU + 1, 0, none⟩) n n] 22)) := by rw [← hgL]; exact (Below.refl _ _).alloc (Nat.le_refl _) _
  obtain ⟨w4, hw4⟩ : ∃ w4, w3.alloc (.cells #[.slice (some ⟨gU + 1, 0, none⟩) n n] 22) = w4 := ⟨_, rfl⟩
  rw [hw4, hgL] at hc4
  rw [hw4] at hsz4 hb34
  have d4 : w4.cell? ⟨gU, 0, none⟩ = some (.slice Au u cu) := (hb34.cell (p := ⟨gU, 0, none⟩) (by show gU < gL; omega)).trans d3
  obtain ⟨K0, hK0⟩ : ∃ K0 : Nat, 2 * (u : Int) - 2 = (K0 : Nat) := ⟨2 * u - 2, by omega⟩
  have hK0' : K0 = 2 * u - 2 := by omega
  have hc5 := heap_alloc_new w4 (.cells #[.int .i64 (K0 : Nat)] 3)
  have hsz5 : (w4.alloc (.cells #[.int .i64 (K0 : Nat)] 3)).heap.size = gL + 2 := by simp; omega
  have hb45 : Below (gL + 1) w4 (w4.alloc (.cells #[.int .i64 (K0 : Nat)] 3)) := by rw [← hsz4]; exact (Below.refl _ _).alloc (Nat.le_refl _) _
  obtain ⟨w5, hw5⟩ : ∃ w5, w4.alloc (.cells #[.int .i64 (K0 : Nat)] 3) = w5 := ⟨_, rfl⟩
  rw [hw5, hsz4] at hc5
  rw [hw5] at hsz5 hb45
  have d5 : w5.cell? ⟨gU, 0, none⟩ = some (.slice Au u cu) := (hb45.cell (p := ⟨gU, 0, none⟩) (by show gU < gL + 1; omega)).trans d4
  have hb05 : Below S0 w w5 := (hb03.trans (hb34.mono (by omega))).trans (hb45.mono (by omega))
  have hb35 : Below gL w3 w5 := hb34.trans (hb45.mono (by omega))
  have hc45 : w5.heap[gL]? = some (.cells #[.slice (some ⟨gU + 1, 0, none⟩) n n] 22 (0, 0)) := (hb45.block gL (by omega)).trans hc4
  have hcU5 := (hb35.block gU (by omega)).trans hcU3
  have HOU5 := Lib.hid (HOU3.out.kept (by rw [hgL]; exact hb35))
  have HO5 := Lib.hid (HO3.out.kept (by rw [hgL]; exact hb35))
  have hK64 : (K0 : Int) ≤ 4096 := by omega
  have HK0 := Lib.hid hK0'
  clear hK0'
  go_wp2_with fail
  refine (rows_any (HSL.out.below (hb05.mono hB)) HOU5.out.sli (by omega) (Nat.le_refl _) hL1 hL2 (by rw [HUL.out]; exact hu2) (by rw [HUL.out]; omega) HLT.out H3.out HRI.out).mono ?_
  rintro e w6 ⟨v6, vals, rfl, ho6, hvl, hAll, hb6⟩
  rw [hsz5] at ho6 hAll hb6
  obtain ⟨gA, cA, rfl, hgA, hcA1, hcA2, hcellA, hfroA, _⟩ := ho6.at_ (by omega)
  rw [hvl] at ho6 hcA1 hcellA ⊢
  have hltA := (ho6.lt gA rfl).2
  have HBK := Lib.hid (back_any (some ⟨gA, 0, none⟩) L cA w6)
  go_wp2_with fail
  refine HBK.out.mono ?_
  rintro e w7 ⟨rfl, hw7⟩
  replace hw7 := hw7.symm
  obtain ⟨gB, hgB⟩ : ∃ gB, w6.heap.size = gB := ⟨_, rfl⟩
  rw [hgB]
  go_wp2_with fail
  rw [hgB] at hltA
  have hsz7 : w7.heap.size = gB + 1 := by rw [← hw7]; simp; omega
  have hb67 : Below gB w6 w7 := by rw [← hw7, ← hgB]; exact (Below.refl _ _).alloc (Nat.le_refl _) _
  have hb57 : Below (gL + 2) w5 w7 := hb6.trans (hb67.mono (by rw [← hgB, ← hsz5]; exact hb6.size))
  have hgB2 : gL + 2 ≤ gB := by rw [← hgB, ← hsz5]; exact hb6.size
  have hcB : w7.cell? ⟨gB, 0, none⟩ = some (.slice (some ⟨gA, 0, none⟩) L cA) := by
    rw [← hw7, ← hgB, cell_of_row _ _ _ _ _ _ (heap_alloc_new w6 _)]; rfl
  have hcA7 : ∀ j, j < L → w7.cell? ⟨gA, j, none⟩ = vals[j]? := fun j hj => (hb67.cell (p := ⟨gA, j, none⟩) hltA).trans (hcellA j hj)
  have hall7 := hAll.kept (by rw [hgB]; exact hb67)
  obtain ⟨cc, hcc⟩ : ∃ cc, coinsF (atN fs) ss = cc := ⟨_, rfl⟩
  rw [hcc] at hall7
  have hone : ∀ (j : Nat) (u : Value), vals[j]? = some u → ∃ A k c, u = Value.slice A k c := fun j x hx => by
    have hj := (List.getElem?_eq_some_iff.1 hx).1
    obtain ⟨y, hy1, hy2⟩ := hall7 j hj
    rw [hx] at hy1
    injection hy1 with hy1
    subst hy1
    obtain ⟨A', c', e, _⟩ := hy2.form
    exact ⟨A', _, c', e⟩
  obtain ⟨ms, hms⟩ : ∃ ms, msE cc (L - 1) K0 = ms := ⟨_, rfl⟩
  have hcl : cc.length = u := by rw [← hcc, coinsF_len, HUL.out]
  have hK0b : K0 ≤ (rowsM cc (L - 1)).length := by
    have := msE_bound (F := atN fs) (ss := ss) (L := L) hL1 (by rw [HUL.out, HP2.out]; exact hu)
    rw [hcc, HUL.out, ← HK0.out] at this
    exact this
  have hst : LenState S0 gU gL n L (.slice Au u cu) cc ss ms vals w w7 (List.replicate n 0) (takE cc (L - 1) K0 0) := by
    refine ⟨(hb57.block gL (by omega)).trans hc45, (hb57.block (gL + 1) (by omega)).trans hc5, (hb57.block gU (by omega)).trans hcU5, HOU5.out.kept (by rw [hsz5]; exact hb57), HO5.out.kept (by rw [hsz5]; exact hb57), hall7, hb05.trans (hb57.mono (by omega))⟩
  clear hw7 hb6 hb67 hAll hcellA hfroA ho6 HBK hb57
  have HST := Lib.hid hst; have HALL7 := Lib.hid hall7; have HONE := Lib.hid hone; have HMS := Lib.hid hms; have HCA := Lib.hid hcA7; have HCC := Lib.hid hcc; have HVL := Lib.hid hvl; have HK0B := Lib.hid hK0b; have HCL := Lib.hid hcl
  clear hst hcU3 hcU5 hall7 hone hms hcA7 hcc hvl hK0b hcl hb05 hb35 hb34 hb45 hb03 hb2 hc2 hc4 hc5 hc45 d2 d3 d4 d5 hw2 hw4 hw5 hgU hgL hsz2 hsz4 hsz5 hgB
  refine (wpIn_wide (n := 6)).1 ?_
  refine wpIn_rounds (n := 6) rfl (by omega) (gf := 55) (lb := #[.pointer (some ⟨gB, 0, none⟩)]) rfl trivial (enters_of Try.func55 (by kernel_rfl) rfl) (fun k => encB (backF vals k)) L (Kp := Kp2 gB gA)
    (fun l J W hW hY h0 => back1_in Fence.wide 5 trivial rfl (by omega) l gB gA L cA vals HVL.out hL1 (by omega) HONE.out J hY W ((hW.cell (p := ⟨gB, 0, none⟩) (by show gB < _; omega)).trans hcB) (fun j hj => (hW.cell (p := ⟨gA, j, none⟩) (by show gA < _; omega)).trans (HCA.out j hj)) h0)
    (fun h k => h.trans k) (kp2_b (by omega) (by omega)) (fun k => rfl)
    (fun k W => ∃ R t, LenState S0 gU gL n L (.slice Au u cu) cc ss ms vals w W R t ∧ LenAt ss ms n k R ∧ t = takE cc (L - 1) K0 k ∧ gB < W.heap.size)
    (fun k W W' row ⟨R, t, h1, h2, h3, h4⟩ hg hr => ⟨R, t, h1.from (by omega) (by omega) hg hr, h2, h3, Nat.lt_of_lt_of_le h4 hg.size⟩)
    ⟨_, _, HST.out, LenAt.start ss ms n, rfl, by omega⟩ ?a1 ?assign ?body ?done
  case assign =>
    intro l k W K hK
    simp only [encB]
    gi_wp2
    exact hK
  case body =>
    intro l k W hk hI
    obtain ⟨R, t, hst, hla, ht, hsz⟩ := hI
    obtain ⟨q, hq⟩ : ∃ q, L - 1 - k = q := ⟨_, rfl⟩
    obtain ⟨vq, hvq, hEq⟩ := hst.all q (by rw [HVL.out]; omega)
    obtain ⟨vA, vc, rfl, hvc1, hvc2⟩ := hEq.form
    have htl : t ≤ (rowsE cc q).length := by rw [ht, rowsE_len, ← hq]; exact takE_le cc (L - 1) K0 HK0B.out k (by omega)
    have hbig := rowsE_big (c := cc) (j := q)
    have hsml := rowsE_small (c := cc) (j := q) (by rw [HCL.out]; omega)
    rw [HCL.out] at hbig hsml
    obtain ⟨lq, hlq⟩ : ∃ lq, (rowsE cc q).length = lq := ⟨_, rfl⟩
    rw [hlq] at hvc1 hvq hEq htl hbig hsml
    have hbk : backF vals k = (q, .slice vA lq vc) := by unfold backF; rw [HVL.out, hq, hvq]; rfl
    have e1 := blk1 hst.bl
    have e2 := blk1 hst.bt
    have e3 := (blk1 hst.bu).1
    have hcoin := coinsIn_le cc q t
    rw [HCL.out] at hcoin
    have hmk : ms[k]'(by rw [← HMS.out, msE_is, List.length_map, List.length_range]; omega) = coinsIn cc q t := by
      simp only [← HMS.out, msE_is, List.getElem_map, List.getElem_range, hq, ← ht]
    have HST2 := Lib.hid hst; have HLA := Lib.hid hla; have HT := Lib.hid ht; have HE := Lib.hid hEq; have HMK := Lib.hid hmk; have HLQ := Lib.hid hlq; have HQ := Lib.hid hq
    clear hst hla ht hEq hmk hlq hq
    rw [hbk]
    have HVQ := Lib.hid hvq
    clear hvq
    gi_wp2
    gi_loopw [11, 64] (fun vc' vi wr => ∃ (i q' : Nat) (R' : List Nat), i ≤ t ∧ vi = .int .i64 i ∧ vc' = .int .i64 q' ∧ Hid (q' = ((rowsE cc q).take i).countP (·.2)) ∧ Hid (LenIn ss ms n k q' R') ∧ Hid (LenState S0 gU gL n L (.slice Au u cu) cc ss ms vals w wr R' t) ∧ Kp2 gB gA W wr ∧ KeepsFrom w7.heap.size W wr ∧ gB < wr.heap.size) (fun _ vi _ => t - (intOf vi).toNat)
    case atStart => exact ⟨0, 0, R, Nat.zero_le _, rfl, rfl, Lib.hid (by simp), Lib.hid HLA.out.into, HST2, Kp2.refl _ _ _, KeepsFrom.refl _ _, hsz⟩
    case round =>
      obtain ⟨i, q', R', hit, rfl, rfl, hq', hli, hs', hk2, hkf, hgw⟩ := hrel
      by_cases hlt : i < t
      · have hil : i < (rowsE cc q).length := by rw [HLQ.out]; omega
        obtain ⟨vx, hvx1, hvx2⟩ := hs'.out.all q (by rw [HVL.out]; have := HQ.out; omega)
        rw [HVQ.out] at hvx1
        injection hvx1 with hvx1
        subst hvx1
        obtain ⟨b, o, rfl, hbB, k1, k2⟩ := hvx2.sle.at hil
        have htk := List.take_succ_eq_append_getElem hil
        obtain ⟨x, hx⟩ : ∃ x, (rowsE cc q)[i].1 = x := ⟨_, rfl⟩
        obtain ⟨fl, hfl⟩ : ∃ fl, (rowsE cc q)[i].2 = fl := ⟨_, rfl⟩
        rw [hx] at k1; rw [hfl] at k2
        have hcnt : ((rowsE cc q).take (i + 1)).countP (·.2) = q' + if fl = true then 1 else 0 := by
          rw [htk, List.countP_append, ← hq'.out, cnt_one, hfl]
        have hq1 : ((rowsE cc q).take (i + 1)).countP (·.2) ≤ u := by
          have := (coinsIn_le cc q (i + 1)).1
          rw [HCL.out] at this
          exact this
        have HCNT := Lib.hid hcnt
        have f1 := blk1 hs'.out.bl
        have f3 := (blk1 hs'.out.bu).1
        clear htk hx hfl hvx2
        cases fl with
        | false =>
          clear hcnt
          gi_wp2
          have hcn := HCNT.out
          rw [if_neg (by decide), Nat.add_zero] at hcn
          exact ⟨⟨i + 1, q', R', by omega, by simp, rfl, Lib.hid hcn.symm, hli, Lib.hid (hs'.out.alloc (by omega) _), hk2.alloc hgw (by omega) _, hkf.trans ((KeepsOthers.alloc _ _).from _), by simp; omega⟩, by simp [intOf]; omega⟩
        | true =>
          rw [if_pos rfl] at hcnt
          clear HCNT
          have HCNT := Lib.hid hcnt
          have hqu : q' < u := by omega
          have hs1' := hs'.out.alloc (by omega) (.cells #[.int .i64 (x : Nat), .bool true] 68)
          have hk1' := hk2.alloc hgw (by omega) (.cells #[.int .i64 (x : Nat), .bool true] 68)
          have hkf1 := hkf.trans ((KeepsOthers.alloc wr (.cells #[.int .i64 (x : Nat), .bool true] 68)).from w7.heap.size)
          have hnew1 := heap_alloc_new wr (.cells #[.int .i64 (x : Nat), .bool true] 68)
          have hgw1 : gB < (wr.alloc (.cells #[.int .i64 (x : Nat), .bool true] 68)).heap.size := by simp; omega
          obtain ⟨wr1, hwr1⟩ : ∃ wr1, wr.alloc (.cells #[.int .i64 (x : Nat), .bool true] 68) = wr1 := ⟨_, rfl⟩
          rw [hwr1] at hs1' hk1' hkf1 hnew1 hgw1
          have g1 : wr1.cell? ⟨wr.heap.size, 1, none⟩ = some (.bool true) := by rw [cell_of_row _ _ _ _ _ _ hnew1]; rfl
          have f1' := (blk1 hs1'.bl).1
          have f3' := (blk1 hs1'.bu).1
          have hqs : q' < ss.length := by rw [HUL.out]; exact hqu
          obtain ⟨b2, o2, rfl, _, r1⟩ := hs1'.ou.sli.atI (i := q') (by rw [ni_len]; exact hqs)
          rw [ni_at hqs] at r1
          have hsn : atN ss q' < n := by rw [← HNL.out]; exact HLT.out _ (by rw [atN_get hqs]; exact List.getElem_mem hqs)
          obtain ⟨g4, c4, hv4, _, _, _, hcell4, hfro4, _⟩ := hs1'.ol.at_ (by rw [ci_len, ni_len, hli.out.len]; omega)
          injection hv4 with hv4 hx1 hx2; clear hx1 hx2; injection hv4 with hv4; injection hv4 with hv4 hx3 hx4; clear hx3 hx4; subst hv4
          have r2 := hcell4 (atN ss q') (by rw [ci_len, ni_len, hli.out.len]; exact hsn)
          rw [ci_at (by rw [ni_len, hli.out.len]; exact hsn), ni_at (by rw [hli.out.len]; exact hsn)] at r2
          have hat := hli.out.at_ q' hqs
          have hlm := lenM_le (ms.take k) q'
          rw [List.length_take] at hlm
          have hct := hli.out.count HND.out hqs (fun s hs => by rw [← HNL.out]; exact HLT.out s hs)
          have HOP := Lib.hid (hs1'.ol.put (atN ss q'))
          have HSS1 := Lib.hid hs1'; have HCT := Lib.hid hct
          have hfro5 := hfro4 (atN ss q')
          rw [if_neg (Nat.lt_irrefl _), Nat.add_zero] at hat
          obtain ⟨s, hs⟩ : ∃ s, atN ss q' = s := ⟨_, rfl⟩
          rw [hs] at r1 r2 hsn hat HCT HOP hfro5
          obtain ⟨y, hy⟩ : ∃ y, atN R' s = y := ⟨_, rfl⟩
          rw [hy] at r2 hat HCT
          have hyk : y ≤ 24 := by omega
          have hw1 : IntKind.i64.wrap ((y : Nat) : Int) = (y : Nat) := by rw [IntKind.wrap_i64]; omega
          have hw2 : IntKind.i64.wrap ((y : Int) + 1) = ((y + 1 : Nat) : Int) := by rw [IntKind.wrap_i64]; omega
          clear hs1' hnew1 hcell4 hct hs hy hat f1 f3
          gi_wp2
          have hgw2 := hgw1
          have HVU2 := HVU
          gi_region_with (fail)
          all_goals gi_wp2
          all_goals exact ⟨⟨i + 1, q' + 1, R'.set s (y + 1), by omega, by simp, by simp, Lib.hid HCNT.out.symm, HCT, Lib.hid (HSS1.out.drew.count (by omega) (by omega) HVU2.out s (y + 1)), (show Kp2 gB gA W wr1.drew from hk1').set (by omega) (by omega) _, (hkf1.trans ((⟨Nat.le_refl _, fun _ _ h _ => h⟩ : KeepsOthers wr1 wr1.drew).from _)).trans ((KeepsOthers.setCell _ _ _).from _), by simp; omega⟩, by simp [intOf]; omega⟩
      · have hite : i = t := by omega
        have hq2 : q' = coinsIn cc q t := by rw [hq'.out, hite]; rfl
        have hkl : k < ms.length := by rw [← HMS.out, msE_is, List.length_map, List.length_range]; omega
        have HLO : Hid (ms[k] = q') := Lib.hid (HMK.out.trans hq2.symm)
        have f2 := blk1 hs'.out.bt
        have hqle : q' ≤ t := by rw [hq2]; exact hcoin.2
        obtain ⟨d, hd⟩ : ∃ d : Nat, (t : Int) - (q' : Int) = (d : Nat) := ⟨t - q', by omega⟩
        have hd3 : d ≤ 4096 := by omega
        have hd2 : IntKind.i64.wrap ((2 : Int) * (d : Nat)) = ((2 * d : Nat) : Int) := by rw [IntKind.wrap_i64]; omega
        have HLI := hli; have HS := hs'; have HQ2 := Lib.hid hq2
        clear hq' HMK hq2
        gi_wp2
        have htot := HS.out.total (by omega) (by omega) HVU.out (2 * d)
        refine ⟨hkf.trans ((KeepsOthers.setCell _ _ _).from _), hk2.set (by omega) (by omega) _, R', 2 * d, htot, HLI.out.out hkl HLO.out, ?_, by simp; omega⟩
        show 2 * d = 2 * (takE cc (L - 1) K0 k - coinsIn cc (L - 1 - k) (takE cc (L - 1) K0 k))
        rw [HQ.out, ← HT.out, ← HQ2.out]
        omega
  case done =>
    intro D W hD hI hK
    obtain ⟨R, t, hst, hla, ht, hsz⟩ := hI
    have hlen : ms.length = L := by rw [← HMS.out, msE_is, List.length_map, List.length_range]; omega
    have hmsE : ms = msE (coinsF (atN fs) ss) (L - 1) (2 * ss.length - 2) := by rw [← HMS.out, HCC.out, HUL.out, HK0.out]
    have hR : R = lensN fs ss L := LenAt.done (ms := ms) (k := L) (by rw [HNL.out]; exact hla) hlen hmsE HND.out (by rw [HUL.out]; exact hu2) hL1 (by rw [HUL.out, HP2.out]; exact hu)
    clear hlen hmsE
    subst hR
    have e1 := (blk1 hst.bl).1
    have HOL := Lib.hid hst.ol; have HBE := Lib.hid hst.be
    clear hst hla ht
    go_wp2
    refine ⟨by simp, .inl ⟨_, _, rfl, run_takeDeferred hK, ?_⟩⟩
    refine ⟨_, results_tmp2 rfl _ _ _, ?_⟩
    rw [HS0.out]
    exact ⟨_, rfl, row_from (grownBy_putObj' W D _) (fun r e => by cases e; exact ⟨_, hK, rfl⟩) (HOL.out.mono (by omega)), HBE.out.trans (belowK_b (w := w) (by omega) W D _ _ (by omega) hK rfl rfl)⟩
end Go.Proofs.Ythecibabpcfoaaa
