/- parts: the best K of a part; the best plan. -/
import Derived.Test.YtohbpjehphmedaaParV
import Derived.Test.YtohbpjehphmedaaParH
namespace Go.Proofs.Ytohbpjehphmedaa
open Go.RowKit
set_option maxRecDepth 100000
set_option maxHeartbeats 1600000

theorem bestK_any (v : Value) (l : List Int) (w : World) (B : Nat) (hS : Sli w B v (ci l)) (hn : l.length ≤ 1099511627776) :
    Calls Try.prog 62 #[v] w fun e w' => e = .returned (.int .i64 (bestK l)) ∧ w = w' := by
  have hb := best_any v l w B hS hn
  have hr := partCost_any 31 v l w B hS hn
  have hc := partCost_any (bestN l : Nat) v l w B hS hn
  have hb25 := bestN_le25 l
  have h1 : partCost 31 l = rawCost l := by unfold partCost; rw [if_pos rfl]
  have h2 : partCost ((bestN l : Nat) : Int) l = sumI ((bestN l : Nat) : Int) l := by unfold partCost; rw [if_neg (by omega)]
  have hl1 := partCost_le 31 l
  have hl2 := partCost_le (bestN l : Nat) l
  rw [h1] at hr hl1
  rw [h2] at hc hl2
  have hbk : bestK l = if rawCost l < sumI ((bestN l : Nat) : Int) l then (31 : Int) else ((bestN l : Nat) : Int) := rfl
  rw [hbk]
  obtain ⟨A, c, rfl, hlc, hcm⟩ := hS.formI
  generalize sumI ((bestN l : Nat) : Int) l = s at *
  generalize bestN l = b at *
  generalize rawCost l = r at *
  have HB := Lib.hid hb; have HR := Lib.hid hr; have HC := Lib.hid hc
  clear hb hr hc h1 h2 hbk hS
  by_cases hlt : r < s
  · rw [if_pos hlt]
    go_enter Try.func62, Try.ntmps62
    go_wp2_with fail
    refine HB.out.mono ?_
    rintro e w1 ⟨rfl, rfl⟩
    go_wp2_with fail
    refine HR.out.mono ?_
    rintro e w1 ⟨rfl, rfl⟩
    go_wp2_with fail
    refine HC.out.mono ?_
    rintro e w1 ⟨rfl, rfl⟩
    go_wp2
    go_ret
    exact ⟨rfl, rfl⟩
  · rw [if_neg hlt]
    go_enter Try.func62, Try.ntmps62
    go_wp2_with fail
    refine HB.out.mono ?_
    rintro e w1 ⟨rfl, rfl⟩
    go_wp2_with fail
    refine HR.out.mono ?_
    rintro e w1 ⟨rfl, rfl⟩
    go_wp2_with fail
    refine HC.out.mono ?_
    rintro e w1 ⟨rfl, rfl⟩
    go_wp2
    go_ret
    exact ⟨rfl, rfl⟩
theorem qbestK_any (v : Value) (l : List Int) (w : World) (B : Nat) (hS : Sli w B v (ci l)) (hn : l.length ≤ 1099511627776) :
    Calls Try.prog 63 #[v] w fun e w' => e = .returned (.int .i64 (bestK l)) ∧ w = w' := by
  have hb := qbest_any v l w B hS hn
  have hr := qpartCost_any 31 v l w B hS hn
  have hc := qsum_any (bestN l : Nat) v l w B hS hn
  have hb25 := bestN_le25 l
  have h1 : partCost 31 l = rawCost l := by unfold partCost; rw [if_pos rfl]
  have hl1 := partCost_le 31 l
  have hl2 := sumI_le (bestN l : Nat) l
  rw [h1] at hr hl1
  have hbk : bestK l = if rawCost l < sumI ((bestN l : Nat) : Int) l then (31 : Int) else ((bestN l : Nat) : Int) := rfl
  rw [hbk]
  obtain ⟨A, c, rfl, hlc, hcm⟩ := hS.formI
  generalize sumI ((bestN l : Nat) : Int) l = s at *
  generalize bestN l = b at *
  generalize rawCost l = r at *
  have HB := Lib.hid hb; have HR := Lib.hid hr; have HC := Lib.hid hc
  clear hb hr hc h1 hbk hS
  by_cases hlt : r < s
  · rw [if_pos hlt]
    go_enter Try.func63, Try.ntmps63
    go_wp2_with fail
    refine HB.out.mono ?_
    rintro e w1 ⟨rfl, rfl⟩
    go_wp2_with fail
    refine HR.out.mono ?_
    rintro e w1 ⟨rfl, rfl⟩
    go_wp2_with fail
    refine HC.out.mono ?_
    rintro e w1 ⟨rfl, rfl⟩
    go_wp2
    go_ret
    exact ⟨rfl, rfl⟩
  · rw [if_neg hlt]
    go_enter Try.func63, Try.ntmps63
    go_wp2_with fail
    refine HB.out.mono ?_
    rintro e w1 ⟨rfl, rfl⟩
    go_wp2_with fail
    refine HR.out.mono ?_
    rintro e w1 ⟨rfl, rfl⟩
    go_wp2_with fail
    refine HC.out.mono ?_
    rintro e w1 ⟨rfl, rfl⟩
    go_wp2
    go_ret
    exact ⟨rfl, rfl⟩

/-- The best plan so far, a plan that grows, a result's block. -/
structure Besting (w0 w : World) (R Q P : Nat) (ob o : Int) (bv pv : Value) (bks pks : List Int) : Prop where
  bown : Own w w0.heap.size 3 bv (ci bks)
  pown : Own w w0.heap.size 3 pv (ci pks)
  ap : Apart pv bv
  best : w.heap[Q]? = some (.cells #[.int .i64 ob, bv] 24 (0, 0))
  box : w.heap[P]? = some (.cells #[.int .i64 o, pv] 24 (0, 0))
  res : w.heap[R]? = some (.cells #[.int .i64 0, .slice none 0 0] 24 (0, 0))
  be : Below w0.heap.size w0 w
  pr : P ≠ R
  pq : P ≠ Q
  qr : Q ≠ R
  p0 : w0.heap.size ≤ P
  q0 : w0.heap.size ≤ Q
  r0 : w0.heap.size ≤ R
theorem mov_below {w0 w w' : World} {v v' : Value} (h : Below w0.heap.size w0 w) (hm : ∀ g, Mov w w' g v v') (hv : ∀ k, v.ownBlock = some k → w0.heap.size ≤ k) : Below w0.heap.size w0 w' :=
  h.trans ((hm w0.heap.size).below (Nat.le_refl _) hv h.size)
/-- 'p.Ks = append(p.Ks, k)'. -/
theorem Besting.push {w0 w w' : World} {R Q P : Nat} {ob o k : Int} {bv pv pv' : Value} {bks pks : List Int} (h : Besting w0 w R Q P ob o bv pv bks pks) (ho : Own w' w0.heap.size 3 pv' (ci pks ++ [.int .i64 k])) (hm : ∀ g, Mov w w' g pv pv') : Besting w0 (w'.setCell ⟨P, 1, none⟩ pv') R Q P ob o bv pv' bks (pks ++ [k]) := by
  have hP := (Array.getElem?_eq_some_iff.1 h.box).1
  have hQ := (Array.getElem?_eq_some_iff.1 h.best).1
  have hR := (Array.getElem?_eq_some_iff.1 h.res).1
  have hbox' : w'.heap[P]? = some (.cells #[.int .i64 o, pv] 24 (0, 0)) := ((hm (P + 1)).block P hP (by omega) (h.pown.ne h.box (by decide))).trans h.box
  have hbest' : w'.heap[Q]? = some (.cells #[.int .i64 ob, bv] 24 (0, 0)) := ((hm (Q + 1)).block Q hQ (by omega) (h.pown.ne h.best (by decide))).trans h.best
  have hres' : w'.heap[R]? = some (.cells #[.int .i64 0, .slice none 0 0] 24 (0, 0)) := ((hm (R + 1)).block R hR (by omega) (h.pown.ne h.res (by decide))).trans h.res
  have hb' := h.bown.moved (hm P) h.box (by decide) h.ap
  have hset := grown_set w' P 1 pv'
  refine ⟨hb'.far hbox' (by decide) hset, by rw [ci_app]; exact ho.far hbox' (by decide) hset, (hm P).apart h.ap fun k hk => (h.bown.lt k hk).2, (hset.block Q (Array.getElem?_eq_some_iff.1 hbest').1 (by simp; exact fun e => h.pq e.symm)).trans hbest', heap_setCell_same w' P 1 _ _ _ hbox', (hset.block R (Array.getElem?_eq_some_iff.1 hres').1 (by simp; exact fun e => h.pr e.symm)).trans hres', ?_, h.pr, h.pq, h.qr, h.p0, h.q0, h.r0⟩
  have hbe := mov_below h.be hm fun k hk => (h.pown.lt k hk).1
  exact hbe.trans (below_of_only hset h.p0 hbe.size)
theorem Besting.boxP {w0 w w' : World} {R Q P : Nat} {ob o : Int} {bv pv pv' : Value} {bks pks : List Int} (h : Besting w0 w R Q P ob o bv pv bks pks) (hm : ∀ g, Mov w w' g pv pv') : w'.heap[P]? = some (.cells #[.int .i64 o, pv] 24 (0, 0)) :=
  ((hm (P + 1)).block P (Array.getElem?_eq_some_iff.1 h.box).1 (by omega) (h.pown.ne h.box (by decide))).trans h.box
/-- Another row, of another type, where p.Ks grows and is stored. -/
theorem Besting.rest {w0 w w' : World} {R Q P base : Nat} {ob o : Int} {bv pv pv' u : Value} {bks pks : List Int} {xs : List Value} (h : Besting w0 w R Q P ob o bv pv bks pks) (hm : ∀ g, Mov w w' g pv pv') (hu : Own w base 22 u xs) : Own (w'.setCell ⟨P, 1, none⟩ pv') base 22 u xs :=
  (hu.moved (hm P) h.box (by decide) (apart_types h.pown hu (by decide))).far (h.boxP hm) (by decide) (grown_set w' P 1 pv')
end Go.Proofs.Ytohbpjehphmedaa
