/- parts: the laws PartsTells, PartsSizes, PartsOne. -/
import Derived.Test.YtohbpjehphmedaaParZ
import Derived.Test.YtohbpjehphmedaaParE
import Derived.Deep.RegionHeld3
namespace Go.Proofs.Ytohbpjehphmedaa
open Go.RowKit
set_option maxRecDepth 100000
set_option maxHeartbeats 3200000

theorem sizesI_le {o n warm : Int} : (sizesI o n warm).length ≤ 256 := by
  rw [sizesI_len]
  by_cases h : planB o n warm = true
  · rw [sizesN_len h]; exact (two_256 h).2
  · rw [sizesN_nil.2 (Bool.eq_false_iff.2 h)]; simp
/-- A law's plan in its block, its rows below. -/
structure Held (w0 w : World) (po : Int) (pv va : Value) (p l : List Int) : Prop where
  be : Below w0.heap.size w0 w
  k : Sli w w0.heap.size pv (ci p)
  s : Sli w w0.heap.size va (ci l)
  box : w.heap[w0.heap.size]? = some (.cells #[.int .i64 po, pv] 24 (0, 0))
theorem Held.on {w0 w w' : World} {po : Int} {pv va : Value} {p l : List Int} (h : Held w0 w po pv va p l) (hb : Below w.heap.size w w') : Held w0 w' po pv va p l :=
  ⟨bthen h.be hb h.be.size, h.k.below (hb.mono h.be.size), h.s.below (hb.mono h.be.size), (hb.block _ (Array.getElem?_eq_some_iff.1 h.box).1).trans h.box⟩
theorem Held.drewN {w0 w : World} {po : Int} {pv va : Value} {p l : List Int} (h : Held w0 w po pv va p l) (n : Nat) : Held w0 (w.drewN n) po pv va p l := ⟨below_drewN h.be n, h.k, h.s, h.box⟩
theorem Held.drew {w0 w : World} {po : Int} {pv va : Value} {p l : List Int} (h : Held w0 w po pv va p l) : Held w0 w.drew po pv va p l := ⟨h.be.drew, h.k, h.s, h.box⟩
theorem Held.c0 {w0 w : World} {po : Int} {pv va : Value} {p l : List Int} (h : Held w0 w po pv va p l) : w.cell? ⟨w0.heap.size, 0, none⟩ = some (.int .i64 po) := (blk2 h.box).1
theorem Held.c1 {w0 w : World} {po : Int} {pv va : Value} {p l : List Int} (h : Held w0 w po pv va p l) : w.cell? ⟨w0.heap.size, 1, none⟩ = some pv := (blk2 h.box).2.1
theorem Held.start {w : World} {po : Int} {pv va : Value} {p l : List Int} (hK : Sli w w.heap.size pv (ci p)) (hS : Sli w w.heap.size va (ci l)) : Held w (w.alloc (.cells #[.int .i64 po, pv] 24)) po pv va p l :=
  ⟨below_box _ _ _ _, hK.below (below_box _ _ _ _), hS.below (below_box _ _ _ _), box_new _ _ _ _⟩
theorem partsTells_walk (order n warm po : Int) (pv : Value) (p : List Int) (va : Value) (l : List Int) (w : World) (hK : Sli w w.heap.size pv (ci p)) (hS : Sli w w.heap.size va (ci l)) (_ : -9223372036854775808 ≤ order) (_ : order ≤ 9223372036854775807) (_ : -9223372036854775808 ≤ po) (_ : po ≤ 9223372036854775807) :
    Calls Try.prog 3 #[.int .i64 order, .int .i64 n, .int .i64 warm, .agg #[.int .i64 po, pv], va] w fun e w' => e = .returned (.bool true) ∧ Below w.heap.size w w' := by
  obtain ⟨A1, c1, rfl, hlc1, hcm1⟩ := hK.formI
  obtain ⟨A2, c2, rfl, hlc2, hcm2⟩ := hS.formI
  have hH0 := Held.start (po := po) hK hS
  obtain ⟨wA, hwA⟩ : ∃ wA, w.alloc (.cells #[.int .i64 po, .slice A1 p.length c1] 24) = wA := ⟨_, rfl⟩
  have HWA := Lib.hid hwA
  rw [hwA] at hH0
  clear hwA
  have hsm := fun (w1 : World) (h1 : Sli w1 w.heap.size (.slice A1 p.length c1) (ci p)) (h2 : Sli w1 w.heap.size (.slice A2 l.length c2) (ci l)) => small_any po _ _ p l w1 _ _ h1 h2
  by_cases hs : p.length ≤ 300 ∧ l.length ≤ 400
  · obtain ⟨hs1, hs2⟩ := hs
    rw [decide_eq_true hs1, decide_eq_true hs2, Bool.and_self] at hsm
    have h1 := fun w1 => sizes_any order n warm w1 (by omega) (by omega)
    have h2 := fun w1 => qsizes_any order n warm w1 (by omega) (by omega)
    have hle40 : (sizesI order n warm).length ≤ 1099511627776 := Nat.le_trans sizesI_le (by omega)
    rw [show SizesP order n warm = fun w e w' => ∃ v', e = .returned v' ∧ Own w' w.heap.size 3 v' (ci (sizesI order n warm)) ∧ Below w.heap.size w w' from rfl] at h1 h2
    have h3 := fun (w1 : World) (h1 : Sli w1 w.heap.size (.slice A1 p.length c1) (ci p)) (hB : w.heap.size ≤ w1.heap.size) => may_any po _ p n warm w1 _ h1 hB (by omega) (by omega) (by omega)
    have h4 := fun (w1 : World) (h1 : Sli w1 w.heap.size (.slice A1 p.length c1) (ci p)) (hB : w.heap.size ≤ w1.heap.size) => qmay_any po _ p n warm w1 _ h1 hB (by omega) (by omega) (by omega)
    have h5 := fun (w1 : World) (h1 : Sli w1 w.heap.size (.slice A1 p.length c1) (ci p)) (h2 : Sli w1 w.heap.size (.slice A2 l.length c2) (ci l)) (hB : w.heap.size ≤ w1.heap.size) => cost_any2 po _ _ p l n warm w1 _ _ h1 hB h2 hB (by omega) (by omega) (by omega) (by omega)
    have h6 := fun (w1 : World) (h1 : Sli w1 w.heap.size (.slice A1 p.length c1) (ci p)) (h2 : Sli w1 w.heap.size (.slice A2 l.length c2) (ci l)) (hB : w.heap.size ≤ w1.heap.size) => qcost_any2 po _ _ p l n warm w1 _ _ h1 hB h2 hB (by omega) (by omega) (by omega) (by omega)
    generalize sizesI order n warm = ss at *
    generalize mayB po p n warm = mb at *
    generalize costP po p n warm l = cc at *
    have H1 := Lib.hid h1; have H2 := Lib.hid h2; have H3 := Lib.hid h3; have H4 := Lib.hid h4; have H5 := Lib.hid h5; have H6 := Lib.hid h6; have HSM := Lib.hid hsm
    clear h1 h2 h3 h4 h5 h6 hsm hK hS
    cases mb
    all_goals
      go_enter Try.func3, Try.ntmps3
      go_wp2_with fail
      rw [HWA.out]
      refine (knownP_any wA).mono ?_
      rintro e w1 ⟨rfl, hb1⟩
      have hH1 := hH0.on hb1
      have x0 := hH1.c0
      have x1 := hH1.c1
      go_wp2_with fail
      refine (HSM.out w1 hH1.k hH1.s).mono ?_
      rintro e w2 ⟨rfl, hb2⟩
      have hH2 := (hH1.on hb2).drew
      clear x0 x1
      have x0 := (hH1.on hb2).c0
      have x1 := (hH1.on hb2).c1
      go_wp2
      go_region_held3 (fun w' => w'.cell? ⟨w.heap.size, 0, none⟩ = some (.int .i64 po) ∧ w'.cell? ⟨w.heap.size, 1, none⟩ = some (.slice A1 p.length c1))
        (first | go_keep | exact ⟨hH3.c0, hH3.c1⟩ | exact ⟨hH4.c0, hH4.c1⟩ | exact ⟨hH5.c0, hH5.c1⟩ | exact ⟨hH6.c0, hH6.c1⟩ | exact ⟨hH7.c0, hH7.c1⟩ | exact ⟨hH8.c0, hH8.c1⟩ | exact ⟨hH9.c0, hH9.c1⟩)
        (first
          | (go_at_call 15; refine (H1.out _).mono ?_; rintro e w3 ⟨v3, rfl, ho3, hb3⟩; have hH3 := hH2.on hb3)
          | (go_at_call 16; refine (H2.out _).mono ?_; rintro e w4 ⟨v4, rfl, ho4, hb4⟩; have hH4 := hH3.on hb4)
          | (go_at_call 14; refine (sameInts_self _ _ ss w4 _ _ (ho3.kept hb4).sli ho4.sli hle40).mono ?_; rintro e w5 ⟨rfl, q5, rfl⟩; have hH5 := hH4.drewN q5)
          | (go_at_call 17; refine (H3.out _ hH5.k hH5.be.size).mono ?_; rintro e w6 ⟨rfl, hb6⟩; have hH6 := hH5.on hb6)
          | (go_at_call 18; refine (H4.out _ hH6.k hH6.be.size).mono ?_; rintro e w7 ⟨rfl, hb7⟩; have hH7 := hH6.on hb7)
          | (go_at_call 19; refine (H5.out _ hH7.k hH7.s hH7.be.size).mono ?_; rintro e w8 ⟨rfl, hb8⟩; have hH8 := hH7.on hb8)
          | (go_at_call 20; refine (H6.out _ hH8.k hH8.s hH8.be.size).mono ?_; rintro e w9 ⟨rfl, hb9⟩; have hH9 := hH8.on hb9))
      all_goals
        go_wp2
        go_ret
        exact ⟨rfl, hH9.be⟩
  · have hz : (decide (p.length ≤ 300) && decide (l.length ≤ 400)) = false := by
      by_cases h1 : p.length ≤ 300
      · rw [decide_eq_false (p := l.length ≤ 400) (by omega), Bool.and_false]
      · rw [decide_eq_false h1, Bool.false_and]
    rw [hz] at hsm
    have HSM := Lib.hid hsm
    clear hsm hz hs hK hS
    go_enter Try.func3, Try.ntmps3
    go_wp2_with fail
    rw [HWA.out]
    refine (knownP_any wA).mono ?_
    rintro e w1 ⟨rfl, hb1⟩
    have hH1 := hH0.on hb1
    have x0 := hH1.c0
    have x1 := hH1.c1
    go_wp2_with fail
    refine (HSM.out w1 hH1.k hH1.s).mono ?_
    rintro e w2 ⟨rfl, hb2⟩
    go_wp2
    go_ret
    exact ⟨rfl, (hH1.on hb2).be⟩
end Go.Proofs.Ytohbpjehphmedaa
