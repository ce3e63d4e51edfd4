/- parts: the laws PartsTells, PartsSizes, PartsOne. -/
import Derived.Test.YtohbpjehphmedaaParZ
import Derived.Test.YtohbpjehphmedaaParE
import Derived.Deep.RegionHeld3
namespace Go.Proofs.Ytohbpjehphmedaa
open Go.RowKit
set_option maxRecDepth 100000
set_option maxHeartbeats 3200000

theorem sizesI_le {o n warm : Int} : (sizesI o n warm).length ≤ 256 := by
  rw [sizesI_len]
  by_cases h : planB o n warm = true
  · rw [sizesN_len h]; exact (two_256 h).2
  · rw [sizesN_nil.2 (Bool.eq_false_iff.2 h)]; simp
/-- A law's plan in its block, its rows below. -/
structure Held (w0 w : World) (po : Int) (pv va : Value) (p l : List Int) : Prop where
  be : Below w0.heap.size w0 w
  k : Sli w w0.heap.size pv (ci p)
  s : Sli w w0.heap.size va (ci l)
  box : w.heap[w0.heap.size]? = some (.cells #[.int .i64 po, pv] 24 (0, 0))
theorem Held.on {w0 w w' : World} {po : Int} {pv va : Value} {p l : List Int} (h : Held w0 w po pv va p l) (hb : Below w.heap.size w w') : Held w0 w' po pv va p l :=
  ⟨bthen h.be hb h.be.size, h.k.below (hb.mono h.be.size), h.s.below (hb.mono h.be.size), (hb.block _ (Array.getElem?_eq_some_iff.1 h.box).1).trans h.box⟩
theorem Held.drewN {w0 w : World} {po : Int} {pv va : Value} {p l : List Int} (h : Held w0 w po pv va p l) (n : Nat) : Held w0 (w.drewN n) po pv va p l := ⟨below_drewN h.be n, h.k, h.s, h.box⟩
theorem Held.drew {w0 w : World} {po : Int} {pv va : Value} {p l : List Int} (h : Held w0 w po pv va p l) : Held w0 w.drew po pv va p l := ⟨h.be.drew, h.k, h.s, h.box⟩
theorem Held.c0 {w0 w : World} {po : Int} {pv va : Value} {p l : List Int} (h : Held w0 w po pv va p l) : w.cell? ⟨w0.heap.size, 0, none⟩ = some (.int .i64 po) := (blk2 h.box).1
theorem Held.c1 {w0 w : World} {po : Int} {pv va : Value} {p l : List Int} (h : Held w0 w po pv va p l) : w.cell? ⟨w0.heap.size, 1, none⟩ = some pv := (blk2 h.box).2.1
theorem Held.start {w : World} {po : Int} {pv va : Value} {p l : List Int} (hK : Sli w w.heap.size pv (ci p)) (hS : Sli w w.heap.size va (ci l)) : Held w (w.alloc (.cells #[.int .i64 po, pv] 24)) po pv va p l :=
  ⟨below_box _ _ _ _, hK.below (below_box _ _ _ _), hS.below (below_box _ _ _ _), box_new _ _ _ _⟩
theorem partsTells_walk (order n warm po : Int) (pv : Value) (p : List Int) (va : Value) (l : List Int) (w : World) (hK : Sli w w.heap.size pv (ci p)) (hS : Sli w w.heap.size va (ci l)) (_ : -9223372036854775808 ≤ order) (_ : order ≤ 9223372036854775807) (_ : -9223372036854775808 ≤ po) (_ : po ≤ 9223372036854775807) :
    Calls Try.prog 3 #[.int .i64 order, .int .i64 n, .int .i64 warm, .agg #[.int .i64 po, pv], va] w fun e w' => e = .returned (.bool true) ∧ Below w.heap.size w w' := by
  obtain ⟨A1, c1, rfl, hlc1, hcm1⟩ := hK.formI
  obtain ⟨A2, c2, rfl, hlc2, hcm2⟩ := hS.formI
  have hH0 := Held.start (po := po) hK hS
  obtain ⟨wA, hwA⟩ : ∃ wA, w.alloc (.cells #[.int .i64 po, .slice A1 p.length c1] 24) = wA := ⟨_, rfl⟩
  have HWA := Lib.hid hwA
  rw [hwA] at hH0
  clear hwA
  have hsm := fun (w1 : World) (h1 : Sli w1 w.heap.size (.slice A1 p.length c1) (ci p)) (h2 : Sli w1 w.heap.size (.slice A2 l.length c2) (ci l)) => small_any po _ _ p l w1 _ _ h1 h2
  by_cases hs : p.length ≤ 300 ∧ l.length ≤ 400
  · obtain ⟨hs1, hs2⟩ := hs
    rw [decide_eq_true hs1, decide_eq_true hs2, Bool.and_self] at hsm
    have h1 := fun w1 => sizes_any order n warm w1 (by omega) (by omega)
    have h2 := fun w1 => qsizes_any order n warm w1 (by omega) (by omega)
    have hle40 : (sizesI order n warm).length ≤ 1099511627776 := Nat.le_trans sizesI_le (by omega)
    rw [show SizesP order n warm = fun w e w' => ∃ v', e = .returned v' ∧ Own w' w.heap.size 3 v' (ci (sizesI order n warm)) ∧ Below w.heap.size w w' from rfl] at h1 h2
    have h3 := fun (w1 : World) (h1 : Sli w1 w.heap.size (.slice A1 p.length c1) (ci p)) (hB : w.heap.size ≤ w1.heap.size) => may_any po _ p n warm w1 _ h1 hB (by omega) (by omega) (by omega)
    have h4 := fun (w1 : World) (h1 : Sli w1 w.heap.size (.slice A1 p.length c1) (ci p)) (hB : w.heap.size ≤ w1.heap.size) => qmay_any po _ p n warm w1 _ h1 hB (by omega) (by omega) (by omega)
    have h5 := fun (w1 : World) (h1 : Sli w1 w.heap.size (.slice A1 p.length c1) (ci p)) (h2 : Sli w1 w.heap.size (.slice A2 l.length c2) (ci l)) (hB : w.heap.size ≤ w1.heap.size) => cost_any2 po _ _ p l n warm w1 _ _ h1 hB h2 hB (by omega) (by omega) (by omega) (by omega)
    have h6 := fun (w1 : World) (h1 : Sli w1 w.heap.size (.slice A1 p.length c1) (ci p)) (h2 : Sli w1 w.heap.size (.slice A2 l.length c2) (ci l)) (hB : w.heap.size ≤ w1.heap.size) => qcost_any2 po _ _ p l n warm w1 _ _ h1 hB h2 hB (by omega) (by omega) (by omega) (by omega)
    generalize sizesI order n warm = ss at *
    generalize mayB po p n warm = mb at *
    generalize costP po p n warm l = cc at *
    have H1 := Lib.hid h1; have H2 := Lib.hid h2; have H3 := Lib.hid h3; have H4 := Lib.hid h4; have H5 := Lib.hid h5; have H6 := Lib.hid h6; have HSM := Lib.hid hsm
    clear h1 h2 h3 h4 h5 h6 hsm hK hS
    cases mb
    all_goals
      go_enter Try.func3, Try.ntmps3
      go_wp2_with fail
      rw [HWA.out]
      refine (knownP_any wA).mono ?_
      rintro e w1 ⟨rfl, hb1⟩
      have hH1 := hH0.on hb1
      have x0 := hH1.c0
      have x1 := hH1.c1
      go_wp2_with fail
      refine (HSM.out w1 hH1.k hH1.s).mono ?_
      rintro e w2 ⟨rfl, hb2⟩
      have hH2 := (hH1.on hb2).drew
      clear x0 x1
      have x0 := (hH1.on hb2).c0
      have x1 := (hH1.on hb2).c1
      go_wp2
      go_region_held3 (fun w' => w'.cell? ⟨w.heap.size, 0, none⟩ = some (.int .i64 po) ∧ w'.cell? ⟨w.heap.size, 1, none⟩ = some (.slice A1 p.length c1))
        (first | go_keep | exact ⟨hH3.c0, hH3.c1⟩ | exact ⟨hH4.c0, hH4.c1⟩ | exact ⟨hH5.c0, hH5.c1⟩ | exact ⟨hH6.c0, hH6.c1⟩ | exact ⟨hH7.c0, hH7.c1⟩ | exact ⟨hH8.c0, hH8.c1⟩ | exact ⟨hH9.c0, hH9.c1⟩)
        (first
          | (go_at_call 15; refine (H1.out _).mono ?_; rintro e w3 ⟨v3, rfl, ho3, hb3⟩; have hH3 := hH2.on hb3)
          | (go_at_call 16; refine (H2.out _).mono ?_; rintro e w4 ⟨v4, rfl, ho4, hb4⟩; have hH4 := hH3.on hb4)
          | (go_at_call 14; refine (sameInts_self _ _ ss w4 _ _ (ho3.kept hb4).sli ho4.sli hle40).mono ?_; rintro e w5 ⟨rfl, q5, rfl⟩; have hH5 := hH4.drewN q5)
          | (go_at_call 17; refine (H3.out _ hH5.k hH5.be.size).mono ?_; rintro e w6 ⟨rfl, hb6⟩; have hH6 := hH5.on hb6)
          | (go_at_call 18; refine (H4.out _ hH6.k hH6.be.size).mono ?_; rintro e w7 ⟨rfl, hb7⟩; have hH7 := hH6.on hb7)
          | (go_at_call 19; refine (H5.out _ hH7.k hH7.s hH7.be.size).mono ?_; rintro e w8 ⟨rfl, hb8⟩; have hH8 := hH7.on hb8)
          | (go_at_call 20; refine (H6.out _ hH8.k hH8.s hH8.be.size).mono ?_; rintro e w9 ⟨rfl, hb9⟩; have hH9 := hH8.on hb9))
      all_goals
        go_wp2
        go_ret
        exact ⟨rfl, hH9.be⟩
  · have hz : (decide (p.length ≤ 300) && decide (l.length ≤ 400)) = false := by
      by_cases h1 : p.length ≤ 300
      · rw [decide_eq_false (p := l.length ≤ 400) (by omega), Bool.and_false]
      · rw [decide_eq_false h1, Bool.false_and]
    rw [hz] at hsm
    have HSM := Lib.hid hsm
    clear hsm hz hs hK hS
    go_enter Try.func3, Try.ntmps3
    go_wp2_with fail
    rw [HWA.out]
    refine (knownP_any wA).mono ?_
    rintro e w1 ⟨rfl, hb1⟩
    have hH1 := hH0.on hb1
    have x0 := hH1.c0
    have x1 := hH1.c1
    go_wp2_with fail
    refine (HSM.out w1 hH1.k hH1.s).mono ?_
    rintro e w2 ⟨rfl, hb2⟩
    go_wp2
    go_ret
    exact ⟨rfl, (hH1.on hb2).be⟩

theorem partsOne_cost {k : Int} {l : List Int} (h1 : 1 ≤ l.length) (h2 : l.length ≤ 4096) (hk0 : 0 ≤ k) (hk : k ≤ 25) (hw : l.all wideB = true) : costP 0 [k] l.length 0 l = 9 + sumI k l := by
  have hrow : rowB (l.length : Int) 0 = true := by rw [rowB_iff]; omega
  have hm : mayB 0 [k] (l.length : Int) 0 = true := by
    rw [mayB_iff]
    refine ⟨plan0 hrow, rfl, ?_⟩
    simp only [List.all_cons, List.all_nil, Bool.and_true]
    rw [kB_iff]; omega
  have hr : rowOkB (l.length : Int) 0 l = true := by rw [rowOkB, hw, Bool.and_true, decide_eq_true_iff]; omega
  have hs : sizesN 0 (l.length : Int) 0 = [l.length] := by
    unfold sizesN
    rw [if_pos (plan0 hrow)]
    simp [sizesQ]
  rw [costP_yes hm hr, hs, cuts, cuts, List.take_of_length_le (Nat.le_refl _)]
  simp only [planCost]
  unfold partCost
  rw [if_neg (by omega)]
  omega
theorem partsOne_walk (k : Int) (va : Value) (l : List Int) (w : World) (hA : Sli w w.heap.size va (ci l)) (_ : -9223372036854775808 ≤ k) (_ : k ≤ 9223372036854775807) :
    Calls Try.prog 10 #[.int .i64 k, va] w fun e w' => e = .returned (.bool true) ∧ Below w.heap.size w w' := by
  obtain ⟨A1, c1, rfl, hlc1, hcm1⟩ := hA.formI
  have hlm : l.length ≤ 9223372036854775807 := by unfold maxLen at hcm1; omega
  by_cases hok : 1 ≤ l.length ∧ l.length ≤ 200 ∧ 0 ≤ k ∧ k ≤ 25
  · obtain ⟨h1, h200, hk0, hk25⟩ := hok
    have h0 := fun w1 (hb : Below w.heap.size w w1) => allWide_any _ l w1 _ (hA.below hb) (by omega)
    have hl0 : ((l.length : Int) == 0) = false := by simp only [beq_eq_false_iff_ne, ne_eq]; omega
    cases hall : l.all wideB
    · rw [hall] at h0
      have H0 := Lib.hid h0
      clear h0 hA hall
      go_enter Try.func10, Try.ntmps10
      go_wp2_with (first
        | (go_at_call 12; refine (knownP_any w).mono ?_; rintro e w1 ⟨rfl, hb1⟩)
        | (go_at_call 38; refine (H0.out _ hb1).mono ?_; rintro e w2 ⟨rfl, rfl⟩))
      go_ret
      exact ⟨rfl, hb1⟩
    · rw [hall] at h0
      have hc := partsOne_cost h1 (by omega) hk0 hk25 hall
      have hsl := sumI_le k l
      have h7 := fun w1 (hb : Below w.heap.size w w1) => sum_any k _ l w1 _ (hA.below hb) (by omega)
      have hco := fun (w1 : World) (vk : Value) (B : Nat) (hK : Sli w1 B vk (ci [k])) (hB : B ≤ w1.heap.size) (hb : Below w.heap.size w w1) => cost_any2 0 vk _ [k] l l.length 0 w1 B w.heap.size hK hB (hA.below hb) hb.size (by simp) (by omega) (by omega) (by omega)
      rw [hc] at hco
      generalize sumI k l = s at *
      have H0 := Lib.hid h0; have H7 := Lib.hid h7; have HCO := Lib.hid hco
      clear h0 hA hall hc h7 hco
      go_enter Try.func10, Try.ntmps10
      go_wp2_with fail
      refine (knownP_any w).mono ?_
      rintro e w1 ⟨rfl, hb1⟩
      go_wp2_with fail
      refine (H0.out _ hb1).mono ?_
      rintro e w2 ⟨rfl, rfl⟩
      go_wp2_with fail
      have hbl := (Below.refl w1.heap.size w1).alloc (o := .cells #[.int .i64 k] 3) (Nat.le_refl _)
      have hb2 := bthen hb1 hbl hb1.size
      refine (HCO.out _ _ _ (Sli.lit w1 #[.int .i64 k] 3 1 rfl (by simp [maxLen])) (by simp) hb2).mono ?_
      rintro e w3 ⟨rfl, hb3⟩
      have hb03 := bthen hb2 hb3 hb2.size
      go_wp2_with fail
      refine (H7.out _ hb03).mono ?_
      rintro e w4 ⟨rfl, rfl⟩
      go_wp2
      go_ret
      exact ⟨rfl, hb03⟩
  · have hor : 200 < l.length ∨ (l.length ≤ 200 ∧ l.length = 0) ∨ (l.length ≤ 200 ∧ 1 ≤ l.length ∧ k < 0) ∨ (l.length ≤ 200 ∧ 1 ≤ l.length ∧ 0 ≤ k ∧ 25 < k) := by omega
    clear hok hA
    generalize l.length = m at *
    rcases hor with h | ⟨h, h'⟩ | ⟨h, h', h''⟩ | ⟨h, h', h'', h3⟩
    · go_enter Try.func10, Try.ntmps10
      go_wp2_with (go_at_call 12; refine (knownP_any w).mono ?_; rintro e w1 ⟨rfl, hb1⟩)
      go_ret
      exact ⟨rfl, hb1⟩
    · subst h'
      go_enter Try.func10, Try.ntmps10
      go_wp2_with (go_at_call 12; refine (knownP_any w).mono ?_; rintro e w1 ⟨rfl, hb1⟩)
      go_ret
      exact ⟨rfl, hb1⟩
    all_goals
      have hl0 : ((m : Int) == 0) = false := by simp only [beq_eq_false_iff_ne, ne_eq]; omega
      go_enter Try.func10, Try.ntmps10
      go_wp2_with (go_at_call 12; refine (knownP_any w).mono ?_; rintro e w1 ⟨rfl, hb1⟩)
      go_ret
      exact ⟨rfl, hb1⟩
theorem sizes_elem {o n warm : Int} {P q W : Nat} (hs : sizesI o n warm = ((q : Int) - (W : Int)) :: List.replicate (P - 1) (q : Int)) {i : Nat} (hi : i < (sizesI o n warm).length) (h0 : 0 < i) : (sizesI o n warm)[i] = (q : Int) := by
  obtain ⟨j, rfl⟩ : ∃ j, i = j + 1 := ⟨i - 1, by omega⟩
  simp [hs]
theorem sizes_first {o n warm : Int} {P q W : Nat} (hs : sizesI o n warm = ((q : Int) - (W : Int)) :: List.replicate (P - 1) (q : Int)) (hi : 0 < (sizesI o n warm).length) : (sizesI o n warm)[0] = (q : Int) - (W : Int) := by
  simp [hs]
theorem partsSizes_walk (order n warm : Int) (w : World) (_ : -9223372036854775808 ≤ order) (_ : order ≤ 9223372036854775807) (_ : -9223372036854775808 ≤ n) (_ : n ≤ 9223372036854775807) (_ : -9223372036854775808 ≤ warm) (_ : warm ≤ 9223372036854775807) :
    Calls Try.prog 9 #[.int .i64 order, .int .i64 n, .int .i64 warm] w fun e w' => e = .returned (.bool true) ∧ Below w.heap.size w w' := by
  have h1 := fun w1 => sizes_any order n warm w1 (by omega) (by omega)
  by_cases hp : planB order n warm = true
  · obtain ⟨hrow, ho0, ho8, _⟩ := planB_iff.1 hp
    have hsum := sizesN_sum hp
    have hlen := sizesN_len hp
    obtain ⟨p, P, q, r, N, W, rfl, rfl, rfl, hp8, hP, hP1, hP2, hN1, hN2, hWN, hq, hrr, hq2, hPI, hqI, hrI, hpl⟩ := plan_cases (o := order) hrow (by omega) (by omega)
    obtain ⟨hr0, hWq⟩ := hpl.1 hp
    have hyes := sizesI_yes rfl rfl rfl hP hq hWq hp
    rw [Int.toNat_natCast, hP] at hlen
    have hilen : (sizesI (p : Int) (N : Int) (W : Int)).length = P := by rw [sizesI_len, hlen]
    have helem := fun i (hi : i < (sizesI (p : Int) (N : Int) (W : Int)).length) (h0 : 0 < i) => sizes_elem hyes hi h0
    have hfirst := fun (hi : 0 < (sizesI (p : Int) (N : Int) (W : Int)).length) => sizes_first hyes hi
    rw [show SizesP (p : Int) (N : Int) (W : Int) = fun w e w' => ∃ v', e = .returned v' ∧ Own w' w.heap.size 3 v' (ci (sizesI (p : Int) (N : Int) (W : Int))) ∧ Below w.heap.size w w' from rfl] at h1
    rw [show sizesI (p : Int) (N : Int) (W : Int) = ints (sizesN (p : Int) (N : Int) (W : Int)) from rfl] at *
    generalize sizesN (p : Int) (N : Int) (W : Int) = ss at *
    have hup : IntKind.u64.wrap ((p : Nat) : Int) = (p : Nat) := IntWalk.u64_in _ (by omega)
    have hm0 : ((P : Int) == 0) = false := by simp only [beq_eq_false_iff_ne, ne_eq]; omega
    have hNW : (N : Int) - (W : Int) = ((ss.sum : Nat) : Int) := hsum.symm
    have hs46 : ss.sum ≤ 4096 := by omega
    have H1 := Lib.hid h1; have HEL := Lib.hid helem; have HFI := Lib.hid hfirst; have HLEN := Lib.hid hlen; have HSUM := Lib.hid hNW
    clear h1 helem hfirst hlen hsum hp hpl hyes hrow hilen hP hq hrr hr0 hNW
    go_enter Try.func9, Try.ntmps9
    go_wp2_with fail
    refine (knownP_any w).mono ?_
    rintro e w1 ⟨rfl, hb1⟩
    go_wp2_with fail
    refine (H1.out _).mono ?_
    rintro e w2 ⟨v2, rfl, ho2, hb2⟩
    obtain ⟨A2, c2, rfl, _, _⟩ := ho2.formI
    have hb02 := bthen hb1 hb2 hb1.size
    rw [ints_len, HLEN.out] at ho2 ⊢
    obtain ⟨b0, o0, hA0, hbB0, hcell0⟩ := ho2.sli.atI (l := ints ss) (i := 0) (by rw [ints_len, HLEN.out]; omega)
    subst hA0
    obtain ⟨t0, ht0⟩ : ∃ t0 : Nat, (q : Int) - (W : Int) = (t0 : Nat) := ⟨q - W, by omega⟩
    rw [HFI.out (by rw [ints_len, HLEN.out]; omega), ht0, Nat.add_zero] at hcell0
    have hadd : IntKind.i64.wrap ((t0 : Int) + (W : Int)) = (q : Int) := by rw [show (t0 : Int) + (W : Int) = (q : Int) by omega]; exact IntWalk.i64_in _ (by omega)
    have HT0 := Lib.hid ht0
    clear ht0
    go_wp2
    go_loopw [8, 9] (fun s ii wr => ∃ i : Nat, i ≤ P ∧ ii = .int .i64 i ∧ s = .int .i64 ((ss.take i).sum : Nat) ∧ Hid (∃ q, wr = w2.drewN q) ∧ (∀ p, wr.cell? p = w2.cell? p)) (fun _ ii _ => P - (intOf ii).toNat)
    case atStart => exact ⟨0, by omega, rfl, by simp, ⟨0, rfl⟩, fun _ => rfl⟩
    case round =>
      obtain ⟨i, hi, rfl, rfl, hqq, hce⟩ := hrel
      by_cases him : i < P
      · have hil : i < ss.length := by rw [HLEN.out]; exact him
        obtain ⟨b1, o1, hA1, hbB1, hcell1⟩ := ho2.sli.atI (l := ints ss) (i := i) (by rw [ints_len]; exact hil)
        injection hA1 with hA1; injection hA1 with e1 e2
        subst e1; subst e2
        have hst := sum_take ss i hil
        have hsle := sum_take_le ss (i + 1)
        rw [hst] at hsle
        rw [← hce] at hcell1 hcell0
        have hiI : (i : Int) < (P : Int) := by omega
        have h0P : (0 : Int) < (P : Int) := by omega
        have HCE := Lib.hid hce; have HST := Lib.hid hst
        have hqv := fun h0 => HEL.out i (by rw [ints_len]; exact hil) h0
        rw [ints_at hil] at hcell1 hqv
        generalize ss[i] = t at *
        generalize (ss.take i).sum = s at *
        by_cases hi0 : 0 < i
        · have htq := hqv hi0
          rw [htq] at hcell1
          have hsle2 : s + q ≤ 4096 := by omega
          have hg : decide ((0 : Int) < (i : Int)) = true := by rw [decide_eq_true_iff]; omega
          have HTQ := Lib.hid htq
          clear hce hst hqv hil htq hsle
          go_wp2
          go_quiet (fail)
          go_wp2
          exact ⟨⟨i + 1, by omega, by simp, by rw [HST.out]; have := HTQ.out; simp; omega, by obtain ⟨q, h⟩ := hqq.out; exact ⟨q + nq, by rw [h, World.drewN_drewN]⟩, HCE.out⟩, by simp [intOf]; omega⟩
        · have hg : decide ((0 : Int) < (i : Int)) = false := by rw [decide_eq_false_iff_not]; omega
          have hsle2 : s + t ≤ 4096 := by omega
          clear hce hst hqv hil hcell0 hsle
          go_wp2
          go_quiet (fail)
          go_wp2
          exact ⟨⟨i + 1, by omega, by simp, by rw [HST.out]; simp, by obtain ⟨q, h⟩ := hqq.out; exact ⟨q + nq, by rw [h, World.drewN_drewN]⟩, HCE.out⟩, by simp [intOf]; omega⟩
      · have hiP : ss.take i = ss := by rw [show i = ss.length by rw [HLEN.out]; omega, List.take_length]
        rw [hiP]
        have hbw : Below w.heap.size w wr := by obtain ⟨q, rfl⟩ := hqq.out; exact below_drewN hb02 q
        have hNW := HSUM.out
        generalize ss.sum = S at *
        have hSb : ((S : Int) == (S : Int)) = true := by simp
        clear hce
        go_wp2
        go_ret
        exact ⟨rfl, hbw⟩
  · have hno := sizesI_no hp
    have H1 := Lib.hid h1; have HNO := Lib.hid hno
    have hcases : order < 0 ∨ (0 ≤ order ∧ 8 < order) ∨ (0 ≤ order ∧ order ≤ 8 ∧ n < 1) ∨ (0 ≤ order ∧ order ≤ 8 ∧ 1 ≤ n ∧ 4096 < n) ∨ (0 ≤ order ∧ order ≤ 8 ∧ 1 ≤ n ∧ n ≤ 4096 ∧ warm < 0) ∨ (0 ≤ order ∧ order ≤ 8 ∧ 1 ≤ n ∧ n ≤ 4096 ∧ 0 ≤ warm ∧ n < warm) ∨ (0 ≤ order ∧ order ≤ 8 ∧ 1 ≤ n ∧ n ≤ 4096 ∧ 0 ≤ warm ∧ warm ≤ n) := by omega
    clear h1 hno
    rcases hcases with h | ⟨h, h'⟩ | ⟨h, h', h2⟩ | ⟨h, h', h2, h3⟩ | ⟨h, h', h2, h3, h4⟩ | ⟨h, h', h2, h3, h4, h5⟩ | ⟨h, h', h2, h3, h4, h5⟩
    rotate_right
    · obtain ⟨p, P, q, r, N, W, rfl, rfl, rfl, hp8, hP, hP1, hP2, hN1, hN2, hWN, hq, hrr, hq2, hPI, hqI, hrI, hpl⟩ := plan_cases (o := order) (rowB_iff.2 ⟨h2, h3, h4, h5⟩) h h'
      have hup : IntKind.u64.wrap ((p : Nat) : Int) = (p : Nat) := IntWalk.u64_in _ (by omega)
      by_cases hr0 : r = 0
      · have hWq : ¬ W ≤ q := fun h6 => hp (hpl.2 ⟨hr0, h6⟩)
        subst hr0
        clear hpl hp hP hq hrr
        go_enter Try.func9, Try.ntmps9
        go_wp2_with fail
        refine (knownP_any w).mono ?_
        rintro e w1 ⟨rfl, hb1⟩
        go_wp2_with fail
        refine (H1.out _).mono ?_
        rintro e w2 ⟨v2, rfl, ho2, hb2⟩
        rw [HNO.out] at ho2
        obtain ⟨A2, c2, rfl, _, _⟩ := ho2.formI
        go_wp2
        go_ret
        refine ⟨?_, bthen hb1 hb2 hb1.size⟩
        show Ending.returned (.bool (_ || decide (q < W))) = _
        rw [decide_eq_true (by omega : q < W), Bool.or_true]
      · clear hpl hp hP hq hrr
        go_enter Try.func9, Try.ntmps9
        go_wp2_with fail
        refine (knownP_any w).mono ?_
        rintro e w1 ⟨rfl, hb1⟩
        go_wp2_with fail
        refine (H1.out _).mono ?_
        rintro e w2 ⟨v2, rfl, ho2, hb2⟩
        rw [HNO.out] at ho2
        obtain ⟨A2, c2, rfl, _, _⟩ := ho2.formI
        go_wp2
        go_ret
        exact ⟨rfl, bthen hb1 hb2 hb1.size⟩
    all_goals
      clear hp
      go_enter Try.func9, Try.ntmps9
      go_wp2_with fail
      refine (knownP_any w).mono ?_
      rintro e w1 ⟨rfl, hb1⟩
      go_wp2_with fail
      refine (H1.out _).mono ?_
      rintro e w2 ⟨v2, rfl, ho2, hb2⟩
      rw [HNO.out] at ho2
      obtain ⟨A2, c2, rfl, _, _⟩ := ho2.formI
      go_wp2
      go_ret
      exact ⟨rfl, bthen hb1 hb2 hb1.size⟩
end Go.Proofs.Ytohbpjehphmedaa
