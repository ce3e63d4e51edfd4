/- parts: the laws PartsPuts, PartsBack. -/
import Derived.Test.YtohbpjehphmedaaParA
import Derived.Test.YtohbpjehphmedaaParW
namespace Go.Proofs.Ytohbpjehphmedaa
open Go.RowKit
set_option maxRecDepth 100000
set_option maxHeartbeats 3200000

theorem putP_len (o : Int) (ks : List Int) (n warm : Int) (l : List Int) (L : List Bool) : (putP o ks n warm l L).1.length ≤ L.length + 70000000 := by
  unfold putP
  split
  · rename_i h
    have h1 := bitsP_len h.1 h.2
    have h2 := costP_le o ks n warm l
    simp only [List.length_append]; omega
  · simp
/-- Where an object at block g is written, whose row is fresh so far. -/
theorem Held.mov {w0 w w' : World} {po : Int} {pv va : Value} {p l : List Int} {g : Nat} {v' : Value} (h : Held w0 w po pv va p l) (hm : Mov w w' g (.slice none 0 0) v') (hg : w0.heap.size ≤ g) (hne : w0.heap.size < g) : Held w0 w' po pv va p l := by
  have hb : Below w0.heap.size w w' := hm.below hg (fun _ hk => by simp [Value.ownBlock] at hk) h.be.size
  exact ⟨h.be.trans hb, h.k.below hb, h.s.below hb, (hm.block _ (Array.getElem?_eq_some_iff.1 h.box).1 (by omega) (by simp [Value.ownBlock])).trans h.box⟩
/-- The same, where the row is known. -/
theorem Held.mov2 {w0 w w' : World} {po : Int} {pv va : Value} {p l : List Int} {g base : Nat} {v v' : Value} {L : List Bool} (h : Held w0 w po pv va p l) (hW : WrO w base g v L) (hm : Mov w w' g v v') (hg : w0.heap.size ≤ base) (hne : w0.heap.size < g) : Held w0 w' po pv va p l := by
  have hb : Below w0.heap.size w w' := hm.below (by omega) (fun k hk => Nat.le_trans hg (hW.rows k hk)) h.be.size
  have hv : v.ownBlock ≠ some w0.heap.size := by
    obtain ⟨_, _, lw, how, _⟩ := hW
    exact how.ne h.box (by decide)
  exact ⟨h.be.trans hb, h.k.below hb, h.s.below hb, (hm.block _ (Array.getElem?_eq_some_iff.1 h.box).1 (by omega) hv).trans h.box⟩
/-- Where a block behind it is written. -/
theorem Held.only {w0 w w' : World} {po : Int} {pv va : Value} {p l : List Int} {g : Nat} (h : Held w0 w po pv va p l) (hg : w.grownBy w' (some g)) (hlt : w0.heap.size < g) : Held w0 w' po pv va p l := by
  have hb : Below w0.heap.size w w' := below_of_only hg (by omega) h.be.size
  exact ⟨h.be.trans hb, h.k.below hb, h.s.below hb, (hg.block _ (Array.getElem?_eq_some_iff.1 h.box).1 (by simp; omega)).trans h.box⟩
theorem sameParts_self2 (o : Int) (v1 v2 : Value) (k : List Int) (w : World) (B1 B2 : Nat) (h1 : Sli w B1 v1 (ci k)) (h2 : Sli w B2 v2 (ci k)) (hB1 : B1 ≤ w.heap.size) (hB2 : B2 ≤ w.heap.size) (hn : k.length ≤ 1099511627776) :
    Calls Try.prog 34 #[.agg #[.int .i64 o, v1], .agg #[.int .i64 o, v2]] w fun e w' => e = .returned (.bool true) ∧ Below w.heap.size w w' :=
  (sameParts_any o o v1 v2 k k w B1 B2 h1 h2 hB1 hB2 hn hn).mono fun _ _ ⟨he, h⟩ => ⟨by rw [he, decide_eq_true rfl, decide_eq_true rfl, Bool.and_self], h⟩
theorem partsPuts_walk (po : Int) (pv : Value) (p : List Int) (n warm : Int) (va : Value) (l : List Int) (w : World) (hK : Sli w w.heap.size pv (ci p)) (hS : Sli w w.heap.size va (ci l)) (_ : -9223372036854775808 ≤ po) (_ : po ≤ 9223372036854775807) :
    Calls Try.prog 4 #[.agg #[.int .i64 po, pv], .int .i64 n, .int .i64 warm, va] w fun e w' => e = .returned (.bool true) ∧ Below w.heap.size w w' := by
  obtain ⟨A1, c1, rfl, hlc1, hcm1⟩ := hK.formI
  obtain ⟨A2, c2, rfl, hlc2, hcm2⟩ := hS.formI
  have hH0 := Held.start (po := po) hK hS
  obtain ⟨wA, hwA⟩ : ∃ wA, w.alloc (.cells #[.int .i64 po, .slice A1 p.length c1] 24) = wA := ⟨_, rfl⟩
  have HWA := Lib.hid hwA
  rw [hwA] at hH0
  clear hwA hK hS
  have hsm := fun (w1 : World) (h1 : Sli w1 w.heap.size (.slice A1 p.length c1) (ci p)) (h2 : Sli w1 w.heap.size (.slice A2 l.length c2) (ci l)) => small_any po _ _ p l w1 _ _ h1 h2
  by_cases hs : p.length ≤ 300 ∧ l.length ≤ 400
  · obtain ⟨hs1, hs2⟩ := hs
    rw [decide_eq_true hs1, decide_eq_true hs2, Bool.and_self] at hsm
    have hpl := putP_len po p n warm l []
    have hput := fun (w1 : World) (g : Nat) (h : WrO w1 w.heap.size g (.slice none 0 0) []) (hH : Held w w1 po (.slice A1 p.length c1) (.slice A2 l.length c2) p l) => putP_any h po _ _ p l n warm hH.k hH.s (Nat.le_refl _) hH.be.size (by simp) (by omega) (by omega) (by omega) (by omega)
    have hqput := fun (w1 : World) (g : Nat) (h : WqO w1 w.heap.size g (.slice none 0 0) []) (hH : Held w w1 po (.slice A1 p.length c1) (.slice A2 l.length c2) p l) => qpput_any h po _ _ p l n warm hH.k hH.s (Nat.le_refl _) hH.be.size (by simp) (by omega) (by omega) (by omega) (by omega)
    generalize putP po p n warm l [] = R at *
    obtain ⟨L2, E⟩ := R
    simp only [List.length_nil] at hpl
    simp only at hput hqput
    have HSM := Lib.hid hsm; have HPUT := Lib.hid hput; have HQPUT := Lib.hid hqput
    clear hsm hput hqput
    go_enter Try.func4, Try.ntmps4
    go_wp2_with fail
    rw [HWA.out]
    refine (knownP_any wA).mono ?_
    rintro e w1 ⟨rfl, hb1⟩
    have hH1 := hH0.on hb1
    have x0 := hH1.c0
    have x1 := hH1.c1
    go_wp2_with fail
    refine (HSM.out w1 hH1.k hH1.s).mono ?_
    rintro e w2 ⟨rfl, hb2⟩
    have hH2 := hH1.on hb2
    clear x0 x1
    go_upto_region 6 with (fail)
    obtain ⟨wa, hwa⟩ : ∃ wa, w2.alloc (.cells #[.slice none 0 0, .int .i64 0] 35) = wa := ⟨_, rfl⟩
    have hA0 := WrO.start w2 (base := w.heap.size) hH2.be.size
    rw [hwa] at hA0
    have hsz : wa.heap.size = w2.heap.size + 1 := by rw [← hwa]; simp
    have hba : Below w2.heap.size w2 wa := by rw [← hwa]; exact (Below.refl _ _).alloc (Nat.le_refl _) _
    have hHa := hH2.on hba
    have hB0 := WqO.start wa (base := w.heap.size) hHa.be.size
    rw [hsz] at hB0
    have hbb : Below wa.heap.size wa (wa.alloc (.cells #[.slice none 0 0] 38)) := (Below.refl _ _).alloc (Nat.le_refl _) _
    have hA1 := hA0.below hbb
    have hHb := hHa.on hbb
    rw [← hwa] at hA1 hB0 hHb
    have hPb : w.heap.size < w2.heap.size := (Array.getElem?_eq_some_iff.1 hH2.box).1
    obtain ⟨wb, hwb⟩ : ∃ wb, (w2.alloc (.cells #[.slice none 0 0, .int .i64 0] 35)).alloc (.cells #[.slice none 0 0] 38) = wb := ⟨_, rfl⟩
    rw [hwb] at hA1 hB0 hHb ⊢
    clear hwb hA0 hba hwa hsz hbb hHa
    have x0 := hHb.c0
    have x1 := hHb.c1
    have HPA := Lib.hid (HPUT.out wb.drew _ (show WrO wb.drew w.heap.size w2.heap.size (.slice none 0 0) [] from hA1) hHb.drew)
    go_region_held3 (fun w' => w'.cell? ⟨w.heap.size, 0, none⟩ = some (.int .i64 po) ∧ w'.cell? ⟨w.heap.size, 1, none⟩ = some (.slice A1 p.length c1))
      (first | go_keep | exact ⟨hH3.c0, hH3.c1⟩ | exact ⟨hH4.c0, hH4.c1⟩)
      (first
        | (go_at_call 21; refine HPA.out.mono ?_; rintro e w3 ⟨rfl, v3, hA3, hm3⟩; obtain ⟨hB3, hap3⟩ := (show WrO wb.drew w.heap.size w2.heap.size (.slice none 0 0) [] from hA1).otherQ (show WqO wb.drew w.heap.size (w2.heap.size + 1) (.slice none 0 0) [] from hB0) (by omega) (apart_nil _) hm3; have hH3 := hHb.drew.mov hm3 (by omega) hPb)
        | (go_at_call 22; refine (HQPUT.out w3 _ hB3 hH3).mono ?_; rintro e w4 ⟨rfl, v4, hB4, hm4⟩; obtain ⟨hA4, hap4⟩ := hB3.otherW hA3 (by omega) hap3.symm hm4; have hH4 := hH3.mov hm4 (by omega) (by omega)))
    all_goals
      have hL2 : L2.length ≤ 1099511627776 := by omega
      go_wp2_with fail
      refine (wlen_any hA4).mono ?_
      rintro e w7 ⟨rfl, rfl⟩
      go_wp2_with fail
      refine (qlen_any hB4).mono ?_
      rintro e w7 ⟨rfl, rfl⟩
      go_wp2_with fail
      refine (wbytes_any hA4 hL2).mono ?_
      rintro e w7 ⟨v7, l7, rfl, hP7, ho7, hb67⟩
      have hB7 := hB4.below hb67
      go_wp2_with fail
      refine (qbytes_any hB7 hL2).mono ?_
      rintro e w8 ⟨v8, l8, rfl, hP8, ho8, hb78⟩
      obtain rfl := hP7.uniq hP8
      go_wp2_with fail
      refine (same_self _ _ l7 w8 _ _ (ho7.sli.below hb78) ho8.sli hP7.byte).mono ?_
      rintro e w9 ⟨rfl, rfl⟩
      go_wp2
      go_ret
      exact ⟨rfl, bthen (bthen hH4.be hb67 hH4.be.size) hb78 (Nat.le_trans hH4.be.size hb67.size)⟩
  · have hz : (decide (p.length ≤ 300) && decide (l.length ≤ 400)) = false := by
      by_cases h1 : p.length ≤ 300
      · rw [decide_eq_false (p := l.length ≤ 400) (by omega), Bool.and_false]
      · rw [decide_eq_false h1, Bool.false_and]
    rw [hz] at hsm
    have HSM := Lib.hid hsm
    clear hsm hz hs
    go_enter Try.func4, Try.ntmps4
    go_wp2_with fail
    rw [HWA.out]
    refine (knownP_any wA).mono ?_
    rintro e w1 ⟨rfl, hb1⟩
    have hH1 := hH0.on hb1
    have x0 := hH1.c0
    have x1 := hH1.c1
    go_wp2_with fail
    refine (HSM.out w1 hH1.k hH1.s).mono ?_
    rintro e w2 ⟨rfl, hb2⟩
    go_wp2
    go_ret
    exact ⟨rfl, (hH1.on hb2).be⟩
theorem back_facts {o : Int} {ks : List Int} {n warm : Int} {l : List Int} (hm : mayB o ks n warm = true) (hr : rowOkB n warm l = true) :
    putP o ks n warm l (msb 1 1) = (msb 1 1 ++ bitsP o ks n warm l, 0) ∧ (msb 1 1 ++ bitsP o ks n warm l).length = 1 + costP o ks n warm l ∧
      ∀ lb, Packed lb (msb 1 1 ++ bitsP o ks n warm l) → gGet (bitAt lb) (8 * lb.length) 0 0 1 = (1, 1, 0) ∧ getP (bitAt lb) (8 * lb.length) 1 0 n warm = (o, ks, l, 1 + costP o ks n warm l, 0) := by
  refine ⟨by unfold putP; rw [if_pos ⟨hm, hr⟩], by rw [List.length_append, msb_len, bitsP_len hm hr], fun lb hP => ?_⟩
  have h0 : Stands (bitAt lb) (8 * lb.length) 0 (msb 1 1) := Stands.packed (A := []) (B := msb 1 1) (C := bitsP o ks n warm l) hP
  have h1 := h0.num (by omega)
  have h2 : Stands (bitAt lb) (8 * lb.length) (msb 1 1).length (bitsP o ks n warm l) := Stands.packed (A := msb 1 1) (B := bitsP o ks n warm l) (C := []) (by rw [List.append_nil]; exact hP)
  rw [msb_len] at h2
  exact ⟨h1, get_put hm hr h2⟩
theorem partsBack_walk (po : Int) (pv : Value) (p : List Int) (n warm : Int) (va : Value) (l : List Int) (w : World) (hK : Sli w w.heap.size pv (ci p)) (hS : Sli w w.heap.size va (ci l)) (_ : -9223372036854775808 ≤ po) (_ : po ≤ 9223372036854775807) :
    Calls Try.prog 7 #[.agg #[.int .i64 po, pv], .int .i64 n, .int .i64 warm, va] w fun e w' => e = .returned (.bool true) ∧ Below w.heap.size w w' := by
  obtain ⟨A1, c1, rfl, hlc1, hcm1⟩ := hK.formI
  obtain ⟨A2, c2, rfl, hlc2, hcm2⟩ := hS.formI
  have hH0 := Held.start (po := po) hK hS
  obtain ⟨wA, hwA⟩ : ∃ wA, w.alloc (.cells #[.int .i64 po, .slice A1 p.length c1] 24) = wA := ⟨_, rfl⟩
  have HWA := Lib.hid hwA
  rw [hwA] at hH0
  clear hwA hK hS
  have hsm := fun (w1 : World) (h1 : Sli w1 w.heap.size (.slice A1 p.length c1) (ci p)) (h2 : Sli w1 w.heap.size (.slice A2 l.length c2) (ci l)) => small_any po _ _ p l w1 _ _ h1 h2
  by_cases hs : p.length ≤ 300 ∧ l.length ≤ 400
  · obtain ⟨hs1, hs2⟩ := hs
    rw [decide_eq_true hs1, decide_eq_true hs2, Bool.and_self] at hsm
    have h4 := fun (w1 : World) (h1 : Sli w1 w.heap.size (.slice A1 p.length c1) (ci p)) (hB : w.heap.size ≤ w1.heap.size) => qmay_any po _ p n warm w1 _ h1 hB (by omega) (by omega) (by omega)
    have HSM := Lib.hid hsm
    clear hsm
    by_cases hm : mayB po p n warm = true
    · rw [hm] at h4
      have hpp := (mayB_iff.1 hm).1
      obtain ⟨r1, r2, r3, r4⟩ := rowB_iff.1 (planB_iff.1 hpp).1
      clear hpp
      have hrn := rowOk_not (n := n) (warm := warm) (l := l) rfl
      by_cases hnw : (l.length : Int) = n - warm
      · rw [decide_eq_true hnw, Bool.true_and] at hrn
        have hne : ((l.length : Int) != n - warm) = false := by simpa using hnw
        have h0 := fun (w1 : World) (h : Sli w1 w.heap.size (.slice A2 l.length c2) (ci l)) => allWide_any _ l w1 _ h (by omega)
        rw [← hrn] at h0
        by_cases hr : rowOkB n warm l = true
        · rw [hr] at h0
          obtain ⟨hp1, hp2, hp3⟩ := back_facts hm hr
          have hcl := costP_le po p n warm l
          have hput := fun (w1 : World) (g : Nat) (v1 : Value) (h : WrO w1 w.heap.size g v1 (msb 1 1)) (hH : Held w w1 po (.slice A1 p.length c1) (.slice A2 l.length c2) p l) => putP_any h po _ _ p l n warm hH.k hH.s (Nat.le_refl _) hH.be.size (by simp [msb_len]) (by omega) (by omega) (by omega) (by omega)
          have hcp := fun (w1 : World) (h : Sli w1 w.heap.size (.slice A1 p.length c1) (ci p)) (h2 : Sli w1 w.heap.size (.slice A2 l.length c2) (ci l)) (hB2 : w.heap.size ≤ w1.heap.size) => cost_any2 po _ _ p l n warm w1 _ _ h hB2 h2 hB2 (by omega) (by omega) (by omega) (by omega)
          have hge := fun (w1 : World) (g : Nat) (lb : List Nat) (h : RdB w1 g lb 1 0) => getP_any h n warm
          rw [hp1] at hput
          simp only at hput
          generalize costP po p n warm l = C at *
          generalize msb 1 1 ++ bitsP po p n warm l = L at *
          obtain ⟨S, hSC⟩ : ∃ S, 1 + C = S := ⟨_, rfl⟩
          rw [hSC] at hp2 hp3
          have hS7 : S ≤ 70000001 := by omega
          have hwS : IntKind.i64.wrap ((1 : Int) + (C : Int)) = (S : Nat) := by rw [show (1 : Int) + (C : Int) = (S : Nat) by omega]; exact IntWalk.i64_in _ (by omega)
          clear hSC
          have e1 := wPut_ok [] (x := 1) (n := 1) (by omega) (by omega)
          rw [List.nil_append] at e1
          have H4 := Lib.hid h4; have H0 := Lib.hid h0; have HPUT := Lib.hid hput; have HCP := Lib.hid hcp; have HGE := Lib.hid hge; have HP2 := Lib.hid hp2; have HP3 := Lib.hid hp3; have E1 := Lib.hid e1
          clear h4 h0 hput hcp hge hp1 hp2 hp3 e1 hrn hnw hm hr
          go_enter Try.func7, Try.ntmps7
          go_wp2_with fail
          rw [HWA.out]
          refine (knownP_any wA).mono ?_
          rintro e w1 ⟨rfl, hb1⟩
          have hH1 := hH0.on hb1
          have x0 := hH1.c0
          have x1 := hH1.c1
          go_wp2_with fail
          refine (HSM.out w1 hH1.k hH1.s).mono ?_
          rintro e w2 ⟨rfl, hb2⟩
          have hH2 := hH1.on hb2
          clear x0 x1
          have x0 := hH2.c0
          have x1 := hH2.c1
          go_wp2_with fail
          refine (H4.out w2 hH2.k hH2.be.size).mono ?_
          rintro e w3 ⟨rfl, hb3⟩
          have hH3 := hH2.on hb3
          clear x0 x1
          go_wp2_with fail
          refine (H0.out w3 hH3.s).mono ?_
          rintro e w4 ⟨rfl, rfl⟩
          have hX0 := WrO.start w3 (base := w.heap.size) hH3.be.size
          have hba : Below w3.heap.size w3 (w3.alloc (.cells #[.slice none 0 0, .int .i64 0] 35)) := (Below.refl _ _).alloc (Nat.le_refl _) _
          have hH4 := hH3.on hba
          have hPb : w.heap.size < w3.heap.size := (Array.getElem?_eq_some_iff.1 hH3.box).1
          have HW1 := Lib.hid (wput_any hX0 (by simp) hH4.be.size 1 (1 : Nat) (by omega) (by omega) (by omega))
          rw [E1.out] at HW1
          go_wp2_with fail
          refine HW1.out.mono ?_
          rintro e w5 ⟨rfl, v5, hX5, hm5⟩
          have hH5 := hH4.mov hm5 (by omega) hPb
          have x0 := hH5.c0
          have x1 := hH5.c1
          have HPA := Lib.hid (HPUT.out w5.drew _ v5 (show WrO w5.drew w.heap.size w3.heap.size v5 (msb 1 1) from hX5) hH5.drew)
          go_wp2
          have hg3 : w.heap.size ≤ w3.heap.size := hH3.be.size
          go_region_held3 (fun w' => w'.cell? ⟨w.heap.size, 0, none⟩ = some (.int .i64 po) ∧ w'.cell? ⟨w.heap.size, 1, none⟩ = some (.slice A1 p.length c1))
            (first | go_keep | exact ⟨hH6.c0, hH6.c1⟩ | exact ⟨hH7.c0, hH7.c1⟩)
            (first
              | (go_at_call 21; refine HPA.out.mono ?_; rintro e w6 ⟨rfl, v6, hX6, hm6⟩; have hH6 := hH5.drew.mov2 (show WrO w5.drew w.heap.size w3.heap.size v5 (msb 1 1) from hX5) hm6 (Nat.le_refl _) hPb)
              | (go_at_call 23; refine (wlen_any hX6).mono ?_; rw [HP2.out]; rintro e w6' ⟨rfl, rfl⟩)
              | (go_at_call 19; refine (HCP.out _ hH6.k hH6.s hH6.be.size).mono ?_; rintro e w7 ⟨rfl, hb7⟩; have hH7 := hH6.on hb7; have hX7 := hX6.below hb7))
          all_goals
            have hL1 : L.length ≤ 1099511627776 := by have := HP2.out; omega
            go_wp2_with fail
            refine (wbytes_any hX7 hL1).mono ?_
            rintro e w8 ⟨v8, lb, rfl, hP8, ho8, hb78⟩
            obtain ⟨hg1, hg2⟩ := HP3.out lb hP8
            have hlb40 : lb.length ≤ 1099511627776 := by have := hP8.len; omega
            have HG1 := Lib.hid hg1; have HG2 := Lib.hid hg2
            clear hg1 hg2
            have hH8 := hH7.on hb78
            have hX8 := hX7.below hb78
            obtain ⟨A8, n8, c8, rfl⟩ := ho8.shape
            go_wp2_with fail
            refine (bnew_any _ lb _ ho8.sli hP8.byte hlb40).mono ?_
            rintro e w9 ⟨g9, rfl, hR9, hg9, hb89⟩
            have hH9 := hH8.on hb89
            have hX9 := hX8.below hb89
            go_wp2_with fail
            refine (bget_any hR9 1).mono ?_
            rw [HG1.out]
            rintro e w10 ⟨rfl, hR10, hg10⟩
            have hlt8 : w.heap.size < g9 := by have := (Array.getElem?_eq_some_iff.1 hH8.box).1; omega
            obtain ⟨cs9, hk9⟩ := hR9.blk
            have hH10 := hH9.only hg10 hlt8
            have hX10 := hX9.only hk9 (by decide) hg10 (by have := hX8.lt; omega)
            go_wp2_with fail
            refine (HGE.out _ _ lb hR10).mono ?_
            rw [HG2.out]
            rintro e w11 ⟨kv, vl, a11, e11, rfl, hko, hlo, hR11, hg11, hok⟩
            simp only at hko hlo hok ⊢
            obtain ⟨rfl, rfl⟩ := hok (by trivial)
            obtain ⟨kA, kn, kc, rfl⟩ := hko.shape
            obtain ⟨lA, ln, lc, rfl⟩ := hlo.shape
            obtain ⟨cs10, hk10⟩ := hR10.blk
            have hH11 := hH10.only hg11 hlt8
            have hX11 := hX10.only hk10 (by decide) hg11 (by have := hX8.lt; omega)
            have hbx := below_box w11 (.int .i64 po) (.slice kA kn kc) 24
            have hq12 := box_new w11 (.int .i64 po) (.slice kA kn kc) 24
            have hko12 := hko.kept hbx
            have hlo12 := hlo.kept hbx
            have hR12 := hR11.below hbx
            have hX12 := hX11.below hbx
            have hH12 := hH11.on hbx
            have z0 := hH12.c0
            have z1 := hH12.c1
            obtain ⟨y0, y1, hyf⟩ := blk2 hq12
            clear x0 x1
            go_wp2_with fail
            refine (sameParts_self2 po _ _ p _ _ _ hH12.k hko12.sli hH12.be.size (Nat.le_refl _) (by omega)).mono ?_
            rintro e w13 ⟨rfl, hb13⟩
            have hH13 := hH12.on hb13
            have hlo13 := hlo12.kept hb13
            have hR13 := hR12.below hb13
            have hX13 := hX12.below hb13
            go_wp2_with fail
            refine (sameInts_self _ _ l w13 _ _ hH13.s hlo13.sli (by omega)).mono ?_
            rintro e w14 ⟨rfl, q14, rfl⟩
            go_wp2_with fail
            refine (bat_any (hR13.drewN q14)).mono ?_
            rintro e w15 ⟨rfl, rfl⟩
            go_wp2_with fail
            refine (wlen_any (show WrO (w13.drewN q14) _ _ _ _ from hX13)).mono ?_
            rw [HP2.out]
            rintro e w15 ⟨rfl, rfl⟩
            go_wp2
            go_ret
            exact ⟨rfl, below_drewN hH13.be q14⟩
        · rw [Bool.eq_false_iff.2 hr] at h0
          have H4 := Lib.hid h4; have H0 := Lib.hid h0
          clear h4 h0 hr hrn hnw hm
          go_enter Try.func7, Try.ntmps7
          go_wp2_with fail
          rw [HWA.out]
          refine (knownP_any wA).mono ?_
          rintro e w1 ⟨rfl, hb1⟩
          have hH1 := hH0.on hb1
          have x0 := hH1.c0
          have x1 := hH1.c1
          go_wp2_with fail
          refine (HSM.out w1 hH1.k hH1.s).mono ?_
          rintro e w2 ⟨rfl, hb2⟩
          have hH2 := hH1.on hb2
          clear x0 x1
          have x0 := hH2.c0
          have x1 := hH2.c1
          go_wp2_with fail
          refine (H4.out w2 hH2.k hH2.be.size).mono ?_
          rintro e w3 ⟨rfl, hb3⟩
          have hH3 := hH2.on hb3
          clear x0 x1
          go_wp2_with fail
          refine (H0.out w3 hH3.s).mono ?_
          rintro e w4 ⟨rfl, rfl⟩
          go_wp2
          go_ret
          exact ⟨rfl, hH3.be⟩
      · have hne : ((l.length : Int) != n - warm) = true := by simpa using hnw
        have H4 := Lib.hid h4
        clear h4 hrn hnw hm
        go_enter Try.func7, Try.ntmps7
        go_wp2_with fail
        rw [HWA.out]
        refine (knownP_any wA).mono ?_
        rintro e w1 ⟨rfl, hb1⟩
        have hH1 := hH0.on hb1
        have x0 := hH1.c0
        have x1 := hH1.c1
        go_wp2_with fail
        refine (HSM.out w1 hH1.k hH1.s).mono ?_
        rintro e w2 ⟨rfl, hb2⟩
        have hH2 := hH1.on hb2
        clear x0 x1
        have x0 := hH2.c0
        have x1 := hH2.c1
        go_wp2_with fail
        refine (H4.out w2 hH2.k hH2.be.size).mono ?_
        rintro e w3 ⟨rfl, hb3⟩
        go_wp2
        go_ret
        exact ⟨rfl, (hH2.on hb3).be⟩
    · rw [Bool.eq_false_iff.2 hm] at h4
      have H4 := Lib.hid h4
      clear h4 hm
      go_enter Try.func7, Try.ntmps7
      go_wp2_with fail
      rw [HWA.out]
      refine (knownP_any wA).mono ?_
      rintro e w1 ⟨rfl, hb1⟩
      have hH1 := hH0.on hb1
      have x0 := hH1.c0
      have x1 := hH1.c1
      go_wp2_with fail
      refine (HSM.out w1 hH1.k hH1.s).mono ?_
      rintro e w2 ⟨rfl, hb2⟩
      have hH2 := hH1.on hb2
      clear x0 x1
      have x0 := hH2.c0
      have x1 := hH2.c1
      go_wp2_with fail
      refine (H4.out w2 hH2.k hH2.be.size).mono ?_
      rintro e w3 ⟨rfl, hb3⟩
      go_wp2
      go_ret
      exact ⟨rfl, (hH2.on hb3).be⟩
  · have hz : (decide (p.length ≤ 300) && decide (l.length ≤ 400)) = false := by
      by_cases h1 : p.length ≤ 300
      · rw [decide_eq_false (p := l.length ≤ 400) (by omega), Bool.and_false]
      · rw [decide_eq_false h1, Bool.false_and]
    rw [hz] at hsm
    have HSM := Lib.hid hsm
    clear hsm hz hs
    go_enter Try.func7, Try.ntmps7
    go_wp2_with fail
    rw [HWA.out]
    refine (knownP_any wA).mono ?_
    rintro e w1 ⟨rfl, hb1⟩
    have hH1 := hH0.on hb1
    have x0 := hH1.c0
    have x1 := hH1.c1
    go_wp2_with fail
    refine (HSM.out w1 hH1.k hH1.s).mono ?_
    rintro e w2 ⟨rfl, hb2⟩
    go_wp2
    go_ret
    exact ⟨rfl, (hH1.on hb2).be⟩
end Go.Proofs.Ytohbpjehphmedaa
