/- parts: what a plan costs, the reference's. -/
import Derived.Test.YtohbpjehphmedaaParD
namespace Go.Proofs.Ytohbpjehphmedaa
open Go.RowKit
set_option maxRecDepth 100000
set_option maxHeartbeats 1600000

theorem rowOk_not {n warm : Int} {l : List Int} {m : Nat} (hm : l.length = m) : rowOkB n warm l = (decide ((m : Int) = n - warm) && l.all wideB) := by unfold rowOkB; rw [hm]
theorem qcost_any2 (o : Int) (vk va : Value) (ks l : List Int) (n warm : Int) (w : World) (B B2 : Nat) (hK : Sli w B vk (ci ks)) (hB : B ≤ w.heap.size) (hS : Sli w B2 va (ci l)) (hB2 : B2 ≤ w.heap.size) (hn : ks.length ≤ 1099511627776) (hl : l.length ≤ 1099511627776) (ho1 : -9223372036854775808 ≤ o) (ho2 : o ≤ 9223372036854775807) :
    Calls Try.prog 20 #[.agg #[.int .i64 o, vk], .int .i64 n, .int .i64 warm, va] w fun e w' => e = .returned (.int .i64 (costP o ks n warm l : Nat)) ∧ Below w.heap.size w w' := by
  have hb0 := below_box w (.int .i64 o) vk 24
  have hmay := qmay_any o vk ks n warm (w.alloc (.cells #[.int .i64 o, vk] 24)) B (hK.below (hb0.mono hB)) (Nat.le_trans hB hb0.size) hn ho1 ho2
  obtain ⟨nl, hnl⟩ : ∃ m, l.length = m := ⟨_, rfl⟩
  have hrn := rowOk_not (n := n) (warm := warm) hnl
  by_cases hm : mayB o ks n warm = true
  · obtain ⟨hp, hlen, _⟩ := mayB_iff.1 hm
    have h256 := two_256 hp
    obtain ⟨hrow, _⟩ := planB_iff.1 hp
    obtain ⟨r1, r2, r3, r4⟩ := rowB_iff.1 hrow
    rw [hm] at hmay
    by_cases hnw : (nl : Int) = n - warm
    · have hne : ((nl : Int) != n - warm) = false := by simpa using hnw
      rw [decide_eq_true hnw, Bool.true_and] at hrn
      have har := fun (w1 : World) (h : Sli w1 B2 va (ci l)) => allWide_any va l w1 B2 h hl
      by_cases hr : rowOkB n warm l = true
      · have hcost := costP_yes hm hr
        rw [← hrn, hr] at har
        rw [hcost]
        have hr2 := hr
        rw [rowOkB, Bool.and_eq_true, decide_eq_true_eq] at hr2
        have hl4096 : l.length ≤ 4096 := by omega
        have hsum := sizesN_sum hp
        have hsl : (sizesN o n warm).sum ≤ nl := by omega
        have hsn : (sizesN o n warm).length = 2 ^ o.toNat := sizesN_len hp
        have hcl : (cuts (sizesN o n warm) l).length = 2 ^ o.toNat := by rw [cuts_len, hsn]
        have hsz := fun w => qsizes_any o n warm w ho1 ho2
        rw [show SizesP o n warm = fun w e w' => ∃ v', e = .returned v' ∧ Own w' w.heap.size 3 v' (ci (ints (sizesN o n warm))) ∧ Below w.heap.size w w' from rfl] at hsz
        have hple : ∀ i, planCost (ks.take i) ((cuts (sizesN o n warm) l).take i) ≤ 68400000 := fun i => by
          have h1 := planCost_le (M := 4096) (ks.take i) ((cuts (sizesN o n warm) l).take i) fun p hp => by have := mem_take_cuts p hp; omega
          have h2 : (ks.take i).length * (10 + 65 * 4096) ≤ 256 * (10 + 65 * 4096) := Nat.mul_le_mul_right _ (by rw [List.length_take]; omega)
          omega
        have hpart : ∀ p ∈ cuts (sizesN o n warm) l, p.length ≤ 4096 := fun p hp => by have := cuts_part_le hp; omega
        have hcat := fun i h => cuts_take (sizesN o n warm) l i h
        have hci : ∀ i (h : i < (cuts (sizesN o n warm) l).length) (h2 : i < (sizesN o n warm).length), (cuts (sizesN o n warm) l)[i] = (l.drop ((sizesN o n warm).take i).sum).take (sizesN o n warm)[i] := fun i h h2 => by
          have e1 : (cuts (sizesN o n warm) l).take (i + 1) = cuts ((sizesN o n warm).take (i + 1)) l := cuts_take_eq _ _ _
          have e2 : (cuts (sizesN o n warm) l).take i = cuts ((sizesN o n warm).take i) l := cuts_take_eq _ _ _
          have e3 := hcat i h2
          rw [← e1, ← e2, List.take_succ_eq_append_getElem h] at e3
          have := List.append_cancel_left e3
          simpa using this
        generalize cuts (sizesN o n warm) l = ps at *
        generalize sizesN o n warm = ss at *
        generalize 2 ^ o.toNat = m at *
        have HMAY := Lib.hid hmay; have HAR := Lib.hid har; have HSZ := Lib.hid hsz; have HLEN := Lib.hid hlen; have HCL := Lib.hid hcl; have HPLE := Lib.hid hple; have HPART := Lib.hid hpart; have HCI := Lib.hid hci; have HSN := Lib.hid hsn; have HSL := Lib.hid hsl; have HNL := Lib.hid hnl
        clear hmay har hsz hlen hcl hple hm hp hr hrow hcost hr2 hsum hsl hsn hpart hcat hci hrn hnw
        obtain ⟨A1, c1, rfl, hlc1, hcm1⟩ := hK.formI
        obtain ⟨A2, c2, rfl, hlc2, hcm2⟩ := hS.formI
        rw [hnl] at hS hlc2 hl hl4096 HAR ⊢
        clear hnl
        go_enter Try.func20, Try.ntmps20
        go_wp2_with fail
        refine HMAY.out.mono ?_
        rintro e w1 ⟨rfl, hb1⟩
        have hb01 := bthen hb0 hb1 hb0.size
        have hbx1 := box_on hb1
        go_wp2_with fail
        refine (HAR.out w1 (hS.below (hb01.mono hB2))).mono ?_
        rintro e w2 ⟨rfl, rfl⟩
        obtain ⟨d0, d1, hf⟩ := blk2 hbx1
        go_wp2_with fail
        refine (HSZ.out _).mono ?_
        rintro e w2 ⟨v2, rfl, ho2', hb2⟩
        obtain ⟨A3, c3, rfl, _, _⟩ := ho2'.formI
        rw [ints_len, HSN.out] at ho2' ⊢
        have hb02 := bthen hb01 hb2 hb01.size
        have hbx2 := (hb2.block w.heap.size (Array.getElem?_eq_some_iff.1 hbx1).1).trans hbx1
        obtain ⟨e0, e1, hf3⟩ := blk2 hbx2
        have hK3 := hK.below (hb02.mono hB)
        have hS3 := hS.below (hb02.mono hB2)
        have hV3 := ho2'.sli
        clear hb1 hb2 ho2' d0 d1 hf hbx1 hbx2 hb01 hb0
        go_wp2
        go_loopw [9, 10, 12] (fun s aa ii wr => ∃ i : Nat, i ≤ m ∧ ii = .int .i64 i ∧ aa = .int .i64 ((ss.take i).sum : Nat) ∧ s = .int .i64 (4 + planCost (ks.take i) (ps.take i) : Nat) ∧ Hid (∃ q, wr = w2.drewN q) ∧ (∀ p, wr.cell? p = w2.cell? p)) (fun _ _ ii _ => m - (intOf ii).toNat)
        case atStart => exact ⟨0, by omega, rfl, by simp, by simp [planCost], ⟨0, rfl⟩, fun _ => rfl⟩
        case round =>
          obtain ⟨i, hi, rfl, rfl, rfl, hq, hce⟩ := hrel
          by_cases him : i < m
          · have hik : i < ks.length := by rw [HLEN.out]; exact him
            have hip : i < ps.length := by rw [HCL.out]; exact him
            have his : i < ss.length := by rw [HSN.out]; exact him
            obtain ⟨b1, o1, rfl, hbB1, hcell1⟩ := hV3.atI (l := ints ss) (by rw [ints_len]; exact his)
            rw [ints_at his] at hcell1
            obtain ⟨b2, o2, rfl, hbB2, hcell2⟩ := hK3.atI hik
            have hst := sum_take ss i his
            have hsle := sum_take_le ss (i + 1)
            rw [hst] at hsle
            have has : (ss.take i).sum + ss[i] ≤ nl := by have := HSL.out; omega
            have hcix := HCI.out i hip his
            have hsn := planCost_snoc ks ps i hik hip
            have hpl := HPART.out _ (List.getElem_mem hip)
            have hle := partCost_le ks[i] ps[i]
            have hle2 := HPLE.out i
            have hSw : Sli wr B2 (.slice A2 nl c2) (ci l) := hS3.keep fun p _ => hce p
            have hpc := fun (q : Nat) (u : Value) (h : Sli wr B2 u (ci ps[i])) => qpartCost_any ks[i] u ps[i] (wr.drewN q) B2 h (by omega)
            have hm2 := hSw.mid2 (ss.take i).sum ss[i] (by omega)
            have htip := fun hc => Sli.tip (w := wr) (B := B2) (A := A2) (xs := ci l) (c := c2) (by rw [ci_len]; have := HNL.out; omega) (ss.take i).sum ss[i] (by rw [ci_len]; have := HNL.out; omega) hc
            rw [ci_drop, ← hcix] at hm2 htip
            rw [← hce] at hcell1 hcell2 e1
            generalize ps[i] = p at *
            generalize ks[i] = k at *
            generalize ss[i] = t at *
            generalize partCost k p = d at *
            generalize planCost (ks.take i) (ps.take i) = s at *
            generalize (ss.take i).sum = a at *
            have HSN2 := Lib.hid hsn; have HPC := Lib.hid hpc; have HST := Lib.hid hst
            have hwr : IntKind.i64.wrap ((a : Int) + (t : Int)) = (a : Int) + (t : Int) := IntWalk.i64_in _ (by omega)
            obtain ⟨S, hSs⟩ : ∃ S, 4 + s = S := ⟨_, rfl⟩
            rw [hSs]
            have hwr2 : IntKind.i64.wrap ((S : Int) + 5) = (S : Int) + 5 := IntWalk.i64_in _ (by omega)
            have hwr3 : IntKind.i64.wrap ((S : Int) + 5 + (d : Int)) = (S : Int) + 5 + (d : Int) := IntWalk.i64_in _ (by omega)
            have HSS := Lib.hid hSs
            have hS2 : S ≤ 68400004 := by omega
            clear hSs
            have hiI : (i : Int) < (m : Int) := by omega
            have hikI : (i : Int) < (ks.length : Int) := by omega
            have HCE := Lib.hid hce
            clear hsn hpc hip his hcix hst hsle hce
            by_cases hc : c2 = a
            · have hP := HPC.out
              have htp := htip hc
              have HE : (c2 = a) = True := eq_true hc
              have HPX := Lib.hid fun q => hP q _ htp
              go_wp2
              go_quiet ((go_at_call 49; exact quietLN (HPX.out _)))
              go_wp2
              exact ⟨⟨i + 1, by omega, by simp, by rw [HST.out]; simp, by rw [HSN2.out]; have := HSS.out; simp; omega, by obtain ⟨q, h⟩ := hq.out; exact ⟨q + nq, by rw [h, World.drewN_drewN]⟩, HCE.out⟩, by simp [intOf]; omega⟩
            · have hP := HPC.out
              have HPX := Lib.hid fun q => hP q _ hm2
              go_wp2
              go_quiet ((go_at_call 49; exact quietLN (HPX.out _)))
              go_wp2
              exact ⟨⟨i + 1, by omega, by simp, by rw [HST.out]; simp, by rw [HSN2.out]; have := HSS.out; simp; omega, by obtain ⟨q, h⟩ := hq.out; exact ⟨q + nq, by rw [h, World.drewN_drewN]⟩, HCE.out⟩, by simp [intOf]; omega⟩
          · have him2 : i = m := by omega
            have t1 : ks.take i = ks := by rw [him2, ← HLEN.out, List.take_length]
            have t2 : ps.take i = ps := by rw [him2, ← HCL.out, List.take_length]
            rw [t1, t2]
            have hbw : Below w.heap.size w wr := by obtain ⟨q, rfl⟩ := hq.out; exact below_drewN hb02 q
            go_wp2
            go_ret
            exact ⟨rfl, hbw⟩
      · have hcost := costP_no (o := o) (ks := ks) (n := n) (warm := warm) (l := l) fun h => hr h.2
        rw [hcost]
        rw [← hrn, Bool.eq_false_iff.2 hr] at har
        have HMAY := Lib.hid hmay; have HAR := Lib.hid har
        clear hmay har hr hcost hm hp hrow hlen hrn hnw
        obtain ⟨A1, c1, rfl, hlc1, hcm1⟩ := hK.formI
        obtain ⟨A2, c2, rfl, hlc2, hcm2⟩ := hS.formI
        rw [hnl] at *
        clear hnl
        go_enter Try.func20, Try.ntmps20
        go_wp2_with fail
        refine HMAY.out.mono ?_
        rintro e w1 ⟨rfl, hb1⟩
        have hb01 := bthen hb0 hb1 hb0.size
        go_wp2_with fail
        refine (HAR.out w1 (hS.below (hb01.mono hB2))).mono ?_
        rintro e w2 ⟨rfl, rfl⟩
        go_wp2
        go_ret
        exact ⟨rfl, hb01⟩
    · have hne : ((nl : Int) != n - warm) = true := by simpa using hnw
      rw [decide_eq_false hnw, Bool.false_and] at hrn
      have hcost := costP_no (o := o) (ks := ks) (n := n) (warm := warm) (l := l) fun h => by have := h.2; rw [hrn] at this; simp at this
      rw [hcost]
      have HMAY := Lib.hid hmay
      clear hmay hcost hm hp hrow hlen hrn hnw
      obtain ⟨A1, c1, rfl, hlc1, hcm1⟩ := hK.formI
      obtain ⟨A2, c2, rfl, hlc2, hcm2⟩ := hS.formI
      rw [hnl] at *
      clear hnl
      go_enter Try.func20, Try.ntmps20
      go_wp2_with fail
      refine HMAY.out.mono ?_
      rintro e w1 ⟨rfl, hb1⟩
      have hb01 := bthen hb0 hb1 hb0.size
      go_wp2
      go_ret
      exact ⟨rfl, hb01⟩
  · have hcost := costP_no (o := o) (ks := ks) (n := n) (warm := warm) (l := l) fun h => hm h.1
    rw [hcost]
    rw [Bool.eq_false_iff.2 hm] at hmay
    have HMAY := Lib.hid hmay
    clear hmay hm hcost hrn
    obtain ⟨A1, c1, rfl, hlc1, hcm1⟩ := hK.formI
    obtain ⟨A2, c2, rfl, hlc2, hcm2⟩ := hS.formI
    rw [hnl] at *
    clear hnl
    go_enter Try.func20, Try.ntmps20
    go_wp2_with fail
    refine HMAY.out.mono ?_
    rintro e w1 ⟨rfl, hb1⟩
    go_wp2
    go_ret
    exact ⟨rfl, bthen hb0 hb1 hb0.size⟩
end Go.Proofs.Ytohbpjehphmedaa
