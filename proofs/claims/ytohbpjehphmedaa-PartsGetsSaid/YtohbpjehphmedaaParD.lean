/- parts: what a plan costs. -/
import Derived.Test.YtohbpjehphmedaaParC
namespace Go.Proofs.Ytohbpjehphmedaa
open Go.RowKit
set_option maxRecDepth 100000
set_option maxHeartbeats 1600000

theorem partCost_le (k : Int) (l : List Int) : partCost k l ≤ 5 + 65 * l.length := by
  unfold partCost rawCost
  have h1 := sumI_le k l
  have h2 := Nat.mul_le_mul_left l.length (widN_32 l)
  split <;> omega
theorem planCost_le {M : Nat} : ∀ (ks : List Int) (ps : List (List Int)), (∀ p ∈ ps, p.length ≤ M) → planCost ks ps ≤ ks.length * (10 + 65 * M)
  | [], _, _ => by simp [planCost]
  | _ :: _, [], _ => by simp [planCost]
  | k :: ks, p :: ps, h => by
    have h1 := partCost_le k p
    have h2 := h p (by simp)
    have h3 := planCost_le ks ps fun q hq => h q (by simp [hq])
    have h4 : 65 * p.length ≤ 65 * M := Nat.mul_le_mul_left 65 h2
    rw [planCost, List.length_cons, Nat.succ_mul]
    omega
theorem planCost_snoc : ∀ (ks : List Int) (ps : List (List Int)) (i : Nat) (h1 : i < ks.length) (h2 : i < ps.length), planCost (ks.take (i + 1)) (ps.take (i + 1)) = planCost (ks.take i) (ps.take i) + (5 + partCost ks[i] ps[i])
  | [], _, i, h, _ => by simp at h
  | _ :: _, [], i, _, h => by simp at h
  | k :: ks, p :: ps, 0, _, _ => by simp [planCost]
  | k :: ks, p :: ps, i + 1, h1, h2 => by
    have ih := planCost_snoc ks ps i (by simpa using h1) (by simpa using h2)
    rw [List.take_succ_cons, List.take_succ_cons, planCost, ih, List.take_succ_cons, List.take_succ_cons, planCost]
    simp only [List.getElem_cons_succ]
    omega
theorem cuts_part_le {ss : List Nat} {l p : List Int} (h : p ∈ cuts ss l) : p.length ≤ l.length := by
  induction ss generalizing l with
  | nil => simp [cuts] at h
  | cons s ss ih =>
    rw [cuts] at h
    rcases List.mem_cons.1 h with rfl | h
    · simp; omega
    · have := ih h; rw [List.length_drop] at this; omega
theorem mem_take_cuts {ss : List Nat} {l : List Int} {i : Nat} : ∀ p ∈ (cuts ss l).take i, p.length ≤ l.length := fun _ hp => cuts_part_le (List.mem_of_mem_take hp)
theorem costP_no {o : Int} {ks : List Int} {n warm : Int} {l : List Int} (h : ¬ (mayB o ks n warm = true ∧ rowOkB n warm l = true)) : costP o ks n warm l = 0 := by unfold costP; rw [if_neg h]
theorem costP_yes {o : Int} {ks : List Int} {n warm : Int} {l : List Int} (h1 : mayB o ks n warm = true) (h2 : rowOkB n warm l = true) : costP o ks n warm l = 4 + planCost ks (cuts (sizesN o n warm) l) := by unfold costP; rw [if_pos ⟨h1, h2⟩]
theorem costP_le (o : Int) (ks : List Int) (n warm : Int) (l : List Int) : costP o ks n warm l ≤ 70000000 := by
  by_cases h : mayB o ks n warm = true ∧ rowOkB n warm l = true
  · rw [costP_yes h.1 h.2]
    obtain ⟨hp, hlen, _⟩ := mayB_iff.1 h.1
    have h256 := two_256 hp
    obtain ⟨hr, _⟩ := planB_iff.1 hp
    have hr2 := h.2
    rw [rowOkB, Bool.and_eq_true, decide_eq_true_eq] at hr2
    have hrr := rowB_iff.1 hr
    have h1 := planCost_le (M := 4096) ks (cuts (sizesN o n warm) l) fun p hp => by have := cuts_part_le hp; omega
    have h2 : ks.length * (10 + 65 * 4096) ≤ 256 * (10 + 65 * 4096) := Nat.mul_le_mul_right _ (by omega)
    omega
  · rw [costP_no h]; omega

theorem cost_any2 (o : Int) (vk va : Value) (ks l : List Int) (n warm : Int) (w : World) (B B2 : Nat) (hK : Sli w B vk (ci ks)) (hB : B ≤ w.heap.size) (hS : Sli w B2 va (ci l)) (hB2 : B2 ≤ w.heap.size) (hn : ks.length ≤ 1099511627776) (hl : l.length ≤ 1099511627776) (ho1 : -9223372036854775808 ≤ o) (ho2 : o ≤ 9223372036854775807) :
    Calls Try.prog 19 #[.agg #[.int .i64 o, vk], .int .i64 n, .int .i64 warm, va] w fun e w' => e = .returned (.int .i64 (costP o ks n warm l : Nat)) ∧ Below w.heap.size w w' := by
  have hb0 := below_box w (.int .i64 o) vk 24
  have hmay := may_any o vk ks n warm (w.alloc (.cells #[.int .i64 o, vk] 24)) B (hK.below (hb0.mono hB)) (Nat.le_trans hB hb0.size) hn ho1 ho2
  by_cases hm : mayB o ks n warm = true
  · obtain ⟨hp, hlen, _⟩ := mayB_iff.1 hm
    have h256 := two_256 hp
    obtain ⟨hrow, _⟩ := planB_iff.1 hp
    obtain ⟨r1, r2, r3, r4⟩ := rowB_iff.1 hrow
    have har := fun (w1 : World) (h : Sli w1 B2 va (ci l)) => areRes_any va l n warm w1 B2 h hl r1 r2 r3 r4
    rw [hm] at hmay
    by_cases hr : rowOkB n warm l = true
    · have hcost := costP_yes hm hr
      rw [hr] at har
      rw [hcost]
      have hr2 := hr
      rw [rowOkB, Bool.and_eq_true, decide_eq_true_eq] at hr2
      have hl4096 : l.length ≤ 4096 := by omega
      have hsum := sizesN_sum hp
      have hsl : (sizesN o n warm).sum ≤ l.length := by omega
      have hsn : (sizesN o n warm).length = 2 ^ o.toNat := sizesN_len hp
      have hcl : (cuts (sizesN o n warm) l).length = 2 ^ o.toNat := by rw [cuts_len, hsn]
      have hsz := fun w => sizes_any o n warm w ho1 ho2
      have hple : ∀ i, planCost (ks.take i) ((cuts (sizesN o n warm) l).take i) ≤ 68400000 := fun i => by
        have h1 := planCost_le (M := 4096) (ks.take i) ((cuts (sizesN o n warm) l).take i) fun p hp => by have := mem_take_cuts p hp; omega
        have h2 : (ks.take i).length * (10 + 65 * 4096) ≤ 256 * (10 + 65 * 4096) := Nat.mul_le_mul_right _ (by rw [List.length_take]; omega)
        omega
      have hsp := fun (w1 : World) (v1 : Value) (B1 : Nat) (h1 : Sli w1 B2 va (ci l)) (hBw : B2 ≤ w1.heap.size) (h2 : Sli w1 B1 v1 (ci (sizesI o n warm))) (hBw2 : B1 ≤ w1.heap.size) => split_any va v1 l (sizesN o n warm) w1 B2 B1 h1 hBw h2 hBw2 hl (by omega) hsl
      have hpart : ∀ p ∈ cuts (sizesN o n warm) l, p.length ≤ 4096 := fun p hp => by have := cuts_part_le hp; omega
      generalize cuts (sizesN o n warm) l = ps at *
      generalize 2 ^ o.toNat = m at *
      have HMAY := Lib.hid hmay; have HAR := Lib.hid har; have HSZ := Lib.hid hsz; have HSP := Lib.hid hsp; have HLEN := Lib.hid hlen; have HCL := Lib.hid hcl; have HPLE := Lib.hid hple; have HPART := Lib.hid hpart
      clear hmay har hsz hsp hlen hcl hple hm hp hr hrow hcost hr2 hsum hsl hsn hpart
      obtain ⟨A1, c1, rfl, hlc1, hcm1⟩ := hK.formI
      obtain ⟨A2, c2, rfl, hlc2, hcm2⟩ := hS.formI
      go_enter Try.func19, Try.ntmps19
      go_wp2_with fail
      refine HMAY.out.mono ?_
      rintro e w1 ⟨rfl, hb1⟩
      have hb01 := bthen hb0 hb1 hb0.size
      have hbx1 := box_on hb1
      go_wp2_with fail
      refine (HAR.out w1 (hS.below (hb01.mono hB2))).mono ?_
      rintro e w2 ⟨rfl, rfl⟩
      obtain ⟨d0, d1, hf⟩ := blk2 hbx1
      go_wp2_with fail
      refine (HSZ.out _).mono ?_
      rintro e w2 ⟨v2, rfl, ho2', hb2⟩
      obtain ⟨A3, c3, rfl, _, _⟩ := ho2'.formI
      have hb02 := bthen hb01 hb2 hb01.size
      have hs1 := hb01.size
      have hs2 := hb02.size
      go_wp2_with fail
      refine (HSP.out w2 _ w2.heap.size (hS.below (hb02.mono hB2)) (Nat.le_trans hB2 hs2) ho2'.sli (Nat.le_refl _)).mono ?_
      rintro e w3 ⟨v3, vals, rfl, ho3, hz3, hb3⟩
      obtain ⟨A4, c4, rfl, hlc4, hcm4⟩ := ho3.form
      have hvl : vals.length = m := by rw [hz3.1, HCL.out]
      rw [hvl] at ho3 hlc4 ⊢
      have hb03 := bthen hb02 hb3 hb02.size
      have hbx3 := (hb3.block w.heap.size (by have := (Array.getElem?_eq_some_iff.1 hbx1).1; have := hb2.size; omega)).trans ((hb2.block w.heap.size (Array.getElem?_eq_some_iff.1 hbx1).1).trans hbx1)
      obtain ⟨e0, e1, hf3⟩ := blk2 hbx3
      have hK3 := hK.below (hb03.mono hB)
      have hV3 := ho3.sli
      clear hb1 hb2 hb3 ho2' ho3 d0 d1 hf hbx1 hbx3 hb01 hb02 hb0
      go_wp2
      go_loop [9, 32] (fun s ii => ∃ i : Nat, i ≤ m ∧ ii = .int .i64 i ∧ s = .int .i64 (4 + planCost (ks.take i) (ps.take i) : Nat)) (fun _ ii => m - (intOf ii).toNat)
      case atStart => exact ⟨0, by omega, rfl, by simp [planCost]⟩
      case round =>
        obtain ⟨i, hi, rfl, rfl⟩ := hrel
        by_cases him : i < m
        · have hik : i < ks.length := by rw [HLEN.out]; exact him
          have hip : i < ps.length := by rw [HCL.out]; exact him
          obtain ⟨u, hu, hSu⟩ := hz3.get hip
          obtain ⟨b1, o1, y, hA1, hbB1, hcell1, hy⟩ := hV3.hasn.get him
          rw [hu] at hy
          injection hy with hy
          subst hy
          subst hA1
          obtain ⟨b2, o2, rfl, hbB2, hcell2⟩ := hK3.atI hik
          have hsn := planCost_snoc ks ps i hik hip
          have hpl := HPART.out _ (List.getElem_mem hip)
          have hpc := fun w => fun (h : Sli w B2 u (ci ps[i])) => partCost_any ks[i] u ps[i] w B2 h (by omega)
          have hle := partCost_le ks[i] ps[i]
          have hle2 := HPLE.out i
          have hPC := hpc w3 hSu
          obtain ⟨A5, c5, rfl, _, _⟩ := hSu.formI
          generalize ps[i] = p at *
          generalize ks[i] = k at *
          generalize partCost k p = d at *
          generalize planCost (ks.take i) (ps.take i) = s at *
          have HSN := Lib.hid hsn; have HPC := Lib.hid hPC
          clear hsn hPC hpc hu hSu hip
          go_wp2_with fail
          refine HPC.out.mono ?_
          rintro e w4 ⟨rfl, rfl⟩
          go_wp2
          exact ⟨⟨i + 1, by omega, by simp, by rw [HSN.out]; simp; omega⟩, by simp [intOf]; omega⟩
        · have him2 : i = m := by omega
          have t1 : ks.take i = ks := by rw [him2, ← HLEN.out, List.take_length]
          have t2 : ps.take i = ps := by rw [him2, ← HCL.out, List.take_length]
          rw [t1, t2]
          go_wp2
          go_ret
          exact ⟨rfl, hb03⟩
    · have hcost := costP_no (o := o) (ks := ks) (n := n) (warm := warm) (l := l) fun h => hr h.2
      rw [hcost]
      rw [Bool.eq_false_iff.2 hr] at har
      have HMAY := Lib.hid hmay; have HAR := Lib.hid har
      clear hmay har hr hcost hm hp hrow hlen
      obtain ⟨A1, c1, rfl, hlc1, hcm1⟩ := hK.formI
      obtain ⟨A2, c2, rfl, hlc2, hcm2⟩ := hS.formI
      go_enter Try.func19, Try.ntmps19
      go_wp2_with fail
      refine HMAY.out.mono ?_
      rintro e w1 ⟨rfl, hb1⟩
      have hb01 := bthen hb0 hb1 hb0.size
      go_wp2_with fail
      refine (HAR.out w1 (hS.below (hb01.mono hB2))).mono ?_
      rintro e w2 ⟨rfl, rfl⟩
      go_wp2
      go_ret
      exact ⟨rfl, hb01⟩
  · have hcost := costP_no (o := o) (ks := ks) (n := n) (warm := warm) (l := l) fun h => hm h.1
    rw [hcost]
    rw [Bool.eq_false_iff.2 hm] at hmay
    have HMAY := Lib.hid hmay
    clear hmay hm hcost
    obtain ⟨A1, c1, rfl, hlc1, hcm1⟩ := hK.formI
    obtain ⟨A2, c2, rfl, hlc2, hcm2⟩ := hS.formI
    go_enter Try.func19, Try.ntmps19
    go_wp2_with fail
    refine HMAY.out.mono ?_
    rintro e w1 ⟨rfl, hb1⟩
    go_wp2
    go_ret
    exact ⟨rfl, bthen hb0 hb1 hb0.size⟩
end Go.Proofs.Ytohbpjehphmedaa
