/- parts: Put. -/
import Derived.Test.YtohbpjehphmedaaParU
import Derived.Test.YtohbpjehphmedaaRicZ
namespace Go.Proofs.Ytohbpjehphmedaa
open Go.RowKit
set_option maxRecDepth 100000
set_option maxHeartbeats 1600000

def putP (o : Int) (ks : List Int) (n warm : Int) (l : List Int) (L : List Bool) : List Bool × Int := if mayB o ks n warm = true ∧ rowOkB n warm l = true then (L ++ bitsP o ks n warm l, 0) else (L, 1)
theorem planBits_snoc : ∀ (ks : List Int) (ps : List (List Int)) (i : Nat) (h1 : i < ks.length) (h2 : i < ps.length), planBits (ks.take (i + 1)) (ps.take (i + 1)) = planBits (ks.take i) (ps.take i) ++ (msb ks[i].toNat 5 ++ partBits ks[i] ps[i])
  | [], _, i, h, _ => by simp at h
  | _ :: _, [], i, _, h => by simp at h
  | k :: ks, p :: ps, 0, _, _ => by simp [planBits]
  | k :: ks, p :: ps, i + 1, h1, h2 => by
    have ih := planBits_snoc ks ps i (by simpa using h1) (by simpa using h2)
    rw [List.take_succ_cons, List.take_succ_cons, planBits, ih, List.take_succ_cons, List.take_succ_cons, planBits]
    simp only [List.getElem_cons_succ, List.append_assoc]
theorem Stays.of_ownS {w : World} {b1 b2 g : Nat} {v u : Value} {L : List Bool} {xs : List Value} (hW : WrO w b1 g v L) (ho : Own w b2 22 u xs) : Stays w g v u xs := by
  intro w' v' hm
  obtain ⟨_, h1, l, h2, _⟩ := hW
  exact ⟨_, (ho.moved hm h1 (by decide) (apart_types h2 ho (by decide))).sli⟩
theorem Stays.many {w : World} {B g : Nat} {v u : Value} {vs : List Value} {ps : List (List Int)} (h : Slz w B vs ps) (hg : B ≤ g) (hv : ∀ k, v.ownBlock = some k → B ≤ k) (hB : B ≤ w.heap.size) {w1 : World} {v1 : Value} (hm : Mov w w1 g v v1) : Slz w1 B vs ps := h.below (hm.below hg hv hB)

theorem putP_any {w : World} {base g B : Nat} {v : Value} {L : List Bool} (hR : WrO w base g v L) (o : Int) (vk va : Value) (ks l : List Int) (n warm : Int) (hK : Sli w B vk (ci ks)) (hS : Sli w B va (ci l)) (hBb : B ≤ base) (hb : base ≤ w.heap.size) (hlen : L.length ≤ 1099411600000) (hn : ks.length ≤ 1099511627776) (hl : l.length ≤ 1099511627776) (ho1 : -9223372036854775808 ≤ o) (ho2 : o ≤ 9223372036854775807) :
    Calls Try.prog 21 #[.pointer (some ⟨g, 0, none⟩), .agg #[.int .i64 o, vk], .int .i64 n, .int .i64 warm, va] w fun e w' => e = .returned (.int .i64 (putP o ks n warm l L).2) ∧ ∃ v', WrO w' base g v' (putP o ks n warm l L).1 ∧ Mov w w' g v v' := by
  have hb0 := below_box w (.int .i64 o) vk 24
  have hBw : B ≤ w.heap.size := Nat.le_trans hBb hb
  have hglt := hR.lt
  have hcost := cost_any2 o vk va ks l n warm (w.alloc (.cells #[.int .i64 o, vk] 24)) B B (hK.below (hb0.mono hBw)) (Nat.le_trans hBw hb0.size) (hS.below (hb0.mono hBw)) (Nat.le_trans hBw hb0.size) hn hl ho1 ho2
  by_cases hok : mayB o ks n warm = true ∧ rowOkB n warm l = true
  · obtain ⟨hm, hr⟩ := hok
    have hput : putP o ks n warm l L = (L ++ bitsP o ks n warm l, 0) := by unfold putP; rw [if_pos ⟨hm, hr⟩]
    rw [hput]
    obtain ⟨hp, hklen, hkB⟩ := mayB_iff.1 hm
    obtain ⟨hrow, ho0, ho8, _⟩ := planB_iff.1 hp
    obtain ⟨r1, r2, r3, r4⟩ := rowB_iff.1 hrow
    obtain ⟨p, rfl⟩ := Int.eq_ofNat_of_zero_le ho0
    have hp8 : p ≤ 8 := by omega
    have h256 := two_256 hp
    have hcy := costP_yes hm hr
    have hcp : 4 ≤ costP p ks n warm l := by rw [hcy]; omega
    have hcl := costP_le p ks n warm l
    have hr2 := hr
    rw [rowOkB, Bool.and_eq_true, decide_eq_true_eq] at hr2
    have hl4096 : l.length ≤ 4096 := by omega
    have hsum := sizesN_sum hp
    have hsl : (sizesN p n warm).sum ≤ l.length := by omega
    have hsn : (sizesN p n warm).length = 2 ^ (p : Int).toNat := sizesN_len hp
    have hpl : (cuts (sizesN p n warm) l).length = 2 ^ (p : Int).toNat := by rw [cuts_len, hsn]
    have hsz := fun w => sizes_any p n warm w ho1 ho2
    have hsp := fun (w1 : World) (v1 : Value) (B1 : Nat) (h1 : Sli w1 B va (ci l)) (hBw : B ≤ w1.heap.size) (h2 : Sli w1 B1 v1 (ci (sizesI p n warm))) (hBw2 : B1 ≤ w1.heap.size) => split_any va v1 l (sizesN p n warm) w1 B B1 h1 hBw h2 hBw2 hl (by omega) hsl
    have hbits : L ++ bitsP p ks n warm l = (L ++ msb p 4) ++ planBits ks (cuts (sizesN p n warm) l) := by unfold bitsP; rw [Int.toNat_natCast, List.append_assoc]
    have hpbl := fun i => planBits_len (ks.take i) ((cuts (sizesN p n warm) l).take i) (List.all_eq_true.2 fun k hk => List.all_eq_true.1 hkB k (List.mem_of_mem_take hk)) (fun q hq => cuts_wide hr2.2 (List.mem_of_mem_take hq))
    have hple : ∀ i, planCost (ks.take i) ((cuts (sizesN p n warm) l).take i) ≤ 68400000 := fun i => by
      have h1 := planCost_le (M := 4096) (ks.take i) ((cuts (sizesN p n warm) l).take i) fun p hp => by have := mem_take_cuts p hp; omega
      have h2 : (ks.take i).length * (10 + 65 * 4096) ≤ 256 * (10 + 65 * 4096) := Nat.mul_le_mul_right _ (by rw [List.length_take]; omega)
      omega
    have hpart : ∀ q ∈ cuts (sizesN p n warm) l, q.length ≤ 4096 ∧ q.all wideB = true := fun q hq => ⟨by have := cuts_part_le hq; omega, cuts_wide hr2.2 hq⟩
    have e1 := wPut_ok L (x := p) (n := 4) (by omega) (by omega)
    rw [hbits]
    have hup : IntKind.u64.wrap ((p : Nat) : Int) = (p : Nat) := IntWalk.u64_in _ (by omega)
    generalize cuts (sizesN p n warm) l = ps at *
    generalize 2 ^ (p : Int).toNat = m at *
    generalize costP p ks n warm l = cc at *
    have HCOST := Lib.hid hcost; have HSZ := Lib.hid hsz; have HSP := Lib.hid hsp; have HKL := Lib.hid hklen; have HPL := Lib.hid hpl; have HPLE := Lib.hid hple; have HPBL := Lib.hid hpbl; have HPART := Lib.hid hpart; have HKB := Lib.hid hkB; have E1 := Lib.hid e1
    clear hcost hsz hsp hklen hpl hple hpbl hpart hkB e1 hput hp hrow hcy hr2 hsum hsl hsn hbits hm hr
    obtain ⟨A1, c1, rfl, hlc1, hcm1⟩ := hK.formI
    obtain ⟨A2, c2, rfl, hlc2, hcm2⟩ := hS.formI
    have hcz : ((cc : Int) == 0) = false := by simp only [beq_eq_false_iff_ne, ne_eq]; omega
    go_enter Try.func21, Try.ntmps21
    go_wp2_with fail
    refine HCOST.out.mono ?_
    rintro e w1 ⟨rfl, hb1⟩
    have hb01 := bthen hb0 hb1 hb0.size
    have hbx1 := box_on hb1
    obtain ⟨d0, d1, hf⟩ := blk2 hbx1
    have hR1 := hR.below hb01
    have hbw1 := Nat.le_trans hb hb01.size
    have HP1 := Lib.hid (wput_any hR1 (by omega) hbw1 p (4 : Nat) (by omega) (by omega) (by omega))
    rw [E1.out] at HP1
    go_wp2_with fail
    refine HP1.out.mono ?_
    rintro e w2 ⟨rfl, v2, hR2, hm2⟩
    have hG2 : v.ownBlock ≠ some w.heap.size := fun h => by have := hR.ltv _ h; omega
    have hlt1 := (Array.getElem?_eq_some_iff.1 hbx1).1
    have hbx2 := (hm2.block w.heap.size hlt1 (by omega) hG2).trans hbx1
    obtain ⟨f0, f1, _⟩ := blk2 hbx2
    have hm02 := (Mov.of_below (g := g) (v := v) hb01).trans hm2
    have hbw2 := Nat.le_trans hbw1 hm2.size
    have hBB2 := hm02.below (base := B) (Nat.le_trans hBb hR.1) (fun k hk => Nat.le_trans hBb (hR.rows k hk)) hBw
    clear d0 d1 hf HP1 hm2 hR1 hb1 hb01
    go_wp2_with fail
    refine (HSZ.out _).mono ?_
    rintro e w3 ⟨v3, rfl, ho3, hb3⟩
    obtain ⟨A3, c3, rfl, _, _⟩ := ho3.formI
    have hBB3 := hBB2.trans (hb3.mono (Nat.le_trans hBw hm02.size))
    have hs23 := hb3.size
    go_wp2_with fail
    refine (HSP.out w3 _ w3.heap.size (hS.below hBB3) (Nat.le_trans hBw hBB3.size) ho3.sli (Nat.le_refl _)).mono ?_
    rintro e w4 ⟨v4, vals, rfl, ho4, hz4, hb4⟩
    obtain ⟨A4, c4, rfl, hlc4, hcm4⟩ := ho4.form
    have hvl : vals.length = m := by rw [hz4.1, HPL.out]
    rw [hvl] at ho4 hlc4 ⊢
    have hb24 := hb3.trans (hb4.mono hs23)
    have hBB4 := hBB2.trans (hb24.mono (Nat.le_trans hBw hm02.size))
    have hR4 := hR2.below hb24
    have hlt2 := (Array.getElem?_eq_some_iff.1 hbx2).1
    have hbx4 := (hb24.block w.heap.size hlt2).trans hbx2
    have hm04 := hm02.trans (Mov.of_below hb24)
    have hbw4 := Nat.le_trans hbw2 hb24.size
    have hSV := Stays.of_ownS hR4 ho4
    have hSK := Stays.of_sli (g := g) (v := v2) (hK.below hBB4) (Nat.le_trans hBb hR.1) (fun k hk => Nat.le_trans hBb (hR4.rows k hk)) (Nat.le_trans hBw hBB4.size)
    have hG4 : v2.ownBlock ≠ some w.heap.size := by
      obtain ⟨_, _, lw, how, _⟩ := hR4
      exact how.ne hbx4 (by decide)
    have hBg : B ≤ g := Nat.le_trans hBb hR.1
    have hBv2 : ∀ k, v2.ownBlock = some k → B ≤ k := fun k hk => Nat.le_trans hBb (hR4.rows k hk)
    have HSV := Lib.hid hSV; have HSK := Lib.hid hSK; have HZ := Lib.hid hz4; have HG4 := Lib.hid hG4; have HBX := Lib.hid hbx4; have HBV := Lib.hid hBv2
    have hlt4 := (Array.getElem?_eq_some_iff.1 hbx4).1
    clear hb3 hb4 hb24 ho3 ho4 hbx1 hbx2 hbx4 hSV hSK hz4 hG4 hBv2 hb0 hBB2 hBB3 hm02 hR2 hG2 f0 f1
    have hne : w.heap.size ≠ g := by omega
    go_wp2
    go_loopw [32] (fun ii wr => ∃ (j : Nat) (v5 : Value), j ≤ m ∧ ii = .int .i64 j ∧ WrO wr base g v5 ((L ++ msb p 4) ++ planBits (ks.take j) (ps.take j)) ∧ Mov w4 wr g v2 v5) (fun ii _ => m - (intOf ii).toNat)
    case atStart => exact ⟨0, v2, Nat.zero_le _, rfl, by simpa [planBits] using hR4, Mov.refl _ _ _⟩
    case round =>
      obtain ⟨j, v5, hj, rfl, hR5, hm5⟩ := hrel
      by_cases hlt : j < m
      · have hjk : j < ks.length := by rw [HKL.out]; exact hlt
        have hjp : j < ps.length := by rw [HPL.out]; exact hlt
        have hz5 := HZ.out.below (hm5.below hBg HBV.out (Nat.le_trans hBw hBB4.size))
        obtain ⟨u, hu, hSu⟩ := hz5.get hjp
        obtain ⟨B6, hV5⟩ := HSV.out _ _ hm5
        obtain ⟨b1, o1, y, hA1, hbB1, hcell1, hy⟩ := hV5.hasn.get hlt
        rw [hu] at hy
        injection hy with hy
        subst hy
        subst hA1
        obtain ⟨B7, hK5⟩ := HSK.out _ _ hm5
        obtain ⟨b2, o2, rfl, hbB2, hcell2⟩ := hK5.atI hjk
        have hbx5 := (hm5.block w.heap.size hlt4 hne HG4.out).trans HBX.out
        obtain ⟨f0, f1, hff⟩ := blk2 hbx5
        have hsn := planBits_snoc ks ps j hjk hjp
        have hpw := HPART.out _ (List.getElem_mem hjp)
        have hkb := List.all_eq_true.1 HKB.out _ (List.getElem_mem hjk)
        have hlj := HPBL.out j
        have hle := HPLE.out j
        have hpp := putPart_any hR5 ks[j] u ps[j] (Stays.of_sli hSu hBg (fun k hk => Nat.le_trans hBb (hR5.rows k hk)) (Nat.le_trans hBB4.size hm5.size |> Nat.le_trans hBw)) hkb hpw.2 (by rw [List.length_append, List.length_append, msb_len]; omega) (Nat.le_trans hbw4 hm5.size)
        rw [List.append_assoc, ← hsn] at hpp
        obtain ⟨A5, c5, rfl, _, _⟩ := hSu.formI
        have HPP := Lib.hid hpp
        generalize ps[j] = q at *
        generalize ks[j] = k at *
        clear hpp hsn hlj hle hu hSu hz5 hbx5 hff hjp hR5 hkb
        go_wp2_with fail
        refine HPP.out.mono ?_
        rintro e w6 ⟨rfl, v6, hR6, hm6⟩
        go_wp2
        exact ⟨⟨j + 1, v6, by omega, by simp, hR6, hm5.trans hm6⟩, by simp [intOf]; omega⟩
      · have hjm : j = m := by omega
        have t1 : ks.take j = ks := by rw [hjm, ← HKL.out, List.take_length]
        have t2 : ps.take j = ps := by rw [hjm, ← HPL.out, List.take_length]
        rw [t1, t2] at hR5
        go_wp2
        go_ret
        exact ⟨rfl, v5, hR5, hm04.trans hm5⟩
  · have hput : putP o ks n warm l L = (L, 1) := by unfold putP; rw [if_neg hok]
    rw [hput]
    rw [costP_no hok] at hcost
    have HCOST := Lib.hid hcost; have HR := Lib.hid hR
    clear hcost hok hput hR
    obtain ⟨A1, c1, rfl, hlc1, hcm1⟩ := hK.formI
    obtain ⟨A2, c2, rfl, hlc2, hcm2⟩ := hS.formI
    go_enter Try.func21, Try.ntmps21
    go_wp2_with fail
    refine HCOST.out.mono ?_
    rintro e w1 ⟨rfl, hb1⟩
    have hb01 := bthen hb0 hb1 hb0.size
    go_wp2
    go_ret
    exact ⟨rfl, v, HR.out.below hb01, Mov.of_below hb01⟩
end Go.Proofs.Ytohbpjehphmedaa
