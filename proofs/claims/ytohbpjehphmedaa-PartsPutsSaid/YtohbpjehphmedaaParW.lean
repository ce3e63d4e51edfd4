/- parts: what the reference writes. -/
import Derived.Test.YtohbpjehphmedaaParV
import Derived.Test.YtohbpjehphmedaaParE
import Derived.Test.YtohbpjehphmedaaRicX
namespace Go.Proofs.Ytohbpjehphmedaa
open Go.RowKit
set_option maxRecDepth 100000
set_option maxHeartbeats 1600000

theorem qputSigned_any {w : World} {base g : Nat} {v : Value} {L : List Bool} (hR : WqO w base g v L) (va : Value) (l : List Int) (d : Nat) (hS : Stays w g v va (ci l)) (hd31 : d ≤ 31) (hlen : L.length + 65 * l.length ≤ 1099511600000) (hb : base ≤ w.heap.size) :
    Calls Try.prog 52 #[.pointer (some ⟨g, 0, none⟩), va, .int .i64 d] w fun e w' => e = .returned (.tuple #[]) ∧ ∃ v', WqO w' base g v' (L ++ l.flatMap (twos d)) ∧ Mov w w' g v v' := by
  have hud : IntKind.u64.wrap ((d : Nat) : Int) = (d : Nat) := IntWalk.u64_in _ (by omega)
  have hmask := mask_eq (n := d) (by omega)
  have h2p : 2 ^ d ≤ 2147483648 := Nat.pow_le_pow_right (n := 2) (by omega) hd31
  have h2p0 := Nat.two_pow_pos d
  obtain ⟨M, hM⟩ : ∃ M, 2 ^ d - 1 = M := ⟨_, rfl⟩
  rw [hM] at hmask
  have hand := fun x : Int => u64_mask d (by omega) (u64I x)
  rw [hM] at hand
  obtain ⟨n, hnl⟩ : ∃ n, l.length = n := ⟨_, rfl⟩
  have HAND := Lib.hid hand; have HS := Lib.hid hS; have HNL := Lib.hid hnl; have H2P := Lib.hid (And.intro h2p h2p0); have HR := Lib.hid hR
  rw [hnl] at hlen
  clear hand hM hnl hS h2p h2p0 hR
  obtain ⟨B0, hS0⟩ := HS.out.now
  obtain ⟨A, c, rfl, hlc, hcm⟩ := hS0.formI
  rw [HNL.out] at hlc HS ⊢
  clear hS0
  go_enter Try.func52, Try.ntmps52
  go_wp2
  go_loopw [6] (fun ii wr => ∃ (j : Nat) (v3 : Value), j ≤ n ∧ ii = .int .i64 j ∧ WqO wr base g v3 (L ++ (l.take j).flatMap (twos d)) ∧ Mov w wr g v v3) (fun ii _ => n - (intOf ii).toNat)
  case atStart => exact ⟨0, v, Nat.zero_le _, rfl, by simpa using HR.out, Mov.refl _ _ _⟩
  case round =>
    obtain ⟨j, v3, hj, rfl, hR3, hm3⟩ := hrel
    by_cases hlt : j < n
    · have hjl : j < l.length := by rw [HNL.out]; exact hlt
      obtain ⟨B3, hS3⟩ := HS.out _ _ hm3
      obtain ⟨b, o, rfl, hbB, hcell⟩ := hS3.atI hjl
      have hsn := twos_snoc (d := d) hjl
      have htl := twos_len d (l.take j)
      rw [List.length_take, Nat.min_eq_left (by omega)] at htl
      have hjd : j * d ≤ n * 31 := Nat.mul_le_mul hj hd31
      have ha := HAND.out l[j]
      rw [← u64I_cast] at ha
      have hV : u64I l[j] % 2 ^ d < 2 ^ d := Nat.mod_lt _ H2P.out.2
      have e3 := wPut_ok (L ++ (l.take j).flatMap (twos d)) (x := u64I l[j] % 2 ^ d) (n := d) (by omega) hV
      rw [msb_mod, show msb (u64I l[j]) d = twos d l[j] from rfl, List.append_assoc, ← hsn] at e3
      have h2p := H2P.out
      have HP3 := Lib.hid (qput_any hR3 (by rw [List.length_append]; omega) (Nat.le_trans hb hm3.size) (u64I l[j] % 2 ^ d) (d : Nat) (by omega) (by omega) (by omega))
      rw [e3] at HP3
      generalize u64I l[j] % 2 ^ d = V at *
      generalize l[j] = x at *
      clear e3 hsn htl hS3 hjl hV h2p hR3
      go_wp2_with fail
      refine HP3.out.mono ?_
      rintro e w4 ⟨rfl, v4, hR4, hm4⟩
      go_wp2
      exact ⟨⟨j + 1, v4, by omega, by simp, hR4, hm3.trans hm4⟩, by simp [intOf]; omega⟩
    · have : j = l.length := by rw [HNL.out]; omega
      subst this
      rw [List.take_length] at hR3
      go_wp2
      first | go_end0 | refine bodyPost_ret (results_none rfl _ _ _) rfl ?_
      exact ⟨rfl, v3, hR3, hm3⟩
theorem Stays.of_ownQ {w : World} {b1 b2 g : Nat} {v u : Value} {L : List Bool} {xs : List Value} (hW : WqO w b1 g v L) (ho : Own w b2 3 u xs) : Stays w g v u xs := by
  intro w' v' hm
  obtain ⟨_, h1, h2⟩ := hW
  exact ⟨_, (ho.moved hm h1 (by decide) (apart_types h2 ho (by decide))).sli⟩
theorem qpput_any {w : World} {base g B : Nat} {v : Value} {L : List Bool} (hR : WqO w base g v L) (o : Int) (vk va : Value) (ks l : List Int) (n warm : Int) (hK : Sli w B vk (ci ks)) (hS : Sli w B va (ci l)) (hBb : B ≤ base) (hb : base ≤ w.heap.size) (hlen : L.length ≤ 1099411600000) (hn : ks.length ≤ 1099511627776) (hl : l.length ≤ 1099511627776) (ho1 : -9223372036854775808 ≤ o) (ho2 : o ≤ 9223372036854775807) :
    Calls Try.prog 22 #[.pointer (some ⟨g, 0, none⟩), .agg #[.int .i64 o, vk], .int .i64 n, .int .i64 warm, va] w fun e w' => e = .returned (.int .i64 (putP o ks n warm l L).2) ∧ ∃ v', WqO w' base g v' (putP o ks n warm l L).1 ∧ Mov w w' g v v' := by
  have hb0 := below_box w (.int .i64 o) vk 24
  have hBw : B ≤ w.heap.size := Nat.le_trans hBb hb
  have hglt := hR.lt
  have hcost := qcost_any2 o vk va ks l n warm (w.alloc (.cells #[.int .i64 o, vk] 24)) B B (hK.below (hb0.mono hBw)) (Nat.le_trans hBw hb0.size) (hS.below (hb0.mono hBw)) (Nat.le_trans hBw hb0.size) hn hl ho1 ho2
  by_cases hok : mayB o ks n warm = true ∧ rowOkB n warm l = true
  · obtain ⟨hm, hr⟩ := hok
    have hput : putP o ks n warm l L = (L ++ bitsP o ks n warm l, 0) := by unfold putP; rw [if_pos ⟨hm, hr⟩]
    rw [hput]
    obtain ⟨hp, hklen, hkB⟩ := mayB_iff.1 hm
    obtain ⟨hrow, ho0, ho8, _⟩ := planB_iff.1 hp
    obtain ⟨r1, r2, r3, r4⟩ := rowB_iff.1 hrow
    obtain ⟨p, rfl⟩ := Int.eq_ofNat_of_zero_le ho0
    have hp8 : p ≤ 8 := by omega
    have h256 := two_256 hp
    have hcy := costP_yes hm hr
    have hcp : 4 ≤ costP p ks n warm l := by rw [hcy]; omega
    have hcl := costP_le p ks n warm l
    have hr2 := hr
    rw [rowOkB, Bool.and_eq_true, decide_eq_true_eq] at hr2
    obtain ⟨nl, hnl⟩ : ∃ nl, l.length = nl := ⟨_, rfl⟩
    have hl4096 : nl ≤ 4096 := by omega
    have hsum := sizesN_sum hp
    have hsl : (sizesN p n warm).sum ≤ nl := by omega
    have hsn : (sizesN p n warm).length = 2 ^ (p : Int).toNat := sizesN_len hp
    have hpl : (cuts (sizesN p n warm) l).length = 2 ^ (p : Int).toNat := by rw [cuts_len, hsn]
    have hsz := fun w => qsizes_any p n warm w ho1 ho2
    rw [show SizesP p n warm = fun w e w' => ∃ v', e = .returned v' ∧ Own w' w.heap.size 3 v' (ci (ints (sizesN p n warm))) ∧ Below w.heap.size w w' from rfl] at hsz
    have hbits : L ++ bitsP p ks n warm l = (L ++ msb p 4) ++ planBits ks (cuts (sizesN p n warm) l) := by unfold bitsP; rw [Int.toNat_natCast, List.append_assoc]
    have hpbl := fun i => planBits_len (ks.take i) ((cuts (sizesN p n warm) l).take i) (List.all_eq_true.2 fun k hk => List.all_eq_true.1 hkB k (List.mem_of_mem_take hk)) (fun q hq => cuts_wide hr2.2 (List.mem_of_mem_take hq))
    have hple : ∀ i, planCost (ks.take i) ((cuts (sizesN p n warm) l).take i) ≤ 68400000 := fun i => by
      have h1 := planCost_le (M := 4096) (ks.take i) ((cuts (sizesN p n warm) l).take i) fun p hp => by have := mem_take_cuts p hp; omega
      have h2 : (ks.take i).length * (10 + 65 * 4096) ≤ 256 * (10 + 65 * 4096) := Nat.mul_le_mul_right _ (by rw [List.length_take]; omega)
      omega
    have hpart : ∀ q ∈ cuts (sizesN p n warm) l, q.length ≤ 4096 ∧ q.all wideB = true := fun q hq => ⟨by have := cuts_part_le hq; omega, cuts_wide hr2.2 hq⟩
    have hcg := fun i (h : i < (cuts (sizesN p n warm) l).length) (h2 : i < (sizesN p n warm).length) => cuts_get h h2
    have e1 := wPut_ok L (x := p) (n := 4) (by omega) (by omega)
    rw [hbits]
    have hup : IntKind.u64.wrap ((p : Nat) : Int) = (p : Nat) := IntWalk.u64_in _ (by omega)
    generalize cuts (sizesN p n warm) l = ps at *
    generalize sizesN p n warm = ss at *
    generalize 2 ^ (p : Int).toNat = m at *
    generalize costP p ks n warm l = cc at *
    have HCOST := Lib.hid hcost; have HSZ := Lib.hid hsz; have HKL := Lib.hid hklen; have HPL := Lib.hid hpl; have HPLE := Lib.hid hple; have HPBL := Lib.hid hpbl; have HPART := Lib.hid hpart; have HKB := Lib.hid hkB; have E1 := Lib.hid e1; have HCG := Lib.hid hcg; have HSN := Lib.hid hsn; have HSL := Lib.hid hsl; have HNL := Lib.hid hnl
    clear hcost hsz hklen hpl hple hpbl hpart hkB e1 hput hp hrow hcy hr2 hsum hsl hsn hbits hm hr hcg
    obtain ⟨A1, c1, rfl, hlc1, hcm1⟩ := hK.formI
    obtain ⟨A2, c2, rfl, hlc2, hcm2⟩ := hS.formI
    rw [hnl] at hS hlc2 hl HCOST ⊢
    clear hnl
    have hcz : ((cc : Int) == 0) = false := by simp only [beq_eq_false_iff_ne, ne_eq]; omega
    go_enter Try.func22, Try.ntmps22
    go_wp2_with fail
    refine HCOST.out.mono ?_
    rintro e w1 ⟨rfl, hb1⟩
    have hb01 := bthen hb0 hb1 hb0.size
    have hbx1 := box_on hb1
    obtain ⟨d0, d1, hf⟩ := blk2 hbx1
    have hR1 := hR.below hb01
    have hbw1 := Nat.le_trans hb hb01.size
    have HP1 := Lib.hid (qput_any hR1 (by omega) hbw1 p (4 : Nat) (by omega) (by omega) (by omega))
    rw [E1.out] at HP1
    go_wp2_with fail
    refine HP1.out.mono ?_
    rintro e w2 ⟨rfl, v2, hR2, hm2⟩
    have hG2 : v.ownBlock ≠ some w.heap.size := fun h => by have := hR.ltv _ h; omega
    have hlt1 := (Array.getElem?_eq_some_iff.1 hbx1).1
    have hbx2 := (hm2.block w.heap.size hlt1 (by omega) hG2).trans hbx1
    obtain ⟨f0, f1, _⟩ := blk2 hbx2
    have hm02 := (Mov.of_below (g := g) (v := v) hb01).trans hm2
    have hbw2 := Nat.le_trans hbw1 hm2.size
    have hBB2 := hm02.below (base := B) (Nat.le_trans hBb hR.1) (fun k hk => Nat.le_trans hBb (hR.rows k hk)) hBw
    clear d0 d1 hf HP1 hm2 hR1 hb1 hb01
    go_wp2_with fail
    refine (HSZ.out _).mono ?_
    rintro e w4 ⟨v3, rfl, ho3, hb3⟩
    obtain ⟨A3, c3, rfl, _, _⟩ := ho3.formI
    rw [ints_len, HSN.out] at ho3 ⊢
    have hBB4 := hBB2.trans (hb3.mono (Nat.le_trans hBw hm02.size))
    have hR4 := hR2.below hb3
    have hlt2 := (Array.getElem?_eq_some_iff.1 hbx2).1
    have hbx4 := (hb3.block w.heap.size hlt2).trans hbx2
    have hm04 := hm02.trans (Mov.of_below hb3)
    have hbw4 := Nat.le_trans hbw2 hb3.size
    have hSV := Stays.of_ownQ hR4 ho3
    have hBg : B ≤ g := Nat.le_trans hBb hR.1
    have hBv2 : ∀ k, v2.ownBlock = some k → B ≤ k := fun k hk => Nat.le_trans hBb (hR4.rows k hk)
    have hBw4 := Nat.le_trans hBw hBB4.size
    have hSK := Stays.of_sli (g := g) (v := v2) (hK.below hBB4) hBg hBv2 hBw4
    have hSL := hS.below hBB4
    have hG4 : v2.ownBlock ≠ some w.heap.size := by
      obtain ⟨_, _, how⟩ := hR4
      exact how.ne hbx4 (by decide)
    have HSV := Lib.hid hSV; have HSK := Lib.hid hSK; have HSLI := Lib.hid hSL; have HG4 := Lib.hid hG4; have HBX := Lib.hid hbx4; have HBV := Lib.hid hBv2
    have hlt4 := (Array.getElem?_eq_some_iff.1 hbx4).1
    have hne : w.heap.size ≠ g := by omega
    clear hb3 ho3 hbx1 hbx2 hbx4 hSV hSK hSL hG4 hBv2 hb0 hBB2 hm02 hR2 hG2 f0 f1
    go_wp2
    go_loopw [12, 13] (fun aa ii wr => ∃ (j : Nat) (v5 : Value), j ≤ m ∧ ii = .int .i64 j ∧ aa = .int .i64 ((ss.take j).sum : Nat) ∧ WqO wr base g v5 ((L ++ msb p 4) ++ planBits (ks.take j) (ps.take j)) ∧ Mov w4 wr g v2 v5) (fun _ ii _ => m - (intOf ii).toNat)
    case atStart => exact ⟨0, v2, Nat.zero_le _, rfl, by simp, by simpa [planBits] using hR4, Mov.refl _ _ _⟩
    case round =>
      obtain ⟨j, v5, hj, rfl, rfl, hR5, hm5⟩ := hrel
      by_cases hlt : j < m
      · have hjk : j < ks.length := by rw [HKL.out]; exact hlt
        have hjp : j < ps.length := by rw [HPL.out]; exact hlt
        have hjs : j < ss.length := by rw [HSN.out]; exact hlt
        have hb5 := hm5.below hBg HBV.out hBw4
        have hSw := HSLI.out.below hb5
        obtain ⟨B6, hV5⟩ := HSV.out _ _ hm5
        obtain ⟨b1, o1, rfl, hbB1, hcell1⟩ := hV5.atI (l := ints ss) (by rw [ints_len]; exact hjs)
        rw [ints_at hjs] at hcell1
        obtain ⟨B7, hK5⟩ := HSK.out _ _ hm5
        obtain ⟨b2, o2, rfl, hbB2, hcell2⟩ := hK5.atI hjk
        have hbx5 := (hm5.block w.heap.size hlt4 hne HG4.out).trans HBX.out
        obtain ⟨f0, f1, hff⟩ := blk2 hbx5
        have hsn := planBits_snoc ks ps j hjk hjp
        have hpw := HPART.out _ (List.getElem_mem hjp)
        have hkb := List.all_eq_true.1 HKB.out _ (List.getElem_mem hjk)
        have hlj := HPBL.out j
        have hle := HPLE.out j
        have hcg := HCG.out j hjp hjs
        have hst := sum_take ss j hjs
        have hsle := sum_take_le ss (j + 1)
        rw [hst] at hsle
        have has : (ss.take j).sum + ss[j] ≤ nl := by have := HSL.out; omega
        have hm2 := hSw.mid2 (ss.take j).sum ss[j] (by omega)
        have htip := fun hc => Sli.tip (w := wr) (B := B) (A := A2) (xs := ci l) (c := c2) (by rw [ci_len]; have := HNL.out; omega) (ss.take j).sum ss[j] (by rw [ci_len]; have := HNL.out; omega) hc
        rw [ci_drop, ← hcg] at hm2 htip
        have hbw5 := Nat.le_trans hbw4 hm5.size
        have hBw5 := Nat.le_trans hBw4 hm5.size
        have hL5 : ((L ++ msb p 4) ++ planBits (ks.take j) (ps.take j)).length ≤ 1099480100000 := by rw [List.length_append, List.length_append, msb_len]; omega
        have hstay := fun u (h : Sli wr B u (ci ps[j])) => Stays.of_sli (g := g) (v := v5) h hBg (fun k hk => Nat.le_trans hBb (hR5.rows k hk)) hBw5
        have HPN := Lib.hid (show (L ++ msb p 4) ++ planBits (ks.take (j + 1)) (ps.take (j + 1)) = ((L ++ msb p 4) ++ planBits (ks.take j) (ps.take j)) ++ (msb ks[j].toNat 5 ++ partBits ks[j] ps[j]) by rw [hsn]; simp only [List.append_assoc])
        have HST := Lib.hid hst; have HSTAY := Lib.hid hstay
        have hcells : ∀ wX vX, Mov w4 wX g v2 vX → wX.cell? ⟨w.heap.size, 1, none⟩ = some (.slice (some ⟨b2, o2, none⟩) ks.length c1) ∧ wX.cell? ⟨b2, o2 + j, none⟩ = some (.int .i64 ks[j]) ∧ wX.cell? ⟨b1, o1 + j, none⟩ = some (.int .i64 (ss[j] : Nat)) := by
          intro wX vX h
          refine ⟨(blk2 ((h.block w.heap.size hlt4 hne HG4.out).trans HBX.out)).2.1, ?_, ?_⟩
          · obtain ⟨_, hX⟩ := HSK.out _ _ h
            obtain ⟨b, o, hA, _, hc⟩ := hX.atI hjk
            injection hA with hA; injection hA with h1 h2
            subst h1; subst h2; exact hc
          · obtain ⟨_, hX⟩ := HSV.out _ _ h
            obtain ⟨b, o, hA, _, hc⟩ := hX.atI (l := ints ss) (by rw [ints_len]; exact hjs)
            injection hA with hA; injection hA with h1 h2
            subst h1; subst h2; rw [ints_at hjs] at hc; exact hc
        have HCELLS := Lib.hid hcells
        have htI : IntKind.i64.wrap (((ss.take j).sum : Int) + (ss[j] : Int)) = ((ss.take j).sum : Int) + (ss[j] : Int) := IntWalk.i64_in _ (by omega)
        have hkk := kB_iff.1 hkb
        obtain ⟨k, hk⟩ := Int.eq_ofNat_of_zero_le (by omega : 0 ≤ ks[j])
        rw [hk] at HCELLS hcell2 HPN hkb hkk
        rw [Int.toNat_natCast] at HPN
        have hq31 := widN_le hpw.2
        clear hcells hcg hst hsle hsn hstay hlj hle hV5 hK5 hbx5 hff
        generalize ps[j] = q at *
        generalize ss[j] = t at *
        generalize (ss.take j).sum = a at *
        have hL5R := hR5
        generalize (L ++ msb p 4) ++ planBits (ks.take j) (ps.take j) = L5 at *
        have hk5 : k < 2 ^ 5 := by omega
        have huk : IntKind.u64.wrap ((k : Nat) : Int) = (k : Nat) := IntWalk.u64_in _ (by omega)
        have E2 := Lib.hid (wPut_ok L5 (x := k) (n := 5) (by omega) hk5)
        have HP2 := Lib.hid (qput_any hR5 (by omega) hbw5 k (5 : Nat) (by omega) (by omega) (by omega))
        rw [E2.out] at HP2
        have hqlen := hpw.1
        have HPW := Lib.hid hpw.2
        clear hpw hL5R hk hjp hjs hR5 hSw E2 hk5
        by_cases hc : c2 = a
        all_goals
          first
            | (have hSu := htip hc; have HE : (c2 = a) = True := eq_true hc; have HZ : c2 - a = 0 := (by omega); have HC := Lib.hid hc; clear hc hm2 htip)
            | (have hSu := hm2; clear hm2 htip)
          have HST2 := Lib.hid (HSTAY.out _ hSu)
          clear hSu HSTAY
          by_cases hk31 : k = 31
          · subst hk31
            have hpb : partBits ((31 : Nat) : Int) q = msb (widN q) 5 ++ q.flatMap (twos (widN q)) := by unfold partBits; rw [if_pos (by omega)]
            rw [hpb] at HPN
            clear hpb
            go_wp2_with fail
            refine HP2.out.mono ?_
            rintro e w6 ⟨rfl, v6, hR6, hm6⟩
            have hm56 := hm5.trans hm6
            obtain ⟨x1, x2, x3⟩ := HCELLS.out _ _ hm56
            have HST3 := Lib.hid (HST2.out.on hm6)
            obtain ⟨B8, hS6⟩ := HST3.out.now
            have HW6 := Lib.hid (rwidth_wid hS6 (by omega))
            generalize widN q = d at *
            have hud : IntKind.u64.wrap ((d : Nat) : Int) = (d : Nat) := IntWalk.u64_in _ (by omega)
            clear hS6 f0 f1 hcell1 hcell2
            go_wp2_with fail
            refine HW6.out.mono ?_
            rintro e w7 ⟨rfl, rfl⟩
            have hbw6 := Nat.le_trans hbw5 hm6.size
            have hl6 : (L5 ++ msb 31 5).length ≤ 1099480200000 := by rw [List.length_append, msb_len]; omega
            have E3 := Lib.hid (wPut_ok (L5 ++ msb 31 5) (x := d) (n := 5) (by omega) (by omega))
            have HP3 := Lib.hid (qput_any hR6 (by omega) hbw6 d (5 : Nat) (by omega) (by omega) (by omega))
            rw [E3.out] at HP3
            go_wp2_with fail
            refine HP3.out.mono ?_
            rintro e w8 ⟨rfl, v8, hR8, hm8⟩
            have hm58 := hm56.trans hm8
            have HST4 := Lib.hid (HST3.out.on hm8)
            have hbw8 := Nat.le_trans hbw6 hm8.size
            have HP4 := Lib.hid (qputSigned_any hR8 _ q d HST4.out (by omega) (by rw [List.length_append, msb_len]; omega) hbw8)
            go_wp2_with fail
            refine HP4.out.mono ?_
            rintro e w9 ⟨rfl, v9, hR9, hm9⟩
            have hm59 := hm58.trans hm9
            obtain ⟨y1, y2, y3⟩ := HCELLS.out _ _ hm59
            clear x1 x2 x3
            go_wp2
            exact ⟨⟨j + 1, v9, by omega, by simp, by rw [HST.out]; simp, by rw [HPN.out]; simpa only [List.append_assoc] using hR9, hm59⟩, by simp [intOf]; omega⟩
          · have hpk : paramB (k : Int) = true := by rw [paramB_iff]; omega
            have hpb : partBits (k : Int) q = codes k q := by unfold partBits; rw [if_neg (by omega), Int.toNat_natCast]
            rw [hpb] at HPN
            have hkne : ((k : Int) == 31) = false := by simp only [beq_eq_false_iff_ne, ne_eq]; omega
            have hrr : putR k q (L5 ++ msb k 5) = (L5 ++ (msb k 5 ++ codes k q), 0) := by unfold putR; rw [if_pos ⟨hpk, HPW.out⟩, Int.toNat_natCast, List.append_assoc]
            have HRR := Lib.hid hrr
            have hl6 : (L5 ++ msb k 5).length + 65 * q.length ≤ 1099511600000 := by rw [List.length_append, msb_len]; omega
            clear hpb hpk hrr hk31 hkk hkb
            go_wp2_with fail
            refine HP2.out.mono ?_
            rintro e w6 ⟨rfl, v6, hR6, hm6⟩
            have hm56 := hm5.trans hm6
            obtain ⟨x1, x2, x3⟩ := HCELLS.out _ _ hm56
            have HP3 := Lib.hid (qrput_any hR6 k _ q (HST2.out.on hm6) hl6 (Nat.le_trans hbw5 hm6.size))
            rw [HRR.out] at HP3
            clear f0 f1 hcell1 hcell2
            go_wp2_with fail
            refine HP3.out.mono ?_
            rintro e w7 ⟨rfl, v7, hR7, hm7⟩
            have hm57 := hm56.trans hm7
            obtain ⟨y1, y2, y3⟩ := HCELLS.out _ _ hm57
            clear x1 x2 x3
            go_wp2
            exact ⟨⟨j + 1, v7, by omega, by simp, by rw [HST.out]; simp, by rw [HPN.out]; exact hR7, hm57⟩, by simp [intOf]; omega⟩
      · have hjm : j = m := by omega
        have t1 : ks.take j = ks := by rw [hjm, ← HKL.out, List.take_length]
        have t2 : ps.take j = ps := by rw [hjm, ← HPL.out, List.take_length]
        rw [t1, t2] at hR5
        go_wp2
        go_ret
        exact ⟨rfl, v5, hR5, hm04.trans hm5⟩
  · have hput : putP o ks n warm l L = (L, 1) := by unfold putP; rw [if_neg hok]
    rw [hput]
    rw [costP_no hok] at hcost
    have HCOST := Lib.hid hcost; have HR := Lib.hid hR
    clear hcost hok hput hR
    obtain ⟨A1, c1, rfl, hlc1, hcm1⟩ := hK.formI
    obtain ⟨A2, c2, rfl, hlc2, hcm2⟩ := hS.formI
    go_enter Try.func22, Try.ntmps22
    go_wp2_with fail
    refine HCOST.out.mono ?_
    rintro e w1 ⟨rfl, hb1⟩
    have hb01 := bthen hb0 hb1 hb0.size
    go_wp2
    go_ret
    exact ⟨rfl, v, HR.out.below hb01, Mov.of_below hb01⟩
end Go.Proofs.Ytohbpjehphmedaa
