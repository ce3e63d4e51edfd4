/- lift: Best. -/
import Derived.Test.YtggddckckfilgaaLifL
import Derived.Test.YtggddckckfilgaaLifE
namespace Go.Proofs.Ytggddckckfilgaa
open Go.RowKit
set_option maxRecDepth 100000
set_option maxHeartbeats 8000000

theorem Rws.mid {w : World} {B n c : Nat} {A : Option Addr} {rs : List (List Int)} (h : Rws w B (.slice A n c) rs) (lo k : Nat) (hk : lo + k ≤ n) : Rws w B (.slice (A.map fun x => x.add lo) k (c - lo)) ((rs.drop lo).take k) := by
  obtain ⟨vs, h1, h2, h3⟩ := h
  refine ⟨_, h1.mid2 lo k hk, by simp [h2], fun j x l hx hl => ?_⟩
  have hjk : j < k := by
    have := (List.getElem?_eq_some_iff.1 hx).1
    simp at this; omega
  rw [List.getElem?_take, if_pos hjk, List.getElem?_drop] at hx hl
  exact h3 (lo + j) x l hx hl
theorem namedLi_len (m : Int) : (namedLi m).length ≤ 3 := by
  unfold namedLi
  split
  · decide
  · split
    · decide
    · split
      · decide
      · split <;> decide
theorem LiO.shapeL {w : World} {base : Nat} {v : Value} {es : List Li} (h : LiO w base v es) : ∃ A n c, v = .slice A n c := by
  obtain ⟨A, c, e, _⟩ := h.form
  exact ⟨A, _, c, e⟩
theorem bestsLi_len (rs : List (List Int)) : ∀ k, (bestsLi rs k).length ≤ 3 * k
  | 0 => by simp [bestsLi]
  | k + 1 => by
    have h1 := bestsLi_len rs k
    have h2 := namedLi_len ((bestM (pairAt rs (2 * k)) 4 : Nat) : Int)
    simp only [bestsLi, List.length_append, List.length_map, bestOfLi]
    omega
theorem wtMode_le (pair : List (List Int)) (m : Nat) : 0 ≤ wtMode pair m ∧ wtMode pair m ≤ 140737488355328 := by
  unfold wtMode
  split
  · exact weightLi_le _
  · exact weightLi_le _
theorem bestOf_any (v : Value) (pr : List (List Int)) (w : World) (B : Nat) (hR : Rws w B v pr) (hB : B ≤ w.heap.size) :
    Calls Try.prog 41 #[v] w fun e w' => ∃ u, e = .returned u ∧ LiO w' w.heap.size u (bestOfLi pr) ∧ Below w.heap.size w w' := by
  have HR := Lib.hid hR
  have hwt := weightL_any v pr w B hR
  obtain ⟨A, c, rfl, _, _⟩ := hR.form
  rw [show weightLi pr = wtMode pr (bestM pr 0) from rfl] at hwt
  have HWT := Lib.hid hwt
  clear hR hwt
  go_enter Try.func41, Try.ntmps41
  go_wp2_with fail
  refine HWT.out.mono ?_
  rintro e w1 ⟨rfl, q, rfl⟩
  have hB1 := below_drewN (Below.refl w.heap.size w) q
  go_wp2
  go_loopw [3, 4, 5] (fun uu ll mm wr => ∃ k : Nat, k ≤ 4 ∧ Hid (mm = .int .i64 ((k + 1 : Nat) : Int)) ∧ (∃ m1 : Nat, mm = .int .i64 m1) ∧ (∃ z : Int, ll = .int .i64 z ∧ Hid (z = wtMode pr (bestM pr k))) ∧ Hid (LiO wr w.heap.size uu (namedLi ((bestM pr k : Nat) : Int))) ∧ Hid (Below w.heap.size w wr)) (fun _ _ mm _ => 5 - (intOf mm).toNat)
  case atStart => exact ⟨0, by omega, rfl, ⟨1, rfl⟩, ⟨_, rfl, rfl⟩, LiO.nil _ _, hB1⟩
  case round =>
    clear hB1
    obtain ⟨k, hk, hmm, ⟨m1, rfl⟩, ⟨z, rfl, hz⟩, ho, hb⟩ := hrel
    have hmk : m1 = k + 1 := by
      have := hmm.out
      injection this with _ this
      omega
    have HMK := Lib.hid hmk
    clear hmm
    by_cases hlt : k < 4
    · have hm5 : m1 < 5 := by omega
      clear hmk
      obtain ⟨y, hy⟩ : ∃ y, wtMode pr (k + 1) = y := ⟨_, rfl⟩
      have hbm : bestM pr (k + 1) = if y < z then k + 1 else bestM pr k := by rw [← hy, hz.out]; rfl
      have hyw : weightLi (doLi pr (namedLi (m1 : Int))).1 = y := by rw [← hy, HMK.out]; rfl
      have HY := Lib.hid hy; have HBM := Lib.hid hbm; have HYW := Lib.hid hyw
      clear hy hbm hyw
      have hko := HR.out.below (hb.out.mono hB)
      go_wp2_with fail
      refine (named_any (m1 : Int) wr).mono ?_
      rintro e w2 ⟨u2, rfl, ho2, hb2⟩
      obtain ⟨A2, c2, e2, _, _⟩ := ho2.form
      have hB2 := hb.out.trans (hb2.mono hb.out.size)
      have hdo := doL_any _ u2 pr (namedLi (m1 : Int)) w2 B w2.heap.size (HR.out.below (hB2.mono hB)) (Nat.le_trans hB hB2.size) ho2.lis (Nat.le_refl _)
      have HO2 := Lib.hid (ho.out.below hb2)
      have HDO := Lib.hid hdo; have HB2 := Lib.hid hB2
      clear hko hb2 ho2 hdo hB2 e2
      go_wp2_with fail
      refine HDO.out.mono ?_
      rintro e w3 ⟨u3, vs3, rfl, hr3, hb3⟩
      have hB3 := HB2.out.trans (hb3.mono HB2.out.size)
      have HO3 := Lib.hid (HO2.out.below hb3)
      have hw3 := weightL_any u3 _ w3 _ hr3.rws
      rw [HYW.out] at hw3
      have HW3 := Lib.hid hw3; have HB3 := Lib.hid hB3
      clear hb3 hr3 hw3 HO2 HDO HB2 hB3
      go_wp2_with fail
      refine HW3.out.mono ?_
      rintro e w4 ⟨rfl, q4, rfl⟩
      have HO4 := Lib.hid (HO3.out.below (below_drewN (Below.refl _ _) q4))
      have HB4 := Lib.hid (below_drewN HB3.out q4)
      obtain ⟨w4, hw4⟩ : ∃ w4, w3.drewN q4 = w4 := ⟨_, rfl⟩
      rw [hw4] at HO4 HB4 ⊢
      clear hw4 HO3 HB3 HW3
      by_cases hyz : y < z
      · have hbk := Lib.hid (show bestM pr (k + 1) = k + 1 by rw [HBM.out, if_pos hyz])
        go_wp2_with fail
        refine (named_any (m1 : Int) w4).mono ?_
        rintro e w5 ⟨u5, rfl, ho5, hb5⟩
        have HB5 := Lib.hid (HB4.out.trans (hb5.mono HB4.out.size))
        have HO5 := Lib.hid (ho5.mono HB4.out.size)
        clear hb5 ho5
        go_wp2
        exact ⟨⟨k + 1, by omega, Lib.hid (by rw [HMK.out]; simp), ⟨m1 + 1, rfl⟩, ⟨y, rfl, Lib.hid (by rw [hbk.out, HY.out])⟩, Lib.hid (by rw [hbk.out, ← HMK.out]; exact HO5.out), HB5⟩, by simp [intOf]; omega⟩
      · have hbk := Lib.hid (show bestM pr (k + 1) = bestM pr k by rw [HBM.out, if_neg hyz])
        go_wp2
        exact ⟨⟨k + 1, by omega, Lib.hid (by rw [HMK.out]; simp), ⟨m1 + 1, rfl⟩, ⟨z, rfl, Lib.hid (by rw [hbk.out, hz.out])⟩, Lib.hid (by rw [hbk.out]; exact HO4.out), HB4⟩, by simp [intOf]; omega⟩
    · have hk4 : k = 4 := by omega
      subst hk4
      have hm5 : ¬ m1 < 5 := by omega
      clear hmk hlt
      go_wp2
      go_ret
      exact ⟨_, rfl, ho.out, hb.out⟩
theorem bestL_any (bo : Int) (v : Value) (rs : List (List Int)) (w : World) (B : Nat) (hR : Rws w B v rs) (hB : B ≤ w.heap.size) :
    Calls Try.prog 26 #[.agg #[.int .i64 bo, v]] w fun e w' => ∃ u, e = .returned u ∧ LiO w' w.heap.size u (bestLi bo rs) ∧ Below w.heap.size w w' := by
  obtain ⟨A, c, rfl, hlc, hcm⟩ := hR.form
  have hba := below_new w #[.int .i64 bo, .slice A rs.length c] 37
  have hbx := boxed w #[.int .i64 bo, .slice A rs.length c] 37
  have hR0 := hR.below (hba.mono hB)
  obtain ⟨wA, hwA⟩ : ∃ wA, w.alloc (.cells #[.int .i64 bo, .slice A rs.length c] 37) = wA := ⟨_, rfl⟩
  rw [hwA] at hba hbx hR0
  have hsz := hba.size
  have hlt := (Array.getElem?_eq_some_iff.1 hbx).1
  have hmay := mayBk_any bo _ rs wA B hR0 (Nat.le_trans hB hsz)
  obtain ⟨m, hm⟩ : ∃ m, rs.length = m := ⟨_, rfl⟩
  rw [hm] at hbx hR0 hlc hmay hwA ⊢
  have HBX := Lib.hid hbx; have HBA := Lib.hid hba; have HR0 := Lib.hid hR0; have HWA := Lib.hid hwA
  obtain ⟨q, hq⟩ : ∃ q, w.heap.size = q := ⟨_, rfl⟩
  have HQ := Lib.hid hq
  rw [hq] at HBX
  obtain ⟨x0, x1, xf⟩ := two_in HBX.out
  cases hmy : mayBk bo rs
  · rw [hmy] at hmay
    have hbl : bestLi bo rs = [] := by unfold bestLi; rw [hmy]; rfl
    have HBL := Lib.hid hbl; have HMAY := Lib.hid hmay
    clear hR hba hbx hR0 hmay hbl hwA hm hq
    go_enter Try.func26, Try.ntmps26
    go_wp2_with fail
    rw [HWA.out, HQ.out]
    go_wp2_with fail
    refine HMAY.out.mono ?_
    rintro e w1 ⟨rfl, hb1⟩
    have HB1 := Lib.hid (HBA.out.trans (hb1.mono HBA.out.size))
    clear hb1
    go_wp2
    go_ret
    exact ⟨_, rfl, by rw [HBL.out]; exact LiO.nil _ _, HB1.out⟩
  · rw [hmy] at hmay
    have hbl : bestLi bo rs = bestsLi rs (m / 2) := by unfold bestLi; rw [hmy, hm]; rfl
    have M := mayBk_of hmy
    have hm8 := M.chans
    rw [hm] at hm8
    have HBL := Lib.hid hbl; have HMAY := Lib.hid hmay; have HM := Lib.hid hm
    clear hR hba hbx hR0 hmay hbl hwA M hm hq
    go_enter Try.func26, Try.ntmps26
    go_wp2_with fail
    rw [HWA.out, HQ.out]
    go_wp2_with fail
    refine HMAY.out.mono ?_
    rintro e w1 ⟨rfl, hb1⟩
    have HB1 := Lib.hid (hb1.mono (show w.heap.size + 1 ≤ wA.heap.size by have := hlt; omega))
    clear hb1 x0 x1 xf
    go_wp2
    go_loopw [3, 4] (fun uu ff wr => ∃ (k f : Nat) (u1 : Value), ff = .int .i64 f ∧ u1 = uu ∧ Hid (f = 2 * k) ∧ 2 * k ≤ m ∧ Hid (LiO wr (w.heap.size + 1) u1 (bestsLi rs k)) ∧ Hid (Below (w.heap.size + 1) wA wr)) (fun _ ff _ => m - (intOf ff).toNat)
    case atStart => exact ⟨0, 0, _, rfl, rfl, rfl, by omega, LiO.nil _ _, HB1⟩
    case round =>
      clear HB1
      obtain ⟨k, f, u1, rfl, rfl, hf, hk, ho, hb⟩ := hrel
      have hbxr : wr.heap[q]? = some (.cells #[.int .i64 bo, .slice A m c] 37 (0, 0)) := (hb.out.block q (by have := HQ.out; omega)).trans HBX.out
      obtain ⟨x0, x1, xf⟩ := two_in hbxr
      have hszr := hb.out.size
      by_cases hlt2 : f + 1 < m
      · have hko := HR0.out.below (hb.out.mono (show B ≤ w.heap.size + 1 by omega))
        have hmid := hko.mid f 2 (by omega)
        have hpa : (rs.drop f).take 2 = pairAt rs (2 * k) := by rw [hf.out]; rfl
        rw [hpa] at hmid
        obtain ⟨bb, oo, A', c', rfl, _⟩ := hko.get (j := 0) (by have := HM.out; omega)
        simp only [Option.map_some, Addr.add_lit] at hmid
        have hbo := bestOf_any _ _ wr B hmid (by omega)
        have HBO := Lib.hid hbo
        have hcF : ¬ c = f := by omega
        clear hbo hmid hko hpa hbxr
        go_wp2_with fail
        refine HBO.out.mono ?_
        rintro e w2 ⟨u2, rfl, ho2, hb2⟩
        obtain ⟨A2, c2, rfl, hl2, _⟩ := ho2.form
        have HO2 := Lib.hid ho2
        have HB2 := Lib.hid (hb.out.trans (hb2.mono (show w.heap.size + 1 ≤ wr.heap.size by omega)))
        have HO := Lib.hid (ho.out.below hb2)
        have hlen3 : (bestOfLi (pairAt rs (2 * k))).length ≤ 3 := namedLi_len _
        have hbl := bestsLi_len rs k
        have hnext : bestsLi rs k ++ (bestOfLi (pairAt rs (2 * k))).map (shiftLi (f : Int)) = bestsLi rs (k + 1) := by rw [hf.out]; rfl
        have HNX := Lib.hid hnext
        have hxr0 : ∀ x ∈ bestOfLi (pairAt rs (2 * k)), (0 ≤ x.fr ∧ x.fr ≤ 1) ∧ (0 ≤ x.to ∧ x.to ≤ 1) := fun x hx => by
          have := liOk_iff.1 ((mayLi_iff.1 (namedLi_may _)).2.2.2 x hx)
          omega
        have HXR0 := Lib.hid hxr0
        clear hxr0
        generalize bestOfLi (pairAt rs (2 * k)) = bl at *
        obtain ⟨nb, hnb⟩ : ∃ nb, bl.length = nb := ⟨_, rfl⟩
        rw [hnb] at hl2 hlen3 HO2 ⊢
        have HNB := Lib.hid hnb; have HBLN := Lib.hid (fun _ : True => hbl)
        have hsz2 := HB2.out.size
        have hap : Apart u1 (.slice A2 nb c2) := fun k hk hk' => by
          have h1 := (ho.out.lt k hk).2
          have h2 := (HO2.out.lt k hk').1
          omega
        have HAP := Lib.hid hap
        have hxr : ∀ x ∈ bl, (0 ≤ x.fr ∧ x.fr ≤ 1) ∧ (0 ≤ x.to ∧ x.to ≤ 1) := HXR0.out
        have HXR := Lib.hid hxr
        clear ho2 hb2 HBO hnext hnb hbl x0 x1 xf hap hxr
        go_wp2
        go_loopw [3, 26] (fun uu ii wr2 => ∃ i : Nat, i ≤ nb ∧ ii = .int .i64 i ∧ Hid (LiO wr2 (w.heap.size + 1) uu (bestsLi rs k ++ (bl.map (shiftLi (f : Int))).take i)) ∧ Hid (Apart uu (.slice A2 nb c2)) ∧ Hid (LiO wr2 (w.heap.size + 1) (.slice A2 nb c2) bl) ∧ Hid (Below (w.heap.size + 1) wA wr2)) (fun _ ii _ => nb - (intOf ii).toNat)
        case atStart => exact ⟨0, Nat.zero_le _, rfl, Lib.hid (by simpa using HO.out), HAP, Lib.hid (HO2.out.mono (by omega)), HB2⟩
        case round =>
          obtain ⟨i, hi, rfl, hoi, hap, hobl, hbi⟩ := hrel
          obtain ⟨A3, n3, c3, e3⟩ := hoi.out.shapeL
          subst e3
          by_cases hin : i < nb
          · have hil : i < bl.length := by rw [HNB.out]; exact hin
            obtain ⟨b3, o3, rfl, ⟨c0, c1, c2'⟩, hb3⟩ := hobl.out.lis.get (List.getElem?_eq_getElem hil)
            have htk : (bl.map (shiftLi (f : Int))).take (i + 1) = (bl.map (shiftLi (f : Int))).take i ++ [shiftLi (f : Int) bl[i]] := by
              rw [List.take_succ_eq_append_getElem (by simpa using hil)]; simp
            have hxr := HXR.out bl[i] (List.getElem_mem hil)
            generalize bl[i] = x at *
            clear hil
            obtain ⟨xf', xt, xg⟩ := x
            simp only at c0 c1 c2' hxr
            have hszi := hbi.out.size
            have HTK := Lib.hid htk
            have hroom : (bestsLi rs k ++ (bl.map (shiftLi (f : Int))).take i).length + 1 ≤ 1099511627776 := by
              have := HBLN.out trivial
              rw [List.length_append, List.length_take]; omega
            have HROOM := Lib.hid hroom
            have hal := (Below.refl wr.heap.size wr).alloc (Nat.le_refl _) (.cells #[.int .i64 xf', .int .i64 xt, .int .i64 xg] 50)
            have HO4 := Lib.hid (hoi.out.below hal)
            have HL4 := Lib.hid (hobl.out.below hal)
            have HB4 := Lib.hid (hbi.out.trans (hal.mono (show w.heap.size + 1 ≤ wr.heap.size by omega)))
            have HSZ4 : Hid (w.heap.size + 1 ≤ (wr.alloc (.cells #[.int .i64 xf', .int .i64 xt, .int .i64 xg] 50)).heap.size) := Lib.hid (by have h4 : w.heap.size + 1 ≤ wr.heap.size := (by omega); simp; omega)
            clear htk hroom hal
            go_wp2_with (at_builtin; refine wpl_push3 (f := ⟨(f : Int) + xf', (f : Int) + xt, xg⟩) HO4.out HSZ4.out HROOM.out rfl rfl rfl rfl (h := ?_); intro v5 w5 ho5 hm5)
            have hap5 : Apart v5 (.slice (some ⟨b3, o3, none⟩) nb c2) := fun k' hk1 hk2 => by
              rcases (hm5 0).own k' hk1 with e | e
              · exact hap.out k' e hk2
              · have := (HL4.out.lt k' hk2).2
                omega
            have HL5 := Lib.hid (HL4.out.kept fun k' hk' => (hm5 (k' + 1)).block k' (HL4.out.lt k' hk').2 (by omega) (fun e => hap.out k' e hk'))
            have HO5 := Lib.hid ho5
            have HB5 := Lib.hid (HB4.out.trans (Mov.belowK hm5 (fun k' hk' => (HO4.out.lt k' hk').1) HSZ4.out))
            have HAP5 := Lib.hid hap5
            clear ho5 hm5 hap5
            exact ⟨⟨i + 1, by omega, by simp, by rw [HTK.out, ← List.append_assoc]; exact HO5.out, HAP5, HL5, HB5⟩, by simp [intOf]; omega⟩
          · have hib : i = nb := by omega
            have hall : (bl.map (shiftLi (f : Int))).take i = bl.map (shiftLi (f : Int)) := by rw [hib, ← HNB.out, List.take_of_length_le (by simp)]
            have hoi2 := hoi.out
            rw [hall, HNX.out] at hoi2
            have HOI := Lib.hid hoi2
            have hf2 : f + 2 = 2 * (k + 1) := by have := hf.out; omega
            have HF2 := Lib.hid hf2
            have hk2 : 2 * (k + 1) ≤ m := by have := hf.out; omega
            have HK2 := Lib.hid hk2
            clear hib hall hoi2 hf2 hk2
            go_wp2
            exact ⟨⟨k + 1, f + 2, _, by simp, rfl, HF2, HK2.out, HOI, hbi⟩, by simp [intOf]; omega⟩
      · have hkm : m / 2 = k := by have := hf.out; omega
        have hfm : f ≤ m := by have := hf.out; omega
        have hlt3 : ¬ (f : Int) + 1 < (m : Int) := by omega
        have HKM := Lib.hid hkm
        have HOF := Lib.hid (ho.out.mono (show w.heap.size ≤ w.heap.size + 1 by omega))
        have HBF := Lib.hid (bthen HBA.out hb.out (show w.heap.size ≤ w.heap.size + 1 by omega))
        clear hkm hlt2 ho hb hbxr xf hszr
        go_wp2
        go_ret
        exact ⟨_, rfl, by rw [HBL.out, HKM.out]; exact HOF.out, HBF.out⟩
end Go.Proofs.Ytggddckckfilgaa
