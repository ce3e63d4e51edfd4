/- lift: the reference's Best. -/
import Derived.Test.YtggddckckfilgaaLifR
import Derived.Test.YtggddckckfilgaaBloH
import Derived.Deep.RegionLaw
import Derived.Deep.RegionHeld3
namespace Go.Proofs.Ytggddckckfilgaa
open Go.RowKit
set_option maxRecDepth 100000
set_option maxHeartbeats 8000000

/-- 'append(l, a)', one operation of a region that draws its order. -/
theorem step_push3 {w : World} {base : Nat} {v : Value} {es : List Li} (hown : LiO w base v es) (hbase : base ≤ w.heap.size) (hroom : es.length + 1 ≤ 1099511627776)
    {ops : Array Oper} {o : Oper} {a : Act} {K : Act → World → Prop} {Q : Exit → Act → World → Prop} {E : Prop} {s x : Operand} {f : Li} (hgd : o.guard = none)
    (ho : o.op = .call { callee := .builtin .append, args := #[s, x], argTypes := #[22, 22] })
    (hs : a.eval s = v) {k : Nat} (hx : a.eval x = .slice (some ⟨k, 0, none⟩) 1 1) (hk : k = w.heap.size := by simp)
    (h : ∀ v' w', LiO w' base v' (es ++ [f]) → (∀ g, Mov w w' g v v') → K (a.put o.dst v') w') : if Region.wanted o (yielded ops a.tmps) = true then Oper.wp Try.prog o a (w.alloc (.cells (liCells f) 50)) K Q else E := by
  subst hk
  rw [if_pos (by simp [Region.wanted, hgd])]
  obtain ⟨i, hi, hz0, hz1, hz2⟩ := info_parts info_lift
  have hown' := World.ownsRow.alloc hown (.cells (liCells f) 50)
  obtain ⟨v', w', hr, h2, h3, _, h5⟩ := run_append_own_at (P := Try.prog) (w.alloc (.cells (liCells f) 50)) base 22 o.type 50 i _ 3 24 Try.underlying22 hi hz0 hz1 hz2 rfl (by decide) v _ (cli es) hown' ⟨w.heap.size, 0, none⟩ 1 1 (celL f) rfl
    (by
      intro j u hj
      rw [Addr.add_lit, Nat.zero_add, cell_of_row _ _ _ _ _ _ (heap_alloc_new w _)]
      match j, hj with
      | 0, hj => simpa [celL, liCells] using hj
      | 1, hj => simpa [celL, liCells] using hj
      | 2, hj => simpa [celL, liCells] using hj
      | j + 3, hj => simp [celL] at hj)
    (by intro u hu; simp [celL] at hu; rcases hu with rfl | rfl | rfl <;> rfl) (by unfold maxLen; omega) (by omega) (by simp; omega)
  unfold Oper.wp execOp
  simp only [ho, resolve, invoke, builtin, Sem.run_bind, Sem.run_pure, Result.andThen_ok, List.map_toArray, List.map_cons, List.map_nil, hs, hx, hr]
  have h1 : Below w.heap.size w (w.alloc (.cells (liCells f) 50)) := (Below.refl _ _).alloc (Nat.le_refl _) _
  refine h v' w' ?_ fun g => ?_
  · unfold LiO
    rw [List.length_append, cli_app]
    have : cli [f] = celL f := by simp [cli]
    rw [this]
    exact h2
  · refine (Mov.of_below h1).grown h3 fun k hk => ?_
    rcases h5 with e | e
    · exact .inl (e ▸ hk)
    · rw [e] at hk; injection hk with hk; exact .inr (by omega)
theorem qbestL_any (bo : Int) (v : Value) (rs : List (List Int)) (w : World) (B : Nat) (hR : Rws w B v rs) (hB : B ≤ w.heap.size) :
    Calls Try.prog 27 #[.agg #[.int .i64 bo, v]] w fun e w' => ∃ u, e = .returned u ∧ LiO w' w.heap.size u (bestLi bo rs) ∧ Below w.heap.size w w' := by
  obtain ⟨A, c, rfl, hlc, hcm⟩ := hR.form
  have hba := below_new w #[.int .i64 bo, .slice A rs.length c] 37
  have hbx := boxed w #[.int .i64 bo, .slice A rs.length c] 37
  have hR0 := hR.below (hba.mono hB)
  obtain ⟨wA, hwA⟩ : ∃ wA, w.alloc (.cells #[.int .i64 bo, .slice A rs.length c] 37) = wA := ⟨_, rfl⟩
  rw [hwA] at hba hbx hR0
  have hsz := hba.size
  have hlt := (Array.getElem?_eq_some_iff.1 hbx).1
  have hmay := qmayBk_any bo _ rs wA B hR0 (Nat.le_trans hB hsz)
  obtain ⟨m, hm⟩ : ∃ m, rs.length = m := ⟨_, rfl⟩
  rw [hm] at hbx hR0 hlc hmay hwA ⊢
  have HBX := Lib.hid hbx; have HBA := Lib.hid hba; have HR0 := Lib.hid hR0; have HWA := Lib.hid hwA
  obtain ⟨q, hq⟩ : ∃ q, w.heap.size = q := ⟨_, rfl⟩
  have HQ := Lib.hid hq
  rw [hq] at HBX
  obtain ⟨x0, x1, xf⟩ := two_in HBX.out
  cases hmy : mayBk bo rs
  · rw [hmy] at hmay
    have hbl : bestLi bo rs = [] := by unfold bestLi; rw [hmy]; rfl
    have HBL := Lib.hid hbl; have HMAY := Lib.hid hmay
    clear hR hba hbx hR0 hmay hbl hwA hm hq
    go_enter Try.func27, Try.ntmps27
    go_wp2_with fail
    rw [HWA.out, HQ.out]
    go_wp2_with fail
    refine HMAY.out.mono ?_
    rintro e w1 ⟨rfl, hb1⟩
    have HB1 := Lib.hid (HBA.out.trans (hb1.mono HBA.out.size))
    clear hb1
    go_wp2
    go_ret
    exact ⟨_, rfl, by rw [HBL.out]; exact LiO.nil _ _, HB1.out⟩
  · rw [hmy] at hmay
    have hbl : bestLi bo rs = bestsLi rs (m / 2) := by unfold bestLi; rw [hmy, hm]; rfl
    have M := mayBk_of hmy
    have hm8 := M.chans
    rw [hm] at hm8
    have HBL := Lib.hid hbl; have HMAY := Lib.hid hmay; have HM := Lib.hid hm
    clear hR hba hbx hR0 hmay hbl hwA M hm hq
    go_enter Try.func27, Try.ntmps27
    go_wp2_with fail
    rw [HWA.out, HQ.out]
    go_wp2_with fail
    refine HMAY.out.mono ?_
    rintro e w1 ⟨rfl, hb1⟩
    have HB1 := Lib.hid (hb1.mono (show w.heap.size + 1 ≤ wA.heap.size by have := hlt; omega))
    clear hb1 x0 x1 xf
    go_wp2
    go_loopw [3, 4] (fun uu ff wr => ∃ (k f : Nat) (u1 : Value), ff = .int .i64 f ∧ u1 = uu ∧ Hid (f = 2 * k) ∧ 2 * k ≤ m ∧ Hid (LiO wr (w.heap.size + 1) u1 (bestsLi rs k)) ∧ Hid (Below (w.heap.size + 1) wA wr)) (fun _ ff _ => m - (intOf ff).toNat)
    case atStart => exact ⟨0, 0, _, rfl, rfl, rfl, by omega, LiO.nil _ _, HB1⟩
    case round =>
      clear HB1
      obtain ⟨k, f, u1, rfl, rfl, hf, hk, ho, hb⟩ := hrel
      have hbxr : wr.heap[q]? = some (.cells #[.int .i64 bo, .slice A m c] 37 (0, 0)) := (hb.out.block q (by have := HQ.out; omega)).trans HBX.out
      obtain ⟨x0, x1, xf⟩ := two_in hbxr
      have hszr := hb.out.size
      by_cases hlt2 : f + 1 < m
      · have hko := HR0.out.below (hb.out.mono (show B ≤ w.heap.size + 1 by omega))
        have hmid := hko.mid f 2 (by omega)
        have hpa : (rs.drop f).take 2 = pairAt rs (2 * k) := by rw [hf.out]; rfl
        rw [hpa] at hmid
        obtain ⟨bb, oo, A', c', rfl, _⟩ := hko.get (j := 0) (by have := HM.out; omega)
        simp only [Option.map_some, Addr.add_lit] at hmid
        have hwt := qweightL_any _ _ wr B hmid (by omega)
        rw [show weightLi (pairAt rs (2 * k)) = wtMode (pairAt rs (2 * k)) (bestM (pairAt rs (2 * k)) 0) from rfl] at hwt
        have HWT := Lib.hid hwt; have HMID := Lib.hid hmid
        have hcF : ¬ c = f := by omega
        clear hwt hmid hko hpa hbxr
        go_wp2_with fail
        refine HWT.out.mono ?_
        rintro e w2 ⟨rfl, hb2⟩
        have HBa := Lib.hid (hb.out.trans (hb2.mono (show w.heap.size + 1 ≤ wr.heap.size by omega)))
        have HOa := Lib.hid (ho.out.below hb2)
        have HMa := Lib.hid (HMID.out.below (hb2.mono (show B ≤ wr.heap.size by omega)))
        have hsza := hb2.size
        have HLT1 := Lib.hid (ho.out.lt)
        clear hb2 HWT HMID x0 x1 xf
        go_wp2
        go_loopw [6, 7, 8] (fun bb2 ll mm wx => ∃ j : Nat, j ≤ 4 ∧ Hid (mm = .int .i64 ((j + 1 : Nat) : Int)) ∧ (∃ m1 : Nat, mm = .int .i64 m1) ∧ (∃ z : Int, ll = .int .i64 z ∧ Hid (z = wtMode (pairAt rs (2 * k)) (bestM (pairAt rs (2 * k)) j))) ∧ (∃ b1 : Nat, bb2 = .int .i64 b1 ∧ Hid (b1 = bestM (pairAt rs (2 * k)) j)) ∧ Hid (Below w2.heap.size w2 wx)) (fun _ _ mm _ => 5 - (intOf mm).toNat)
        case atStart => exact ⟨0, by omega, rfl, ⟨1, rfl⟩, ⟨_, rfl, rfl⟩, ⟨0, rfl, rfl⟩, Lib.hid (Below.refl _ _)⟩
        case round =>
          obtain ⟨j, hj, hmm, ⟨m1, rfl⟩, ⟨z, rfl, hz⟩, ⟨b1, rfl, hb1⟩, hbx2⟩ := hrel
          have hmk : m1 = j + 1 := by
            have := hmm.out
            injection this with _ this
            omega
          have HMK := Lib.hid hmk
          clear hmm
          have hszx := hbx2.out.size
          have hB2 : B ≤ w2.heap.size := by omega
          by_cases hlt : j < 4
          · have hm5 : m1 < 5 := by omega
            clear hmk
            obtain ⟨y, hy⟩ : ∃ y, wtMode (pairAt rs (2 * k)) (j + 1) = y := ⟨_, rfl⟩
            have hbm : bestM (pairAt rs (2 * k)) (j + 1) = if y < z then j + 1 else bestM (pairAt rs (2 * k)) j := by rw [← hy, hz.out]; rfl
            have hyw : weightLi (doLi (pairAt rs (2 * k)) (namedLi (m1 : Int))).1 = y := by rw [← hy, HMK.out]; rfl
            have HY := Lib.hid hy; have HBM := Lib.hid hbm; have HYW := Lib.hid hyw
            clear hy hbm hyw
            go_wp2_with fail
            refine (qnamed_any (m1 : Int) wr).mono ?_
            rintro e w3 ⟨u3, rfl, ho3, hb3⟩
            have hB3 := hbx2.out.trans (hb3.mono hszx)
            have hsz3 := hB3.size
            have hdo := qdoL_any _ u3 _ (namedLi (m1 : Int)) w3 B w3.heap.size (HMa.out.below (hB3.mono hB2)) (by omega) ho3.lis (Nat.le_refl _)
            obtain ⟨A3, c3, e3, _, _⟩ := ho3.form
            have HDO := Lib.hid hdo; have HB3 := Lib.hid hB3
            clear hb3 ho3 hdo hB3 e3
            go_wp2_with fail
            refine HDO.out.mono ?_
            rintro e w4 ⟨u4, vs4, rfl, hr4, hb4⟩
            have hB4 := HB3.out.trans (hb4.mono HB3.out.size)
            have hw4 := qweightL_any u4 _ w4 _ hr4.rws (Nat.le_refl _)
            rw [HYW.out] at hw4
            have HW4 := Lib.hid hw4; have HB4 := Lib.hid hB4
            clear hb4 hr4 hw4 HDO HB3 hB4
            go_wp2_with fail
            refine HW4.out.mono ?_
            rintro e w5 ⟨rfl, hb5⟩
            have HB5 := Lib.hid (bthen HB4.out hb5 HB4.out.size)
            clear hb5 HB4 HW4
            by_cases hyz : y < z
            · have hbk := Lib.hid (show bestM (pairAt rs (2 * k)) (j + 1) = j + 1 by rw [HBM.out, if_pos hyz])
              go_wp2
              exact ⟨⟨j + 1, by omega, Lib.hid (by rw [HMK.out]; simp), ⟨m1 + 1, rfl⟩, ⟨y, rfl, Lib.hid (by rw [hbk.out, HY.out])⟩, ⟨m1, rfl, Lib.hid (by rw [hbk.out, HMK.out])⟩, HB5⟩, by simp [intOf]; omega⟩
            · have hbk := Lib.hid (show bestM (pairAt rs (2 * k)) (j + 1) = bestM (pairAt rs (2 * k)) j by rw [HBM.out, if_neg hyz])
              go_wp2
              exact ⟨⟨j + 1, by omega, Lib.hid (by rw [HMK.out]; simp), ⟨m1 + 1, rfl⟩, ⟨z, rfl, Lib.hid (by rw [hbk.out, hz.out])⟩, ⟨b1, rfl, Lib.hid (by rw [hbk.out, hb1.out])⟩, HB5⟩, by simp [intOf]; omega⟩
          · have hj4 : j = 4 := by omega
            have hm5 : ¬ m1 < 5 := by omega
            have hnm : namedLi (b1 : Int) = bestOfLi (pairAt rs (2 * k)) := by rw [hb1.out, hj4]; rfl
            have hnd := qnamed_any (b1 : Int) wr
            rw [hnm] at hnd
            have HND := Lib.hid hnd
            have HBc := Lib.hid (HBa.out.trans (hbx2.out.mono (show w.heap.size + 1 ≤ w2.heap.size by omega)))
            have HOc := Lib.hid (HOa.out.below hbx2.out)
            clear hmk hlt hnd hnm hj4 hz hb1
            go_wp2_with fail
            refine HND.out.mono ?_
            rintro e w2 ⟨u2, rfl, ho2, hb2⟩
            obtain ⟨A2, c2, rfl, hl2, _⟩ := ho2.form
            have HO2 := Lib.hid ho2
            have HB2 := Lib.hid (HBc.out.trans (hb2.mono (show w.heap.size + 1 ≤ wr.heap.size by omega)))
            have HO := Lib.hid (HOc.out.below hb2)
            have hlen3 : (bestOfLi (pairAt rs (2 * k))).length ≤ 3 := namedLi_len _
            have hbl := bestsLi_len rs k
            have hnext : bestsLi rs k ++ (bestOfLi (pairAt rs (2 * k))).map (shiftLi (f : Int)) = bestsLi rs (k + 1) := by rw [hf.out]; rfl
            have HNX := Lib.hid hnext
            have hxr0 : ∀ x ∈ bestOfLi (pairAt rs (2 * k)), (0 ≤ x.fr ∧ x.fr ≤ 1) ∧ (0 ≤ x.to ∧ x.to ≤ 1) := fun x hx => by
              have := liOk_iff.1 ((mayLi_iff.1 (namedLi_may _)).2.2.2 x hx)
              omega
            have HXR0 := Lib.hid hxr0
            clear hxr0
            generalize bestOfLi (pairAt rs (2 * k)) = bl at *
            obtain ⟨nb, hnb⟩ : ∃ nb, bl.length = nb := ⟨_, rfl⟩
            rw [hnb] at hl2 hlen3 HO2 ⊢
            have HNB := Lib.hid hnb; have HBLN := Lib.hid (fun _ : True => hbl)
            have hsz2 := HB2.out.size
            have hap : Apart u1 (.slice A2 nb c2) := fun k hk hk' => by
              have h1 := (HOc.out.lt k hk).2
              have h2 := (HO2.out.lt k hk').1
              omega
            have HAP := Lib.hid hap
            have hxr : ∀ x ∈ bl, (0 ≤ x.fr ∧ x.fr ≤ 1) ∧ (0 ≤ x.to ∧ x.to ≤ 1) := HXR0.out
            have HXR := Lib.hid hxr
            clear ho2 hb2 hnext hnb hbl hap hxr
            go_wp2
            go_loopw [3, 13] (fun uu ii wr2 => ∃ i : Nat, i ≤ nb ∧ ii = .int .i64 i ∧ Hid (LiO wr2 (w.heap.size + 1) uu (bestsLi rs k ++ (bl.map (shiftLi (f : Int))).take i)) ∧ Hid (Apart uu (.slice A2 nb c2)) ∧ Hid (LiO wr2 (w.heap.size + 1) (.slice A2 nb c2) bl) ∧ Hid (Below (w.heap.size + 1) wA wr2)) (fun _ ii _ => nb - (intOf ii).toNat)
            case atStart => exact ⟨0, Nat.zero_le _, rfl, Lib.hid (by simpa using HO.out), HAP, Lib.hid (HO2.out.mono (by omega)), HB2⟩
            case round =>
              obtain ⟨i, hi, rfl, hoi, hap, hobl, hbi⟩ := hrel
              obtain ⟨A3, n3, c3, e3⟩ := hoi.out.shapeL
              subst e3
              by_cases hin : i < nb
              · have hil : i < bl.length := by rw [HNB.out]; exact hin
                obtain ⟨b3, o3, rfl, ⟨c0, c1, c2'⟩, hb3⟩ := hobl.out.lis.get (List.getElem?_eq_getElem hil)
                have htk : (bl.map (shiftLi (f : Int))).take (i + 1) = (bl.map (shiftLi (f : Int))).take i ++ [shiftLi (f : Int) bl[i]] := by
                  rw [List.take_succ_eq_append_getElem (by simpa using hil)]; simp
                have hxr := HXR.out bl[i] (List.getElem_mem hil)
                generalize bl[i] = x at *
                clear hil
                obtain ⟨xf', xt, xg⟩ := x
                simp only at c0 c1 c2' hxr
                have hszi := hbi.out.size
                have hroom : (bestsLi rs k ++ (bl.map (shiftLi (f : Int))).take i).length + 1 ≤ 1099511627776 := by
                  have := HBLN.out trivial
                  rw [List.length_append, List.length_take]; omega
                have HROOM := Lib.hid hroom
                have hxx : shiftLi (f : Int) ⟨xf', xt, xg⟩ = ⟨xf' + (f : Int), xt + (f : Int), xg⟩ := by unfold shiftLi; rw [Int.add_comm (f : Int) xf', Int.add_comm (f : Int) xt]
                rw [hxx] at htk
                have HTK := Lib.hid htk
                have HO4 := Lib.hid hoi.out.drew
                have HL4 := Lib.hid hobl.out.drew
                have HB4 := Lib.hid hbi.out.drew
                have HSZ4 : Hid (w.heap.size + 1 ≤ wr.drew.heap.size) := Lib.hid (by have h4 : w.heap.size + 1 ≤ wr.heap.size := (by omega); exact h4)
                clear htk hroom hxx
                have hw1 : IntKind.i64.wrap (xf' + (f : Int)) = xf' + (f : Int) := by rw [IntKind.wrap_i64]; omega
                have hw2 : IntKind.i64.wrap (xt + (f : Int)) = xt + (f : Int) := by rw [IntKind.wrap_i64]; omega
                go_wp2_with fail
                go_region_law (refine step_push3 (w := wr.drew) (f := ⟨xf' + (f : Int), xt + (f : Int), xg⟩) HO4.out HSZ4.out HROOM.out rfl rfl rfl rfl (h := ?_); intro v5 w5 ho5 hm5)
                all_goals
                  have hap5 : Apart v5 (.slice (some ⟨b3, o3, none⟩) nb c2) := fun k' hk1 hk2 => by
                    rcases (hm5 0).own k' hk1 with e | e
                    · exact hap.out k' e hk2
                    · have := (HL4.out.lt k' hk2).2
                      omega
                  have HL5 := Lib.hid (HL4.out.kept fun k' hk' => (hm5 (k' + 1)).block k' (HL4.out.lt k' hk').2 (by omega) (fun e => hap.out k' e hk'))
                  have HO5 := Lib.hid ho5
                  have HB5 := Lib.hid (HB4.out.trans (Mov.belowK hm5 (fun k' hk' => (HO4.out.lt k' hk').1) HSZ4.out))
                  have HAP5 := Lib.hid hap5
                  clear ho5 hm5 hap5
                  go_wp2
                  exact ⟨⟨i + 1, by omega, by simp, by rw [HTK.out, ← List.append_assoc]; exact HO5.out, HAP5, HL5, HB5⟩, by simp [intOf]; omega⟩
              · have hib : i = nb := by omega
                have hall : (bl.map (shiftLi (f : Int))).take i = bl.map (shiftLi (f : Int)) := by rw [hib, ← HNB.out, List.take_of_length_le (by simp)]
                have hoi2 := hoi.out
                rw [hall, HNX.out] at hoi2
                have HOI := Lib.hid hoi2
                have hf2 : f + 2 = 2 * (k + 1) := by have := hf.out; omega
                have HF2 := Lib.hid hf2
                have hk2 : 2 * (k + 1) ≤ m := by have := hf.out; omega
                have HK2 := Lib.hid hk2
                clear hib hall hoi2 hf2 hk2
                go_wp2
                exact ⟨⟨k + 1, f + 2, _, by simp, rfl, HF2, HK2.out, HOI, hbi⟩, by simp [intOf]; omega⟩
      · have hkm : m / 2 = k := by have := hf.out; omega
        have hfm : f ≤ m := by have := hf.out; omega
        have hlt3 : ¬ (f : Int) + 1 < (m : Int) := by omega
        have HKM := Lib.hid hkm
        have HOF := Lib.hid (ho.out.mono (show w.heap.size ≤ w.heap.size + 1 by omega))
        have HBF := Lib.hid (bthen HBA.out hb.out (show w.heap.size ≤ w.heap.size + 1 by omega))
        clear hkm hlt2 ho hb hbxr xf hszr
        go_wp2
        go_ret
        exact ⟨_, rfl, by rw [HBL.out, HKM.out]; exact HOF.out, HBF.out⟩
end Go.Proofs.Ytggddckckfilgaa
