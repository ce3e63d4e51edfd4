/- block: the law BlockWoven. -/
import Derived.Test.YtfbhiaoodompdaaBloBa
import Derived.Test.YtfbhiaoodompdaaSam
namespace Go.Proofs.Ytfbhiaoodompdaa
open Go.RowKit
set_option maxRecDepth 100000
set_option maxHeartbeats 16000000

/-- 'append(v, x...)', one operation of a region that draws its order: what has changed is v's block, or v's block is new. -/
theorem step_movB {P : Program} {w : World} {base B : Nat} {e t : TypeId} {z v vx : Value} {bytes : Nat} {xs ys : List Value} (hown : Own w base e v xs) (hr : Sli w B vx ys) (hbase : base ≤ w.heap.size) (hroom : xs.length + ys.length ≤ 8796093022208)
    (ht : P.underlying t = some (.slice e)) (hinf : (P.info? e).map (fun i => (i.zero, i.size, i.bytes)) = some (some z, 1, bytes)) (hzs : z.cells.size = 1) (hb16 : bytes ≤ 16) (hone : ∀ u ∈ ys, u.oneCell' = true)
    {ops : Array Oper} {o : Oper} {a : Act} {K : Act → World → Prop} {Q : Exit → Act → World → Prop} {E : Prop} {s x : Operand} (hgd : Region.wanted o (yielded ops a.tmps) = true)
    (ho : o.op = .call { callee := .builtin .append, args := #[s, x], argTypes := #[t, t] })
    (hs : a.eval s = v) (hx : a.eval x = vx)
    (h : ∀ v' w', Own w' base e v' (xs ++ ys) → (∀ g, Mov w w' g v v') → K (a.put o.dst v') w') : if Region.wanted o (yielded ops a.tmps) = true then Oper.wp P o a w K Q else E := by
  rw [if_pos hgd]
  obtain ⟨i, hi, hz0, hz1, hz2⟩ := info_parts hinf
  obtain ⟨A, c, rfl, hh, hyc, hcm, hn⟩ := hr
  have hle : (xs.length + ys.length) * bytes ≤ 140737488355328 := by
    have : (xs.length + ys.length) * bytes ≤ 8796093022208 * 16 := Nat.mul_le_mul hroom hb16
    omega
  rcases A with _ | ad
  · have hy0 : ys = [] := by
      rcases hh.2 with h0 | ⟨b, o, he, _⟩
      · exact List.eq_nil_of_length_eq_zero h0
      · simp at he
    have hc0 := hn rfl
    subst hy0; subst hc0
    have hrun := run_append_owned_none (P := P) w base t o.type e i 1 ht hi _ xs.length xs hown
    unfold Oper.wp
    simp [execOp, ho, resolve, invoke, builtin, hs, hx, hrun, Result.andThen]
    exact h _ _ (by simpa using hown) (fun _ => Mov.refl _ _ _)
  · obtain ⟨v', w', hr, h2, h3, _, h5⟩ := run_append_own_at (P := P) w base t o.type e i z 1 bytes ht hi hz0 hz1 hz2 hzs (by decide) v _ xs hown ad ys.length c ys (by omega) (by
        intro j u hj
        obtain ⟨hjl, hje⟩ := List.getElem?_eq_some_iff.1 hj
        obtain ⟨b, o, u', hA, _, hc, hu⟩ := hh.get hjl
        injection hA with hA; subst hA
        rw [Addr.add_lit, hc, ← hu, hj]) hone (by unfold maxLen; omega) hle hbase
    unfold Oper.wp execOp
    simp only [ho, resolve, invoke, builtin, Sem.run_bind, Sem.run_pure, Result.andThen_ok, List.map_toArray, List.map_cons, List.map_nil, hs, hx, hr]
    refine h v' w' (by unfold Own; rw [List.length_append]; exact h2) fun g => ?_
    refine ⟨h3.os, h3.tape, h3.output, h3.size, fun k hk _ hn => h3.block k hk (fun e => hn e.symm), fun k hk => ?_⟩
    rcases h5 with e | e
    · exact .inl (e ▸ hk)
    · rw [e] at hk; injection hk with hk; exact .inr (by omega)
theorem own_lit (w : World) (e : TypeId) : Own (w.alloc (.cells #[] e)) w.heap.size e (.slice (some ⟨w.heap.size, 0, none⟩) 0 0) [] := World.ownsRow_made w #[] 0 (Nat.le_refl _) (by simp [maxLen]) rfl
theorem mov_apart {w w' : World} {g : Nat} {v v' u : Value} (h : Mov w w' g v v') (ha : Apart v u) (hu : ∀ k, u.ownBlock = some k → k < w.heap.size) : Apart v' u := fun k hk hk' => by
  rcases h.own k hk with e | e
  · exact ha k e hk'
  · have := hu k hk'; omega
theorem small_len {rs : List (List Int)} {most : Nat} {b : Int} {n : Nat} (h : smallB rs (most : Nat) = true) (M : MayBk b rs n) : n ≤ most := by
  unfold smallB at h
  rw [Bool.and_eq_true, List.all_eq_true] at h
  have hc := M.chans
  have h0 : 0 < rs.length := by omega
  have h1 := h.2 rs[0] (List.getElem_mem h0)
  rw [M.rows _ (List.getElem_mem h0), decide_eq_true_eq] at h1
  omega
theorem weaveR_may {b : Int} {rs : List (List Int)} {n : Nat} (M : MayBk b rs n) : weaveR b rs = weaveB rs n := by unfold weaveR; rw [if_pos (of_mayBk M), M.len]
theorem blockWoven_walk (ao : Int) (av : Value) (aa : List (List Int)) (bo : Int) (bv : Value) (bb : List (List Int)) (w : World) (hR : Rws w w.heap.size av aa) (hS : Rws w w.heap.size bv bb) :
    Calls Try.prog 11 #[.agg #[.int .i64 ao, av], .agg #[.int .i64 bo, bv]] w fun e w' => e = .returned (.bool true) ∧ Below w.heap.size w w' := by
  obtain ⟨A, c, rfl, hlc, hcm⟩ := hR.form
  obtain ⟨A2, c2, rfl, hlc2, hcm2⟩ := hS.form
  obtain ⟨m, hm⟩ : ∃ m, aa.length = m := ⟨_, rfl⟩
  obtain ⟨m2, hm2⟩ : ∃ m2, bb.length = m2 := ⟨_, rfl⟩
  rw [hm] at hR hlc ⊢
  rw [hm2] at hS hlc2 ⊢
  obtain ⟨wA, hwA, hsA, hbA, hab, hbb⟩ := two_boxes w #[.int .i64 ao, .slice A m c] #[.int .i64 bo, .slice A2 m2 c2] 26 26
  have st0 := (stab_be w).and ((stab_bxd w.heap.size w.heap.size ao (.slice A m c) aa).and (stab_bxd (w.heap.size + 1) w.heap.size bo (.slice A2 m2 c2) bb))
  have hP0 : Below w.heap.size w wA ∧ Bxd w.heap.size w.heap.size ao (.slice A m c) aa wA ∧ Bxd (w.heap.size + 1) w.heap.size bo (.slice A2 m2 c2) bb wA := ⟨hbA, ⟨hab, by omega, hR.below hbA⟩, ⟨hbb, by omega, hS.below hbA⟩⟩
  have HWA := Lib.hid hwA
  have HSA := Lib.hid (fun (w1 : World) (h : Rws w1 w.heap.size (.slice A m c) aa) (h2 : w.heap.size ≤ w1.heap.size) => smallBk_any ao _ aa 200 w1 _ h h2)
  have HSB := Lib.hid (fun (w1 : World) (h : Rws w1 w.heap.size (.slice A2 m2 c2) bb) (h2 : w.heap.size ≤ w1.heap.size) => smallBk_any bo _ bb 200 w1 _ h h2)
  have HMA := Lib.hid (fun (w1 : World) (h : Rws w1 w.heap.size (.slice A m c) aa) (h2 : w.heap.size ≤ w1.heap.size) => qmayBk_any ao _ aa w1 _ h h2)
  have HMB := Lib.hid (fun (w1 : World) (h : Rws w1 w.heap.size (.slice A2 m2 c2) bb) (h2 : w.heap.size ≤ w1.heap.size) => qmayBk_any bo _ bb w1 _ h h2)
  clear hwA hsA hbA hab hbb hR hS
  by_cases h1 : smallB aa 200 = true
  · rw [h1] at HSA
    by_cases h2 : smallB bb 200 = true
    · rw [h2] at HSB
      by_cases h3 : mayBk ao aa = true
      · rw [h3] at HMA
        by_cases h4 : mayBk bo bb = true
        · rw [h4] at HMB
          by_cases h5 : ao = bo
          · by_cases h6 : m = m2
            · subst h5; subst h6
              have M := mayBk_of h3
              have N := mayBk_of h4
              obtain ⟨n, hn⟩ : ∃ n, lenB aa = n := ⟨_, rfl⟩
              obtain ⟨k, hk⟩ : ∃ k, lenB bb = k := ⟨_, rfl⟩
              rw [hn] at M
              rw [hk] at N
              have hn2 := small_len (most := 200) h1 M
              have hk2 := small_len (most := 200) h2 N
              have hll : aa.length = bb.length := by rw [hm, hm2]
              have C := join_may M N hll (by omega)
              have hwj := weave_join (rs := aa) (ss := bb) M.rows hll k
              have hjr := joinR_ok M N hll (by omega)
              have hwa := weaveR_may M
              have hwb := weaveR_may N
              have hwc := weaveR_may C
              rw [hwj] at hwc
              have hpa := packBl_may M
              have hpb := packBl_may N
              have hpc := packBl_may C
              rw [hwj, packL_app] at hpc
              have hla : (weaveB aa n).length ≤ 32768 := weaveB_small M n (Nat.le_refl _)
              have hlb : (weaveB bb k).length ≤ 32768 := weaveB_small N k (Nat.le_refl _)
              have hqa : (packL ao (weaveB aa n)).length ≤ 98304 := by have := packBl_len ao aa; rw [hpa] at this; exact this
              have hqb : (packL ao (weaveB bb k)).length ≤ 98304 := by have := packBl_len ao bb; rw [hpb] at this; exact this
              have hxa := packL_byte ao (weaveB aa n)
              have hxb := packL_byte ao (weaveB bb k)
              have hJ := fun (w1 : World) (h : Rws w1 w.heap.size (.slice A m c) aa) (g : Rws w1 w.heap.size (.slice A2 m c2) bb) (h2 : w.heap.size ≤ w1.heap.size) => joinBk_any ao ao _ _ aa bb w1 _ h g h2
              rw [hjr] at hJ
              have hPa := fun (w1 : World) (h : Rws w1 w.heap.size (.slice A m c) aa) (h2 : w.heap.size ≤ w1.heap.size) => packBk_any ao _ aa w1 _ h h2
              rw [hpa] at hPa
              have hPb := fun (w1 : World) (h : Rws w1 w.heap.size (.slice A2 m c2) bb) (h2 : w.heap.size ≤ w1.heap.size) => packBk_any ao _ bb w1 _ h h2
              rw [hpb] at hPb
              have hPc := fun (w1 : World) (v : Value) (B : Nat) (h : Rws w1 B v (joinB aa bb)) (h2 : B ≤ w1.heap.size) => packBk_any ao v _ w1 B h h2
              rw [hpc] at hPc
              have hWa := fun (w1 : World) (h : Rws w1 w.heap.size (.slice A m c) aa) (h2 : w.heap.size ≤ w1.heap.size) => weaveBk_any ao _ aa w1 _ h h2
              rw [hwa] at hWa
              have hWb := fun (w1 : World) (h : Rws w1 w.heap.size (.slice A2 m c2) bb) (h2 : w.heap.size ≤ w1.heap.size) => weaveBk_any ao _ bb w1 _ h h2
              rw [hwb] at hWb
              have hWc := fun (w1 : World) (v : Value) (B : Nat) (h : Rws w1 B v (joinB aa bb)) (h2 : B ≤ w1.heap.size) => weaveBk_any ao v _ w1 B h h2
              rw [hwc] at hWc
              have hLa := fun (w1 : World) (h : Rws w1 w.heap.size (.slice A m c) aa) (h2 : w.heap.size ≤ w1.heap.size) => lenBk_any ao _ aa w1 _ h h2
              rw [M.len] at hLa
              have hLb := fun (w1 : World) (h : Rws w1 w.heap.size (.slice A2 m c2) bb) (h2 : w.heap.size ≤ w1.heap.size) => lenBk_any ao _ bb w1 _ h h2
              rw [N.len] at hLb
              have hLc := fun (w1 : World) (v : Value) (B : Nat) (h : Rws w1 B v (joinB aa bb)) (h2 : B ≤ w1.heap.size) => lenBk_any ao v _ w1 B h h2
              rw [C.len] at hLc
              generalize packL ao (weaveB aa n) = pa at *
              generalize packL ao (weaveB bb k) = pb at *
              generalize weaveB aa n = wa at *
              generalize weaveB bb k = wb at *
              generalize joinB aa bb = cs at *
              have hba : (ao != ao) = false := by simp
              have hma : ((m : Int) != (m : Int)) = false := by simp
              have HJ := Lib.hid hJ; have HPa := Lib.hid hPa; have HPb := Lib.hid hPb; have HPc := Lib.hid hPc; have HWa := Lib.hid hWa; have HWb := Lib.hid hWb; have HWc := Lib.hid hWc; have HLa := Lib.hid hLa; have HLb := Lib.hid hLb; have HLc := Lib.hid hLc
              have HXA := Lib.hid hxa; have HXB := Lib.hid hxb
              clear hJ hPa hPb hPc hWa hWb hWc hLa hLb hLc hxa hxb h1 h2 h3 h4 M N C hll hwj hjr hwa hwb hwc hpa hpb hpc hm hm2 hn hk
              go_enter Try.func11, Try.ntmps11
              go_wp2_with fail
              rw [HWA.out]
              refine (knownBk_any wA).mono ?_
              rintro e w1 ⟨rfl, hb1⟩
              have hP1 := st0 _ _ hb1 hP0
              obtain ⟨x0, x1⟩ := hP1.2.1.cs
              obtain ⟨y0, y1⟩ := hP1.2.2.cs
              go_wp2_with fail
              refine (HSA.out w1 hP1.2.1.2.2 hP1.2.1.2.1).mono ?_
              rintro e w2 ⟨rfl, hb2⟩
              have hP2 := st0 _ _ hb2 hP1
              clear x0 x1 y0 y1
              obtain ⟨x0, x1⟩ := hP2.2.1.cs
              obtain ⟨y0, y1⟩ := hP2.2.2.cs
              go_wp2_with fail
              refine (HSB.out w2 hP2.2.2.2.2 hP2.2.2.2.1).mono ?_
              rintro e w3 ⟨rfl, hb3⟩
              have hP3 := st0 _ _ hb3 hP2
              clear x0 x1 y0 y1
              obtain ⟨x0, x1⟩ := hP3.2.1.cs
              obtain ⟨y0, y1⟩ := hP3.2.2.cs
              go_wp2_with fail
              refine (HMA.out w3 hP3.2.1.2.2 hP3.2.1.2.1).mono ?_
              rintro e w4 ⟨rfl, hb4⟩
              have hP4 := st0 _ _ hb4 hP3
              clear x0 x1 y0 y1
              obtain ⟨x0, x1⟩ := hP4.2.1.cs
              obtain ⟨y0, y1⟩ := hP4.2.2.cs
              go_wp2_with fail
              refine (HMB.out w4 hP4.2.2.2.2 hP4.2.2.2.1).mono ?_
              rintro e w5 ⟨rfl, hb5⟩
              have hP5 := st0 _ _ hb5 hP4
              clear x0 x1 y0 y1
              obtain ⟨x0, x1⟩ := hP5.2.1.cs
              obtain ⟨y0, y1⟩ := hP5.2.2.cs
              go_wp2_with fail
              refine (HJ.out w5 hP5.2.1.2.2 hP5.2.2.2.2 hP5.2.1.2.1).mono ?_
              rintro e w6 ⟨A6, n6, c6, vs6, rfl, hR6, hb6⟩
              have hP6 := st0 _ _ hb6 hP5
              have hC7 := Bxd.new (b := ao) hR6.rws
              have hP7 := st0 _ _ (below_new w6 #[.int .i64 ao, .slice A6 n6 c6] 26) hP6
              obtain ⟨w7, hw7⟩ : ∃ w7, w6.alloc (.cells #[.int .i64 ao, .slice A6 n6 c6] 26) = w7 := ⟨_, rfl⟩
              rw [hw7] at hC7 hP7
              have st1 := st0.and (stab_bxd w6.heap.size w6.heap.size ao (.slice A6 n6 c6) cs)
              clear x0 x1 y0 y1 hP6 hR6
              obtain ⟨x0, x1⟩ := hP7.2.1.cs
              go_wp2_with fail
              refine (HPa.out w7 hP7.2.1.2.2 hP7.2.1.2.1).mono ?_
              rintro e w8 ⟨v8, rfl, ho8, hb8⟩
              have hP8 := st1 _ _ hb8 ⟨hP7, hC7⟩
              have st2 := st1.and (stab_sli w8.heap.size v8 (cu8 pa))
              clear x0 x1 hP7 hC7
              obtain ⟨y0, y1⟩ := hP8.1.2.2.cs
              go_wp2_with fail
              refine (HPb.out w8 hP8.1.2.2.2.2 hP8.1.2.2.2.1).mono ?_
              rintro e w9 ⟨v9, rfl, ho9, hb9⟩
              have hP9 := st2 _ _ hb9 ⟨hP8, Nat.le_refl _, ho8.sli⟩
              have st3 := st2.and (stab_sli w9.heap.size v9 (cu8 pb))
              clear y0 y1 hP8 ho8
              obtain ⟨x0, x1⟩ := hP9.1.2.cs
              go_wp2_with fail
              refine (HPc.out w9 _ _ hP9.1.2.2.2 hP9.1.2.2.1).mono ?_
              rintro e w10 ⟨v10, rfl, ho10, hb10⟩
              have hP10 := st3 _ _ hb10 ⟨hP9, Nat.le_refl _, ho9.sli⟩
              have st4 := st3.and (stab_sli w10.heap.size v10 (cu8 (pa ++ pb)))
              have hP := And.intro hP10 (And.intro (Nat.le_refl w10.heap.size) ho10.sli)
              clear x0 x1 hP9 ho9 hP10 ho10
              obtain ⟨x0, x1⟩ := hP.1.1.1.1.2.1.cs
              obtain ⟨y0, y1⟩ := hP.1.1.1.1.2.2.cs
              obtain ⟨z0, z1⟩ := hP.1.1.1.2.cs
              have hPd := st4.drew hP
              have hPe := st4 _ _ (below_new w10.drew #[] 3) hPd
              have hnk : IntKind.i64.wrap ((n : Int) + (k : Int)) = ((n + k : Nat) : Int) := by rw [IntKind.wrap_i64]; omega
              have hoa := ci_one wa
              have hob := ci_one wb
              have hpa1 := cu8_one pa
              have hpb1 := cu8_one pb
              go_wp2_with fail
              go_region_held3 (fun w' => w'.cell? ⟨w.heap.size, 0, none⟩ = some (.int .i64 ao) ∧ w'.cell? ⟨w.heap.size, 1, none⟩ = some (.slice A m c) ∧ w'.cell? ⟨w.heap.size + 1, 0, none⟩ = some (.int .i64 ao) ∧ w'.cell? ⟨w.heap.size + 1, 1, none⟩ = some (.slice A2 m c2) ∧ w'.cell? ⟨w6.heap.size, 0, none⟩ = some (.int .i64 ao) ∧ w'.cell? ⟨w6.heap.size, 1, none⟩ = some (.slice A6 n6 c6))
                (first | go_keep | exact ⟨hP30.1.1.1.1.2.1.cs.1, hP30.1.1.1.1.2.1.cs.2, hP30.1.1.1.1.2.2.cs.1, hP30.1.1.1.1.2.2.cs.2, hP30.1.1.1.2.cs.1, hP30.1.1.1.2.cs.2⟩ | exact ⟨hP29.1.1.1.1.2.1.cs.1, hP29.1.1.1.1.2.1.cs.2, hP29.1.1.1.1.2.2.cs.1, hP29.1.1.1.1.2.2.cs.2, hP29.1.1.1.2.cs.1, hP29.1.1.1.2.cs.2⟩ | exact ⟨hP28.1.1.1.1.2.1.cs.1, hP28.1.1.1.1.2.1.cs.2, hP28.1.1.1.1.2.2.cs.1, hP28.1.1.1.1.2.2.cs.2, hP28.1.1.1.2.cs.1, hP28.1.1.1.2.cs.2⟩ | exact ⟨hP27.1.1.1.1.2.1.cs.1, hP27.1.1.1.1.2.1.cs.2, hP27.1.1.1.1.2.2.cs.1, hP27.1.1.1.1.2.2.cs.2, hP27.1.1.1.2.cs.1, hP27.1.1.1.2.cs.2⟩ | exact ⟨hP26.1.1.1.1.2.1.cs.1, hP26.1.1.1.1.2.1.cs.2, hP26.1.1.1.1.2.2.cs.1, hP26.1.1.1.1.2.2.cs.2, hP26.1.1.1.2.cs.1, hP26.1.1.1.2.cs.2⟩ | exact ⟨hP25.1.1.1.1.2.1.cs.1, hP25.1.1.1.1.2.1.cs.2, hP25.1.1.1.1.2.2.cs.1, hP25.1.1.1.1.2.2.cs.2, hP25.1.1.1.2.cs.1, hP25.1.1.1.2.cs.2⟩ | exact ⟨hP24.1.1.1.1.2.1.cs.1, hP24.1.1.1.1.2.1.cs.2, hP24.1.1.1.1.2.2.cs.1, hP24.1.1.1.1.2.2.cs.2, hP24.1.1.1.2.cs.1, hP24.1.1.1.2.cs.2⟩ | exact ⟨hP23.1.1.1.1.2.1.cs.1, hP23.1.1.1.1.2.1.cs.2, hP23.1.1.1.1.2.2.cs.1, hP23.1.1.1.1.2.2.cs.2, hP23.1.1.1.2.cs.1, hP23.1.1.1.2.cs.2⟩ | exact ⟨hP22.1.1.1.1.2.1.cs.1, hP22.1.1.1.1.2.1.cs.2, hP22.1.1.1.1.2.2.cs.1, hP22.1.1.1.1.2.2.cs.2, hP22.1.1.1.2.cs.1, hP22.1.1.1.2.cs.2⟩ | exact ⟨hP21.1.1.1.1.2.1.cs.1, hP21.1.1.1.1.2.1.cs.2, hP21.1.1.1.1.2.2.cs.1, hP21.1.1.1.1.2.2.cs.2, hP21.1.1.1.2.cs.1, hP21.1.1.1.2.cs.2⟩ | exact ⟨hP20.1.1.1.1.2.1.cs.1, hP20.1.1.1.1.2.1.cs.2, hP20.1.1.1.1.2.2.cs.1, hP20.1.1.1.1.2.2.cs.2, hP20.1.1.1.2.cs.1, hP20.1.1.1.2.cs.2⟩)
                (first
                  | (go_at_call_of 23 (Value.agg #[.int .i64 ao, .slice A6 n6 c6]); (first | refine (HWc.out _ _ _ hPd.1.1.1.2.2.2 hPd.1.1.1.2.2.1).mono ?_ | refine (HWc.out _ _ _ hPe.1.1.1.2.2.2 hPe.1.1.1.2.2.1).mono ?_); rintro e w20 ⟨v20, rfl, ho20, hb20⟩; (first | (have z20 : Below w10.heap.size w10 w20 := (Below.refl w10.heap.size w10).drew.trans hb20) | (have z20 : Below w10.heap.size w10 w20 := ((Below.refl w10.heap.size w10).drew.trans (below_new w10.drew #[] 3)).trans (hb20.mono (by simp)); have hL20 := (own_lit w10.drew 3).kept hb20)); have hP20 := st4 _ _ z20 hP)
                  | (go_at_call_of 23 (Value.agg #[.int .i64 ao, .slice A m c]); (first | refine (HWa.out _ hP20.1.1.1.1.2.1.2.2 hP20.1.1.1.1.2.1.2.1).mono ?_ | refine (HWa.out _ (st4 _ _ (below_new w20 #[] 3) hP20).1.1.1.1.2.1.2.2 (st4 _ _ (below_new w20 #[] 3) hP20).1.1.1.1.2.1.2.1).mono ?_); rintro e w21 ⟨v21, rfl, ho21, hb21⟩; (first | (have z21 := z20.trans (hb21.mono z20.size); have ho20' := ho20.kept hb21; have hs21 := hb21.size) | (have z21 := z20.trans (((below_new w20 #[] 3).trans (hb21.mono (by simp))).mono z20.size); have ho20' := (ho20.alloc (.cells #[] 3)).kept hb21; have hs21 : w20.heap.size ≤ w21.heap.size := Nat.le_trans (by simp) hb21.size; have hL21 := ((own_lit w20 3).kept hb21).mono z20.size; have hap : Apart (.slice (some ⟨w20.heap.size, 0, none⟩) 0 0) v20 := fun k hk hk' => by (have h1 := ho20.lt k hk'; simp [Value.ownBlock] at hk h1; omega))); (first | (have hL21 := hL20.kept hb21; have hap : Apart (.slice (some ⟨w10.heap.size, 0, none⟩) 0 0) v20 := fun k hk hk' => by (have h1 := ho20.lt k hk'; simp [Value.ownBlock] at hk h1; omega)) | skip); have hP21 := st4 _ _ z21 hP)
                  | (refine step_movB hL21 ho21.sli z21.size (by rw [ci_len]; simp only [List.length_nil]; omega) Try.underlying37 info_int rfl (by decide) hoa rfl rfl rfl rfl (h := ?_); intro v22 w22 ho22 hm22; have z22 := z21.trans ((hm22 w10.heap.size).below (Nat.le_refl _) (fun k hk => (hL21.lt k hk).1) z21.size); have ho20b := ho20'.moved (hm22 w6.heap.size) hP21.1.1.1.2.1 (by decide) hap; have hap2 := mov_apart (hm22 w6.heap.size) hap (fun k hk => (ho20'.lt k hk).2); have hP22 := st4 _ _ z22 hP)
                  | (refine step_movB ((own_lit w21 3).mono z21.size) (ho21.alloc (.cells #[] 3)).sli (Nat.le_trans z21.size (by simp)) (by rw [ci_len]; simp only [List.length_nil]; omega) Try.underlying37 info_int rfl (by decide) hoa rfl rfl rfl rfl (h := ?_); intro v22 w22 ho22 hm22; have z22 := (z21.trans ((below_new w21 #[] 3).mono z21.size)).trans ((hm22 w10.heap.size).below (Nat.le_refl _) (fun k hk => (((own_lit w21 3).mono z21.size).lt k hk).1) (Nat.le_trans z21.size (by simp))); have hap : Apart (.slice (some ⟨w21.heap.size, 0, none⟩) 0 0) v20 := (fun k hk hk' => by (have h1 := ho20.lt k hk'; simp [Value.ownBlock] at hk h1; omega)); have ho20b := (ho20'.alloc (.cells #[] 3)).moved (hm22 w6.heap.size) (st4 _ _ (below_new w21 #[] 3) hP21).1.1.1.2.1 (by decide) hap; have hap2 := mov_apart (hm22 w6.heap.size) hap (fun k hk => ((ho20'.alloc (.cells #[] 3)).lt k hk).2); have hP22 := st4 _ _ z22 hP)
                  | (go_at_call_of 23 (Value.agg #[.int .i64 ao, .slice A2 m c2]); refine (HWb.out _ hP22.1.1.1.1.2.2.2.2 hP22.1.1.1.1.2.2.2.1).mono ?_; rintro e w23 ⟨v23, rfl, ho23, hb23⟩; have z23 := z22.trans (hb23.mono z22.size); have ho22b := ho22.kept hb23; have ho20c := ho20b.kept hb23; have hP23 := st4 _ _ z23 hP)
                  | (refine step_movB ho22b ho23.sli z23.size (by rw [List.nil_append, ci_len, ci_len]; omega) Try.underlying37 info_int rfl (by decide) hob rfl rfl rfl rfl (h := ?_); intro v24 w24 ho24 hm24; have z24 := z23.trans ((hm24 w10.heap.size).below (Nat.le_refl _) (fun k hk => (ho22b.lt k hk).1) z23.size); have ho20d := ho20c.moved (hm24 w6.heap.size) hP23.1.1.1.2.1 (by decide) hap2; have ho24b : Own w24 w10.heap.size 3 v24 (ci (wa ++ wb)) := (by rw [List.nil_append, ← ci_app] at ho24; exact ho24); have hP24 := st4 _ _ z24 hP)
                  | (go_at_call 22; refine (sameInts_self _ _ (wa ++ wb) w24 _ _ ho20d.sli ho24b.sli (by rw [List.length_append]; omega)).mono ?_; rintro e w25 ⟨rfl, q25, rfl⟩; have z25 := below_drewN z24 q25; have hP25 := st4 _ _ z25 hP; have z25a := z25.trans ((below_new (w24.drewN q25) #[] 5).mono z25.size))
                  | (refine step_movB ((own_lit (w24.drewN q25) 5).mono z25.size) (hP25.1.1.2.2.below ((below_new (w24.drewN q25) #[] 5).mono hP25.1.1.2.1)) z25a.size (by rw [cu8_len]; simp only [List.length_nil]; omega) Try.underlying29 info_u8 rfl (by decide) hpa1 rfl rfl rfl rfl (h := ?_); intro v26 w26 ho26 hm26; have z26 := z25a.trans ((hm26 w10.heap.size).below (Nat.le_refl _) (fun k hk => (((own_lit (w24.drewN q25) 5).mono z25.size).lt k hk).1) z25a.size); have hP26 := st4 _ _ z26 hP)
                  | (refine step_movB ho26 hP26.1.2.2 z26.size (by rw [List.nil_append, cu8_len, cu8_len]; omega) Try.underlying29 info_u8 rfl (by decide) hpb1 rfl rfl rfl rfl (h := ?_); intro v27 w27 ho27 hm27; have z27 := z26.trans ((hm27 w10.heap.size).below (Nat.le_refl _) (fun k hk => (ho26.lt k hk).1) z26.size); have ho27b : Own w27 w10.heap.size 5 v27 (cu8 (pa ++ pb)) := (by rw [List.nil_append, ← cu8_app] at ho27; exact ho27); have hP27 := st4 _ _ z27 hP)
                  | (go_at_call 25; refine (same_self _ _ (pa ++ pb) _ _ _ hP27.2.2 ho27b.sli (fun x hx => by (rcases List.mem_append.1 hx with h | h; exact HXA.out x h; exact HXB.out x h))).mono ?_; rintro e w28 ⟨rfl, rfl⟩)
                  | (go_at_call_of 20 (Value.agg #[.int .i64 ao, .slice A6 n6 c6]); refine (HLc.out _ _ _ hP27.1.1.1.2.2.2 hP27.1.1.1.2.2.1).mono ?_; rintro e w28 ⟨rfl, hb28⟩; have z28 := z27.trans (hb28.mono z27.size); have hP28 := st4 _ _ z28 hP)
                  | (go_at_call_of 20 (Value.agg #[.int .i64 ao, .slice A m c]); refine (HLa.out _ hP28.1.1.1.1.2.1.2.2 hP28.1.1.1.1.2.1.2.1).mono ?_; rintro e w29 ⟨rfl, hb29⟩; have z29 := z28.trans (hb29.mono z28.size); have hP29 := st4 _ _ z29 hP)
                  | (go_at_call_of 20 (Value.agg #[.int .i64 ao, .slice A2 m c2]); refine (HLb.out _ hP29.1.1.1.1.2.2.2.2 hP29.1.1.1.1.2.2.2.1).mono ?_; rintro e w30 ⟨rfl, hb30⟩; have z30 := z29.trans (hb30.mono z29.size); have hP30 := st4 _ _ z30 hP))
              all_goals
                go_wp2
                go_ret
                exact ⟨rfl, hP30.1.1.1.1.1⟩
            · have hbb1 : (ao != bo) = false := by rw [h5]; simp
              have hmm1 : ((m : Int) != (m2 : Int)) = true := by rw [bne_iff_ne]; omega
              clear h1 h2 h3 h4 h5 h6 hm hm2
              go_enter Try.func11, Try.ntmps11
              go_wp2_with fail
              rw [HWA.out]
              refine (knownBk_any wA).mono ?_
              rintro e w1 ⟨rfl, hb1⟩
              have hP1 := st0 _ _ hb1 hP0
              obtain ⟨x0, x1⟩ := hP1.2.1.cs
              obtain ⟨y0, y1⟩ := hP1.2.2.cs
              go_wp2_with fail
              refine (HSA.out w1 hP1.2.1.2.2 hP1.2.1.2.1).mono ?_
              rintro e w2 ⟨rfl, hb2⟩
              have hP2 := st0 _ _ hb2 hP1
              clear x0 x1 y0 y1
              obtain ⟨x0, x1⟩ := hP2.2.1.cs
              obtain ⟨y0, y1⟩ := hP2.2.2.cs
              go_wp2_with fail
              refine (HSB.out w2 hP2.2.2.2.2 hP2.2.2.2.1).mono ?_
              rintro e w3 ⟨rfl, hb3⟩
              have hP3 := st0 _ _ hb3 hP2
              clear x0 x1 y0 y1
              obtain ⟨x0, x1⟩ := hP3.2.1.cs
              obtain ⟨y0, y1⟩ := hP3.2.2.cs
              go_wp2_with fail
              refine (HMA.out w3 hP3.2.1.2.2 hP3.2.1.2.1).mono ?_
              rintro e w4 ⟨rfl, hb4⟩
              have hP4 := st0 _ _ hb4 hP3
              clear x0 x1 y0 y1
              obtain ⟨x0, x1⟩ := hP4.2.1.cs
              obtain ⟨y0, y1⟩ := hP4.2.2.cs
              go_wp2_with fail
              refine (HMB.out w4 hP4.2.2.2.2 hP4.2.2.2.1).mono ?_
              rintro e w5 ⟨rfl, hb5⟩
              have hP5 := st0 _ _ hb5 hP4
              clear x0 x1 y0 y1
              obtain ⟨x0, x1⟩ := hP5.2.1.cs
              obtain ⟨y0, y1⟩ := hP5.2.2.cs
              go_wp2
              go_ret
              exact ⟨rfl, hP5.1⟩
          · have hbb1 : (ao != bo) = true := by rw [bne_iff_ne]; exact h5
            clear h1 h2 h3 h4 h5 hm hm2
            go_enter Try.func11, Try.ntmps11
            go_wp2_with fail
            rw [HWA.out]
            refine (knownBk_any wA).mono ?_
            rintro e w1 ⟨rfl, hb1⟩
            have hP1 := st0 _ _ hb1 hP0
            obtain ⟨x0, x1⟩ := hP1.2.1.cs
            obtain ⟨y0, y1⟩ := hP1.2.2.cs
            go_wp2_with fail
            refine (HSA.out w1 hP1.2.1.2.2 hP1.2.1.2.1).mono ?_
            rintro e w2 ⟨rfl, hb2⟩
            have hP2 := st0 _ _ hb2 hP1
            clear x0 x1 y0 y1
            obtain ⟨x0, x1⟩ := hP2.2.1.cs
            obtain ⟨y0, y1⟩ := hP2.2.2.cs
            go_wp2_with fail
            refine (HSB.out w2 hP2.2.2.2.2 hP2.2.2.2.1).mono ?_
            rintro e w3 ⟨rfl, hb3⟩
            have hP3 := st0 _ _ hb3 hP2
            clear x0 x1 y0 y1
            obtain ⟨x0, x1⟩ := hP3.2.1.cs
            obtain ⟨y0, y1⟩ := hP3.2.2.cs
            go_wp2_with fail
            refine (HMA.out w3 hP3.2.1.2.2 hP3.2.1.2.1).mono ?_
            rintro e w4 ⟨rfl, hb4⟩
            have hP4 := st0 _ _ hb4 hP3
            clear x0 x1 y0 y1
            obtain ⟨x0, x1⟩ := hP4.2.1.cs
            obtain ⟨y0, y1⟩ := hP4.2.2.cs
            go_wp2_with fail
            refine (HMB.out w4 hP4.2.2.2.2 hP4.2.2.2.1).mono ?_
            rintro e w5 ⟨rfl, hb5⟩
            have hP5 := st0 _ _ hb5 hP4
            clear x0 x1 y0 y1
            obtain ⟨x0, x1⟩ := hP5.2.1.cs
            obtain ⟨y0, y1⟩ := hP5.2.2.cs
            go_wp2
            go_ret
            exact ⟨rfl, hP5.1⟩
        · rw [Bool.eq_false_iff.2 h4] at HMB
          clear h1 h2 h3 h4 hm hm2
          go_enter Try.func11, Try.ntmps11
          go_wp2_with fail
          rw [HWA.out]
          refine (knownBk_any wA).mono ?_
          rintro e w1 ⟨rfl, hb1⟩
          have hP1 := st0 _ _ hb1 hP0
          obtain ⟨x0, x1⟩ := hP1.2.1.cs
          obtain ⟨y0, y1⟩ := hP1.2.2.cs
          go_wp2_with fail
          refine (HSA.out w1 hP1.2.1.2.2 hP1.2.1.2.1).mono ?_
          rintro e w2 ⟨rfl, hb2⟩
          have hP2 := st0 _ _ hb2 hP1
          clear x0 x1 y0 y1
          obtain ⟨x0, x1⟩ := hP2.2.1.cs
          obtain ⟨y0, y1⟩ := hP2.2.2.cs
          go_wp2_with fail
          refine (HSB.out w2 hP2.2.2.2.2 hP2.2.2.2.1).mono ?_
          rintro e w3 ⟨rfl, hb3⟩
          have hP3 := st0 _ _ hb3 hP2
          clear x0 x1 y0 y1
          obtain ⟨x0, x1⟩ := hP3.2.1.cs
          obtain ⟨y0, y1⟩ := hP3.2.2.cs
          go_wp2_with fail
          refine (HMA.out w3 hP3.2.1.2.2 hP3.2.1.2.1).mono ?_
          rintro e w4 ⟨rfl, hb4⟩
          have hP4 := st0 _ _ hb4 hP3
          clear x0 x1 y0 y1
          obtain ⟨x0, x1⟩ := hP4.2.1.cs
          obtain ⟨y0, y1⟩ := hP4.2.2.cs
          go_wp2_with fail
          refine (HMB.out w4 hP4.2.2.2.2 hP4.2.2.2.1).mono ?_
          rintro e w5 ⟨rfl, hb5⟩
          have hP5 := st0 _ _ hb5 hP4
          clear x0 x1 y0 y1
          obtain ⟨x0, x1⟩ := hP5.2.1.cs
          obtain ⟨y0, y1⟩ := hP5.2.2.cs
          go_wp2
          go_ret
          exact ⟨rfl, hP5.1⟩
      · rw [Bool.eq_false_iff.2 h3] at HMA
        clear h1 h2 h3 hm hm2
        go_enter Try.func11, Try.ntmps11
        go_wp2_with fail
        rw [HWA.out]
        refine (knownBk_any wA).mono ?_
        rintro e w1 ⟨rfl, hb1⟩
        have hP1 := st0 _ _ hb1 hP0
        obtain ⟨x0, x1⟩ := hP1.2.1.cs
        obtain ⟨y0, y1⟩ := hP1.2.2.cs
        go_wp2_with fail
        refine (HSA.out w1 hP1.2.1.2.2 hP1.2.1.2.1).mono ?_
        rintro e w2 ⟨rfl, hb2⟩
        have hP2 := st0 _ _ hb2 hP1
        clear x0 x1 y0 y1
        obtain ⟨x0, x1⟩ := hP2.2.1.cs
        obtain ⟨y0, y1⟩ := hP2.2.2.cs
        go_wp2_with fail
        refine (HSB.out w2 hP2.2.2.2.2 hP2.2.2.2.1).mono ?_
        rintro e w3 ⟨rfl, hb3⟩
        have hP3 := st0 _ _ hb3 hP2
        clear x0 x1 y0 y1
        obtain ⟨x0, x1⟩ := hP3.2.1.cs
        obtain ⟨y0, y1⟩ := hP3.2.2.cs
        go_wp2_with fail
        refine (HMA.out w3 hP3.2.1.2.2 hP3.2.1.2.1).mono ?_
        rintro e w4 ⟨rfl, hb4⟩
        have hP4 := st0 _ _ hb4 hP3
        clear x0 x1 y0 y1
        obtain ⟨x0, x1⟩ := hP4.2.1.cs
        obtain ⟨y0, y1⟩ := hP4.2.2.cs
        go_wp2
        go_ret
        exact ⟨rfl, hP4.1⟩
    · rw [Bool.eq_false_iff.2 h2] at HSB
      clear h1 h2 hm hm2
      go_enter Try.func11, Try.ntmps11
      go_wp2_with fail
      rw [HWA.out]
      refine (knownBk_any wA).mono ?_
      rintro e w1 ⟨rfl, hb1⟩
      have hP1 := st0 _ _ hb1 hP0
      obtain ⟨x0, x1⟩ := hP1.2.1.cs
      obtain ⟨y0, y1⟩ := hP1.2.2.cs
      go_wp2_with fail
      refine (HSA.out w1 hP1.2.1.2.2 hP1.2.1.2.1).mono ?_
      rintro e w2 ⟨rfl, hb2⟩
      have hP2 := st0 _ _ hb2 hP1
      clear x0 x1 y0 y1
      obtain ⟨x0, x1⟩ := hP2.2.1.cs
      obtain ⟨y0, y1⟩ := hP2.2.2.cs
      go_wp2_with fail
      refine (HSB.out w2 hP2.2.2.2.2 hP2.2.2.2.1).mono ?_
      rintro e w3 ⟨rfl, hb3⟩
      have hP3 := st0 _ _ hb3 hP2
      clear x0 x1 y0 y1
      obtain ⟨x0, x1⟩ := hP3.2.1.cs
      obtain ⟨y0, y1⟩ := hP3.2.2.cs
      go_wp2
      go_ret
      exact ⟨rfl, hP3.1⟩
  · rw [Bool.eq_false_iff.2 h1] at HSA
    clear h1 hm hm2
    go_enter Try.func11, Try.ntmps11
    go_wp2_with fail
    rw [HWA.out]
    refine (knownBk_any wA).mono ?_
    rintro e w1 ⟨rfl, hb1⟩
    have hP1 := st0 _ _ hb1 hP0
    obtain ⟨x0, x1⟩ := hP1.2.1.cs
    obtain ⟨y0, y1⟩ := hP1.2.2.cs
    go_wp2_with fail
    refine (HSA.out w1 hP1.2.1.2.2 hP1.2.1.2.1).mono ?_
    rintro e w2 ⟨rfl, hb2⟩
    have hP2 := st0 _ _ hb2 hP1
    clear x0 x1 y0 y1
    obtain ⟨x0, x1⟩ := hP2.2.1.cs
    obtain ⟨y0, y1⟩ := hP2.2.2.cs
    go_wp2
    go_ret
    exact ⟨rfl, hP2.1⟩
end Go.Proofs.Ytfbhiaoodompdaa
