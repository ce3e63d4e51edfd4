/- prefix: the reference's rising, walked. -/
import Derived.Test.YthecibabpcfoaaaPfxRD
namespace Go.Proofs.Ythecibabpcfoaaa
open Go.RowKit
set_option maxRecDepth 100000
set_option maxHeartbeats 4000000

/-- 'append(l, x...)' in a region that draws, and what has grown. -/
theorem step_appG {w : World} {base B : Nat} {v vx : Value} {es fs : List Thm} (hown : ThO w base v es) (hr : ThS w B vx fs) (hbase : base ≤ w.heap.size) (hroom : es.length + fs.length ≤ 1099511627776)
    {ops : Array Oper} {o : Oper} {a : Act} {K : Act → World → Prop} {Q : Exit → Act → World → Prop} {E : Prop} {s x : Operand} (hgd : o.guard = none)
    (ho : o.op = .call { callee := .builtin .append, args := #[s, x], argTypes := #[69, 69] })
    (hs : a.eval s = v) (hx : a.eval x = vx)
    (h : ∀ v' w', ThO w' base v' (es ++ fs) → Below base w w' → w.grownBy w' v.ownBlock → K (a.put o.dst v') w') : if Region.wanted o (yielded ops a.tmps) = true then Oper.wp Try.prog o a w K Q else E := by
  rw [if_pos (by simp [Region.wanted, hgd])]
  obtain ⟨i, hi, hz0, hz1, hz2⟩ := info_parts info_thing
  obtain ⟨A, c, rfl, hyc, hcm, hz, hcell⟩ := hr
  rcases A with _ | ad
  · have hy0 : fs = [] := by
      rcases hcell with h0 | ⟨b, o, he, _⟩
      · exact List.eq_nil_of_length_eq_zero h0
      · simp at he
    have hc0 := hz rfl
    subst hy0; subst hc0
    have hrun := run_append_owned_none (P := Try.prog) w base 69 o.type 72 i 2 Try.underlying69 hi _ es.length (cT es) hown
    unfold Oper.wp
    simp [execOp, ho, resolve, invoke, builtin, hs, hx, hrun, Result.andThen]
    exact h _ _ (by simpa using hown) (Below.refl _ _) ⟨rfl, rfl, rfl, Nat.le_refl _, fun _ _ _ => rfl⟩
  · refine wp_append_own w s x 69 ho base 72 i _ 2 32 Try.underlying69 hi hz0 hz1 hz2 rfl (by decide) v _ (cT es) hs hown ad fs.length c (cT fs) hx (cT_len fs) ?_ ?_ ?_ ?_ hbase ?_
    · intro j u hj
      have hjl := (List.getElem?_eq_some_iff.1 hj).1
      rw [cT_len] at hjl
      rcases hcell with h0 | ⟨b, o2, he, hb, hc⟩
      · omega
      · injection he with he
        subst he
        obtain ⟨x0, hx0⟩ : ∃ x0, fs[j / 2]? = some x0 := ⟨_, List.getElem?_eq_getElem (by omega)⟩
        have hat := cT_at fs (j / 2) x0 (j % 2) hx0 (Nat.mod_lt _ (by omega))
        rw [show j / 2 * 2 + j % 2 = j by omega, hj] at hat
        obtain ⟨c0, c1⟩ := hc _ _ hx0
        rw [Addr.add_lit, show o2 + j = o2 + j / 2 * 2 + j % 2 by omega]
        have h5 : j % 2 = 0 ∨ j % 2 = 1 := by omega
        rcases h5 with h5 | h5 <;> rw [h5] at hat ⊢ <;> rw [hat]
        · exact c0
        · exact c1
    · intro u hu
      obtain ⟨y, _, hy⟩ := List.mem_flatMap.1 hu
      simp [celT] at hy
      rcases hy with rfl | rfl <;> rfl
    · unfold maxLen; omega
    · omega
    · intro v' w' ho' hg' _
      exact h v' w' (by unfold ThO; rw [List.length_append, cT_app]; exact ho') (hown.grow hbase hg') hg'
theorem ThS.one {w : World} {k : Nat} {x : Thm} (h : w.heap[k]? = some (.cells #[.int .i64 (x.1 : Nat), .slice x.2.1 x.2.2.1 x.2.2.2] 72 (0, 0))) : ThS w (k + 1) (.slice (some ⟨k, 0, none⟩) 1 1) [x] := by
  refine ⟨some ⟨k, 0, none⟩, 1, rfl, Nat.le_refl _, by simp [maxLen], fun e => by simp at e, .inr ⟨k, 0, rfl, by omega, fun j y hy => ?_⟩⟩
  have hj : j = 0 := by have := (List.getElem?_eq_some_iff.1 hy).1; simpa using this
  subst hj
  have hf : x = y := by simpa using hy
  subst hf
  exact ⟨by rw [cell_of_row _ _ _ _ _ _ h]; rfl, by rw [cell_of_row _ _ _ _ _ _ h]; rfl⟩
theorem ThO.allocs {w : World} {base : Nat} {v : Value} {es : List Thm} (h : ThO w base v es) (o : Obj) : ThO (w.alloc o) base v es := World.ownsRow.alloc h o
theorem ThS.allocs {w : World} {B : Nat} {v : Value} {es : List Thm} (h : ThS w B v es) (hB : B ≤ w.heap.size) (o : Obj) : ThS (w.alloc o) B v es := h.below ((Below.refl B w).alloc hB o)
theorem ThS.rest {w : World} {B n c b o : Nat} {es : List Thm} (h : ThS w B (.slice (some ⟨b, o, none⟩) n c) es) {p : Nat} (hp : p ≤ n) :
    ThS w B (.slice (if c = p then some ⟨b, o, none⟩ else some ⟨b, o + p * 2, none⟩) (n - p) (c - p)) (es.drop p) := by
  obtain ⟨A', c', hv, h1, h2, h3, h4⟩ := h
  injection hv with e1 e2 e3
  subst e1; subst e2; subst e3
  by_cases hcp : c = p
  · rw [if_pos hcp]
    exact ⟨_, c - p, by rw [List.length_drop], by rw [List.length_drop]; omega, by omega, fun e => by simp at e, .inl (by rw [List.length_drop]; omega)⟩
  · rw [if_neg hcp]
    refine ⟨_, c - p, by rw [List.length_drop], by rw [List.length_drop]; omega, by omega, fun e => by simp at e, ?_⟩
    rcases h4 with h0 | ⟨b', o', he, hb, hc⟩
    · left; rw [List.length_drop]; omega
    · injection he with he
      injection he with he1 he2
      subst he1; subst he2
      refine .inr ⟨_, _, rfl, hb, fun j x hx => ?_⟩
      rw [List.getElem?_drop] at hx
      have := hc _ _ hx
      rw [show o + p * 2 + j * 2 = o + (p + j) * 2 by omega]
      exact this
theorem rising_any {w : World} {va : Value} {l : List Thm} {x : Thm} {B : Nat} (hA : ThS w B va l) (hBw : B ≤ w.heap.size) (la : l.length ≤ 1048576) :
    Calls Try.prog 39 #[va, .agg #[.int .i64 (x.1 : Nat), .slice x.2.1 x.2.2.1 x.2.2.2]] w fun e w' => ∃ v' p, e = .returned v' ∧ ThO w' w.heap.size v' (l.take p ++ [x] ++ l.drop p) ∧ p ≤ l.length ∧ (∀ t, 0 < p → l[p - 1]? = some t → t.1 ≤ x.1) ∧ (∀ j t, p ≤ j → l[j]? = some t → x.1 < t.1) ∧ Below w.heap.size w w' := by
  obtain ⟨A, ca, rfl, hca, _⟩ := hA.form
  have hb1 : Below w.heap.size w (w.alloc (.cells #[.int .i64 (x.1 : Nat), .slice x.2.1 x.2.2.1 x.2.2.2] 72)) := (Below.refl _ _).alloc (Nat.le_refl _) _
  have hG := heap_alloc_new w (.cells #[.int .i64 (x.1 : Nat), .slice x.2.1 x.2.2.1 x.2.2.2] 72)
  have hx0 : (w.alloc (.cells #[.int .i64 (x.1 : Nat), .slice x.2.1 x.2.2.1 x.2.2.2] 72)).cell? ⟨w.heap.size, 0, none⟩ = some (.int .i64 (x.1 : Nat)) := by rw [cell_of_row _ _ _ _ _ _ hG]; rfl
  have hx1 : (w.alloc (.cells #[.int .i64 (x.1 : Nat), .slice x.2.1 x.2.2.1 x.2.2.2] 72)).cell? ⟨w.heap.size, 1, none⟩ = some (.slice x.2.1 x.2.2.1 x.2.2.2) := by rw [cell_of_row _ _ _ _ _ _ hG]; rfl
  have HA := Lib.hid hA; have HB1 := Lib.hid hb1; have HX0 := Lib.hid hx0; have HX1 := Lib.hid hx1
  have HBW := Lib.hid hBw
  clear hA hb1 hG hx0 hx1 hBw
  go_enter Try.func39, Try.ntmps39
  go_wp2
  go_loopw [5] (fun ni wr => ∃ (p q : Nat), ni = .int .i64 p ∧ p ≤ l.length ∧ Hid (∀ j t, p ≤ j → l[j]? = some t → x.1 < t.1) ∧ Hid (wr = (w.alloc (.cells #[.int .i64 (x.1 : Nat), .slice x.2.1 x.2.2.1 x.2.2.2] 72)).drewN q)) (fun ni _ => (intOf ni).toNat)
  case atStart => exact ⟨l.length, 0, rfl, Nat.le_refl _, Lib.hid (fun j t hj ht => by have := (List.getElem?_eq_some_iff.1 ht).1; omega), Lib.hid rfl⟩
  case round =>
    obtain ⟨p, q, rfl, hp, HGT, HW⟩ := hrel
    have hwx0 : wr.cell? ⟨w.heap.size, 0, none⟩ = some (.int .i64 (x.1 : Nat)) := by rw [HW.out]; exact HX0.out
    have hwx1 : wr.cell? ⟨w.heap.size, 1, none⟩ = some (.slice x.2.1 x.2.2.1 x.2.2.2) := by rw [HW.out]; exact HX1.out
    have hbw : Below w.heap.size w wr := by rw [HW.out]; exact below_drewN HB1.out q
    have hSr := HA.out.below (hbw.mono HBW.out)
    have HBW2 := Lib.hid hbw
    have hn : ∀ m, Hid (wr.drewN m = (w.alloc (.cells #[.int .i64 (x.1 : Nat), .slice x.2.1 x.2.2.1 x.2.2.2] 72)).drewN (q + m)) := fun m => Lib.hid (by rw [HW.out, World.drewN_drewN])
    by_cases hp0 : p = 0
    · subst hp0
      have HS := Lib.hid hSr
      clear hbw hSr
      have dp : decide (0 < 0) = false := by simp
      go_wp2
      go_quiet (fail)
      go_wp2
      generalize hws : wr.drewN nq = ws
      have hbs : Below w.heap.size w ws := by rw [← hws]; exact below_drewN HBW2.out nq
      have hSs : ThS ws B (.slice A l.length ca) l := by rw [← hws]; exact HS.out.below (below_drewN (Below.refl _ _) nq)
      have c0 : ws.cell? ⟨w.heap.size, 0, none⟩ = some (.int .i64 (x.1 : Nat)) := by rw [← hws]; exact hwx0
      have c1 : ws.cell? ⟨w.heap.size, 1, none⟩ = some (.slice x.2.1 x.2.2.1 x.2.2.2) := by rw [← hws]; exact hwx1
      have d0 : ws.drew.cell? ⟨w.heap.size, 0, none⟩ = some (.int .i64 (x.1 : Nat)) := c0
      have d1 : ws.drew.cell? ⟨w.heap.size, 1, none⟩ = some (.slice x.2.1 x.2.2.1 x.2.2.2) := c1
      have hz0 : w.heap.size < ws.heap.size := by rw [← hws, HW.out]; simp
      have HZ := Lib.hid hz0
      clear hz0
      have hSE : ThS ws B (.slice A 0 ca) (l.take 0) := hSs.cut (Nat.zero_le _)
      have HSE := Lib.hid hSE
      clear hSE hwx0 hwx1 hws
      have hz : w.heap.size < ws.heap.size := HZ.out
      have hBz : B ≤ ws.heap.size := by have := HBW.out; omega
      have r1 : ([] : List Thm).length + (l.take 0).length ≤ 1099511627776 := by simp
      have r2 : (([] : List Thm) ++ l.take 0).length + 1 ≤ 1099511627776 := by simp
      have r2' : (([] : List Thm) ++ l.take 0).length + ([x] : List Thm).length ≤ 1099511627776 := by simp
      have r3 : (([] : List Thm) ++ l.take 0 ++ [x]).length + (l.drop 0).length ≤ 1099511627776 := by simp; omega
      have hDr : ThS ws B (.slice A l.length ca) (l.drop 0) := by simpa using hSs
      -- the worlds at which the first append can come up
      have E1 : ThO (ws.drew.alloc (.cells #[] 72)) w.heap.size (.slice (some ⟨ws.heap.size, 0, none⟩) 0 0) [] := World.ownsRow_made ws.drew #[] 0 (Nat.le_of_lt hz) (by simp [maxLen]) rfl
      have E2 : ThO ((ws.drew.alloc (.cells #[] 72)).alloc (.cells #[.int .i64 (x.1 : Nat), .slice x.2.1 x.2.2.1 x.2.2.2] 72)) w.heap.size (.slice (some ⟨ws.heap.size, 0, none⟩) 0 0) [] := E1.allocs _
      have z1 : (ws.drew.alloc (.cells #[] 72)).heap.size = ws.heap.size + 1 := by simp
      have z2 : (ws.drew.alloc (.cells #[.int .i64 (x.1 : Nat), .slice x.2.1 x.2.2.1 x.2.2.2] 72)).heap.size = ws.heap.size + 1 := by simp
      have E3 : ThO ((ws.drew.alloc (.cells #[.int .i64 (x.1 : Nat), .slice x.2.1 x.2.2.1 x.2.2.2] 72)).alloc (.cells #[] 72)) w.heap.size (.slice (some ⟨ws.heap.size + 1, 0, none⟩) 0 0) [] := by rw [← z2]; exact World.ownsRow_made (ws.drew.alloc (.cells #[.int .i64 (x.1 : Nat), .slice x.2.1 x.2.2.1 x.2.2.2] 72)) #[] 0 (by simp; omega) (by simp [maxLen]) rfl
      have b0 : Below w.heap.size ws ws.drew := (Below.refl _ _).drew
      have b1 : Below w.heap.size w (ws.drew.alloc (.cells #[] 72)) := (hbs.trans b0).alloc (Nat.le_of_lt hz) _
      have b2 : Below w.heap.size w ((ws.drew.alloc (.cells #[] 72)).alloc (.cells #[.int .i64 (x.1 : Nat), .slice x.2.1 x.2.2.1 x.2.2.2] 72)) := b1.alloc (by simp; omega) _
      have b3 : Below w.heap.size w ((ws.drew.alloc (.cells #[.int .i64 (x.1 : Nat), .slice x.2.1 x.2.2.1 x.2.2.2] 72)).alloc (.cells #[] 72)) := ((hbs.trans b0).alloc (Nat.le_of_lt hz) _).alloc (by simp; omega) _
      have T2 : ((ws.drew.alloc (.cells #[] 72)).alloc (.cells #[.int .i64 (x.1 : Nat), .slice x.2.1 x.2.2.1 x.2.2.2] 72)).heap[ws.heap.size + 1]? = some (.cells #[.int .i64 (x.1 : Nat), .slice x.2.1 x.2.2.1 x.2.2.2] 72 (0, 0)) := by rw [← z1]; exact heap_alloc_new _ _
      have T3 : ((ws.drew.alloc (.cells #[.int .i64 (x.1 : Nat), .slice x.2.1 x.2.2.1 x.2.2.2] 72)).alloc (.cells #[] 72)).heap[ws.heap.size]? = some (.cells #[.int .i64 (x.1 : Nat), .slice x.2.1 x.2.2.1 x.2.2.2] 72 (0, 0)) := (heap_alloc_old _ _ (by rw [z2]; omega)).trans (heap_alloc_new ws.drew _)
      clear z1 z2
      have e0 : (ws.drew.alloc (.cells #[] 72)).cell? ⟨w.heap.size, 0, none⟩ = some (.int .i64 (x.1 : Nat)) := (World.cell?_alloc_lt ws.drew _ _ hz).trans c0
      have e1 : (ws.drew.alloc (.cells #[] 72)).cell? ⟨w.heap.size, 1, none⟩ = some (.slice x.2.1 x.2.2.1 x.2.2.2) := (World.cell?_alloc_lt ws.drew _ _ hz).trans c1
      have S0 : ThS ws.drew B (.slice A 0 ca) (l.take 0) := HSE.out.below (Below.refl _ _).drew
      have D0 : ThS ws.drew B (.slice A l.length ca) (l.drop 0) := hDr.below (Below.refl _ _).drew
      have S1 := S0.allocs (by simpa using hBz) (.cells #[] 72)
      have S2 := S1.allocs (by simp; omega) (.cells #[.int .i64 (x.1 : Nat), .slice x.2.1 x.2.2.1 x.2.2.2] 72)
      have S3 := (S0.allocs (by simpa using hBz) (.cells #[.int .i64 (x.1 : Nat), .slice x.2.1 x.2.2.1 x.2.2.2] 72)).allocs (by simp; omega) (.cells #[] 72)
      have D1 := D0.allocs (by simpa using hBz) (.cells #[] 72)
      have D2 := D1.allocs (by simp; omega) (.cells #[.int .i64 (x.1 : Nat), .slice x.2.1 x.2.2.1 x.2.2.2] 72)
      have D3 := (D0.allocs (by simpa using hBz) (.cells #[.int .i64 (x.1 : Nat), .slice x.2.1 x.2.2.1 x.2.2.2] 72)).allocs (by simp; omega) (.cells #[] 72)
      have g0 : (ws.alloc (.cells #[] 72)).cell? ⟨w.heap.size, 0, none⟩ = some (.int .i64 (x.1 : Nat)) := e0
      have g1 : (ws.alloc (.cells #[] 72)).cell? ⟨w.heap.size, 1, none⟩ = some (.slice x.2.1 x.2.2.1 x.2.2.2) := e1
      have HE1 := Lib.hid E1; have HE2 := Lib.hid E2; have HE3 := Lib.hid E3
      have Hb1 := Lib.hid b1; have Hb2 := Lib.hid b2; have Hb3 := Lib.hid b3
      have HT2 := Lib.hid T2; have HT3 := Lib.hid T3
      have HS1 := Lib.hid S1; have HS2 := Lib.hid S2; have HS3 := Lib.hid S3
      have HD1 := Lib.hid D1; have HD2 := Lib.hid D2; have HD3 := Lib.hid D3
      have HR1 := Lib.hid r1; have HR2 := Lib.hid r2; have HR2' := Lib.hid r2'; have HR3 := Lib.hid r3
      have HBz := Lib.hid hBz
      have HBs := Lib.hid hbs
      clear E1 E2 E3 b0 b1 b2 b3 T2 T3 S0 D0 S1 S2 S3 D1 D2 D3 r1 r2 r2' r3 hDr hBz hbs hz
      clear hSs
      go_region_law (first
          | (refine step_appG (w := (ws.drew.alloc (.cells #[] 72))) HE1.out HS1.out Hb1.out.size (HR1.out) rfl rfl rfl rfl (h := ?_); intro v3 w3 ho3 hb3 hg3; have f0 := (hg3.cell e0 (by intro h; simp [Value.ownBlock] at h; have := HZ.out; omega)); have f1 := (hg3.cell e1 (by intro h; simp [Value.ownBlock] at h; have := HZ.out; omega)); have HO3 := Lib.hid ho3; have HB3 := Lib.hid (Hb1.out.trans hb3); have HD4 := Lib.hid (HD1.out.below (hb3.mono HBW.out)); have HC3 := Lib.hid (show B ≤ w3.heap.size from Nat.le_trans HBW.out HB3.out.size); clear ho3 hb3 hg3)
          | (refine step_appG (w := ((ws.drew.alloc (.cells #[] 72)).alloc (.cells #[.int .i64 (x.1 : Nat), .slice x.2.1 x.2.2.1 x.2.2.2] 72))) HE2.out HS2.out Hb2.out.size (HR1.out) rfl rfl rfl rfl (h := ?_); intro v3 w3 ho3 hb3 hg3; have HT4 := Lib.hid (ThS.one ((hg3.block _ (Array.getElem?_eq_some_iff.1 HT2.out).1 (by intro h; simp [Value.ownBlock] at h)).trans HT2.out)); have HO3 := Lib.hid ho3; have HB3 := Lib.hid (Hb2.out.trans hb3); have HD4 := Lib.hid (HD2.out.below (hb3.mono HBW.out)); clear ho3 hb3 hg3)
          | (refine step_appG (w := ((ws.drew.alloc (.cells #[.int .i64 (x.1 : Nat), .slice x.2.1 x.2.2.1 x.2.2.2] 72)).alloc (.cells #[] 72))) HE3.out HS3.out Hb3.out.size (HR1.out) rfl rfl rfl rfl (h := ?_); intro v3 w3 ho3 hb3 hg3; have HT4 := Lib.hid (ThS.one ((hg3.block _ (Array.getElem?_eq_some_iff.1 HT3.out).1 (by intro h; simp [Value.ownBlock] at h)).trans HT3.out)); have HO3 := Lib.hid ho3; have HB3 := Lib.hid (Hb3.out.trans hb3); have HD4 := Lib.hid (HD3.out.below (hb3.mono HBW.out)); clear ho3 hb3 hg3)
          | (refine step_pushT (w := w3) HO3.out HB3.out.size (HR2.out) rfl rfl rfl rfl (h := ?_); intro v4 w4 ho4 hb4; have HO4 := Lib.hid ho4; have HB4 := Lib.hid (HB3.out.trans hb4); have HD5 := Lib.hid (HD4.out.below (hb4.mono HBW.out)); clear ho4 hb4)
          | (refine step_appG (w := w3) HO3.out HT4.out HB3.out.size (HR2'.out) rfl rfl rfl rfl (h := ?_); intro v4 w4 ho4 hb4 hg4; have HO4 := Lib.hid ho4; have HB4 := Lib.hid (HB3.out.trans hb4); have HD5 := Lib.hid (HD4.out.below (hb4.mono HBW.out)); clear ho4 hb4 hg4)
          | (refine step_appT (w := w4) HO4.out HD5.out HB4.out.size (HR3.out) rfl rfl rfl rfl (h := ?_); intro v5 w5 ho5 hb5; have HO5 := Lib.hid ho5; have HB5 := Lib.hid (HB4.out.trans hb5); clear ho5 hb5))
      all_goals
        go_wp2
        go_ret
        exact ⟨v5, 0, rfl, by simpa using HO5.out, Nat.zero_le _, fun _ h => absurd h (by omega), HGT.out, HB5.out⟩
    · obtain ⟨i, hi⟩ : ∃ i, p = i + 1 := ⟨p - 1, by omega⟩
      obtain ⟨t, ht⟩ : ∃ t, l[i]? = some t := ⟨_, List.getElem?_eq_getElem (by omega)⟩
      obtain ⟨b, o, rfl, hb, d0, d1⟩ := hSr.get ht
      have hpI : (p : Int) - 1 = (i : Nat) := by omega
      have hil : (i : Int) < (l.length : Nat) := by omega
      have HS := Lib.hid hSr
      have dp : decide (0 < p) = true := by simp; omega
      by_cases hgt : x.1 < t.1
      · have dc : decide (x.1 < t.1) = true := by simp; omega
        have HGT2 : Hid (∀ j u, i ≤ j → l[j]? = some u → x.1 < u.1) := Lib.hid fun j u hj hu => by
          rcases Nat.lt_or_ge i j with h | h
          · exact HGT.out j u (by omega) hu
          · have : j = i := by omega
            subst this
            rw [ht] at hu
            injection hu with hu
            exact hu ▸ hgt
        have hpi2 : i ≤ l.length := by omega
        clear hbw hSr ht hi hgt hp0
        go_wp2
        go_quiet (fail)
        go_wp2
        exact ⟨⟨i, q + _, rfl, hpi2, HGT2, hn _⟩, by simp [intOf]; omega⟩
      · have dc : decide (x.1 < t.1) = false := by simp; omega
        have HLE : Hid (∀ u, 0 < p → l[p - 1]? = some u → u.1 ≤ x.1) := Lib.hid fun u _ hu => by
          rw [show p - 1 = i by omega, ht] at hu
          injection hu with hu
          subst hu; omega
        have HPL := Lib.hid hp
        have hpc : (p : Int) ≤ (ca : Nat) := by omega
        have hpl : (p : Int) ≤ (l.length : Nat) := by omega
        clear hbw hSr ht hi hgt hp0
        go_wp2
        go_quiet (fail)
        go_wp2
        generalize hws : wr.drewN nq = ws
        have hbs : Below w.heap.size w ws := by rw [← hws]; exact below_drewN HBW2.out nq
        have hSs : ThS ws B (.slice (some ⟨b, o, none⟩) l.length ca) l := by rw [← hws]; exact HS.out.below (below_drewN (Below.refl _ _) nq)
        have c0 : ws.cell? ⟨w.heap.size, 0, none⟩ = some (.int .i64 (x.1 : Nat)) := by rw [← hws]; exact hwx0
        have c1 : ws.cell? ⟨w.heap.size, 1, none⟩ = some (.slice x.2.1 x.2.2.1 x.2.2.2) := by rw [← hws]; exact hwx1
        have d0 : ws.drew.cell? ⟨w.heap.size, 0, none⟩ = some (.int .i64 (x.1 : Nat)) := c0
        have d1 : ws.drew.cell? ⟨w.heap.size, 1, none⟩ = some (.slice x.2.1 x.2.2.1 x.2.2.2) := c1
        have hz0 : w.heap.size < ws.heap.size := by rw [← hws, HW.out]; simp
        have HZ := Lib.hid hz0
        clear hz0
        have hSE : ThS ws B (.slice (some ⟨b, o, none⟩) p ca) (l.take p) := hSs.cut HPL.out
        have HSE := Lib.hid hSE
        clear hSE hwx0 hwx1 hws
        have hz : w.heap.size < ws.heap.size := HZ.out
        have hBz : B ≤ ws.heap.size := by have := HBW.out; omega
        have hDR := hSs.rest HPL.out
        by_cases hcp : ca = p
        · rw [if_pos hcp] at hDR
          subst hcp
          rw [Nat.sub_self, show l.length - ca = 0 by omega] at hDR
          have HDR := Lib.hid hDR
          clear hDR
          have r1 : ([] : List Thm).length + (l.take ca).length ≤ 1099511627776 := by simp; omega
          have r2 : (([] : List Thm) ++ l.take ca).length + 1 ≤ 1099511627776 := by simp; omega
          have r2' : (([] : List Thm) ++ l.take ca).length + ([x] : List Thm).length ≤ 1099511627776 := by simp; omega
          have r3 : (([] : List Thm) ++ l.take ca ++ [x]).length + (l.drop ca).length ≤ 1099511627776 := by simp; omega
          have hDr : ThS ws B (.slice (some ⟨b, o, none⟩) 0 0) (l.drop ca) := HDR.out
          -- the worlds at which the first append can come up
          have E1 : ThO (ws.drew.alloc (.cells #[] 72)) w.heap.size (.slice (some ⟨ws.heap.size, 0, none⟩) 0 0) [] := World.ownsRow_made ws.drew #[] 0 (Nat.le_of_lt hz) (by simp [maxLen]) rfl
          have E2 : ThO ((ws.drew.alloc (.cells #[] 72)).alloc (.cells #[.int .i64 (x.1 : Nat), .slice x.2.1 x.2.2.1 x.2.2.2] 72)) w.heap.size (.slice (some ⟨ws.heap.size, 0, none⟩) 0 0) [] := E1.allocs _
          have z1 : (ws.drew.alloc (.cells #[] 72)).heap.size = ws.heap.size + 1 := by simp
          have z2 : (ws.drew.alloc (.cells #[.int .i64 (x.1 : Nat), .slice x.2.1 x.2.2.1 x.2.2.2] 72)).heap.size = ws.heap.size + 1 := by simp
          have E3 : ThO ((ws.drew.alloc (.cells #[.int .i64 (x.1 : Nat), .slice x.2.1 x.2.2.1 x.2.2.2] 72)).alloc (.cells #[] 72)) w.heap.size (.slice (some ⟨ws.heap.size + 1, 0, none⟩) 0 0) [] := by rw [← z2]; exact World.ownsRow_made (ws.drew.alloc (.cells #[.int .i64 (x.1 : Nat), .slice x.2.1 x.2.2.1 x.2.2.2] 72)) #[] 0 (by simp; omega) (by simp [maxLen]) rfl
          have b0 : Below w.heap.size ws ws.drew := (Below.refl _ _).drew
          have b1 : Below w.heap.size w (ws.drew.alloc (.cells #[] 72)) := (hbs.trans b0).alloc (Nat.le_of_lt hz) _
          have b2 : Below w.heap.size w ((ws.drew.alloc (.cells #[] 72)).alloc (.cells #[.int .i64 (x.1 : Nat), .slice x.2.1 x.2.2.1 x.2.2.2] 72)) := b1.alloc (by simp; omega) _
          have b3 : Below w.heap.size w ((ws.drew.alloc (.cells #[.int .i64 (x.1 : Nat), .slice x.2.1 x.2.2.1 x.2.2.2] 72)).alloc (.cells #[] 72)) := ((hbs.trans b0).alloc (Nat.le_of_lt hz) _).alloc (by simp; omega) _
          have T2 : ((ws.drew.alloc (.cells #[] 72)).alloc (.cells #[.int .i64 (x.1 : Nat), .slice x.2.1 x.2.2.1 x.2.2.2] 72)).heap[ws.heap.size + 1]? = some (.cells #[.int .i64 (x.1 : Nat), .slice x.2.1 x.2.2.1 x.2.2.2] 72 (0, 0)) := by rw [← z1]; exact heap_alloc_new _ _
          have T3 : ((ws.drew.alloc (.cells #[.int .i64 (x.1 : Nat), .slice x.2.1 x.2.2.1 x.2.2.2] 72)).alloc (.cells #[] 72)).heap[ws.heap.size]? = some (.cells #[.int .i64 (x.1 : Nat), .slice x.2.1 x.2.2.1 x.2.2.2] 72 (0, 0)) := (heap_alloc_old _ _ (by rw [z2]; omega)).trans (heap_alloc_new ws.drew _)
          clear z1 z2
          have e0 : (ws.drew.alloc (.cells #[] 72)).cell? ⟨w.heap.size, 0, none⟩ = some (.int .i64 (x.1 : Nat)) := (World.cell?_alloc_lt ws.drew _ _ hz).trans c0
          have e1 : (ws.drew.alloc (.cells #[] 72)).cell? ⟨w.heap.size, 1, none⟩ = some (.slice x.2.1 x.2.2.1 x.2.2.2) := (World.cell?_alloc_lt ws.drew _ _ hz).trans c1
          have S0 : ThS ws.drew B (.slice (some ⟨b, o, none⟩) ca ca) (l.take ca) := HSE.out.below (Below.refl _ _).drew
          have D0 : ThS ws.drew B (.slice (some ⟨b, o, none⟩) 0 0) (l.drop ca) := hDr.below (Below.refl _ _).drew
          have S1 := S0.allocs (by simpa using hBz) (.cells #[] 72)
          have S2 := S1.allocs (by simp; omega) (.cells #[.int .i64 (x.1 : Nat), .slice x.2.1 x.2.2.1 x.2.2.2] 72)
          have S3 := (S0.allocs (by simpa using hBz) (.cells #[.int .i64 (x.1 : Nat), .slice x.2.1 x.2.2.1 x.2.2.2] 72)).allocs (by simp; omega) (.cells #[] 72)
          have D1 := D0.allocs (by simpa using hBz) (.cells #[] 72)
          have D2 := D1.allocs (by simp; omega) (.cells #[.int .i64 (x.1 : Nat), .slice x.2.1 x.2.2.1 x.2.2.2] 72)
          have D3 := (D0.allocs (by simpa using hBz) (.cells #[.int .i64 (x.1 : Nat), .slice x.2.1 x.2.2.1 x.2.2.2] 72)).allocs (by simp; omega) (.cells #[] 72)
          have g0 : (ws.alloc (.cells #[] 72)).cell? ⟨w.heap.size, 0, none⟩ = some (.int .i64 (x.1 : Nat)) := e0
          have g1 : (ws.alloc (.cells #[] 72)).cell? ⟨w.heap.size, 1, none⟩ = some (.slice x.2.1 x.2.2.1 x.2.2.2) := e1
          have HE1 := Lib.hid E1; have HE2 := Lib.hid E2; have HE3 := Lib.hid E3
          have Hb1 := Lib.hid b1; have Hb2 := Lib.hid b2; have Hb3 := Lib.hid b3
          have HT2 := Lib.hid T2; have HT3 := Lib.hid T3
          have HS1 := Lib.hid S1; have HS2 := Lib.hid S2; have HS3 := Lib.hid S3
          have HD1 := Lib.hid D1; have HD2 := Lib.hid D2; have HD3 := Lib.hid D3
          have HR1 := Lib.hid r1; have HR2 := Lib.hid r2; have HR2' := Lib.hid r2'; have HR3 := Lib.hid r3
          have HBz := Lib.hid hBz
          have HBs := Lib.hid hbs
          clear E1 E2 E3 b0 b1 b2 b3 T2 T3 S0 D0 S1 S2 S3 D1 D2 D3 r1 r2 r2' r3 hDr hBz hbs hz
          clear hSs
          go_region_law (first
              | (refine step_appG (w := (ws.drew.alloc (.cells #[] 72))) HE1.out HS1.out Hb1.out.size (HR1.out) rfl rfl rfl rfl (h := ?_); intro v3 w3 ho3 hb3 hg3; have f0 := (hg3.cell e0 (by intro h; simp [Value.ownBlock] at h; have := HZ.out; omega)); have f1 := (hg3.cell e1 (by intro h; simp [Value.ownBlock] at h; have := HZ.out; omega)); have HO3 := Lib.hid ho3; have HB3 := Lib.hid (Hb1.out.trans hb3); have HD4 := Lib.hid (HD1.out.below (hb3.mono HBW.out)); have HC3 := Lib.hid (show B ≤ w3.heap.size from Nat.le_trans HBW.out HB3.out.size); clear ho3 hb3 hg3)
              | (refine step_appG (w := ((ws.drew.alloc (.cells #[] 72)).alloc (.cells #[.int .i64 (x.1 : Nat), .slice x.2.1 x.2.2.1 x.2.2.2] 72))) HE2.out HS2.out Hb2.out.size (HR1.out) rfl rfl rfl rfl (h := ?_); intro v3 w3 ho3 hb3 hg3; have HT4 := Lib.hid (ThS.one ((hg3.block _ (Array.getElem?_eq_some_iff.1 HT2.out).1 (by intro h; simp [Value.ownBlock] at h)).trans HT2.out)); have HO3 := Lib.hid ho3; have HB3 := Lib.hid (Hb2.out.trans hb3); have HD4 := Lib.hid (HD2.out.below (hb3.mono HBW.out)); clear ho3 hb3 hg3)
              | (refine step_appG (w := ((ws.drew.alloc (.cells #[.int .i64 (x.1 : Nat), .slice x.2.1 x.2.2.1 x.2.2.2] 72)).alloc (.cells #[] 72))) HE3.out HS3.out Hb3.out.size (HR1.out) rfl rfl rfl rfl (h := ?_); intro v3 w3 ho3 hb3 hg3; have HT4 := Lib.hid (ThS.one ((hg3.block _ (Array.getElem?_eq_some_iff.1 HT3.out).1 (by intro h; simp [Value.ownBlock] at h)).trans HT3.out)); have HO3 := Lib.hid ho3; have HB3 := Lib.hid (Hb3.out.trans hb3); have HD4 := Lib.hid (HD3.out.below (hb3.mono HBW.out)); clear ho3 hb3 hg3)
              | (refine step_pushT (w := w3) HO3.out HB3.out.size (HR2.out) rfl rfl rfl rfl (h := ?_); intro v4 w4 ho4 hb4; have HO4 := Lib.hid ho4; have HB4 := Lib.hid (HB3.out.trans hb4); have HD5 := Lib.hid (HD4.out.below (hb4.mono HBW.out)); clear ho4 hb4)
              | (refine step_appG (w := w3) HO3.out HT4.out HB3.out.size (HR2'.out) rfl rfl rfl rfl (h := ?_); intro v4 w4 ho4 hb4 hg4; have HO4 := Lib.hid ho4; have HB4 := Lib.hid (HB3.out.trans hb4); have HD5 := Lib.hid (HD4.out.below (hb4.mono HBW.out)); clear ho4 hb4 hg4)
              | (refine step_appT (w := w4) HO4.out HD5.out HB4.out.size (HR3.out) rfl rfl rfl rfl (h := ?_); intro v5 w5 ho5 hb5; have HO5 := Lib.hid ho5; have HB5 := Lib.hid (HB4.out.trans hb5); clear ho5 hb5))
          all_goals
            go_wp2
            go_ret
            exact ⟨v5, ca, rfl, by simpa using HO5.out, HPL.out, HLE.out, HGT.out, HB5.out⟩
        · rw [if_neg hcp] at hDR
          have HDR := Lib.hid hDR
          clear hDR
          have r1 : ([] : List Thm).length + (l.take p).length ≤ 1099511627776 := by simp; omega
          have r2 : (([] : List Thm) ++ l.take p).length + 1 ≤ 1099511627776 := by simp; omega
          have r2' : (([] : List Thm) ++ l.take p).length + ([x] : List Thm).length ≤ 1099511627776 := by simp; omega
          have r3 : (([] : List Thm) ++ l.take p ++ [x]).length + (l.drop p).length ≤ 1099511627776 := by simp; omega
          have hDr : ThS ws B (.slice (some ⟨b, o + p * 2, none⟩) (l.length - p) (ca - p)) (l.drop p) := HDR.out
          -- the worlds at which the first append can come up
          have E1 : ThO (ws.drew.alloc (.cells #[] 72)) w.heap.size (.slice (some ⟨ws.heap.size, 0, none⟩) 0 0) [] := World.ownsRow_made ws.drew #[] 0 (Nat.le_of_lt hz) (by simp [maxLen]) rfl
          have E2 : ThO ((ws.drew.alloc (.cells #[] 72)).alloc (.cells #[.int .i64 (x.1 : Nat), .slice x.2.1 x.2.2.1 x.2.2.2] 72)) w.heap.size (.slice (some ⟨ws.heap.size, 0, none⟩) 0 0) [] := E1.allocs _
          have z1 : (ws.drew.alloc (.cells #[] 72)).heap.size = ws.heap.size + 1 := by simp
          have z2 : (ws.drew.alloc (.cells #[.int .i64 (x.1 : Nat), .slice x.2.1 x.2.2.1 x.2.2.2] 72)).heap.size = ws.heap.size + 1 := by simp
          have E3 : ThO ((ws.drew.alloc (.cells #[.int .i64 (x.1 : Nat), .slice x.2.1 x.2.2.1 x.2.2.2] 72)).alloc (.cells #[] 72)) w.heap.size (.slice (some ⟨ws.heap.size + 1, 0, none⟩) 0 0) [] := by rw [← z2]; exact World.ownsRow_made (ws.drew.alloc (.cells #[.int .i64 (x.1 : Nat), .slice x.2.1 x.2.2.1 x.2.2.2] 72)) #[] 0 (by simp; omega) (by simp [maxLen]) rfl
          have b0 : Below w.heap.size ws ws.drew := (Below.refl _ _).drew
          have b1 : Below w.heap.size w (ws.drew.alloc (.cells #[] 72)) := (hbs.trans b0).alloc (Nat.le_of_lt hz) _
          have b2 : Below w.heap.size w ((ws.drew.alloc (.cells #[] 72)).alloc (.cells #[.int .i64 (x.1 : Nat), .slice x.2.1 x.2.2.1 x.2.2.2] 72)) := b1.alloc (by simp; omega) _
          have b3 : Below w.heap.size w ((ws.drew.alloc (.cells #[.int .i64 (x.1 : Nat), .slice x.2.1 x.2.2.1 x.2.2.2] 72)).alloc (.cells #[] 72)) := ((hbs.trans b0).alloc (Nat.le_of_lt hz) _).alloc (by simp; omega) _
          have T2 : ((ws.drew.alloc (.cells #[] 72)).alloc (.cells #[.int .i64 (x.1 : Nat), .slice x.2.1 x.2.2.1 x.2.2.2] 72)).heap[ws.heap.size + 1]? = some (.cells #[.int .i64 (x.1 : Nat), .slice x.2.1 x.2.2.1 x.2.2.2] 72 (0, 0)) := by rw [← z1]; exact heap_alloc_new _ _
          have T3 : ((ws.drew.alloc (.cells #[.int .i64 (x.1 : Nat), .slice x.2.1 x.2.2.1 x.2.2.2] 72)).alloc (.cells #[] 72)).heap[ws.heap.size]? = some (.cells #[.int .i64 (x.1 : Nat), .slice x.2.1 x.2.2.1 x.2.2.2] 72 (0, 0)) := (heap_alloc_old _ _ (by rw [z2]; omega)).trans (heap_alloc_new ws.drew _)
          clear z1 z2
          have e0 : (ws.drew.alloc (.cells #[] 72)).cell? ⟨w.heap.size, 0, none⟩ = some (.int .i64 (x.1 : Nat)) := (World.cell?_alloc_lt ws.drew _ _ hz).trans c0
          have e1 : (ws.drew.alloc (.cells #[] 72)).cell? ⟨w.heap.size, 1, none⟩ = some (.slice x.2.1 x.2.2.1 x.2.2.2) := (World.cell?_alloc_lt ws.drew _ _ hz).trans c1
          have S0 : ThS ws.drew B (.slice (some ⟨b, o, none⟩) p ca) (l.take p) := HSE.out.below (Below.refl _ _).drew
          have D0 : ThS ws.drew B (.slice (some ⟨b, o + p * 2, none⟩) (l.length - p) (ca - p)) (l.drop p) := hDr.below (Below.refl _ _).drew
          have S1 := S0.allocs (by simpa using hBz) (.cells #[] 72)
          have S2 := S1.allocs (by simp; omega) (.cells #[.int .i64 (x.1 : Nat), .slice x.2.1 x.2.2.1 x.2.2.2] 72)
          have S3 := (S0.allocs (by simpa using hBz) (.cells #[.int .i64 (x.1 : Nat), .slice x.2.1 x.2.2.1 x.2.2.2] 72)).allocs (by simp; omega) (.cells #[] 72)
          have D1 := D0.allocs (by simpa using hBz) (.cells #[] 72)
          have D2 := D1.allocs (by simp; omega) (.cells #[.int .i64 (x.1 : Nat), .slice x.2.1 x.2.2.1 x.2.2.2] 72)
          have D3 := (D0.allocs (by simpa using hBz) (.cells #[.int .i64 (x.1 : Nat), .slice x.2.1 x.2.2.1 x.2.2.2] 72)).allocs (by simp; omega) (.cells #[] 72)
          have g0 : (ws.alloc (.cells #[] 72)).cell? ⟨w.heap.size, 0, none⟩ = some (.int .i64 (x.1 : Nat)) := e0
          have g1 : (ws.alloc (.cells #[] 72)).cell? ⟨w.heap.size, 1, none⟩ = some (.slice x.2.1 x.2.2.1 x.2.2.2) := e1
          have HE1 := Lib.hid E1; have HE2 := Lib.hid E2; have HE3 := Lib.hid E3
          have Hb1 := Lib.hid b1; have Hb2 := Lib.hid b2; have Hb3 := Lib.hid b3
          have HT2 := Lib.hid T2; have HT3 := Lib.hid T3
          have HS1 := Lib.hid S1; have HS2 := Lib.hid S2; have HS3 := Lib.hid S3
          have HD1 := Lib.hid D1; have HD2 := Lib.hid D2; have HD3 := Lib.hid D3
          have HR1 := Lib.hid r1; have HR2 := Lib.hid r2; have HR2' := Lib.hid r2'; have HR3 := Lib.hid r3
          have HBz := Lib.hid hBz
          have HBs := Lib.hid hbs
          clear E1 E2 E3 b0 b1 b2 b3 T2 T3 S0 D0 S1 S2 S3 D1 D2 D3 r1 r2 r2' r3 hDr hBz hbs hz
          clear hSs
          go_region_law (first
              | (refine step_appG (w := (ws.drew.alloc (.cells #[] 72))) HE1.out HS1.out Hb1.out.size (HR1.out) rfl rfl rfl rfl (h := ?_); intro v3 w3 ho3 hb3 hg3; have f0 := (hg3.cell e0 (by intro h; simp [Value.ownBlock] at h; have := HZ.out; omega)); have f1 := (hg3.cell e1 (by intro h; simp [Value.ownBlock] at h; have := HZ.out; omega)); have HO3 := Lib.hid ho3; have HB3 := Lib.hid (Hb1.out.trans hb3); have HD4 := Lib.hid (HD1.out.below (hb3.mono HBW.out)); have HC3 := Lib.hid (show B ≤ w3.heap.size from Nat.le_trans HBW.out HB3.out.size); clear ho3 hb3 hg3)
              | (refine step_appG (w := ((ws.drew.alloc (.cells #[] 72)).alloc (.cells #[.int .i64 (x.1 : Nat), .slice x.2.1 x.2.2.1 x.2.2.2] 72))) HE2.out HS2.out Hb2.out.size (HR1.out) rfl rfl rfl rfl (h := ?_); intro v3 w3 ho3 hb3 hg3; have HT4 := Lib.hid (ThS.one ((hg3.block _ (Array.getElem?_eq_some_iff.1 HT2.out).1 (by intro h; simp [Value.ownBlock] at h)).trans HT2.out)); have HO3 := Lib.hid ho3; have HB3 := Lib.hid (Hb2.out.trans hb3); have HD4 := Lib.hid (HD2.out.below (hb3.mono HBW.out)); clear ho3 hb3 hg3)
              | (refine step_appG (w := ((ws.drew.alloc (.cells #[.int .i64 (x.1 : Nat), .slice x.2.1 x.2.2.1 x.2.2.2] 72)).alloc (.cells #[] 72))) HE3.out HS3.out Hb3.out.size (HR1.out) rfl rfl rfl rfl (h := ?_); intro v3 w3 ho3 hb3 hg3; have HT4 := Lib.hid (ThS.one ((hg3.block _ (Array.getElem?_eq_some_iff.1 HT3.out).1 (by intro h; simp [Value.ownBlock] at h)).trans HT3.out)); have HO3 := Lib.hid ho3; have HB3 := Lib.hid (Hb3.out.trans hb3); have HD4 := Lib.hid (HD3.out.below (hb3.mono HBW.out)); clear ho3 hb3 hg3)
              | (refine step_pushT (w := w3) HO3.out HB3.out.size (HR2.out) rfl rfl rfl rfl (h := ?_); intro v4 w4 ho4 hb4; have HO4 := Lib.hid ho4; have HB4 := Lib.hid (HB3.out.trans hb4); have HD5 := Lib.hid (HD4.out.below (hb4.mono HBW.out)); clear ho4 hb4)
              | (refine step_appG (w := w3) HO3.out HT4.out HB3.out.size (HR2'.out) rfl rfl rfl rfl (h := ?_); intro v4 w4 ho4 hb4 hg4; have HO4 := Lib.hid ho4; have HB4 := Lib.hid (HB3.out.trans hb4); have HD5 := Lib.hid (HD4.out.below (hb4.mono HBW.out)); clear ho4 hb4 hg4)
              | (refine step_appT (w := w4) HO4.out HD5.out HB4.out.size (HR3.out) rfl rfl rfl rfl (h := ?_); intro v5 w5 ho5 hb5; have HO5 := Lib.hid ho5; have HB5 := Lib.hid (HB4.out.trans hb5); clear ho5 hb5))
          all_goals
            go_wp2
            go_ret
            exact ⟨v5, p, rfl, by simpa using HO5.out, HPL.out, HLE.out, HGT.out, HB5.out⟩
end Go.Proofs.Ythecibabpcfoaaa
