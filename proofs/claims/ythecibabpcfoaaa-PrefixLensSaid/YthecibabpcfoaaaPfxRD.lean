/- prefix: the reference's merged and rising. -/
import Derived.Test.YthecibabpcfoaaaPfxRA
import Derived.StillTailTactics
import Derived.Deep.RegionLaw
namespace Go.Proofs.Ythecibabpcfoaaa
open Go.RowKit
set_option maxRecDepth 100000
set_option maxHeartbeats 4000000

theorem drop_get {α : Type} {l : List α} {i : Nat} {x : α} (h : l[i]? = some x) : l.drop i = x :: l.drop (i + 1) := by
  obtain ⟨hi, rfl⟩ := List.getElem?_eq_some_iff.1 h
  exact List.drop_eq_getElem_cons hi
theorem drop_end {α : Type} {l : List α} {i : Nat} (h : l.length ≤ i) : l.drop i = [] := List.drop_eq_nil_of_le h

theorem merged_any {w : World} {va vb : Value} {xs ys : List Thm} {B : Nat} (hA : ThS w B va xs) (hB : ThS w B vb ys) (hBw : B ≤ w.heap.size) (la : xs.length ≤ 1048576) (lb : ys.length ≤ 1048576) :
    Calls Try.prog 40 #[va, vb] w fun e w' => ∃ v', e = .returned v' ∧ ThO w' w.heap.size v' (mrgV xs ys) ∧ Below w.heap.size w w' := by
  obtain ⟨A, ca, rfl, _, _⟩ := hA.form
  obtain ⟨C, cb', rfl, _, _⟩ := hB.form
  have HA := Lib.hid hA; have HB := Lib.hid hB; have HBW := Lib.hid hBw
  have HLA := Lib.hid (fun _ : True => And.intro la lb)
  have laI : (xs.length : Int) ≤ 1048576 := by omega
  have lbI : (ys.length : Int) ≤ 1048576 := by omega
  clear hA hB hBw la lb
  go_enter Try.func40, Try.ntmps40
  go_wp2
  go_loopw [5, 6, 7] (fun vo ni nk wr => ∃ (i k : Nat) (out : List Thm), ni = .int .i64 i ∧ nk = .int .i64 k ∧ i ≤ xs.length ∧ k ≤ ys.length ∧ ThO wr w.heap.size vo out ∧ Hid (out ++ mrgV (xs.drop i) (ys.drop k) = mrgV xs ys) ∧ Hid (out.length = i + k) ∧ Below w.heap.size w wr) (fun _ ni nk _ => (xs.length - (intOf ni).toNat) + (ys.length - (intOf nk).toNat))
  case atStart => exact ⟨0, 0, [], rfl, rfl, Nat.zero_le _, Nat.zero_le _, ThO.nil _ _, Lib.hid rfl, Lib.hid rfl, Below.refl _ _⟩
  case round =>
    obtain ⟨i, k, out, rfl, rfl, hi, hk, hO, HOUT, HLEN, hb⟩ := hrel
    obtain ⟨A5, c5, rfl, _, _⟩ := hO.form
    have HO := Lib.hid hO; have HBL := Lib.hid hb
    have hroom : Hid (True → out.length + 1 ≤ 1099511627776) := Lib.hid fun _ => by have := HLEN.out; have := HLA.out trivial; omega
    by_cases hia : i = xs.length
    · by_cases hkb : k = ys.length
      · have hfin : out = mrgV xs ys := by
          have := HOUT.out
          rw [hia, hkb, List.drop_length, List.drop_length, mrgV_nil, List.append_nil] at this
          exact this
        have HFIN := Lib.hid hfin
        have n1 : ¬ (i : Int) < (xs.length : Nat) := by omega
        have n2 : ¬ (k : Int) < (ys.length : Nat) := by omega
        clear hO hb hia hkb hfin
        go_wp2
        go_ret
        exact ⟨_, rfl, by rw [← HFIN.out]; exact HO.out, HBL.out⟩
      · obtain ⟨y, hy⟩ : ∃ y, ys[k]? = some y := ⟨_, List.getElem?_eq_getElem (by omega)⟩
        obtain ⟨b2, o2, rfl, hb2, d0, d1⟩ := (HB.out.below (hb.mono HBW.out)).get hy
        have HNX : Hid ((out ++ [y]) ++ mrgV (xs.drop i) (ys.drop (k + 1)) = mrgV xs ys) := Lib.hid (by
          rw [← HOUT.out, drop_get hy, drop_end (show xs.length ≤ i by omega), mrgV_nil, mrgV_nil]; simp)
        have n1 : ¬ (i : Int) < (xs.length : Nat) := by omega
        have n2 : (k : Int) < (ys.length : Nat) := by omega
        have hbase := hb.size
        have d1' : decide (ys.length ≤ k) = false := by simp; omega
        have d2' : decide (i < xs.length) = false := by simp; omega
        have HOd := Lib.hid (fun q : Nat => (show ThO (wr.drewN q) w.heap.size (.slice A5 out.length c5) out from HO.out))
        have HBd := Lib.hid (fun q : Nat => (show w.heap.size ≤ (wr.drewN q).heap.size from hbase))
        clear hO hb hia hkb hy
        go_wp2_with fail
        go_quiet (fail)
        go_wp2_with (refine wpl_pushT (f := y) (HOd.out _) (HBd.out _) (hroom.out trivial) rfl rfl rfl rfl (h := ?_); intro v6 w6 ho6 hb6)
        have HB6 := Lib.hid (HBL.out.trans ⟨hb6.os, hb6.tape, hb6.output, hb6.size, hb6.block⟩)
        exact ⟨⟨i, k + 1, out ++ [y], rfl, rfl, by omega, by omega, ho6, HNX, Lib.hid (by rw [List.length_append, HLEN.out]; simp; omega), HB6.out⟩, by simp [intOf]; omega⟩
    · obtain ⟨x, hx⟩ : ∃ x, xs[i]? = some x := ⟨_, List.getElem?_eq_getElem (by omega)⟩
      obtain ⟨b1, o1, rfl, hb1, e0, e1⟩ := (HA.out.below (hb.mono HBW.out)).get hx
      have n1 : (i : Int) < (xs.length : Nat) := by omega
      have d2' : decide (i < xs.length) = true := by simp; omega
      by_cases hkb : k = ys.length
      · have d1' : decide (ys.length ≤ k) = true := by simp; omega
        have n2 : ¬ (k : Int) < (ys.length : Nat) := by omega
        have HNX : Hid ((out ++ [x]) ++ mrgV (xs.drop (i + 1)) (ys.drop k) = mrgV xs ys) := Lib.hid (by
          rw [← HOUT.out, drop_get hx, drop_end (show ys.length ≤ k by omega), mrgV_nil', mrgV_nil']; simp)
        have hbase := hb.size
        have HOd := Lib.hid (fun q : Nat => (show ThO (wr.drewN q) w.heap.size (.slice A5 out.length c5) out from HO.out))
        have HBd := Lib.hid (fun q : Nat => (show w.heap.size ≤ (wr.drewN q).heap.size from hbase))
        clear hO hb hia hkb hx
        go_wp2_with fail
        go_quiet (fail)
        go_wp2_with (refine wpl_pushT (f := x) (HOd.out _) (HBd.out _) (hroom.out trivial) rfl rfl rfl rfl (h := ?_); intro v6 w6 ho6 hb6)
        have HB6 := Lib.hid (HBL.out.trans ⟨hb6.os, hb6.tape, hb6.output, hb6.size, hb6.block⟩)
        exact ⟨⟨i + 1, k, out ++ [x], rfl, rfl, by omega, by omega, ho6, HNX, Lib.hid (by rw [List.length_append, HLEN.out]; simp; omega), HB6.out⟩, by simp [intOf]; omega⟩
      · obtain ⟨y, hy⟩ : ∃ y, ys[k]? = some y := ⟨_, List.getElem?_eq_getElem (by omega)⟩
        obtain ⟨b2, o2, rfl, hb2, d0, d1⟩ := (HB.out.below (hb.mono HBW.out)).get hy
        have d1' : decide (ys.length ≤ k) = false := by simp; omega
        have n2 : (k : Int) < (ys.length : Nat) := by omega
        by_cases hle : x.1 ≤ y.1
        · have d3' : decide (x.1 ≤ y.1) = true := by simp; omega
          have HNX : Hid ((out ++ [x]) ++ mrgV (xs.drop (i + 1)) (ys.drop k) = mrgV xs ys) := Lib.hid (by
            rw [← HOUT.out, drop_get hx, drop_get hy, mrgV_le hle]; simp)
          have hbase := hb.size
          have HOd := Lib.hid (fun q : Nat => (show ThO (wr.drewN q) w.heap.size (.slice A5 out.length c5) out from HO.out))
          have HBd := Lib.hid (fun q : Nat => (show w.heap.size ≤ (wr.drewN q).heap.size from hbase))
          clear hO hb hia hkb hx hy
          go_wp2_with fail
          go_quiet (fail)
          go_wp2_with (refine wpl_pushT (f := x) (HOd.out _) (HBd.out _) (hroom.out trivial) rfl rfl rfl rfl (h := ?_); intro v6 w6 ho6 hb6)
          have HB6 := Lib.hid (HBL.out.trans ⟨hb6.os, hb6.tape, hb6.output, hb6.size, hb6.block⟩)
          exact ⟨⟨i + 1, k, out ++ [x], rfl, rfl, by omega, by omega, ho6, HNX, Lib.hid (by rw [List.length_append, HLEN.out]; simp; omega), HB6.out⟩, by simp [intOf]; omega⟩
        · have d3' : decide (x.1 ≤ y.1) = false := by simp; omega
          have HNX : Hid ((out ++ [y]) ++ mrgV (xs.drop i) (ys.drop (k + 1)) = mrgV xs ys) := Lib.hid (by
            rw [← HOUT.out, drop_get hx, drop_get hy, mrgV_gt hle]; simp)
          have hbase := hb.size
          have HOd := Lib.hid (fun q : Nat => (show ThO (wr.drewN q) w.heap.size (.slice A5 out.length c5) out from HO.out))
          have HBd := Lib.hid (fun q : Nat => (show w.heap.size ≤ (wr.drewN q).heap.size from hbase))
          clear hO hb hia hkb hx hy
          go_wp2_with fail
          go_quiet (fail)
          go_wp2_with (refine wpl_pushT (f := y) (HOd.out _) (HBd.out _) (hroom.out trivial) rfl rfl rfl rfl (h := ?_); intro v6 w6 ho6 hb6)
          have HB6 := Lib.hid (HBL.out.trans ⟨hb6.os, hb6.tape, hb6.output, hb6.size, hb6.block⟩)
          exact ⟨⟨i, k + 1, out ++ [y], rfl, rfl, by omega, by omega, ho6, HNX, Lib.hid (by rw [List.length_append, HLEN.out]; simp; omega), HB6.out⟩, by simp [intOf]; omega⟩
theorem ThO.grow {w w' : World} {base : Nat} {v : Value} {es : List Thm} (h : ThO w base v es) (hb : base ≤ w.heap.size) (hg : w.grownBy w' v.ownBlock) : Below base w w' :=
  (Below.refl base w).grown hg hb fun k hk => (h.lt k hk).1
/-- 'append(l, x...)' in a region that draws. -/
theorem step_appT {w : World} {base B : Nat} {v vx : Value} {es fs : List Thm} (hown : ThO w base v es) (hr : ThS w B vx fs) (hbase : base ≤ w.heap.size) (hroom : es.length + fs.length ≤ 1099511627776)
    {ops : Array Oper} {o : Oper} {a : Act} {K : Act → World → Prop} {Q : Exit → Act → World → Prop} {E : Prop} {s x : Operand} (hgd : o.guard = none)
    (ho : o.op = .call { callee := .builtin .append, args := #[s, x], argTypes := #[69, 69] })
    (hs : a.eval s = v) (hx : a.eval x = vx)
    (h : ∀ v' w', ThO w' base v' (es ++ fs) → Below base w w' → K (a.put o.dst v') w') : if Region.wanted o (yielded ops a.tmps) = true then Oper.wp Try.prog o a w K Q else E := by
  rw [if_pos (by simp [Region.wanted, hgd])]
  obtain ⟨i, hi, hz0, hz1, hz2⟩ := info_parts info_thing
  obtain ⟨A, c, rfl, hyc, hcm, hz, hcell⟩ := hr
  rcases A with _ | ad
  · have hy0 : fs = [] := by
      rcases hcell with h0 | ⟨b, o, he, _⟩
      · exact List.eq_nil_of_length_eq_zero h0
      · simp at he
    have hc0 := hz rfl
    subst hy0; subst hc0
    have hrun := run_append_owned_none (P := Try.prog) w base 69 o.type 72 i 2 Try.underlying69 hi _ es.length (cT es) hown
    unfold Oper.wp
    simp [execOp, ho, resolve, invoke, builtin, hs, hx, hrun, Result.andThen]
    exact h _ _ (by simpa using hown) (Below.refl _ _)
  · refine wp_append_own w s x 69 ho base 72 i _ 2 32 Try.underlying69 hi hz0 hz1 hz2 rfl (by decide) v _ (cT es) hs hown ad fs.length c (cT fs) hx (cT_len fs) ?_ ?_ ?_ ?_ hbase ?_
    · intro j u hj
      have hjl := (List.getElem?_eq_some_iff.1 hj).1
      rw [cT_len] at hjl
      rcases hcell with h0 | ⟨b, o2, he, hb, hc⟩
      · omega
      · injection he with he
        subst he
        obtain ⟨x0, hx0⟩ : ∃ x0, fs[j / 2]? = some x0 := ⟨_, List.getElem?_eq_getElem (by omega)⟩
        have hat := cT_at fs (j / 2) x0 (j % 2) hx0 (Nat.mod_lt _ (by omega))
        rw [show j / 2 * 2 + j % 2 = j by omega, hj] at hat
        obtain ⟨c0, c1⟩ := hc _ _ hx0
        rw [Addr.add_lit, show o2 + j = o2 + j / 2 * 2 + j % 2 by omega]
        have h5 : j % 2 = 0 ∨ j % 2 = 1 := by omega
        rcases h5 with h5 | h5 <;> rw [h5] at hat ⊢ <;> rw [hat]
        · exact c0
        · exact c1
    · intro u hu
      obtain ⟨y, _, hy⟩ := List.mem_flatMap.1 hu
      simp [celT] at hy
      rcases hy with rfl | rfl <;> rfl
    · unfold maxLen; omega
    · omega
    · intro v' w' ho' hg' _
      exact h v' w' (by unfold ThO; rw [List.length_append, cT_app]; exact ho') (hown.grow hbase hg')
/-- 'append(l, x)' in a region that draws. -/
theorem step_pushT {w : World} {base : Nat} {v : Value} {es : List Thm} (hown : ThO w base v es) (hbase : base ≤ w.heap.size) (hroom : es.length + 1 ≤ 1099511627776)
    {ops : Array Oper} {o : Oper} {a : Act} {K : Act → World → Prop} {Q : Exit → Act → World → Prop} {E : Prop} {s x : Operand} {f : Thm} (hgd : o.guard = none)
    (ho : o.op = .call { callee := .builtin .append, args := #[s, x], argTypes := #[69, 69] })
    (hs : a.eval s = v) {k : Nat} (hx : a.eval x = .slice (some ⟨k, 0, none⟩) 1 1) (hk : k = w.heap.size := by simp)
    (h : ∀ v' w', ThO w' base v' (es ++ [f]) → Below base w w' → K (a.put o.dst v') w') : if Region.wanted o (yielded ops a.tmps) = true then Oper.wp Try.prog o a (w.alloc (.cells #[.int .i64 (f.1 : Nat), .slice f.2.1 f.2.2.1 f.2.2.2] 72)) K Q else E := by
  subst hk
  have h1 : Below base w (w.alloc (.cells #[.int .i64 (f.1 : Nat), .slice f.2.1 f.2.2.1 f.2.2.2] 72)) := (Below.refl _ _).alloc hbase _
  have hr : ThS (w.alloc (.cells #[.int .i64 (f.1 : Nat), .slice f.2.1 f.2.2.1 f.2.2.2] 72)) (w.heap.size + 1) (.slice (some ⟨w.heap.size, 0, none⟩) 1 1) [f] := by
    refine ⟨some ⟨w.heap.size, 0, none⟩, 1, rfl, Nat.le_refl _, by simp [maxLen], fun e => by simp at e, .inr ⟨w.heap.size, 0, rfl, by omega, fun j x hx => ?_⟩⟩
    have hj : j = 0 := by have := (List.getElem?_eq_some_iff.1 hx).1; simpa using this
    subst hj
    have hf : f = x := by simpa using hx
    subst hf
    exact ⟨by rw [cell_of_row _ _ _ _ _ _ (heap_alloc_new w _)]; rfl, by rw [cell_of_row _ _ _ _ _ _ (heap_alloc_new w _)]; rfl⟩
  exact step_appT (World.ownsRow.alloc hown _) hr (by simp; omega) hroom hgd ho hs hx fun v' w' h2 h3 => h v' w' h2 (h1.trans h3)
/-- Where a thing is put. -/
theorem ThS.cut {w : World} {B n c : Nat} {A : Option Addr} {es : List Thm} (h : ThS w B (.slice A n c) es) {p : Nat} (hp : p ≤ n) : ThS w B (.slice A p c) (es.take p) := by
  obtain ⟨A', c', hv, h1, h2, h3, h4⟩ := h
  injection hv with e1 e2 e3
  subst e1; subst e2; subst e3
  refine ⟨A, c, by rw [List.length_take, Nat.min_eq_left hp], by rw [List.length_take]; omega, h2, h3, ?_⟩
  rcases h4 with h0 | ⟨b, o, rfl, hb, hc⟩
  · left; rw [List.length_take]; omega
  · refine .inr ⟨b, o, rfl, hb, fun j x hx => ?_⟩
    rw [List.getElem?_take] at hx
    split at hx
    · exact hc j x hx
    · simp at hx
end Go.Proofs.Ythecibabpcfoaaa
