/- prefix: slices.Grow and slices.Concat of elements. -/
import Derived.Test.YthecibabpcfoaaaPfxJ
import Derived.Lib.AppendZeros
import Derived.Shelf.RegionOpenPlain
namespace Go.Proofs.Ythecibabpcfoaaa
open Go.RowKit Go.Lib
set_option maxRecDepth 100000
set_option maxHeartbeats 1600000

theorem grow_any {w : World} {n : Nat} (h0 : 0 < n) (hn : n ≤ 1099511627776) :
    Calls Try.prog 71 #[.slice none 0 0, .int .i64 n] w fun e w' => ∃ v', e = .returned v' ∧ Els w' w.heap.size v' [] ∧ Below w.heap.size w w' := by
  obtain ⟨i, hi, hz0, hz1, hz2⟩ := info_parts info_elt
  have hr := fun ty => run_append_nil_zeros (P := Try.prog) w 65 3 ty 68 i (.agg #[.int .i64 0, .bool false]) .i64 .i64 Try.underlying65 Try.underlying3 hi hz0 n h0 (by rw [hz1]; decide) (by omega) (by rw [hz2]; omega)
  have hge : n ≤ grownCap w n 0 68 := grownCap_ge w _ _ _
  have hmx := grownCap_le_maxLen w n 0 68 (by unfold maxLen; omega)
  obtain ⟨G, hG⟩ : ∃ G, grownCap w n 0 68 = G := ⟨_, rfl⟩
  rw [hG] at hge hmx
  have hmx' := hmx
  unfold maxLen at hmx'
  simp only [hG] at hr
  obtain ⟨cur, hcur⟩ : ∃ cur : Array Value, Builtin.zeroCells (Value.agg #[.int .i64 0, .bool false]).cells n ++ Builtin.zeroCells (Value.agg #[.int .i64 0, .bool false]).cells (G - n) = cur := ⟨_, rfl⟩
  rw [hcur] at hr
  have hsz : cur.size = G * 2 := by
    rw [← hcur]
    simp [Builtin.zeroCells, Value.cells]
    omega
  have hown := World.ownsRow_made (base := w.heap.size) (e := 68) (size := 2) w.drew cur G (Nat.le_refl _) hmx hsz
  have hb : Below w.heap.size w (w.drew.alloc (.cells cur 68)) := (below_drewN (Below.refl _ _) 1).alloc (Nat.le_refl _) _
  have hn2 : ¬ ((n : Int) < 0) := by omega
  have HOWN := Lib.hid hown; have HB := Lib.hid hb
  clear hcur hsz hown hb hG hi hz0 hz1 hz2 hmx
  go_enter Try.func71, Try.ntmps71
  go_wp2_with (at_builtin; refine Lib.wpList_append_run _ rfl _ _ _ _ rfl _ _ rfl rfl _ _ (hr _) ?_)
  all_goals
    go_ret
    exact ⟨_, rfl, HOWN.out, HB.out⟩

/-- 'es = append(es, fs...)'. -/
theorem wpl_app2 {w : World} {base B : Nat} {v vx : Value} {es fs : List (Nat × Bool)} (hown : Els w base v es) (hr : Sle w B vx fs) (hbase : base ≤ w.heap.size) (hroom : es.length + fs.length ≤ 1099511627776) (hnil : fs.length = 0 → vx = .slice none 0 0)
    {ops : Array Oper} {rest : List Oper} {o : Oper} {a : Act} {Q : Exit → Act → World → Prop} {s x : Operand} (hgd : o.guard = none)
    (ho : o.op = .call { callee := .builtin .append, args := #[s, x], argTypes := #[65, 65] })
    (hs : a.eval s = v) (hx : a.eval x = vx)
    (h : ∀ v' w', Els w' base v' (es ++ fs) → Below base w w' → wpList Try.prog ops Q rest (a.put o.dst v') w') : wpList Try.prog ops Q (o :: rest) a w := by
  obtain ⟨i, hi, hz0, hz1, hz2⟩ := info_parts info_elt
  obtain ⟨A, c, rfl, hlc, hcm, h3⟩ := hr
  rcases h3 with h0 | ⟨b, oo, rfl, hb, hc⟩
  · have := hnil h0
    have hf : fs = [] := List.eq_nil_of_length_eq_zero h0
    subst hf
    injection this with e1 _ e3; subst e1; subst e3
    refine wpList_plain hgd fun K hK' => ?_
    have hrun := run_append_owned_none (P := Try.prog) w base 65 o.type 68 i 2 Try.underlying65 hi _ es.length (ce es) hown
    unfold Oper.wp
    simp [execOp, ho, resolve, invoke, builtin, hs, hx, hrun, Result.andThen]
    exact hK' _ _ (h _ _ (by simpa using hown) (Below.refl _ _))
  · refine wpList_append_own_at _ hgd s x 65 ho base 68 i _ 2 16 Try.underlying65 hi hz0 hz1 hz2 rfl (by decide) v _ (ce es) hs hown ⟨b, oo, none⟩ fs.length c (ce fs) hx (ce_len fs) ?_ (ce_one fs) ?_ ?_ hbase ?_
    · intro j u hj
      obtain ⟨hjl, hje⟩ := List.getElem?_eq_some_iff.1 hj
      rw [Addr.add_lit, hc j (by rw [ce_len] at hjl; exact hjl), hj]
    · unfold maxLen; omega
    · omega
    · intro v' w' ho' hg' _ _
      refine h v' w' (by unfold Els; rw [List.length_append, ce_app]; exact ho') ?_
      exact (Below.refl base w).grown hg' hbase fun k hk => (hown.lt k hk).1

theorem concat_any {w : World} {B g : Nat} {v1 v2 : Value} {es fs : List (Nat × Bool)} (h1 : Sle w B v1 es) (h2 : Sle w B v2 fs) (hB : B ≤ w.heap.size) (hl : 0 < es.length) (hlen : es.length + fs.length ≤ 1048576) (hn1 : es.length = 0 → v1 = .slice none 0 0) (hn2 : fs.length = 0 → v2 = .slice none 0 0)
    (c1 : w.cell? ⟨g, 0, none⟩ = some v1) (c2 : w.cell? ⟨g, 1, none⟩ = some v2) (hg : g < w.heap.size) :
    Calls Try.prog 56 #[.slice (some ⟨g, 0, none⟩) 2 2] w fun e w' => ∃ v', e = .returned v' ∧ Els w' w.heap.size v' (es ++ fs) ∧ Below w.heap.size w w' := by
  have hgr := grow_any (w := w) (n := es.length + fs.length) (by omega) (by omega)
  obtain ⟨A1, k1, rfl, hk1, hm1⟩ := h1.form
  obtain ⟨A2, k2, rfl, hk2, hm2⟩ := h2.form
  obtain ⟨n1, hn1'⟩ : ∃ n, es.length = n := ⟨_, rfl⟩
  obtain ⟨n2, hn2'⟩ : ∃ n, fs.length = n := ⟨_, rfl⟩
  obtain ⟨N, hN⟩ : ∃ N, n1 + n2 = N := ⟨_, rfl⟩
  have hNI : (n1 : Int) + (n2 : Int) = (N : Nat) := by omega
  obtain ⟨S0, hs0⟩ : ∃ S0, w.heap.size = S0 := ⟨_, rfl⟩
  rw [hn1', hn2', hN, hs0] at hgr
  rw [hs0] at hB hg ⊢
  rw [hn1'] at h1 hk1 hn1 c1 hl
  rw [hn2'] at h2 hk2 hn2 c2
  rw [hn1', hn2', hN] at hlen
  have HN1 := Lib.hid hn1'; have HN2 := Lib.hid hn2'; have HN := Lib.hid hN; have HS0 := Lib.hid hs0; have HGR := Lib.hid hgr
  have HH1 := Lib.hid h1; have HH2 := Lib.hid h2; have HE1 := Lib.hid hn1; have HE2 := Lib.hid hn2
  have hn1m : n1 ≤ N := by omega
  clear hn1' hn2' hN hs0 hgr h1 h2 hn1 hn2
  go_enter Try.func56, Try.ntmps56
  go_wp2
  go_loop [3, 11] (fun vs vi => ∃ j : Nat, j ≤ 2 ∧ vi = .int .i64 j ∧ vs = .int .i64 (if j = 0 then 0 else if j = 1 then (n1 : Int) else (N : Int))) (fun _ vi => 2 - (intOf vi).toNat)
  case atStart => exact ⟨0, by omega, rfl, rfl⟩
  case round =>
    obtain ⟨j, hj, rfl, rfl⟩ := hrel
    have hj3 : j = 0 ∨ j = 1 ∨ j = 2 := by omega
    rcases hj3 with rfl | rfl | rfl
    · simp only [if_pos]
      go_wp2
      exact ⟨⟨1, by omega, rfl, rfl⟩, by decide⟩
    · simp only [if_pos]
      go_wp2
      exact ⟨⟨2, by omega, rfl, rfl⟩, by decide⟩
    · simp only [if_neg (show ¬ (2 : Nat) = 0 by omega), if_neg (show ¬ (2 : Nat) = 1 by omega)]
      go_wp2_with fail
      refine HGR.out.mono ?_
      rintro e w1 ⟨v3, rfl, hE, hb1⟩
      go_wp2
      go_loopw [6, 27] (fun v6 vi wr => ∃ i : Nat, i ≤ 2 ∧ vi = .int .i64 i ∧ Els wr S0 v6 ((if i = 0 then [] else if i = 1 then es else es ++ fs)) ∧ Below S0 w wr) (fun _ vi _ => 2 - (intOf vi).toNat)
      case atStart => exact ⟨0, by omega, rfl, hE, hb1⟩
      case round =>
        obtain ⟨i, hi, rfl, hEi, hbi⟩ := hrel
        have hc1 := (hbi.cell (p := ⟨g, 0, none⟩) hg).trans c1
        have hc2 := (hbi.cell (p := ⟨g, 1, none⟩) hg).trans c2
        have hszw : S0 ≤ wr.heap.size := by have := hbi.size; have := HS0.out; omega
        have hr1 := Lib.hid (HH1.out.below (hbi.mono hB))
        have hr2 := Lib.hid (HH2.out.below (hbi.mono hB))
        clear hE hb1
        have hi3 : i = 0 ∨ i = 1 ∨ i = 2 := by omega
        rcases hi3 with rfl | rfl | rfl
        · simp only [if_pos] at hEi
          go_wp2_with (at_builtin; refine wpl_app2 hEi hr1.out hszw (by rw [HN1.out]; simp; omega) (by rw [HN1.out]; intro h; omega) rfl rfl rfl rfl (h := ?_); intro v5 w5 ho5 hb5)
          rw [List.nil_append] at ho5
          refine ⟨⟨1, by omega, rfl, by simpa using ho5, hbi.trans hb5⟩, by decide⟩
        · simp only [if_neg (show ¬ (1 : Nat) = 0 by omega), if_pos] at hEi
          go_wp2_with (at_builtin; refine wpl_app2 hEi hr2.out hszw (by rw [HN1.out, HN2.out, HN.out]; omega) (by rw [HN2.out]; exact HE2.out) rfl rfl rfl rfl (h := ?_); intro v5 w5 ho5 hb5)
          refine ⟨⟨2, by omega, rfl, by simpa using ho5, hbi.trans hb5⟩, by decide⟩
        · simp only [if_neg (show ¬ (2 : Nat) = 0 by omega), if_neg (show ¬ (2 : Nat) = 1 by omega)] at hEi
          have HEI := Lib.hid hEi
          clear hEi
          go_wp2
          go_ret
          exact ⟨_, rfl, HEI.out, hbi⟩
end Go.Proofs.Ythecibabpcfoaaa
