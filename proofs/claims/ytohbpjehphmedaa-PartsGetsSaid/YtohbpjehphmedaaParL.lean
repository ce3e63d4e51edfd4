/- parts: Sizes, the reference's beside it. -/
import Derived.Test.YtohbpjehphmedaaParF
namespace Go.Proofs.Ytohbpjehphmedaa
open Go.RowKit
set_option maxRecDepth 100000
set_option maxHeartbeats 400000

def ints (l : List Nat) : List Int := l.map fun x : Nat => (x : Int)
theorem ints_len (l : List Nat) : (ints l).length = l.length := by simp [ints]
theorem ints_at {l : List Nat} {i : Nat} (h : i < l.length) : (ints l)[i]'(by rw [ints_len]; exact h) = (l[i] : Int) := by simp [ints]
def sizesI (o n warm : Int) : List Int := ints (sizesN o n warm)
theorem sizesI_no {o n warm : Int} (h : ¬ planB o n warm = true) : sizesI o n warm = [] := by unfold sizesI sizesN; rw [if_neg h]; rfl
theorem sizesI_yes {o n warm : Int} {p P q N W : Nat} (ho : o = (p : Nat)) (hn : n = (N : Nat)) (hw : warm = (W : Nat)) (hP : 2 ^ p = P) (hq : N / P = q) (hle : W ≤ q) (h : planB o n warm = true) :
    sizesI o n warm = ((q : Int) - (W : Int)) :: List.replicate (P - 1) (q : Int) := by
  subst ho; subst hn; subst hw
  unfold sizesI sizesN
  rw [if_pos h]
  unfold sizesQ ints
  have e : ((N : Int) / ((2 ^ ((p : Int)).toNat : Nat) : Int)).toNat = q := by rw [Int.toNat_natCast, hP, ← Int.natCast_ediv, Int.toNat_natCast, hq]
  rw [e, Int.toNat_natCast, Int.toNat_natCast, hP]
  simp
  omega
/-- What is so where a row may be dealt. -/
theorem plan_cases {o n warm : Int} (hr : rowB n warm = true) (h0 : 0 ≤ o) (h8 : o ≤ 8) : ∃ p P q r N W : Nat, o = (p : Nat) ∧ n = (N : Nat) ∧ warm = (W : Nat) ∧ p ≤ 8 ∧ 2 ^ p = P ∧ 1 ≤ P ∧ P ≤ 256 ∧ 1 ≤ N ∧ N ≤ 4096 ∧ W ≤ N ∧ N / P = q ∧ N % P = r ∧ q ≤ 4096 ∧
    ((2 : Int) ^ p = (P : Nat)) ∧ ((N : Int) / (P : Int) = (q : Nat)) ∧ ((N : Int) % (P : Int) = (r : Nat)) ∧ (planB o n warm = true ↔ r = 0 ∧ W ≤ q) := by
  obtain ⟨r1, r2, r3, r4⟩ := rowB_iff.1 hr
  obtain ⟨p, rfl⟩ := Int.eq_ofNat_of_zero_le h0
  obtain ⟨N, rfl⟩ := Int.eq_ofNat_of_zero_le (by omega : 0 ≤ n)
  obtain ⟨W, rfl⟩ := Int.eq_ofNat_of_zero_le r3
  have hp8 : 2 ^ p ≤ 2 ^ 8 := Nat.pow_le_pow_right (by omega) (by omega)
  have hp0 := Nat.two_pow_pos p
  have hq : N / 2 ^ p ≤ N := Nat.div_le_self _ _
  refine ⟨p, 2 ^ p, N / 2 ^ p, N % 2 ^ p, N, W, rfl, rfl, rfl, by omega, rfl, hp0, hp8, by omega, by omega, by omega, rfl, rfl, by omega, by simp, by simp, by simp, ?_⟩
  rw [planB_iff, Int.toNat_natCast, ← Int.natCast_emod, ← Int.natCast_ediv]
  constructor
  · rintro ⟨_, _, _, h1, h2⟩; exact ⟨by omega, by omega⟩
  · rintro ⟨h1, h2⟩; exact ⟨hr, h0, h8, by omega, by omega⟩
theorem rep_take {P q j : Nat} (h : j ≤ P) : (List.replicate P (q : Int)).take j = List.replicate j (q : Int) := by rw [List.take_replicate, Nat.min_eq_left h]
theorem rep_first {P : Nat} {a b : Int} (h : 1 ≤ P) : (ci (List.replicate P a)).set 0 (.int .i64 b) = ci (b :: List.replicate (P - 1) a) := by
  obtain ⟨m, rfl⟩ : ∃ m, P = m + 1 := ⟨P - 1, by omega⟩
  rw [ci_set, List.replicate_succ, List.set_cons_zero]; rfl

def SizesP (o n warm : Int) (w : World) (e : Ending) (w' : World) : Prop := ∃ v', e = .returned v' ∧ Own w' w.heap.size 3 v' (ci (sizesI o n warm)) ∧ Below w.heap.size w w'
theorem sizes_any (o n warm : Int) (w : World) (_ : -9223372036854775808 ≤ o) (_ : o ≤ 9223372036854775807) : Calls Try.prog 15 #[.int .i64 o, .int .i64 n, .int .i64 warm] w (SizesP o n warm w) := by
  have hr := fun w => isRow_any n warm w
  by_cases hrow : rowB n warm = true
  · rw [hrow] at hr
    by_cases h0 : o < 0
    · have hno := sizesI_no (o := o) (n := n) (warm := warm) fun h => by have := planB_iff.1 h; omega
      unfold SizesP; rw [hno]
      have HR := Lib.hid hr
      clear hr hno hrow
      go_enter Try.func15, Try.ntmps15
      go_wp2_with (go_at_call 42; refine (HR.out _).mono ?_; rintro e w1 ⟨rfl, rfl⟩)
      go_ret
      exact ⟨_, rfl, Own.nil _ _ _, Below.refl _ _⟩
    by_cases h8 : 8 < o
    · have hno := sizesI_no (o := o) (n := n) (warm := warm) fun h => by have := planB_iff.1 h; omega
      unfold SizesP; rw [hno]
      have HR := Lib.hid hr
      clear hr hno hrow
      go_enter Try.func15, Try.ntmps15
      go_wp2_with (go_at_call 42; refine (HR.out _).mono ?_; rintro e w1 ⟨rfl, rfl⟩)
      go_ret
      exact ⟨_, rfl, Own.nil _ _ _, Below.refl _ _⟩
    obtain ⟨p, P, q, r, N, W, rfl, rfl, rfl, hp8, hP, hP1, hP2, hN1, hN2, hWN, hq, hrr, hq2, hPI, hqI, hrI, hpl⟩ := plan_cases (o := o) hrow (by omega) (by omega)
    by_cases hr0 : r = 0
    · by_cases hWq : W ≤ q
      · subst hr0
        have hyes := sizesI_yes rfl rfl rfl hP hq hWq (hpl.2 ⟨rfl, hWq⟩)
        unfold SizesP; rw [hyes]
        have HR := Lib.hid hr
        clear hr hyes hrow hpl hP hq hrr
        go_enter Try.func15, Try.ntmps15
        go_wp2_with (first
          | (go_at_call 42; refine (HR.out _).mono ?_; rintro e w1 ⟨rfl, rfl⟩)
          | (at_make; refine wpl_make Try.underlying22 info_int rfl (by decide) (by omega) rfl rfl rfl rfl (n := P) (h := ?_); intro w2 ho2 hb2; refine cut_here ?_))
        unfold CutHere
        obtain ⟨G, hG⟩ : ∃ G, w.heap.size = G := ⟨_, rfl⟩
        have HG := Lib.hid hG
        rw [hG] at ho2 hb2 ⊢
        clear hG
        go_wp2
        go_loopw [41] (fun ii wr => ∃ i : Nat, i ≤ P ∧ ii = .int .i64 i ∧ Own wr G 3 (.slice (some ⟨G, 0, none⟩) P P) (ci ((List.replicate P (q : Int)).take i ++ List.replicate (P - i) 0)) ∧ Below G w wr) (fun ii _ => P - (intOf ii).toNat)
        case atStart => exact ⟨0, by omega, rfl, by simpa [ci] using ho2, hb2⟩
        case round =>
          obtain ⟨i, hi, rfl, ho, hb⟩ := hrel
          have HLL := Lib.hid (show (List.replicate P (q : Int)).length = P by simp)
          by_cases him : i < P
          · have HGET := Lib.hid (show (List.replicate P (q : Int))[i]? = some (q : Int) by rw [List.getElem?_replicate, if_pos him])
            obtain ⟨g2, cc, hv, hg2, _, _, hcells, hfro, hset⟩ := ho.at_ (by rw [fillI_len HLL.out hi]; omega)
            injection hv with e1 e2 e3
            injection e1 with e1; injection e1 with e1
            subst e1; subst e3
            have hck := hcells i (by rw [fillI_len HLL.out hi]; exact him)
            rw [fillI_get HLL.out him] at hck
            have hst := hset i (.int .i64 (q : Int))
            rw [fillI_set HLL.out him HGET.out] at hst
            have HST := Lib.hid hst
            have hfi := hfro i
            clear hcells hfro hset hst e2
            go_wp2
            exact ⟨⟨i + 1, by omega, by simp, HST.out, hb.setCell (p := ⟨G, i, none⟩) (Nat.le_refl _) _⟩, by simp [intOf]; omega⟩
          · have hiP : i = P := by omega
            subst hiP
            rw [rep_take (Nat.le_refl _), Nat.sub_self, List.replicate_zero, List.append_nil] at ho
            obtain ⟨g2, cc, hv, hg2, _, _, hcells, hfro, hset⟩ := ho.at_ (by rw [ci_len, List.length_replicate]; omega)
            injection hv with e1 e2 e3
            injection e1 with e1; injection e1 with e1
            subst e1; subst e3
            have hck := hcells 0 (by rw [ci_len, List.length_replicate]; omega)
            rw [ci_at (by rw [List.length_replicate]; omega), List.getElem_replicate] at hck
            have hst := hset 0 (.int .i64 ((q : Int) - (W : Int)))
            rw [rep_first hP1] at hst
            have HST := Lib.hid hst
            have hfi := hfro 0
            clear hcells hfro hset hst e2
            go_wp2
            go_ret
            exact ⟨_, rfl, by rw [HG.out]; exact HST.out, by rw [HG.out]; exact hb.setCell (p := ⟨G, 0, none⟩) (Nat.le_refl _) _⟩
      · have hno := sizesI_no (o := (p : Int)) (n := (N : Int)) (warm := (W : Int)) fun h => hWq (hpl.1 h).2
        unfold SizesP; rw [hno]
        subst hr0
        have HR := Lib.hid hr
        clear hr hno hrow hpl hP hq hrr
        go_enter Try.func15, Try.ntmps15
        go_wp2_with (go_at_call 42; refine (HR.out _).mono ?_; rintro e w1 ⟨rfl, rfl⟩)
        go_ret
        exact ⟨_, rfl, Own.nil _ _ _, Below.refl _ _⟩
    · have hno := sizesI_no (o := (p : Int)) (n := (N : Int)) (warm := (W : Int)) fun h => hr0 (hpl.1 h).1
      unfold SizesP; rw [hno]
      have HR := Lib.hid hr
      clear hr hno hrow hpl hP hq hrr
      go_enter Try.func15, Try.ntmps15
      go_wp2_with (go_at_call 42; refine (HR.out _).mono ?_; rintro e w1 ⟨rfl, rfl⟩)
      go_ret
      exact ⟨_, rfl, Own.nil _ _ _, Below.refl _ _⟩
  · have hno := sizesI_no (o := o) (n := n) (warm := warm) fun h => hrow (planB_iff.1 h).1
    unfold SizesP; rw [hno]
    rw [Bool.eq_false_iff.2 hrow] at hr
    have HR := Lib.hid hr
    clear hr hno hrow
    go_enter Try.func15, Try.ntmps15
    go_wp2_with (go_at_call 42; refine (HR.out _).mono ?_; rintro e w1 ⟨rfl, rfl⟩)
    go_ret
    exact ⟨_, rfl, Own.nil _ _ _, Below.refl _ _⟩

theorem qsizes_any (o n warm : Int) (w : World) (_ : -9223372036854775808 ≤ o) (_ : o ≤ 9223372036854775807) : Calls Try.prog 16 #[.int .i64 o, .int .i64 n, .int .i64 warm] w (SizesP o n warm w) := by
  have hr := fun w => qrow_any n warm w
  by_cases hrow : rowB n warm = true
  · rw [hrow] at hr
    by_cases h0 : o < 0
    · have hno := sizesI_no (o := o) (n := n) (warm := warm) fun h => by have := planB_iff.1 h; omega
      unfold SizesP; rw [hno]
      have HR := Lib.hid hr
      clear hr hno hrow
      go_enter Try.func16, Try.ntmps16
      go_wp2_with (go_at_call 43; refine (HR.out _).mono ?_; rintro e w1 ⟨rfl, rfl⟩)
      go_ret
      exact ⟨_, rfl, Own.nil _ _ _, Below.refl _ _⟩
    by_cases h8 : 8 < o
    · have hno := sizesI_no (o := o) (n := n) (warm := warm) fun h => by have := planB_iff.1 h; omega
      unfold SizesP; rw [hno]
      have HR := Lib.hid hr
      clear hr hno hrow
      go_enter Try.func16, Try.ntmps16
      go_wp2_with (go_at_call 43; refine (HR.out _).mono ?_; rintro e w1 ⟨rfl, rfl⟩)
      go_ret
      exact ⟨_, rfl, Own.nil _ _ _, Below.refl _ _⟩
    obtain ⟨p, P, q, r, N, W, rfl, rfl, rfl, hp8, hP, hP1, hP2, hN1, hN2, hWN, hq, hrr, hq2, hPI, hqI, hrI, hpl⟩ := plan_cases (o := o) hrow (by omega) (by omega)
    have hup : IntKind.u64.wrap ((p : Nat) : Int) = (p : Nat) := IntWalk.u64_in _ (by omega)
    by_cases hr0 : r = 0
    · by_cases hWq : W ≤ q
      · subst hr0
        have hyes := sizesI_yes rfl rfl rfl hP hq hWq (hpl.2 ⟨rfl, hWq⟩)
        unfold SizesP; rw [hyes]
        have HR := Lib.hid hr
        clear hr hyes hrow hpl hP hq hrr
        go_enter Try.func16, Try.ntmps16
        go_wp2_with (go_at_call 43; refine (HR.out _).mono ?_; rintro e w1 ⟨rfl, rfl⟩)
        rw [show decide (q < W) = false from decide_eq_false (by omega), Bool.or_false]
        go_loopw [7, 8] (fun v ii wr => ∃ i : Nat, i ≤ P ∧ ii = .int .i64 i ∧ Own wr w.heap.size 3 v (ci (List.replicate i (q : Int))) ∧ Below w.heap.size w wr) (fun _ ii _ => P - (intOf ii).toNat)
        case atStart => exact ⟨0, by omega, rfl, Own.nil _ _ _, Below.refl _ _⟩
        case round =>
          obtain ⟨i, hi, rfl, ho, hb⟩ := hrel
          by_cases him : i < P
          · have hlen : (ci (List.replicate i (q : Int))).length + 1 ≤ 8796093022208 := by rw [ci_len, List.length_replicate]; omega
            go_wp2_with (at_builtin; refine wpl_app1 ho hb.size hlen Try.underlying22 info_int rfl (by decide) rfl rfl rfl rfl rfl (h := ?_); intro v2 w2 ho2 hb2; refine cut_here ?_)
            unfold CutHere
            have ho3 : Own w2 w.heap.size 3 v2 (ci (List.replicate (i + 1) (q : Int))) := by rw [List.replicate_succ', ci_app]; exact ho2
            go_wp2
            exact ⟨⟨i + 1, by omega, by simp, ho3, hb.trans hb2⟩, by simp [intOf]; omega⟩
          · have hiP : i = P := by omega
            subst hiP
            obtain ⟨G, cc, rfl, hg2, hcc, _, hcells, hfro, hset⟩ := ho.at_ (by rw [ci_len, List.length_replicate]; omega)
            rw [ci_len, List.length_replicate] at *
            have hck := hcells 0 (by omega)
            rw [ci_at (by rw [List.length_replicate]; omega), List.getElem_replicate] at hck
            have hst := hset 0 (.int .i64 ((q : Int) - (W : Int)))
            rw [rep_first hP1] at hst
            have HST := Lib.hid hst
            have hfi := hfro 0
            clear hcells hfro hset hst
            go_wp2
            go_ret
            exact ⟨_, rfl, HST.out, hb.setCell (p := ⟨G, 0, none⟩) hg2 _⟩
      · have hno := sizesI_no (o := (p : Int)) (n := (N : Int)) (warm := (W : Int)) fun h => hWq (hpl.1 h).2
        unfold SizesP; rw [hno]
        subst hr0
        have HR := Lib.hid hr
        clear hr hno hrow hpl hP hq hrr
        go_enter Try.func16, Try.ntmps16
        go_wp2_with (go_at_call 43; refine (HR.out _).mono ?_; rintro e w1 ⟨rfl, rfl⟩)
        go_ret
        exact ⟨_, rfl, Own.nil _ _ _, Below.refl _ _⟩
    · have hno := sizesI_no (o := (p : Int)) (n := (N : Int)) (warm := (W : Int)) fun h => hr0 (hpl.1 h).1
      unfold SizesP; rw [hno]
      have HR := Lib.hid hr
      clear hr hno hrow hpl hP hq hrr
      go_enter Try.func16, Try.ntmps16
      go_wp2_with (go_at_call 43; refine (HR.out _).mono ?_; rintro e w1 ⟨rfl, rfl⟩)
      go_ret
      exact ⟨_, rfl, Own.nil _ _ _, Below.refl _ _⟩
  · have hno := sizesI_no (o := o) (n := n) (warm := warm) fun h => hrow (planB_iff.1 h).1
    unfold SizesP; rw [hno]
    rw [Bool.eq_false_iff.2 hrow] at hr
    have HR := Lib.hid hr
    clear hr hno hrow
    go_enter Try.func16, Try.ntmps16
    go_wp2_with (go_at_call 43; refine (HR.out _).mono ?_; rintro e w1 ⟨rfl, rfl⟩)
    go_ret
    exact ⟨_, rfl, Own.nil _ _ _, Below.refl _ _⟩
end Go.Proofs.Ytohbpjehphmedaa
