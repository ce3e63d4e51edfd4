/- lift: slices.Clone and slices.Reverse of steps. -/
import Derived.Test.YtggddckckfilgaaLifB
import Derived.Deep.RegionLaw
import Derived.BigRegion
namespace Go.Proofs.Ytggddckckfilgaa
open Go.RowKit
set_option maxRecDepth 100000
set_option maxHeartbeats 4000000

theorem cloneLi_any (v : Value) (l : List Li) (w : World) (B : Nat) (hS : Lis w B v l) (hB : B ≤ w.heap.size) (hn : l.length ≤ 1000) :
    Calls Try.prog 38 #[v] w fun e w' => ∃ u, e = .returned u ∧ LiO w' w.heap.size u l ∧ Below w.heap.size w w' := by
  obtain ⟨A, c, rfl, hlc, hcm⟩ := hS.form
  rcases A with _ | ad
  · obtain ⟨h0, hc0, hl0⟩ := hS.zero
    subst hl0; subst hc0
    clear hS hlc hcm hn h0
    have hq := fun (W : World) (n : Nat) => Lib.run_eql_slice_nil (P := Try.prog) W 22 50 none n 0 0 0 Try.underlying22
    go_enter Try.func38, Try.ntmps38
    go_wp2
    go_ret
    exact ⟨_, rfl, LiO.nil _ _, Below.refl _ _⟩
  · have hS1 := hS.below (((Below.refl w.heap.size w).alloc (Nat.le_refl _) (.cells #[] 50)).mono hB)
    have hO := LiO.empty w
    have HS1 := Lib.hid hS1; have HO := Lib.hid hO
    clear hS hS1 hO
    have hq := fun (W : World) (n : Nat) => Lib.run_eql_slice_nil (P := Try.prog) W 22 50 (some ad) n c 0 0 Try.underlying22
    go_enter Try.func38, Try.ntmps38
    go_wp2_with (at_builtin; refine wpl_appL HO.out HS1.out (by simp) (by simp; omega) rfl rfl rfl rfl ?_; intro v2 w2 ho2 hb2)
    go_ret
    exact ⟨v2, rfl, ho2, ((Below.refl _ _).alloc (Nat.le_refl _) _).trans hb2⟩
/-- A row of steps with one of them turned. -/
theorem cli_set : ∀ (es : List Li) (i : Nat) (x : Li), (((cli es).set (i * 3) (.int .i64 x.fr)).set (i * 3 + 1) (.int .i64 x.to)).set (i * 3 + 2) (.int .i64 x.gn) = cli (es.set i x)
  | [], i, x => by simp [cli]
  | e :: es, 0, x => by simp [cli, celL]
  | e :: es, i + 1, x => by
    have h := cli_set es i x
    simp only [List.set_cons_succ]
    rw [show cli (e :: es) = celL e ++ cli es by simp [cli], show cli (e :: es.set i x) = celL e ++ cli (es.set i x) by simp [cli]]
    have h3 : (celL e).length = 3 := rfl
    rw [List.set_append_right _ _ (by omega), h3, List.set_append_right _ _ (by omega), h3, List.set_append_right _ _ (by omega), h3]
    rw [show (i + 1) * 3 - 3 = i * 3 by omega, show (i + 1) * 3 + 1 - 3 = i * 3 + 1 by omega, show (i + 1) * 3 + 2 - 3 = i * 3 + 2 by omega, h]
theorem LiO.put {w : World} {base g n c : Nat} {es : List Li} (h : LiO w base (.slice (some ⟨g, 0, none⟩) n c) es) (i : Nat) (x : Li) :
    LiO (((w.setCell ⟨g, i * 3, none⟩ (.int .i64 x.fr)).setCell ⟨g, i * 3 + 1, none⟩ (.int .i64 x.to)).setCell ⟨g, i * 3 + 2, none⟩ (.int .i64 x.gn)) base (.slice (some ⟨g, 0, none⟩) n c) (es.set i x) := by
  have hn : n = es.length := by
    obtain ⟨A, c', e, _, _⟩ := h.form
    injection e
  subst hn
  unfold LiO at h ⊢
  rw [List.length_set, ← cli_set]
  have h1 := (World.ownsRow.stored (w := w) h (i * 3) (.int .i64 x.fr)).1
  have h2 := (World.ownsRow.stored h1 (i * 3 + 1) (.int .i64 x.to)).1
  exact (World.ownsRow.stored h2 (i * 3 + 2) (.int .i64 x.gn)).1
theorem LiO.at_ {w : World} {base g n c : Nat} {es : List Li} (h : LiO w base (.slice (some ⟨g, 0, none⟩) n c) es) {i : Nat} {x : Li} (hx : es[i]? = some x) : LiAt w g (i * 3) x ∧ base ≤ g ∧ g < w.heap.size ∧ ∀ j, w.frozen? ⟨g, j, none⟩ = false := by
  obtain ⟨b, o, e, hc, hb⟩ := h.lis.get hx
  have hl := h.lt g rfl
  obtain ⟨cs, hblk⟩ := h.blk (k := g) rfl
  injection e with e; injection e with e1 e2; subst e1; subst e2
  rw [Nat.zero_add] at hc
  exact ⟨hc, hl.1, hl.2, fun j => frozen_of_row w g j _ _ hblk⟩
theorem LiO.drew {w : World} {base : Nat} {v : Value} {es : List Li} (h : LiO w base v es) : LiO w.drew base v es := h.kept fun _ _ => rfl
theorem LiO.drewN {w : World} {base : Nat} {v : Value} {es : List Li} (h : LiO w base v es) (q : Nat) : LiO (w.drewN q) base v es := h.kept fun _ _ => rfl
/-- Turned round from both ends, i steps. -/
def RevTo (es ds : List Li) (i : Nat) : Prop := ds.length = es.length ∧ ∀ k, k < es.length → ds[k]? = if k < i ∨ es.length - 1 - k < i then es[es.length - 1 - k]? else es[k]?
theorem RevTo.zero (es : List Li) : RevTo es es 0 := ⟨rfl, fun k hk => by rw [if_neg (by omega)]⟩
theorem RevTo.done {es ds : List Li} {i : Nat} (h : RevTo es ds i) (hi : es.length ≤ 2 * i + 1) : ds = es.reverse := by
  apply List.ext_getElem?
  intro k
  by_cases hk : k < es.length
  · rw [h.2 k hk, List.getElem?_reverse hk]
    by_cases hc : k < i ∨ es.length - 1 - k < i
    · rw [if_pos hc]
    · rw [if_neg hc, show es.length - 1 - k = k by omega]
  · rw [List.getElem?_eq_none (by rw [h.1]; omega), List.getElem?_eq_none (by simp; omega)]
theorem RevTo.step {es ds : List Li} {i j : Nat} (h : RevTo es ds i) (hij : i < j) (hj : j + i + 1 = es.length) {a b : Li} (ha : ds[i]? = some a) (hb : ds[j]? = some b) : RevTo es ((ds.set i b).set j a) (i + 1) := by
  have h1 := h.2 i (by omega)
  have h2 := h.2 j (by omega)
  rw [if_neg (by omega)] at h1 h2
  refine ⟨by simp [h.1], fun k hk => ?_⟩
  have hl := h.1
  by_cases e1 : j = k
  · subst e1
    rw [List.getElem?_set_self (by simp; omega), if_pos (by omega), show es.length - 1 - j = i by omega, ← h1, ha]
  · rw [List.getElem?_set_ne e1]
    by_cases e2 : i = k
    · subst e2
      rw [List.getElem?_set_self (by omega), if_pos (by omega), show es.length - 1 - i = j by omega, ← h2, hb]
    · rw [List.getElem?_set_ne e2, h.2 k hk]
      by_cases e3 : k < i ∨ es.length - 1 - k < i
      · rw [if_pos e3, if_pos (by omega)]
      · rw [if_neg e3, if_neg (by omega)]
theorem rev_any (w : World) (base g n c : Nat) (es : List Li) (hO : LiO w base (.slice (some ⟨g, 0, none⟩) n c) es) (hbase : base ≤ w.heap.size) (hn : n ≤ 1000) :
    Calls Try.prog 39 #[.slice (some ⟨g, 0, none⟩) n c] w fun e w' => e = .returned (.tuple #[]) ∧ LiO w' base (.slice (some ⟨g, 0, none⟩) n c) es.reverse ∧ Below base w w' := by
  have hnl : n = es.length := by
    obtain ⟨A, c', e, _, _⟩ := hO.form
    injection e
  have HO := Lib.hid hO; have HNL := Lib.hid hnl
  clear hO hnl
  go_enter Try.func39, Try.ntmps39
  go_wp2
  go_loopw [2, 3] (fun ii jj wr => ∃ (i : Nat) (jz : Int) (ds : List Li), ii = .int .i64 i ∧ jj = .int .i64 jz ∧ Hid (i + jz = (n : Int) - 1) ∧ (i : Int) ≤ 1000 ∧ -1001 ≤ jz ∧ jz ≤ 1000 ∧ Hid (RevTo es ds i) ∧ Hid (LiO wr base (.slice (some ⟨g, 0, none⟩) n c) ds) ∧ Hid (Below base w wr)) (fun ii _ _ => n - (intOf ii).toNat)
  case atStart => exact ⟨0, (n : Int) - 1, es, rfl, rfl, Lib.hid (by simp), by omega, by omega, by omega, RevTo.zero es, HO, Lib.hid (Below.refl _ _)⟩
  case round =>
    obtain ⟨i, jz, ds, rfl, rfl, hij, hi, hj1, hj2, hrv, hor, hbr⟩ := hrel
    by_cases hlt : (i : Int) < jz
    · obtain ⟨j, rfl⟩ := Int.eq_ofNat_of_zero_le (show 0 ≤ jz by omega)
      have hji : j + i + 1 = n := by have := hij.out; omega
      have hdl : ds.length = n := by rw [hrv.out.1, HNL.out]
      obtain ⟨a, ha⟩ : ∃ a, ds[i]? = some a := ⟨_, List.getElem?_eq_getElem (by omega)⟩
      obtain ⟨b, hb⟩ : ∃ a, ds[j]? = some a := ⟨_, List.getElem?_eq_getElem (by omega)⟩
      obtain ⟨⟨a0, a1, a2⟩, hbg, hgl, hfz⟩ := hor.out.at_ ha
      obtain ⟨⟨b0, b1, b2⟩, _, _, _⟩ := hor.out.at_ hb
      have hst := hrv.out.step (by omega) (by rw [← HNL.out]; exact hji) ha hb
      have hin : i < n := by omega
      have hjn : j < n := by omega
      have HST := Lib.hid hst; have HJI := Lib.hid hji
      clear hst hdl ha hb hji
      go_wp2_with fail
      go_region
      all_goals
        have hp := ((hor.out.put i b).put j a).drew
        have hb7 : Below base w _ := (((((((hbr.out).setCell (p := ⟨g, i * 3, none⟩) hbg (.int .i64 b.fr)).setCell (p := ⟨g, i * 3 + 1, none⟩) hbg (.int .i64 b.to)).setCell (p := ⟨g, i * 3 + 2, none⟩) hbg (.int .i64 b.gn)).setCell (p := ⟨g, j * 3, none⟩) hbg (.int .i64 a.fr)).setCell (p := ⟨g, j * 3 + 1, none⟩) hbg (.int .i64 a.to)).setCell (p := ⟨g, j * 3 + 2, none⟩) hbg (.int .i64 a.gn)).drew
        have HP := Lib.hid hp; have HB7 := Lib.hid hb7
        clear hp hb7
        go_wp2
        exact ⟨⟨i + 1, (j : Int) - 1, _, by simp, rfl, Lib.hid (by have := HJI.out; omega), by omega, by omega, by omega, HST, HP, HB7⟩, by simp [intOf]; omega⟩
    · have hfin := hrv.out.done (by have := hij.out; have := HNL.out; omega)
      have HFIN := Lib.hid hfin
      clear hfin
      go_wp2
      go_end0
      exact ⟨rfl, by rw [← HFIN.out]; exact hor.out, hbr.out⟩
theorem revZero_any (A : Option Addr) (c : Nat) (w : World) :
    Calls Try.prog 39 #[.slice A 0 c] w fun e w' => e = .returned (.tuple #[]) ∧ w = w' := by
  go_enter Try.func39, Try.ntmps39
  go_wp2
  go_loop [2, 3] (fun i j => i = .int .i64 0 ∧ j = .int .i64 (-1)) (fun i _ => 1 - (intOf i).toNat)
  case atStart => exact ⟨rfl, rfl⟩
  case round =>
    obtain ⟨rfl, rfl⟩ := hrel
    go_wp2
    go_end0
    exact ⟨rfl, rfl⟩
end Go.Proofs.Ytggddckckfilgaa
