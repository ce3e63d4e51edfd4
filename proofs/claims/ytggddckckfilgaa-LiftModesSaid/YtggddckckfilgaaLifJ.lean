/- lift: the reference's step, Do and Undo. -/
import Derived.Test.YtggddckckfilgaaLifI
namespace Go.Proofs.Ytggddckckfilgaa
open Go.RowKit
set_option maxRecDepth 100000
set_option maxHeartbeats 8000000

theorem box3 {w : World} {q : Nat} {x : Li} (h : w.heap[q]? = some (.cells (liCells x) 50 (0, 0))) : w.cell? ⟨q, 0, none⟩ = some (.int .i64 x.fr) ∧ w.cell? ⟨q, 1, none⟩ = some (.int .i64 x.to) ∧ w.cell? ⟨q, 2, none⟩ = some (.int .i64 x.gn) :=
  ⟨by rw [cell_of_row _ _ _ _ _ _ h]; rfl, by rw [cell_of_row _ _ _ _ _ _ h]; rfl, by rw [cell_of_row _ _ _ _ _ _ h]; rfl⟩
theorem qoneRow_any (w : World) (base gS m c n kt kf kz gt gf gz it jf : Nat) (vs : List Value) (cur : List (List Int)) (t f : List Int) (g s : Int)
    (hR : RwG w base (.slice (some ⟨gS, 0, none⟩) m c) vs cur) (hbase : base ≤ w.heap.size) (hij : it ≠ jf) (hvt : vs[it]? = some (.slice (some ⟨gt, 0, none⟩) n kt)) (hvf : vs[jf]? = some (.slice (some ⟨gf, 0, none⟩) n kf)) (hvz : vs[0]? = some (.slice (some ⟨gz, 0, none⟩) n kz))
    (ht : cur[it]? = some t) (hf : cur[jf]? = some f) (htn : t.length = n) (hfn : f.length = n) (hp : 0 < n) (hn : n ≤ 4096) (hwt : t.all wideB = true) (hwf : f.all wideB = true)
    (hs : s = 1 ∨ s = -1) (hg1 : -1024 ≤ g) (hg2 : g ≤ 1024) (hm : m = cur.length) (hm8 : m ≤ 8) (hmc : m ≤ c) :
    Calls Try.prog 37 #[.slice (some ⟨gS, 0, none⟩) m c, .agg #[.int .i64 (jf : Nat), .int .i64 (it : Nat), .int .i64 g], .int .i64 s] w fun e w' =>
      e = .returned (.bool ((addL s g t f).all wideB)) ∧ Below base w w' ∧ ((addL s g t f).all wideB = true → RwG w' base (.slice (some ⟨gS, 0, none⟩) m c) vs (cur.set it (addL s g t f))) := by
  obtain ⟨_, _, hOt, hft, _⟩ := hR.row_cells hvt ht htn hp
  have hkt : n ≤ kt ∧ kt ≤ maxLen := by
    obtain ⟨A, k, e, h1, h2⟩ := hOt.sli.formI
    injection e with e1 e2 e3
    omega
  obtain ⟨_, _, hOf, _, _⟩ := hR.row_cells hvf hf hfn hp
  have hkf : n ≤ kf ∧ kf ≤ maxLen := by
    obtain ⟨A, k, e, h1, h2⟩ := hOf.sli.formI
    injection e with e1 e2 e3
    omega
  have hgb := (hOt.lt gt rfl).1
  have hgq := (hOt.lt gt rfl).2
  have hitm : it < m := by rw [hm]; exact (List.getElem?_eq_some_iff.1 ht).1
  have hjfm : jf < m := by rw [hm]; exact (List.getElem?_eq_some_iff.1 hf).1
  have h0m : 0 < m := by omega
  obtain ⟨q, hq⟩ : ∃ q, w.heap.size = q := ⟨_, rfl⟩
  have hbx := boxed w (liCells ⟨(jf : Nat), (it : Nat), g⟩) 50
  have hba := below_new w (liCells ⟨(jf : Nat), (it : Nat), g⟩) 50
  have hRa := hR.kept hba
  rw [hq] at hbx
  obtain ⟨wA, hwA⟩ : ∃ wA, w.alloc (.cells (liCells ⟨(jf : Nat), (it : Nat), g⟩) 50) = wA := ⟨_, rfl⟩
  rw [hwA] at hbx hba hRa
  have hbA : Below base w wA := hba.mono hbase
  have HRA := Lib.hid hRa; have HVT := Lib.hid hvt; have HVF := Lib.hid hvf; have HVZ := Lib.hid hvz; have HT := Lib.hid ht; have HF := Lib.hid hf; have HTN := Lib.hid htn; have HFN := Lib.hid hfn; have HWT := Lib.hid hwt; have HWF := Lib.hid hwf; have HS := Lib.hid hs; have HIJ := Lib.hid hij; have HBX := Lib.hid hbx; have HBA := Lib.hid hbA; have HM := Lib.hid hm; have HQ := Lib.hid hq
  have hwA' : w.alloc (.cells #[.int .i64 (jf : Nat), .int .i64 (it : Nat), .int .i64 g] 50) = wA := hwA
  clear hR hvt hvf hvz ht hf htn hfn hwt hwf hs hij hRa hba hbx hbA hOt hOf hft hm hwA
  go_enter Try.func37, Try.ntmps37
  go_wp2
  rw [HQ.out] at *
  clear hwA'
  go_loopw [7] (fun i wr => ∃ j : Nat, j ≤ n ∧ i = .int .i64 j ∧ Hid (((addL s g t f).take j).all wideB = true) ∧ Hid (RwG wr base (.slice (some ⟨gS, 0, none⟩) m c) vs (cur.set it (upTo s g t f j))) ∧ Hid (wr.heap[q]? = some (.cells (liCells ⟨(jf : Nat), (it : Nat), g⟩) 50 (0, 0))) ∧ Hid (Below base w wr)) (fun i _ => n - (intOf i).toNat)
  case atStart => exact ⟨0, Nat.zero_le _, rfl, Lib.hid rfl, Lib.hid (by rw [upTo_zero, set_same HT.out]; exact HRA.out), HBX, HBA⟩
  case round =>
    obtain ⟨j, hj, rfl, hall, hRr, hbx, hb⟩ := hrel
    have hil := (List.getElem?_eq_some_iff.1 HT.out).1
    obtain ⟨z0, hz0, hcz, _, _⟩ := hRr.out.top_at (i := 0) (by simp; omega)
    rw [HVZ.out] at hz0; injection hz0 with hz0; subst hz0
    by_cases hlt : j < n
    · obtain ⟨a, ha⟩ : ∃ a, t[j]? = some a := ⟨_, List.getElem?_eq_getElem (by rw [HTN.out]; exact hlt)⟩
      obtain ⟨x, hx⟩ : ∃ a, f[j]? = some a := ⟨_, List.getElem?_eq_getElem (by rw [HFN.out]; exact hlt)⟩
      have hrt : (cur.set it (upTo s g t f j))[it]? = some (upTo s g t f j) := List.getElem?_set_self hil
      have hrf : (cur.set it (upTo s g t f j))[jf]? = some f := by rw [List.getElem?_set_ne HIJ.out]; exact HF.out
      have hul := upTo_len (s := s) (g := g) (i := j) HTN.out HFN.out
      obtain ⟨hgt, _, hOt, hft, _⟩ := hRr.out.row_cells HVT.out hrt hul hp
      obtain ⟨hgf, _, hOf, hff, _⟩ := hRr.out.row_cells HVF.out hrf HFN.out hp
      obtain ⟨bt, ot, e1, hbt, hct⟩ := hOt.sli.atI' (upTo_at (s := s) (g := g) HTN.out HFN.out ha)
      injection e1 with e1; injection e1 with e1 e2; subst e1; subst e2
      obtain ⟨bf, of, e1, hbf, hcf⟩ := hOf.sli.atI' hx
      injection e1 with e1; injection e1 with e1 e2; subst e1; subst e2
      rw [Nat.zero_add] at hct hcf
      have wa := wide_of HWT.out ha
      have wx := wide_of HWF.out hx
      obtain ⟨G, qq, P, hG, hqq, hP, b1, b2, b3, b4, b5, b6, hadd⟩ := part_bd HS.out hg1 hg2 wx.1 wx.2
      have hset := upTo_set (s := s) (g := g) HTN.out HFN.out ha hx
      have htake := addL_take (s := s) (g := g) ha hx
      rw [hadd a] at hset htake
      have hR2 := (hRr.out.cell HVT.out hrt (k := j) (a + P)).drew
      rw [List.set_set, hset] at hR2
      have hft' := hft j
      have hnar := fun w => rWide_any (a + P) w
      have hall2 : ((addL s g t f).take (j + 1)).all wideB = wideB (a + P) := by rw [htake, List.all_append, hall.out]; simp
      have hno : wideB (a + P) = false → (addL s g t f).all wideB = false := fun h => by
        rw [h] at hall2
        rw [← List.take_append_drop (j + 1) (addL s g t f), List.all_append, hall2, Bool.false_and]
      obtain ⟨x0, x1, x2⟩ := box3 hbx.out
      simp only at x0 x1 x2
      have hgS2 : gS ≠ gt := by
        obtain ⟨cs, h1⟩ := hRr.out.top.blk (k := gS) rfl
        obtain ⟨cs2, h2⟩ := hOt.blk (k := gt) rfl
        intro e; subst e
        rw [h1] at h2; injection h2 with h2; injection h2 with _ h2
        exact absurd h2 (by decide)
      have hqg : q ≠ gt := by omega
      have HR2 := Lib.hid hR2; have HNAR := Lib.hid hnar; have HALL := Lib.hid hall2; have HNO := Lib.hid hno
      have hb2 := (hb.out.setCell (p := ⟨gt, j, none⟩) hgb (.int .i64 (a + P))).drew
      have HB2 := Lib.hid hb2
      have HBX2 : Hid ((wr.setCell ⟨gt, j, none⟩ (.int .i64 (a + P))).drew.heap[q]? = some (.cells (liCells ⟨(jf : Nat), (it : Nat), g⟩) 50 (0, 0))) := (heap_setCell_other wr ⟨gt, j, none⟩ q (.int .i64 (a + P)) (fun e => hqg e)).trans hbx.out
      clear hR2 hnar hall2 hno hset htake hft hff hOt hOf hrt hrf hul ha hx hadd hb2
      have hw0 : IntKind.i64.wrap G = G := by rw [IntKind.wrap_i64]; omega
      have hw1 : IntKind.i64.wrap P = P := by rw [IntKind.wrap_i64]; omega
      have hw2 : IntKind.i64.wrap (a + P) = a + P := by rw [IntKind.wrap_i64]; omega
      go_wp2_with fail
      go_still_tail 30, (by kernel_rfl)
      change wpList _ _ _ _ _ wr.drew
      cases hwd : wideB (a + P)
      · rw [hwd] at HNAR
        have hnf := Lib.hid (HNO.out hwd)
        clear hwd
        go_wp2_with fail
        refine (HNAR.out _).mono ?_
        rintro e w1 ⟨rfl, rfl⟩
        go_wp2
        go_ret
        exact ⟨by rw [hnf.out]; rfl, HB2.out, fun h => by rw [hnf.out] at h; simp at h⟩
      · rw [hwd] at HNAR
        have hnt := Lib.hid (HALL.out.trans hwd)
        clear hwd
        go_wp2_with fail
        refine (HNAR.out _).mono ?_
        rintro e w1 ⟨rfl, rfl⟩
        go_wp2
        exact ⟨⟨j + 1, by omega, by simp, hnt, HR2, HBX2, HB2⟩, by simp [intOf]; omega⟩
    · have hjn : j = n := by omega
      have HJ := Lib.hid hjn
      clear hjn
      go_wp2
      go_ret
      have hal := addL_len (s := s) (g := g) HTN.out HFN.out
      have h1 := hall.out
      have h2 := hRr.out
      rw [HJ.out, List.take_of_length_le (by omega)] at h1
      rw [HJ.out, upTo_all HTN.out HFN.out] at h2
      exact ⟨by rw [h1]; rfl, hb.out, fun _ => h2⟩
theorem qoneZero_any (w : World) (base gS m c c0 : Nat) (A0 : Option Addr) (x : Li) (s : Int) (hz : w.cell? ⟨gS, 0, none⟩ = some (.slice A0 0 c0)) (hm : 0 < m) (hgl : gS < w.heap.size) :
    Calls Try.prog 37 #[.slice (some ⟨gS, 0, none⟩) m c, .agg #[.int .i64 x.fr, .int .i64 x.to, .int .i64 x.gn], .int .i64 s] w fun e w' => e = .returned (.bool true) ∧ Below w.heap.size w w' := by
  have hba := below_new w #[.int .i64 x.fr, .int .i64 x.to, .int .i64 x.gn] 50
  obtain ⟨wA, hwA⟩ : ∃ wA, w.alloc (.cells #[.int .i64 x.fr, .int .i64 x.to, .int .i64 x.gn] 50) = wA := ⟨_, rfl⟩
  rw [hwA] at hba
  have hz2 := (hba.cell (p := ⟨gS, 0, none⟩) hgl).trans hz
  have HBA := Lib.hid hba
  clear hba hz
  go_enter Try.func37, Try.ntmps37
  go_wp2
  clear hwA
  go_loop [7] (fun i => i = .int .i64 0) (fun i => 1 - (intOf i).toNat)
  case atStart => rfl
  case round =>
    subst hrel
    go_wp2
    go_ret
    exact ⟨rfl, HBA.out⟩
theorem qoneStep_any (w : World) (base gS m c n : Nat) (vs : List Value) (cur : List (List Int)) (x : Li) (s : Int)
    (hR : RwG w base (.slice (some ⟨gS, 0, none⟩) m c) vs cur) (hbase : base ≤ w.heap.size) (M : RowsOk cur n) (hx : liOk (cur.length : Nat) x = true) (hs : s = 1 ∨ s = -1) (hm : m = cur.length) (hmc : m ≤ c) :
    Calls Try.prog 37 #[.slice (some ⟨gS, 0, none⟩) m c, .agg #[.int .i64 x.fr, .int .i64 x.to, .int .i64 x.gn], .int .i64 s] w fun e w' => StepO w base gS m c vs cur s x e w' := by
  have hl := liOk_iff.1 hx
  obtain ⟨xf, xt, xg⟩ := x
  simp only at hl
  obtain ⟨f, hf⟩ := Int.eq_ofNat_of_zero_le hl.1
  obtain ⟨t, ht⟩ := Int.eq_ofNat_of_zero_le hl.2.2.1
  subst hf; subst ht
  have hM := M.chans
  have htl : t < cur.length := by omega
  have hfl : f < cur.length := by omega
  have h1 : cur[t]? = some cur[t] := List.getElem?_eq_getElem htl
  have h2 : cur[f]? = some cur[f] := List.getElem?_eq_getElem hfl
  have h3 : cur[0]? = some cur[0] := List.getElem?_eq_getElem (by omega)
  have hn1 := M.rows _ (List.getElem_mem htl)
  have hn2 := M.rows _ (List.getElem_mem hfl)
  have hn3 := M.rows _ (List.getElem_mem (show 0 < cur.length by omega))
  have hst := stepR_at (s := s) (x := ⟨(f : Nat), (t : Nat), xg⟩) rfl rfl h1 h2
  obtain ⟨z0, hz0, hcz, hgl, _⟩ := hR.top_at (i := 0) (by omega)
  rcases Nat.eq_zero_or_pos n with h0 | hp
  · obtain ⟨A1, c1, e1, _, _⟩ := (hR.row 0 z0 _ hz0 h3).sli.formI
    rw [hn3, h0] at e1
    subst e1
    have hal := addL_len (s := s) (g := xg) hn1 hn2
    have hnil : addL s xg cur[t] cur[f] = [] := List.eq_nil_of_length_eq_zero (by rw [hal, h0])
    have hct : cur[t] = [] := List.eq_nil_of_length_eq_zero (by rw [hn1, h0])
    simp only at hst
    rw [hnil] at hst
    rw [if_pos (show ([] : List Int).all wideB = true from rfl), set_same (by rw [h1, hct])] at hst
    refine (qoneZero_any w base gS m c c1 A1 ⟨(f : Nat), (t : Nat), xg⟩ s hcz (by omega) hgl).mono ?_
    rintro e w' ⟨rfl, hb⟩
    exact ⟨by rw [hst]; rfl, hb.mono hbase, fun r hr => by rw [hst] at hr; injection hr with hr; subst hr; exact hR.kept hb⟩
  · obtain ⟨gt, kt, e1, _⟩ := hR.row_at h1 hn1 hp
    obtain ⟨gf, kf, e2, _⟩ := hR.row_at h2 hn2 hp
    obtain ⟨gz, kz, e3, _⟩ := hR.row_at h3 hn3 hp
    refine (qoneRow_any w base gS m c n kt kf kz gt gf gz t f vs cur cur[t] cur[f] xg s hR hbase (by omega) e1 e2 e3 h1 h2 hn1 hn2 hp M.size (M.wide _ (List.getElem_mem htl)) (M.wide _ (List.getElem_mem hfl)) hs hl.2.2.2.2.2.1 hl.2.2.2.2.2.2 hm (by omega) hmc).mono ?_
    rintro e w' ⟨rfl, hb, hr⟩
    simp only at hst
    cases hw : (addL s xg cur[t] cur[f]).all wideB
    · rw [hw, if_neg (by simp)] at hst
      exact ⟨by rw [hst]; rfl, hb, fun r h => by rw [hst] at h; simp at h⟩
    · rw [hw, if_pos rfl] at hst
      exact ⟨by rw [hst]; rfl, hb, fun r h => by rw [hst] at h; injection h with h; subst h; exact hr hw⟩
end Go.Proofs.Ytggddckckfilgaa
