/- lift: one step: add, and the reference's. -/
import Derived.Test.YtggddckckfilgaaLifF
namespace Go.Proofs.Ytggddckckfilgaa
open Go.RowKit
set_option maxRecDepth 100000
set_option maxHeartbeats 8000000

/-- Bounds of what is added. -/
theorem part_bd {s g x : Int} (hs : s = 1 ∨ s = -1) (hg1 : -1024 ≤ g) (hg2 : g ≤ 1024) (hx1 : -1073741824 ≤ x) (hx2 : x < 1073741824) :
    ∃ G q P : Int, g * x = G ∧ G / 256 = q ∧ s * q = P ∧ -1099511627776 ≤ G ∧ G ≤ 1099511627776 ∧ -4294967296 ≤ q ∧ q ≤ 4294967296 ∧ -4294967296 ≤ P ∧ P ≤ 4294967296 ∧ ∀ a, addI s g a x = a + P := by
  have hG : -1099511627776 ≤ g * x ∧ g * x ≤ 1099511627776 := by
    have h1 : (g * x).natAbs ≤ 1024 * 1073741824 := by
      rw [Int.natAbs_mul]
      exact Nat.mul_le_mul (by omega) (by omega)
    omega
  refine ⟨g * x, g * x / 256, s * (g * x / 256), rfl, rfl, rfl, hG.1, hG.2, by omega, by omega, ?_, ?_, fun a => rfl⟩
  · rcases hs with rfl | rfl
    · omega
    · omega
  · rcases hs with rfl | rfl
    · omega
    · omega
theorem addL_take {s g : Int} {t f : List Int} {i : Nat} {a b : Int} (ht : t[i]? = some a) (hf : f[i]? = some b) : (addL s g t f).take (i + 1) = (addL s g t f).take i ++ [addI s g a b] := by
  have h := addL_at (s := s) (g := g) ht hf
  have hl := (List.getElem?_eq_some_iff.1 h).1
  rw [List.take_succ_eq_append_getElem hl, (List.getElem?_eq_some_iff.1 h).2]
/-- A row that has been turned up to i. -/
def upTo (s g : Int) (t f : List Int) (i : Nat) : List Int := (addL s g t f).take i ++ t.drop i
theorem upTo_set {s g : Int} {t f : List Int} {i : Nat} {a b : Int} {n : Nat} (hn : t.length = n) (hm : f.length = n) (ht : t[i]? = some a) (hf : f[i]? = some b) : (upTo s g t f i).set i (addI s g a b) = upTo s g t f (i + 1) := by
  have hl := addL_len (s := s) (g := g) hn hm
  have hi := (List.getElem?_eq_some_iff.1 ht).1
  have h1 : ((addL s g t f).take i).length = i := by rw [List.length_take]; omega
  unfold upTo
  rw [List.set_append_right _ _ (by omega), h1, Nat.sub_self, addL_take ht hf, List.append_assoc]
  congr 1
  rw [List.drop_eq_getElem_cons hi, List.set_cons_zero]
  rfl
theorem upTo_at {s g : Int} {t f : List Int} {i : Nat} {a : Int} {n : Nat} (hn : t.length = n) (hm : f.length = n) (ht : t[i]? = some a) : (upTo s g t f i)[i]? = some a := by
  have hl := addL_len (s := s) (g := g) hn hm
  have hi := (List.getElem?_eq_some_iff.1 ht).1
  have h1 : ((addL s g t f).take i).length = i := by rw [List.length_take]; omega
  unfold upTo
  rw [List.getElem?_append_right (by omega), h1, Nat.sub_self, List.getElem?_drop]
  simpa using ht
theorem upTo_zero {s g : Int} {t f : List Int} : upTo s g t f 0 = t := by simp [upTo]
theorem upTo_all {s g : Int} {t f : List Int} {n : Nat} (hn : t.length = n) (hm : f.length = n) : upTo s g t f n = addL s g t f := by
  have hl := addL_len (s := s) (g := g) hn hm
  unfold upTo
  rw [List.take_of_length_le (by omega), List.drop_of_length_le (by omega), List.append_nil]
theorem upTo_len {s g : Int} {t f : List Int} {n i : Nat} (hn : t.length = n) (hm : f.length = n) : (upTo s g t f i).length = n := by
  have hl := addL_len (s := s) (g := g) hn hm
  unfold upTo
  rw [List.length_append, List.length_take, List.length_drop]
  omega
theorem set_same {rs : List (List Int)} {t : Nat} {r : List Int} (h : rs[t]? = some r) : rs.set t r = rs := by
  obtain ⟨h1, h2⟩ := List.getElem?_eq_some_iff.1 h
  subst h2
  exact List.set_getElem_self h1
theorem addRow_any (w : World) (base gS m c n kt kf gt gf it jf : Nat) (vs : List Value) (cur : List (List Int)) (t f : List Int) (g s : Int)
    (hR : RwG w base (.slice (some ⟨gS, 0, none⟩) m c) vs cur) (hbase : base ≤ w.heap.size) (hij : it ≠ jf) (hvt : vs[it]? = some (.slice (some ⟨gt, 0, none⟩) n kt)) (hvf : vs[jf]? = some (.slice (some ⟨gf, 0, none⟩) n kf))
    (ht : cur[it]? = some t) (hf : cur[jf]? = some f) (htn : t.length = n) (hfn : f.length = n) (hp : 0 < n) (hn : n ≤ 4096) (hwt : t.all wideB = true) (hwf : f.all wideB = true)
    (hs : s = 1 ∨ s = -1) (hg1 : -1024 ≤ g) (hg2 : g ≤ 1024) :
    Calls Try.prog 49 #[.slice (some ⟨gt, 0, none⟩) n kt, .slice (some ⟨gf, 0, none⟩) n kf, .int .i64 g, .int .i64 s] w fun e w' =>
      e = .returned (.bool ((addL s g t f).all wideB)) ∧ Below base w w' ∧ ((addL s g t f).all wideB = true → RwG w' base (.slice (some ⟨gS, 0, none⟩) m c) vs (cur.set it (addL s g t f))) := by
  obtain ⟨_, _, hOt, hft, _⟩ := hR.row_cells hvt ht htn hp
  have hkt : n ≤ kt ∧ kt ≤ maxLen := by
    obtain ⟨A, k, e, h1, h2⟩ := hOt.sli.formI
    injection e with e1 e2 e3
    omega
  obtain ⟨_, _, hOf, _, _⟩ := hR.row_cells hvf hf hfn hp
  have hkf : n ≤ kf ∧ kf ≤ maxLen := by
    obtain ⟨A, k, e, h1, h2⟩ := hOf.sli.formI
    injection e with e1 e2 e3
    omega
  have hgb := (hOt.lt gt rfl).1
  clear hOt hOf hft
  have HR := Lib.hid hR; have HVT := Lib.hid hvt; have HVF := Lib.hid hvf; have HT := Lib.hid ht; have HF := Lib.hid hf; have HTN := Lib.hid htn; have HFN := Lib.hid hfn; have HWT := Lib.hid hwt; have HWF := Lib.hid hwf; have HS := Lib.hid hs; have HIJ := Lib.hid hij
  clear hR hvt hvf ht hf htn hfn hwt hwf hs hij
  go_enter Try.func49, Try.ntmps49
  go_wp2
  go_loopw [14] (fun i wr => ∃ j : Nat, j ≤ n ∧ i = .int .i64 j ∧ Hid (((addL s g t f).take j).all wideB = true) ∧ Hid (RwG wr base (.slice (some ⟨gS, 0, none⟩) m c) vs (cur.set it (upTo s g t f j))) ∧ Hid (Below base w wr)) (fun i _ => n - (intOf i).toNat)
  case atStart => exact ⟨0, Nat.zero_le _, rfl, Lib.hid rfl, Lib.hid (by rw [upTo_zero, set_same HT.out]; exact HR.out), Lib.hid (Below.refl _ _)⟩
  case round =>
    obtain ⟨j, hj, rfl, hall, hRr, hb⟩ := hrel
    have hil := (List.getElem?_eq_some_iff.1 HT.out).1
    by_cases hlt : j < n
    · obtain ⟨a, ha⟩ : ∃ a, t[j]? = some a := ⟨_, List.getElem?_eq_getElem (by rw [HTN.out]; exact hlt)⟩
      obtain ⟨x, hx⟩ : ∃ a, f[j]? = some a := ⟨_, List.getElem?_eq_getElem (by rw [HFN.out]; exact hlt)⟩
      have hrt : (cur.set it (upTo s g t f j))[it]? = some (upTo s g t f j) := List.getElem?_set_self hil
      have hrf : (cur.set it (upTo s g t f j))[jf]? = some f := by rw [List.getElem?_set_ne HIJ.out]; exact HF.out
      have hul := upTo_len (s := s) (g := g) (i := j) HTN.out HFN.out
      obtain ⟨_, _, hOt, hft, _⟩ := hRr.out.row_cells HVT.out hrt hul hp
      obtain ⟨_, _, hOf, hff, _⟩ := hRr.out.row_cells HVF.out hrf HFN.out hp
      obtain ⟨bt, ot, e1, hbt, hct⟩ := hOt.sli.atI' (upTo_at (s := s) (g := g) HTN.out HFN.out ha)
      injection e1 with e1; injection e1 with e1 e2; subst e1; subst e2
      obtain ⟨bf, of, e1, hbf, hcf⟩ := hOf.sli.atI' hx
      injection e1 with e1; injection e1 with e1 e2; subst e1; subst e2
      rw [Nat.zero_add] at hct hcf
      have wa := wide_of HWT.out ha
      have wx := wide_of HWF.out hx
      obtain ⟨G, q, P, hG, hq, hP, b1, b2, b3, b4, b5, b6, hadd⟩ := part_bd HS.out hg1 hg2 wx.1 wx.2
      have hset := upTo_set (s := s) (g := g) HTN.out HFN.out ha hx
      have htake := addL_take (s := s) (g := g) ha hx
      rw [hadd a] at hset htake
      have hR2 := hRr.out.cell HVT.out hrt (k := j) (a + P)
      rw [List.set_set, hset] at hR2
      have hft' := hft j
      have hnar := fun w => narrow_any (a + P) w
      have hgl : gt < wr.heap.size := by obtain ⟨cs, hc⟩ := hOt.blk (k := gt) rfl; exact (Array.getElem?_eq_some_iff.1 hc).1
      have hall2 : ((addL s g t f).take (j + 1)).all wideB = wideB (a + P) := by rw [htake, List.all_append, hall.out]; simp
      have hno : wideB (a + P) = false → (addL s g t f).all wideB = false := fun h => by
        rw [h] at hall2
        rw [← List.take_append_drop (j + 1) (addL s g t f), List.all_append, hall2, Bool.false_and]
      have HR2 := Lib.hid hR2; have HNAR := Lib.hid hnar; have HALL := Lib.hid hall2; have HNO := Lib.hid hno
      have hb2 := hb.out.setCell (p := ⟨gt, j, none⟩) hgb (.int .i64 (a + P))
      have HB2 := Lib.hid hb2
      clear hR2 hnar hall2 hno hset htake hft hff hOt hOf hrt hrf hul ha hx hadd hb2
      cases hwd : wideB (a + P)
      · rw [hwd] at HNAR
        have hnf := Lib.hid (HNO.out hwd)
        clear hwd
        go_wp2_with (go_at_call 47; refine (HNAR.out _).mono ?_; rintro e w1 ⟨rfl, rfl⟩)
        go_ret
        exact ⟨by rw [hnf.out]; rfl, HB2.out, fun h => by rw [hnf.out] at h; simp at h⟩
      · rw [hwd] at HNAR
        have hnt := Lib.hid (HALL.out.trans hwd)
        clear hwd
        go_wp2_with (go_at_call 47; refine (HNAR.out _).mono ?_; rintro e w1 ⟨rfl, rfl⟩)
        exact ⟨⟨j + 1, by omega, by simp, hnt, HR2, HB2⟩, by simp [intOf]; omega⟩
    · have hjn : j = n := by omega
      have HJ := Lib.hid hjn
      clear hjn
      go_wp2
      go_ret
      have hal := addL_len (s := s) (g := g) HTN.out HFN.out
      have h1 := hall.out
      have h2 := hRr.out
      rw [HJ.out, List.take_of_length_le (by omega)] at h1
      rw [HJ.out, upTo_all HTN.out HFN.out] at h2
      exact ⟨by rw [h1]; rfl, hb.out, fun _ => h2⟩
end Go.Proofs.Ytggddckckfilgaa
