/- lift: apply, Do, Undo. -/
import Derived.Test.YtggddckckfilgaaLifG
import Derived.Test.YtggddckckfilgaaLifH
import Derived.StillTailTactics
namespace Go.Proofs.Ytggddckckfilgaa
open Go.RowKit
set_option maxRecDepth 100000
set_option maxHeartbeats 8000000

theorem addZero_any (w : World) (A A2 : Option Addr) (c c2 : Nat) (g s : Int) :
    Calls Try.prog 49 #[.slice A 0 c, .slice A2 0 c2, .int .i64 g, .int .i64 s] w fun e w' => e = .returned (.bool true) ∧ w = w' := by
  go_enter Try.func49, Try.ntmps49
  go_wp2
  go_loop [14] (fun i => i = .int .i64 0) (fun i => 1 - (intOf i).toNat)
  case atStart => rfl
  case round =>
    subst hrel
    go_wp2
    go_ret
    exact ⟨rfl, rfl⟩
/-- One step on rows of one's own. -/
structure StepO (w : World) (base gS m c : Nat) (vs : List Value) (cur : List (List Int)) (s : Int) (x : Li) (e : Ending) (w' : World) : Prop where
  res : e = .returned (.bool (stepR s cur x).isSome)
  be : Below base w w'
  rows : ∀ r, stepR s cur x = some r → RwG w' base (.slice (some ⟨gS, 0, none⟩) m c) vs r
theorem stepR_at {s : Int} {cur : List (List Int)} {x : Li} {t f : Nat} {rt rf : List Int} (ht : x.to = (t : Nat)) (hf : x.fr = (f : Nat)) (h1 : cur[t]? = some rt) (h2 : cur[f]? = some rf) :
    stepR s cur x = if (addL s x.gn rt rf).all wideB = true then some (cur.set t (addL s x.gn rt rf)) else none := by
  unfold stepR
  rw [ht, hf, Int.toNat_natCast, Int.toNat_natCast, List.getD_eq_getElem?_getD, List.getD_eq_getElem?_getD, h1, h2]
  rfl
theorem addStep_any (w : World) (base gS m c n t f : Nat) (vs : List Value) (cur : List (List Int)) (x : Li) (s : Int) (xt xf : Value)
    (hR : RwG w base (.slice (some ⟨gS, 0, none⟩) m c) vs cur) (hbase : base ≤ w.heap.size) (M : RowsOk cur n) (hx : liOk (cur.length : Nat) x = true) (ht : x.to = (t : Nat)) (hf : x.fr = (f : Nat))
    (hvt : vs[t]? = some xt) (hvf : vs[f]? = some xf) (hs : s = 1 ∨ s = -1) :
    Calls Try.prog 49 #[xt, xf, .int .i64 x.gn, .int .i64 s] w fun e w' => StepO w base gS m c vs cur s x e w' := by
  have hl := liOk_iff.1 hx
  have htl : t < cur.length := by omega
  have hfl : f < cur.length := by omega
  have h1 : cur[t]? = some cur[t] := List.getElem?_eq_getElem htl
  have h2 : cur[f]? = some cur[f] := List.getElem?_eq_getElem hfl
  have hn1 := M.rows _ (List.getElem_mem htl)
  have hn2 := M.rows _ (List.getElem_mem hfl)
  have hst := stepR_at (s := s) ht hf h1 h2
  rcases Nat.eq_zero_or_pos n with h0 | hp
  · obtain ⟨A1, c1, e1, _, _⟩ := (hR.row t xt _ hvt h1).sli.formI
    obtain ⟨A2, c2, e2, _, _⟩ := (hR.row f xf _ hvf h2).sli.formI
    rw [hn1, h0] at e1
    rw [hn2, h0] at e2
    subst e1; subst e2
    have hal := addL_len (s := s) (g := x.gn) hn1 hn2
    have hnil : addL s x.gn cur[t] cur[f] = [] := List.eq_nil_of_length_eq_zero (by rw [hal, h0])
    have hct : cur[t] = [] := List.eq_nil_of_length_eq_zero (by rw [hn1, h0])
    rw [hnil] at hst
    rw [if_pos (show ([] : List Int).all wideB = true from rfl), set_same (by rw [h1, hct])] at hst
    refine (addZero_any w A1 A2 c1 c2 x.gn s).mono ?_
    rintro e w' ⟨rfl, rfl⟩
    exact ⟨by rw [hst]; rfl, Below.refl _ _, fun r hr => by rw [hst] at hr; injection hr with hr; subst hr; exact hR⟩
  · obtain ⟨gt, kt, e1, _⟩ := hR.row_at h1 hn1 hp
    obtain ⟨gf, kf, e2, _⟩ := hR.row_at h2 hn2 hp
    rw [hvt] at e1; injection e1 with e1; subst e1
    rw [hvf] at e2; injection e2 with e2; subst e2
    refine (addRow_any w base gS m c n kt kf gt gf t f vs cur cur[t] cur[f] x.gn s hR hbase (by omega) hvt hvf h1 h2 hn1 hn2 hp M.size (M.wide _ (List.getElem_mem htl)) (M.wide _ (List.getElem_mem hfl)) hs hl.2.2.2.2.2.1 hl.2.2.2.2.2.2).mono ?_
    rintro e w' ⟨rfl, hb, hr⟩
    cases hw : (addL s x.gn cur[t] cur[f]).all wideB
    · rw [hw, if_neg (by simp)] at hst
      exact ⟨by rw [hst]; rfl, hb, fun r h => by rw [hst] at h; simp at h⟩
    · rw [hw, if_pos rfl] at hst
      exact ⟨by rw [hst]; rfl, hb, fun r h => by rw [hst] at h; injection h with h; subst h; exact hr hw⟩
/-- What Do, Undo and apply give. -/
def OpPost (w : World) (res : List (List Int) × Int) (e : Ending) (w' : World) : Prop :=
  ∃ u vs, e = .returned (.tuple #[u, .int .i64 res.2]) ∧ RwG w' w.heap.size u vs res.1 ∧ Below w.heap.size w w'
theorem RwG.top_at {w : World} {base gS m c : Nat} {vs : List Value} {rs : List (List Int)} (h : RwG w base (.slice (some ⟨gS, 0, none⟩) m c) vs rs) {i : Nat} (hi : i < rs.length) : ∃ x, vs[i]? = some x ∧ w.cell? ⟨gS, i, none⟩ = some x ∧ gS < w.heap.size ∧ base ≤ gS := by
  have hvl : i < vs.length := by rw [h.len]; exact hi
  obtain ⟨g, k, e, hb, _, _, hc, _⟩ := h.top.at_ (by omega)
  injection e with e1 e2 e3
  injection e1 with e1; injection e1 with e1
  subst e1
  obtain ⟨cs, hblk⟩ := h.top.blk (k := gS) rfl
  exact ⟨vs[i], List.getElem?_eq_getElem hvl, by rw [hc i hvl, List.getElem?_eq_getElem hvl], (Array.getElem?_eq_some_iff.1 hblk).1, hb⟩
theorem apply_any (v vl : Value) (rs : List (List Int)) (l : List Li) (s : Int) (w : World) (B C : Nat) (hR : Rws w B v rs) (hB : B ≤ w.heap.size) (hS : Lis w C vl l) (hC : C ≤ w.heap.size) (hs : s = 1 ∨ s = -1) :
    Calls Try.prog 35 #[v, vl, .int .i64 s] w fun e w' => OpPost w (opR s rs l) e w' := by
  have hare := areRows_any v rs w B hR
  obtain ⟨A, c, rfl, hlc, hcm⟩ := hR.form
  have hml := mayL_any vl l (rs.length : Nat) w C hS hC
  obtain ⟨Al, cl, rfl, hll, _⟩ := hS.form
  have hcl := fun w1 (h : Rws w1 B (.slice A rs.length c) rs) hB h1 h2 => cloneL_any _ rs w1 B h hB h1 h2
  cases hrw : rowsW rs
  · rw [hrw] at hare
    rw [opR_bad (fun h => by rw [hrw] at h; simp at h)]
    obtain ⟨m, hm⟩ : ∃ m, rs.length = m := ⟨_, rfl⟩
    obtain ⟨nl, hnl⟩ : ∃ n, l.length = n := ⟨_, rfl⟩
    rw [hm] at hR hare hlc ⊢
    rw [hnl] at hS hll ⊢
    have HARE := Lib.hid hare
    clear hare hR hS hml hcl hrw hm hnl
    go_enter Try.func35, Try.ntmps35
    go_wp2_with (go_at_call 32; refine HARE.out.mono ?_; rintro e w1 ⟨rfl, rfl⟩)
    go_ret2
    exact ⟨_, _, rfl, RwG.nil _ _, Below.refl _ _⟩
  · rw [hrw] at hare
    have M := rowsOk_of hrw
    obtain ⟨n, hn⟩ : ∃ n, lenB rs = n := ⟨_, rfl⟩
    rw [hn] at M
    cases hmy : mayLi l (rs.length : Nat)
    · rw [hmy] at hml
      rw [opR_bad (fun h => by rw [hmy] at h; simp at h)]
      obtain ⟨m, hm⟩ : ∃ m, rs.length = m := ⟨_, rfl⟩
      obtain ⟨nl, hnl⟩ : ∃ n, l.length = n := ⟨_, rfl⟩
      rw [hm] at hR hare hlc hml ⊢
      rw [hnl] at hS hll hml ⊢
      have HARE := Lib.hid hare; have HML := Lib.hid hml
      clear hare hR hS hml hcl hrw hm hnl hmy M
      go_enter Try.func35, Try.ntmps35
      go_wp2_with (first
        | (go_at_call 32; refine HARE.out.mono ?_; rintro e w1 ⟨rfl, rfl⟩)
        | (go_at_call 13; refine HML.out.mono ?_; rintro e w2 ⟨rfl, hb2⟩))
      go_ret2
      exact ⟨_, _, rfl, RwG.nil _ _, hb2⟩
    · rw [hmy] at hml
      have hop1 := fun r => opR_some (s := s) (r := r) hrw hmy
      have hop2 := opR_none (s := s) hrw hmy
      have hli := (mayLi_iff.1 hmy).2.2.2
      have hl16 := (mayLi_iff.1 hmy).2.2.1
      have hm8 := M.chans
      have hnr : ∀ r ∈ rs, r.length ≤ 1000000 := fun r hr => by rw [M.rows r hr]; have := M.size; omega
      have hfin := fun r h => runR_ok (s := s) (rs' := r) M hli h
      have hcur := fun k cur (h : runR s (l.take k) rs = some cur) => runR_ok M (fun x hx => hli x (List.mem_of_mem_take hx)) h
      obtain ⟨m, hm⟩ : ∃ m, rs.length = m := ⟨_, rfl⟩
      obtain ⟨nl, hnl⟩ : ∃ n, l.length = n := ⟨_, rfl⟩
      rw [hm] at hR hare hlc hml hm8 hcl hli ⊢
      rw [hnl] at hS hll hml hl16 ⊢
      have HARE := Lib.hid hare; have HML := Lib.hid hml; have HOP1 := Lib.hid hop1; have HOP2 := Lib.hid hop2; have HR := Lib.hid hR; have HS := Lib.hid hS; have HCL := Lib.hid hcl; have HLI := Lib.hid hli; have HNR := Lib.hid hnr; have HCUR := Lib.hid hcur; have HM := Lib.hid hm; have HNL := Lib.hid hnl; have HSG := Lib.hid hs
      clear hare hop1 hop2 hR hS hml hcl hrw hm hnl hmy M hli hnr hcur hfin hn hs
      go_enter Try.func35, Try.ntmps35
      go_wp2_with (first
        | (go_at_call 32; refine HARE.out.mono ?_; rintro e w1 ⟨rfl, rfl⟩)
        | (go_at_call 13; refine HML.out.mono ?_; rintro e w2 ⟨rfl, hb2⟩; refine cut_here ?_))
      have hcl3 := HCL.out w2 (HR.out.below (hb2.mono hB)) (Nat.le_trans hB hb2.size) (by omega) HNR.out
      have HCL3 := Lib.hid hcl3; have HB2 := Lib.hid hb2
      clear hcl3 HCL hb2
      unfold CutHere
      go_wp2_with (go_at_call 48; refine HCL3.out.mono ?_; rintro e w3 ⟨gS, vs, rfl, hR3, hb3⟩; refine cut_here ?_)
      have hB3 := bthen HB2.out hb3 HB2.out.size
      have HR3 := Lib.hid (hR3.mono HB2.out.size); have HB3 := Lib.hid hB3
      clear hR3 hb3 hB3
      unfold CutHere
      go_wp2
      go_loopw [25] (fun ii wr => ∃ (k : Nat) (cur : List (List Int)) (us : List Value), k ≤ nl ∧ ii = .int .i64 k ∧ Hid (runR s (l.take k) rs = some cur) ∧ Hid (RwG wr w.heap.size (.slice (some ⟨gS, 0, none⟩) m m) us cur) ∧ Hid (Below w.heap.size w wr)) (fun ii _ => nl - (intOf ii).toNat)
      case atStart => exact ⟨0, rs, vs, Nat.zero_le _, rfl, Lib.hid rfl, HR3, HB3⟩
      case round =>
        obtain ⟨k, cur, us, hk, rfl, hrun, hRr, hbr⟩ := hrel
        by_cases hlt : k < nl
        · have hkl : k < l.length := by rw [HNL.out]; exact hlt
          obtain ⟨bl, ol, rfl, ⟨c0, c1, c2⟩, hbl⟩ := (HS.out.below (hbr.out.mono hC)).get (List.getElem?_eq_getElem hkl)
          have hxo := HLI.out l[k] (List.getElem_mem hkl)
          have hstep := runR_take hkl hrun.out
          have hcok := HCUR.out k cur hrun.out
          generalize l[k] = x at *
          obtain ⟨xf, xt, xg⟩ := x
          have hx7 := liOk_iff.1 hxo
          simp only at hx7 c0 c1 c2
          obtain ⟨f, hf⟩ := Int.eq_ofNat_of_zero_le hx7.1
          obtain ⟨t, ht⟩ := Int.eq_ofNat_of_zero_le hx7.2.2.1
          subst hf; subst ht
          have hcm2 : cur.length = m := by rw [hcok.2, HM.out]
          have htm : t < m := by omega
          have hfm : f < m := by omega
          have hsz := hbr.out.size
          have ho1 := (Below.refl wr.heap.size wr).alloc (Nat.le_refl _) (.cells #[.int .i64 (f : Nat), .int .i64 (t : Nat), .int .i64 xg] 50)
          have hRa := (hRr.out.kept ho1).drew
          obtain ⟨yt, hyt, hct, hgl, hgb⟩ := hRr.out.top_at (i := t) (by omega)
          obtain ⟨yf, hyf, hcf, _, _⟩ := hRr.out.top_at (i := f) (by omega)
          have hadd := addStep_any _ w.heap.size gS m m n t f us cur ⟨f, t, xg⟩ s yt yf hRa (by simp; omega) hcok.1 (by rw [hcm2]; exact hxo) rfl rfl hyt hyf HSG.out
          have HADD := Lib.hid hadd; have HSTEP := Lib.hid hstep
          have HB1 := Lib.hid ((hbr.out.trans (ho1.mono hsz)).drew)
          obtain ⟨wa, hwa⟩ : ∃ wa, wr.alloc (.cells #[.int .i64 (f : Nat), .int .i64 (t : Nat), .int .i64 xg] 50) = wa := ⟨_, rfl⟩
          have a0 : wa.cell? ⟨wr.heap.size, 0, none⟩ = some (.int .i64 (f : Nat)) := by rw [← hwa, cell_of_row _ _ _ _ _ _ (heap_alloc_new wr _)]; rfl
          have a1 : wa.cell? ⟨wr.heap.size, 1, none⟩ = some (.int .i64 (t : Nat)) := by rw [← hwa, cell_of_row _ _ _ _ _ _ (heap_alloc_new wr _)]; rfl
          have a2 : wa.cell? ⟨wr.heap.size, 2, none⟩ = some (.int .i64 xg) := by rw [← hwa, cell_of_row _ _ _ _ _ _ (heap_alloc_new wr _)]; rfl
          have hct2 : wa.cell? ⟨gS, t, none⟩ = some yt := by rw [← hwa]; exact (ho1.cell (p := ⟨gS, t, none⟩) hgl).trans hct
          have hcf2 : wa.cell? ⟨gS, f, none⟩ = some yf := by rw [← hwa]; exact (ho1.cell (p := ⟨gS, f, none⟩) hgl).trans hcf
          clear hadd hstep hRa hx7 hxo hcok hct hcf hyt hyf ho1
          go_wp2_with fail
          rw [hwa] at HADD HB1
          clear hwa c0 c1 c2
          go_still_tail 13, (by kernel_rfl)
          change wpList _ _ _ _ _ wa.drew
          cases hsr : stepR s cur ⟨(f : Nat), (t : Nat), xg⟩ with
          | none =>
            have hnone : opR s rs l = ([], 6) := HOP2.out (runR_none (k := k + 1) (HSTEP.out.trans hsr))
            have HNO := Lib.hid hnone
            clear hnone
            go_wp2_with (go_at_call 49; refine HADD.out.mono ?_; rintro e w5 ⟨h1, hb5, _⟩; rw [hsr] at h1; subst h1)
            go_ret2
            rw [HNO.out]
            exact ⟨_, _, rfl, RwG.nil _ _, HB1.out.trans hb5⟩
          | some r =>
            have HSR := Lib.hid hsr
            clear hsr
            go_wp2_with (go_at_call 49; refine HADD.out.mono ?_; rintro e w5 ⟨h1, hb5, hr5⟩; rw [HSR.out] at h1; subst h1)
            exact ⟨⟨k + 1, r, us, by omega, by simp, HSTEP.out.trans HSR.out, hr5 _ HSR.out, HB1.out.trans hb5⟩, by simp [intOf]; omega⟩
        · have hkn : k = nl := by omega
          have hres : opR s rs l = (cur, 0) := HOP1.out cur (by have := hrun.out; rw [hkn, ← HNL.out, List.take_length] at this; exact this)
          have hcl5 := (HCUR.out k cur hrun.out).2
          have HRES := Lib.hid hres
          clear hres hcl5 hkn
          go_wp2
          go_ret2
          rw [HRES.out]
          exact ⟨_, us, rfl, hRr.out, hbr.out⟩
theorem doL_any (v vl : Value) (rs : List (List Int)) (l : List Li) (w : World) (B C : Nat) (hR : Rws w B v rs) (hB : B ≤ w.heap.size) (hS : Lis w C vl l) (hC : C ≤ w.heap.size) :
    Calls Try.prog 20 #[v, vl] w fun e w' => OpPost w (doLi rs l) e w' := by
  have ha := apply_any v vl rs l 1 w B C hR hB hS hC (.inl rfl)
  have HA := Lib.hid ha
  clear ha
  obtain ⟨A, c, rfl, hlc, hcm⟩ := hR.form
  obtain ⟨Al, cl, rfl, hll, _⟩ := hS.form
  clear hR hS
  unfold doLi
  go_enter Try.func20, Try.ntmps20
  go_wp2_with (go_at_call 35; refine HA.out.mono ?_; rintro e w1 ⟨u, vs, rfl, hr, hb⟩; have HR := Lib.hid hr; have HB := Lib.hid hb; clear hr hb)
  go_ret2
  exact ⟨u, vs, rfl, HR.out, HB.out⟩
theorem undoL_any (v vl : Value) (rs : List (List Int)) (l : List Li) (w : World) (B C : Nat) (hR : Rws w B v rs) (hB : B ≤ w.heap.size) (hS : Lis w C vl l) (hC : C ≤ w.heap.size) (hn : l.length ≤ 1000) :
    Calls Try.prog 22 #[v, vl] w fun e w' => OpPost w (undoLi rs l) e w' := by
  have hcl := cloneLi_any vl l w C hS hC hn
  obtain ⟨A, c, rfl, hlc, hcm⟩ := hR.form
  obtain ⟨Al, cl, rfl, hll, _⟩ := hS.form
  have HR := Lib.hid hR; have HCL := Lib.hid hcl
  clear hR hS hcl
  unfold undoLi
  go_enter Try.func22, Try.ntmps22
  go_wp2_with (go_at_call 38; refine HCL.out.mono ?_; rintro e w1 ⟨u, rfl, ho, hb⟩; refine cut_here ?_)
  rcases ho.2 with ⟨hv, h0⟩ | ⟨g, cap, cur, hv, _, hg, hcap, _⟩
  · subst hv
    have hl : l = [] := List.eq_nil_of_length_eq_zero h0
    subst hl
    have hap := apply_any _ (.slice none 0 0) rs [] (-1) w1 B w.heap.size (HR.out.below (hb.mono hB)) (Nat.le_trans hB hb.size) (Lis.nil _ _) hb.size (.inr rfl)
    have HAP := Lib.hid hap; have HB1 := Lib.hid hb
    clear hap hb ho h0
    unfold CutHere
    go_wp2_with (first
      | (go_at_call 39; refine (revZero_any none 0 w1).mono ?_; rintro e w2 ⟨rfl, rfl⟩)
      | (go_at_call 35; refine HAP.out.mono ?_; rintro e w3 ⟨u, vs, rfl, hr, hb3⟩; have HR3 := Lib.hid hr; have HB3 := Lib.hid hb3; clear hr hb3))
    go_ret2
    exact ⟨u, vs, rfl, HR3.out.mono HB1.out.size, bthen HB1.out HB3.out HB1.out.size⟩
  · subst hv
    have hrv := rev_any w1 w.heap.size g l.length cap l ho hb.size hn
    have HRV := Lib.hid hrv; have HB1 := Lib.hid hb
    clear hrv hb ho hg
    generalize hnl : l.length = nl at *
    have HNL := Lib.hid hnl
    clear hnl
    unfold CutHere
    go_wp2_with (go_at_call 39; refine HRV.out.mono ?_; rintro e w2 ⟨rfl, ho2, hb2⟩; refine cut_here ?_)
    have hB2 := HB1.out.trans hb2
    have hap := apply_any _ (.slice (some ⟨g, 0, none⟩) nl cap) rs l.reverse (-1) w2 B w2.heap.size (HR.out.below (hB2.mono hB)) (Nat.le_trans hB hB2.size) ho2.lis (Nat.le_refl _) (.inr rfl)
    have HAP := Lib.hid hap; have HB2 := Lib.hid hB2
    clear hap hb2 ho2 hB2
    unfold CutHere
    go_wp2_with (go_at_call 35; refine HAP.out.mono ?_; rintro e w3 ⟨u, vs, rfl, hr, hb3⟩; have HR3 := Lib.hid hr; have HB3 := Lib.hid hb3; clear hr hb3)
    go_ret2
    exact ⟨u, vs, rfl, HR3.out.mono HB2.out.size, bthen HB2.out HB3.out HB2.out.size⟩
end Go.Proofs.Ytggddckckfilgaa
