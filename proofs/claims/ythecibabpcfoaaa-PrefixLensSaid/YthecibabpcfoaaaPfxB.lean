/- prefix: ascending. -/
import Derived.Test.YthecibabpcfoaaaPfxA
namespace Go.Proofs.Ythecibabpcfoaaa
open Go.RowKit Go.Shelf
set_option maxRecDepth 100000
set_option maxHeartbeats 1600000

def preU (fs : List Nat) (i : Nat) : List Nat := (List.range i).filter (fun k => decide (0 < atN fs k))
theorem preU_yes {fs : List Nat} {i : Nat} (h : 0 < atN fs i) : preU fs (i + 1) = preU fs i ++ [i] := by
  unfold preU; rw [List.range_succ, List.filter_append]; simp [h]
theorem preU_no {fs : List Nat} {i : Nat} (h : ¬ 0 < atN fs i) : preU fs (i + 1) = preU fs i := by
  unfold preU; rw [List.range_succ, List.filter_append]; simp [h]
theorem preU_le (fs : List Nat) (i : Nat) : (preU fs i).length ≤ i := by
  unfold preU; exact Nat.le_trans (List.length_filter_le _ _) (by simp)
/-- A box of one cell. -/
theorem blk1 {w : World} {g : Nat} {a : Value} {t : TypeId} (h : w.heap[g]? = some (.cells #[a] t (0, 0))) : w.cell? ⟨g, 0, none⟩ = some a ∧ ∀ i, w.frozen? ⟨g, i, none⟩ = false :=
  ⟨by rw [cell_of_row w g 0 _ t (0, 0) h]; rfl, fun i => frozen_of_row w g i _ t h⟩

theorem asc_any {w : World} {B : Nat} {v : Value} {fs ss : List Nat} (hS : Sli w B v (ci (ni fs))) (hB : B ≤ w.heap.size) (hlen : fs.length ≤ 1048576) (hA : Ascd fs ss) :
    Calls Try.prog 34 #[v] w fun e w' => ∃ v', e = .returned v' ∧ Own w' w.heap.size 3 v' (ci (ni ss)) ∧ Below w.heap.size w w' := by
  obtain ⟨A, c, rfl, hlc, hcm⟩ := hS.formI
  rw [ni_len] at hlc ⊢
  obtain ⟨n, hnl⟩ : ∃ n, fs.length = n := ⟨_, rfl⟩
  rw [hnl] at hlc hlen
  rw [ni_len, hnl] at hS
  rw [hnl]
  have HNL := Lib.hid hnl
  have HA := Lib.hid hA
  obtain ⟨S0, hs0⟩ : ∃ S0, w.heap.size = S0 := ⟨_, rfl⟩
  have hb1 : Below S0 w (w.alloc (.cells #[.slice A n c] 22)) := by rw [← hs0]; exact (Below.refl _ _).alloc (Nat.le_refl _) _
  have hb2 : Below S0 w ((w.alloc (.cells #[.slice A n c] 22)).alloc (.cells #[.slice none 0 0] 22)) := hb1.alloc (by simp; omega) _
  have hgl : ((w.alloc (.cells #[.slice A n c] 22)).alloc (.cells #[.slice none 0 0] 22)).heap[S0]? = some (.cells #[.slice A n c] 22 (0, 0)) := by
    rw [← hs0]
    exact (((Below.refl (w.heap.size + 1) (w.alloc (.cells #[.slice A n c] 22))).alloc (by simp) (.cells #[.slice none 0 0] 22)).block _ (by omega)).trans (heap_alloc_new w _)
  have hgu : ((w.alloc (.cells #[.slice A n c] 22)).alloc (.cells #[.slice none 0 0] 22)).heap[S0 + 1]? = some (.cells #[.slice none 0 0] 22 (0, 0)) := by
    have := heap_alloc_new (w.alloc (.cells #[.slice A n c] 22)) (.cells #[.slice none 0 0] 22)
    rw [show (w.alloc (.cells #[.slice A n c] 22)).heap.size = S0 + 1 by simp; omega] at this
    exact this
  have hsz2 : ((w.alloc (.cells #[.slice A n c] 22)).alloc (.cells #[.slice none 0 0] 22)).heap.size = S0 + 2 := by simp; omega
  obtain ⟨w2, hw2⟩ : ∃ w2, (w.alloc (.cells #[.slice A n c] 22)).alloc (.cells #[.slice none 0 0] 22) = w2 := ⟨_, rfl⟩
  clear hnl hA hb1
  go_enter Try.func34, Try.ntmps34
  rw [hw2] at hb2 hgl hgu hsz2
  have d1 := (blk1 hgl).1
  have d2 := (blk1 hgu).1
  go_wp2
  have HW2 := Lib.hid hw2; have HSZ := Lib.hid hsz2; have HS0 := Lib.hid hs0
  clear hw2 hsz2 hs0
  go_loopw [8] (fun vi wr => ∃ (i : Nat) (vu : Value), vi = .int .i64 i ∧ i ≤ n ∧ wr.heap[S0]? = some (.cells #[.slice A n c] 22 (0, 0)) ∧ wr.heap[S0 + 1]? = some (.cells #[vu] 22 (0, 0)) ∧ Own wr (S0 + 2) 3 vu (ci (ni (preU fs i))) ∧ Below S0 w wr) (fun vi _ => n - (intOf vi).toNat)
  case atStart => exact ⟨0, .slice none 0 0, rfl, Nat.zero_le _, hgl, hgu, Own.nil _ _ _, hb2⟩
  case round =>
    obtain ⟨i, vu, rfl, hi, hl, hu, ho, hbw⟩ := hrel
    clear hgl hgu hb2
    have hszw : S0 + 2 ≤ wr.heap.size := by have := (Array.getElem?_eq_some_iff.1 hu).1; omega
    have e1 := (blk1 hl).1
    obtain ⟨e2, hf2⟩ := blk1 hu
    clear d1 d2
    by_cases hlt : i < n
    · have hSw := hS.below (hbw.mono (by have := HS0.out; omega))
      obtain ⟨b, o, rfl, hbB, hcell⟩ := hSw.atI (i := i) (by rw [ni_len, HNL.out]; exact hlt)
      rw [ni_at (by rw [HNL.out]; exact hlt)] at hcell
      have hpl := preU_le fs i
      obtain ⟨x, hx⟩ : ∃ x, atN fs i = x := ⟨_, rfl⟩
      rw [hx] at hcell
      have HX := Lib.hid hx
      have HS := Lib.hid hS; have HSw := Lib.hid hSw
      clear hx hS hSw
      by_cases hx0 : 0 < x
      · have hxs : ci (ni (preU fs (i + 1))) = ci (ni (preU fs i)) ++ [.int .i64 (i : Nat)] := by rw [preU_yes (by rw [HX.out]; exact hx0), ni_app, ci_app]; rfl
        have HXS := Lib.hid hxs
        clear hxs
        go_wp2_with (at_builtin; refine wpl_push ho hszw (by rw [ci_len, ni_len]; omega) Try.underlying22 info_int rfl (by decide) rfl rfl rfl rfl rfl (h := ?_); intro v2 w3 ho2 hm2; obtain ⟨A2, n2, k2, rfl⟩ := ho2.shape; have hb3 : w3.heap[S0 + 1]? = some (.cells #[vu] 22 (0, 0)) := ((hm2 (S0 + 2)).block (S0 + 1) (by omega) (by omega) (ho.ne hu (by decide))).trans hu; have hl3 : w3.heap[S0]? = some (.cells #[.slice (some ⟨b, o, none⟩) n c] 22 (0, 0)) := ((hm2 (S0 + 2)).block S0 (by omega) (by omega) (ho.ne hl (by decide))).trans hl; obtain ⟨q1, hf3⟩ := blk1 hb3)
        refine ⟨⟨i + 1, _, rfl, by omega, (heap_setCell_other w3 ⟨S0 + 1, 0, none⟩ S0 _ (by simp)).trans hl3, heap_setCell_same w3 (S0 + 1) 0 _ _ _ hb3, ?_, ?_⟩, by simp [intOf]; omega⟩
        · rw [HXS.out]; exact ho2.far hb3 (by decide) (grown_set w3 (S0 + 1) 0 _)
        · exact (hbw.trans ((hm2 (S0 + 2)).below (by omega) (fun k hk => by have := (ho.lt k hk).1; omega) (by omega))).setCell (p := ⟨S0 + 1, 0, none⟩) (by simp) _
      · go_wp2
        exact ⟨⟨i + 1, vu, rfl, by omega, hl, hu, by rw [preU_no (by rw [HX.out]; exact hx0)]; exact ho, hbw⟩, by simp [intOf]; omega⟩
    · have : i = n := by omega
      subst this
      have hpu : preU fs i = usedN fs := by unfold preU usedN; rw [HNL.out]
      rw [hpu] at ho
      have hus := usedN_nodup fs
      have hnu : (usedN fs).length ≤ i := by rw [← hpu]; exact preU_le fs i
      have hc := sort_ints (g := 54) (lb := #[.pointer (some ⟨S0, 0, none⟩), .pointer (some ⟨S0 + 1, 0, none⟩)]) ho (by omega) (by rw [ni_len]; omega) (fun x => ((atN fs x.toNat : Nat) : Int)) (fun y => ∃ s : Nat, y = (s : Int) ∧ s < i) (fun x hx => by
          obtain ⟨s, hs, rfl⟩ := List.mem_map.1 hx
          exact ⟨s, rfl, by rw [← HNL.out]; exact (usedN_mem.1 hs).1⟩) (enters_of Try.func54 (by kernel_rfl) rfl) (fun W ys hg hoW hlen' hP p q x y hx hy => by
        obtain ⟨a, hxa, ha⟩ := hP x (List.mem_of_getElem? hx)
        obtain ⟨d, hyd, hd⟩ := hP y (List.mem_of_getElem? hy)
        obtain ⟨hp', hpx⟩ := List.getElem?_eq_some_iff.1 hx
        obtain ⟨hq', hqy⟩ := List.getElem?_eq_some_iff.1 hy
        obtain ⟨A2, c2, rfl, _, _⟩ := hoW.formI
        obtain ⟨br, o2, rfl, _, k1⟩ := hoW.sli.atI hp'
        obtain ⟨br', o2', he, _, k2⟩ := hoW.sli.atI hq'
        injection he with he; injection he with he1 he2; subst he1; subst he2
        have hbr : S0 + 2 ≤ br := (ho.lt br (by simp [Value.ownBlock])).1
        have hkeep : ∀ p : Addr, p.block < S0 + 2 → W.cell? p = wr.cell? p := fun p hp => World.cell?_of_block (hg.block p.block (by omega) (by simp [Value.ownBlock]; omega))
        have hSW : Sli W B (.slice A i c) (ci (ni fs)) := (hS.below (hbw.mono (by have := HS0.out; omega))).keep fun p hp => hkeep p (by have := HS0.out; omega)
        obtain ⟨bl, ol, rfl, hbB, k3⟩ := hSW.atI (i := a) (by rw [ni_len, HNL.out]; exact ha)
        obtain ⟨bl', ol', he, _, k4⟩ := hSW.atI (i := d) (by rw [ni_len, HNL.out]; exact hd)
        injection he with he; injection he with he1 he2; subst he1; subst he2
        rw [ni_at (by rw [HNL.out]; exact ha)] at k3
        rw [ni_at (by rw [HNL.out]; exact hd)] at k4
        rw [hpx, hxa] at k1
        rw [hqy, hyd] at k2
        rw [hxa, hyd, Int.toNat_natCast, Int.toNat_natCast]
        exact less_any W ((hkeep _ (by simp)).trans e1) ((hkeep _ (by simp)).trans e2) (by omega) (by omega) ha hd k1 k2 k3 k4)
      have HC := Lib.hid hc
      have e3 := e2
      clear hc hus
      go_wp2_with fail
      refine HC.out.mono ?_
      rintro e w4 ⟨rfl, ys, hst, ho4, hg4⟩
      obtain ⟨ss', rfl, hA'⟩ := ascd_of hst
      have hss := hA'.one HA.out
      subst hss
      have e4 : w4.cell? ⟨S0 + 1, 0, none⟩ = some vu := (World.cell?_of_block (hg4.block (S0 + 1) (by omega) (fun e => ho.ne hu (by decide) e.symm))).trans e2
      have hbw4 : Below S0 w w4 := hbw.trans ⟨hg4.os, hg4.tape, hg4.output, hg4.size, fun k hk => hg4.block k (by omega) (fun e => by have := (ho.lt k e.symm).1; omega)⟩
      clear hst hA'
      go_wp2
      go_ret
      have hs0 := HS0.out
      rw [hs0]
      exact ⟨vu, rfl, ho4.mono (by omega), hbw4⟩
end Go.Proofs.Ythecibabpcfoaaa
