/- parts: Get. -/
import Derived.Test.YtohbpjehphmedaaParH
namespace Go.Proofs.Ytohbpjehphmedaa
open Go.RowKit
set_option maxRecDepth 100000
set_option maxHeartbeats 1600000

def GPost2 (r : Int × List Int × List Int × Nat × Int) (g : Nat) (l : List Nat) (w : World) (e : Ending) (w' : World) : Prop :=
  ∃ (kv vl : Value) (a2 : Nat) (e2 : Int), e = .returned (.tuple #[.agg #[.int .i64 r.1, kv], vl, .int .i64 r.2.2.2.2]) ∧ Own w' w.heap.size 3 kv (ci r.2.1) ∧ Own w' w.heap.size 3 vl (ci r.2.2.1) ∧ RdB w' g l a2 e2 ∧ w.grownBy w' (some g) ∧ (r.2.2.2.2 = 0 → a2 = r.2.2.2.1 ∧ e2 = 0)
theorem rowR_no {f : Nat → Bool} {len at_ : Nat} {er n warm : Int} (h : (rowR f len at_ er n warm).2.2.2.2 ≠ 0) : rowR f len at_ er n warm = (0, [], [], 0, (rowR f len at_ er n warm).2.2.2.2) := by
  unfold rowR at h ⊢
  by_cases h1 : (gGet f len at_ er 4).2.2 = 0
  · simp only [if_pos h1] at h ⊢
    by_cases h2 : planB ((gGet f len at_ er 4).1 : Nat) n warm = true
    · simp only [if_pos h2] at h ⊢
      by_cases h3 : (rParts f len (sizesN ((gGet f len at_ er 4).1 : Nat) n warm) (gGet f len at_ er 4).2.1).2.2.2 = 0
      · simp only [if_pos h3] at h; exact absurd rfl h
      · simp only [if_neg h3]
    · simp only [if_neg h2]
  · simp only [if_neg h1]
theorem getP_any {w : World} {g at_ : Nat} {l : List Nat} {er : Int} (hR : RdB w g l at_ er) (n warm : Int) :
    Calls Try.prog 32 #[.pointer (some ⟨g, 0, none⟩), .int .i64 n, .int .i64 warm] w (GPost2 (getP (bitAt l) (8 * l.length) at_ er n warm) g l w) := by
  have hi := fun w => isRow_any n warm w
  have hb0 := below_box w (.int .i64 0) (.slice none 0 0) 24
  have hbx0 := box_new w (.int .i64 0) (.slice none 0 0) 24
  have hR0 := hR.below hb0
  have hglt := hR.lt
  obtain ⟨q0, q1, hq⟩ := blk2 hbx0
  obtain ⟨rv, hblk, hown, hal, hx, hll⟩ := id hR0
  obtain ⟨rA, rn, rc, rfl⟩ := hown.shape
  obtain ⟨c0, c1, c2, hf⟩ := blk3 hblk
  obtain ⟨wA, hwA⟩ : ∃ wA, w.alloc (.cells #[.int .i64 0, .slice none 0 0] 24) = wA := ⟨_, rfl⟩
  have HWA := Lib.hid hwA
  rw [hwA] at hb0 hbx0 hR0 q0 q1 hq hblk hown c0 c1 c2 hf
  clear hwA
  by_cases hrow : rowB n warm = true
  · rw [getP_row hrow]
    rw [hrow] at hi
    have hgr := fun (w1 : World) (h : RdB w1 g l at_ er) => getRow_any h n warm hrow
    have hno := @rowR_no (bitAt l) (8 * l.length) at_ er n warm
    generalize rowR (bitAt l) (8 * l.length) at_ er n warm = R at *
    obtain ⟨R0, R1, R2, R3, R4⟩ := R
    simp only at hno
    have HI := Lib.hid hi; have HGR := Lib.hid hgr; have HNO := Lib.hid hno; have HR0 := Lib.hid hR0
    clear hi hgr hno hR hR0 hrow
    go_enter Try.func32, Try.ntmps32
    go_wp2_with fail
    rw [HWA.out]
    refine (HI.out _).mono ?_
    rintro e w1 ⟨rfl, rfl⟩
    go_wp2_with fail
    have hbB : Below wA.heap.size wA (wA.alloc (.cells #[.slice rA rn rc, .int .i64 at_, .int .i64 er] 81)) := (Below.refl _ _).alloc (Nat.le_refl _) _
    have hRB := HR0.out.below hbB
    have hstB : (wA.alloc (.cells #[.slice rA rn rc, .int .i64 at_, .int .i64 er] 81)).heap[wA.heap.size]? = some (.cells #[.slice rA rn rc, .int .i64 at_, .int .i64 er] 81 (0, 0)) := heap_alloc_new wA _
    have hltA : w.heap.size < wA.heap.size := (Array.getElem?_eq_some_iff.1 hbx0).1
    have hbxB := (hbB.block w.heap.size hltA).trans hbx0
    have hownB := hown.kept hbB
    have hgB := grown_of_below (hb0.trans (hbB.mono hb0.size)) (some g)
    obtain ⟨wB, hwB⟩ : ∃ wB, wA.alloc (.cells #[.slice rA rn rc, .int .i64 at_, .int .i64 er] 81) = wB := ⟨_, rfl⟩
    rw [hwB] at hbB hRB hstB hbxB hownB hgB ⊢
    clear hwB
    have hltB : wA.heap.size < wB.heap.size := (Array.getElem?_eq_some_iff.1 hstB).1
    refine (HGR.out wB hRB).mono ?_
    rintro e w2 ⟨o, kA, kn, kc, vl, a2, e2, rfl, hlo, hR2, hg2, hok⟩
    simp only at hlo hok ⊢
    obtain ⟨lA, lc, rfl, _, _⟩ := hlo.formI
    obtain ⟨csB, hblkB⟩ := hRB.blk
    have hown2 := hownB.far hblkB (by decide) hg2
    have hbx2 := (hg2.block w.heap.size (by omega) (by simp; omega)).trans hbxB
    have hst2 := (hg2.block wA.heap.size hltB (by simp; omega)).trans hstB
    have hg02 := grown_trans hgB hg2
    have hbC := below_box w2 (.int .i64 o) (.slice kA kn kc) 24
    have hbxC := (hbC.block w.heap.size (Array.getElem?_eq_some_iff.1 hbx2).1).trans hbx2
    have hstC := (hbC.block wA.heap.size (Array.getElem?_eq_some_iff.1 hst2).1).trans hst2
    have hpC := box_new w2 (.int .i64 o) (.slice kA kn kc) 24
    have hRC := hR2.below hbC
    have hownC := hown2.kept hbC
    have hloC := (hlo.mono hgB.size).kept hbC
    have hgC := grown_trans hg02 (grown_of_below hbC (some g))
    obtain ⟨rv2, hblkC, _⟩ := id hRC
    have hltw : g < wA.heap.size := by omega
    by_cases hR4 : R4 = 0
    · subst hR4
      obtain ⟨rfl, hko, rfl, rfl⟩ := hok rfl
      have hkoC := (hko.mono hgB.size).kept hbC
      obtain ⟨p0, p1, hp⟩ := blk2 hpC
      obtain ⟨x0, x1, hxf⟩ := blk2 hbxC
      obtain ⟨wC, hwC⟩ : ∃ wC, w2.alloc (.cells #[.int .i64 o, .slice kA kn kc] 24) = wC := ⟨_, rfl⟩
      have HWC := Lib.hid hwC
      rw [hwC] at hbC hbxC hstC hpC hRC hownC hloC hgC hkoC
      clear hwC hok c0 c1 c2 hf q0 q1 hq
      go_wp2
      try simp only [Exit.inBlock, Exit.then]
      rw [HWC.out]
      refine bodyPost_ret (results_row3 rfl _ _ w.heap.size 24 #[.int .i64 o, .slice kA kn kc] (0, 0) _ rfl (two_blk hbxC) Try.underlying24 rfl (by kernel_rfl)) rfl ?_
      have hg4 := two_grown wC w.heap.size (.int .i64 o) (.slice kA kn kc)
      exact ⟨_, _, a2, 0, rfl, hkoC.far hbxC (by decide) hg4, hloC.far hbxC (by decide) hg4, hRC.only hbxC (by decide) hg4 (by omega), grown_fresh hgC hg4 (Nat.le_refl _), fun _ => ⟨rfl, rfl⟩⟩
    · have hRe := HNO.out hR4
      injection hRe with h1 h2
      injection h2 with h2 h3
      injection h3 with h3 h4
      injection h4 with h4 h5
      subst h1; subst h2; subst h3; subst h4
      have hne : (R4 == 0) = false := by simpa using hR4
      obtain ⟨p0, p1, hp⟩ := blk2 hpC
      obtain ⟨x0, x1, hxf⟩ := blk2 hbxC
      obtain ⟨s0, s1, s2, hsf⟩ := blk3 hstC
      obtain ⟨y0, y1, y2, hyf⟩ := blk3 hblkC
      have HE := Lib.hid (berr_any hRC)
      obtain ⟨wC, hwC⟩ : ∃ wC, w2.alloc (.cells #[.int .i64 o, .slice kA kn kc] 24) = wC := ⟨_, rfl⟩
      have HWC := Lib.hid hwC
      rw [hwC] at hbC hbxC hstC hpC hRC hownC hloC hgC hblkC HE p0 p1 hp x0 x1 hxf s0 s1 s2 hsf y0 y1 y2 hyf
      clear hwC hok c0 c1 c2 hf q0 q1 hq
      go_wp2_with fail
      rw [HWC.out]
      refine HE.out.mono ?_
      rintro e w3 ⟨rfl, rfl⟩
      by_cases he2 : e2 = 0
      · subst he2
        go_wp2
        try simp only [Exit.inBlock, Exit.then]
        have hg3 : wC.grownBy (((wC.setCell ⟨g, 0, none⟩ (.slice rA rn rc)).setCell ⟨g, 1, none⟩ (.int .i64 at_)).setCell ⟨g, 2, none⟩ (.int .i64 er)) (some g) := grown_trans (grown_trans (grown_set _ g 0 _) (grown_set _ g 1 _)) (grown_set _ g 2 _)
        have hblkD : (((wC.setCell ⟨g, 0, none⟩ (.slice rA rn rc)).setCell ⟨g, 1, none⟩ (.int .i64 at_)).setCell ⟨g, 2, none⟩ (.int .i64 er)).heap[g]? = some (.cells #[.slice rA rn rc, .int .i64 at_, .int .i64 er] 81 (0, 0)) :=
          heap_setCell_same _ g 2 _ _ _ (heap_setCell_same _ g 1 _ _ _ (heap_setCell_same _ g 0 _ _ _ hblkC))
        have hownD := hownC.far hblkC (by decide) hg3
        have hbxD := (hg3.block w.heap.size (Array.getElem?_eq_some_iff.1 hbxC).1 (by simp; omega)).trans hbxC
        have hgD := grown_trans hgC hg3
        have hRD : RdB (((wC.setCell ⟨g, 0, none⟩ (.slice rA rn rc)).setCell ⟨g, 1, none⟩ (.int .i64 at_)).setCell ⟨g, 2, none⟩ (.int .i64 er)) g l at_ er := ⟨_, hblkD, hownD, hal, hx, hll⟩
        refine bodyPost_ret (results_row3 rfl _ _ w.heap.size 24 #[.int .i64 0, .slice none 0 0] (0, 0) _ rfl (two_blk hbxD) Try.underlying24 rfl (by kernel_rfl)) rfl ?_
        have hg4 := two_grown (((wC.setCell ⟨g, 0, none⟩ (.slice rA rn rc)).setCell ⟨g, 1, none⟩ (.int .i64 at_)).setCell ⟨g, 2, none⟩ (.int .i64 er)) w.heap.size (.int .i64 0) (.slice none 0 0)
        exact ⟨_, _, at_, er, rfl, Own.nil _ _ _, Own.nil _ _ _, hRD.only hbxD (by decide) hg4 (by omega), grown_fresh hgD hg4 (Nat.le_refl _), fun h => absurd h hR4⟩
      · have hne2 : (e2 == 0) = false := by simpa using he2
        go_wp2
        try simp only [Exit.inBlock, Exit.then]
        refine bodyPost_ret (results_row3 rfl _ _ w.heap.size 24 #[.int .i64 0, .slice none 0 0] (0, 0) _ rfl (two_blk hbxC) Try.underlying24 rfl (by kernel_rfl)) rfl ?_
        have hg4 := two_grown wC w.heap.size (.int .i64 0) (.slice none 0 0)
        exact ⟨_, _, a2, e2, rfl, Own.nil _ _ _, Own.nil _ _ _, hRC.only hbxC (by decide) hg4 (by omega), grown_fresh hgC hg4 (Nat.le_refl _), fun h => absurd h hR4⟩
  · rw [getP_norow hrow]
    rw [Bool.eq_false_iff.2 hrow] at hi
    have HI := Lib.hid hi; have HR0 := Lib.hid hR0
    clear hi hR hR0 hrow
    go_enter Try.func32, Try.ntmps32
    go_wp2_with fail
    rw [HWA.out]
    refine (HI.out _).mono ?_
    rintro e w1 ⟨rfl, rfl⟩
    go_wp2
    try simp only [Exit.inBlock, Exit.then]
    refine bodyPost_ret (results_row3 rfl _ _ w.heap.size 24 #[.int .i64 0, .slice none 0 0] (0, 0) _ rfl (two_blk hbx0) Try.underlying24 rfl (by kernel_rfl)) rfl ?_
    have hg4 := two_grown wA w.heap.size (.int .i64 0) (.slice none 0 0)
    exact ⟨_, _, at_, er, rfl, Own.nil _ _ _, Own.nil _ _ _, HR0.out.only hbx0 (by decide) hg4 (by omega), grown_fresh (grown_of_below hb0 (some g)) hg4 (Nat.le_refl _), fun h => by simp at h⟩
end Go.Proofs.Ytohbpjehphmedaa
