/- block: the law BlockParts. -/
import Derived.Test.YtfbhiaoodompdaaBloO
import Derived.Test.YtfbhiaoodompdaaBloQ
namespace Go.Proofs.Ytfbhiaoodompdaa
open Go.RowKit
set_option maxRecDepth 100000
set_option maxHeartbeats 4000000

/-- Rows that may be looked at. -/
def SmB (rs : List (List Int)) : Prop := (∀ r ∈ rs, r.length ≤ 1099511627776) ∧ rs.length ≤ 1099511627776
theorem MayBk.smb {b : Int} {rs : List (List Int)} {n : Nat} (h : MayBk b rs n) : SmB rs := ⟨fun r hr => by have := h.rows r hr; have := h.size; omega, by have := h.chans; omega⟩
theorem SmB.nil : SmB [] := ⟨by simp, by simp⟩
theorem partR_bad {l : List Int} {r c b : Int} (h : (partR l r c b).2.2 ≠ 0) : (partR l r c b).2.1 = [] := by
  unfold partR at h ⊢
  split
  next h1 =>
    rw [if_pos h1] at h
    split
    next => rfl
    next h2 =>
      rw [if_neg h2] at h
      split
      next h3 =>
        rw [if_pos h3] at h
        split
        next h4 =>
          rw [if_pos h4] at h
          split
          next h5 => rw [if_pos h5] at h; simp at h
          next => rfl
        next => rfl
      next => rfl
  next => rfl
theorem partR_smb (l : List Int) (r c b : Int) : SmB (partR l r c b).2.1 := by
  by_cases h : (partR l r c b).2.2 = 0
  · exact (partR_may h).1.smb
  · rw [partR_bad h]; exact SmB.nil
/-- Two blocks that are one are found so; the worlds behind them. -/
theorem same_two {w : World} {B1 B2 : Nat} {x : Int} {va vb : Value} {rs : List (List Int)} (ha : Rws w B1 va rs) (hb : Rws w B2 vb rs) (h1 : B1 ≤ w.heap.size) (h2 : B2 ≤ w.heap.size) (hs : SmB rs) :
    Calls Try.prog 30 #[.agg #[.int .i64 x, va], .agg #[.int .i64 x, vb]] w fun e w' => e = .returned (.bool true) ∧ Below w.heap.size w w' :=
  (sameBlock_any x x va vb rs rs w B1 B2 ha hb h1 h2 hs.1 hs.1 hs.2).mono fun _ _ ⟨he, h⟩ => ⟨by rw [he, decide_eq_true ⟨rfl, rfl⟩], h⟩
/-- A law's format in its box. -/
structure Fx (w0 w : World) (r c b : Int) : Prop where
  be : Below w0.heap.size w0 w
  fb : w.heap[w0.heap.size]? = some (.cells #[.int .i64 r, .int .i64 c, .int .i64 b] 23 (0, 0))
theorem Fx.start (w : World) (r c b : Int) : Fx w (w.alloc (.cells #[.int .i64 r, .int .i64 c, .int .i64 b] 23)) r c b := ⟨below_new _ _ _, boxed _ _ _⟩
theorem Fx.on {w0 w w' : World} {r c b : Int} (h : Fx w0 w r c b) (hb : Below w.heap.size w w') : Fx w0 w' r c b := ⟨bthen h.be hb h.be.size, (hb.block _ (Array.getElem?_eq_some_iff.1 h.fb).1).trans h.fb⟩

theorem blockParts_walk (v : Value) (l : List Int) (f0 f1 f2 : Int) (w : World) (hS : Sli w w.heap.size v (ci l)) :
    Calls Try.prog 4 #[v, .agg #[.int .i64 f0, .int .i64 f1, .int .i64 f2]] w fun e w' => e = .returned (.bool true) ∧ Below w.heap.size w w' := by
  obtain ⟨A, c, rfl, hlc, hcm⟩ := hS.formI
  obtain ⟨wA, hwA⟩ : ∃ wA, w.alloc (.cells #[.int .i64 f0, .int .i64 f1, .int .i64 f2] 23) = wA := ⟨_, rfl⟩
  have hX0 := Fx.start w f0 f1 f2
  rw [hwA] at hX0
  have HWA := Lib.hid hwA
  clear hwA
  obtain ⟨L, hL⟩ : ∃ L, l.length = L := ⟨_, rfl⟩
  by_cases hl : l.length ≤ 40000
  · have h1 := fun (w1 : World) (h : Fx w w1 f0 f1 f2) => partBk_any _ l f0 f1 f2 w1 _ (hS.below h.be) h.be.size (by omega)
    have h2 := fun (w1 : World) (h : Fx w w1 f0 f1 f2) => qpartBk_any _ l f0 f1 f2 w1 _ (hS.below h.be) h.be.size (by omega)
    have hsm := partR_smb l f0 f1 f2
    generalize partR l f0 f1 f2 = res at *
    obtain ⟨rb, rr, re⟩ := res
    rw [hL] at hlc hl h1 h2 ⊢
    have hee : (re == re) = true := by simp
    have H1 := Lib.hid h1; have H2 := Lib.hid h2; have HSM := Lib.hid hsm
    clear h1 h2 hsm hS hL
    go_enter Try.func4, Try.ntmps4
    go_wp2_with fail
    rw [HWA.out]
    refine (knownBk_any wA).mono ?_
    rintro e w1 ⟨rfl, hb1⟩
    have hX1 := hX0.on hb1
    obtain ⟨x0, x1, x2, xf⟩ := three_in hX1.fb
    go_wp2_with fail
    refine (H1.out w1 hX1).mono ?_
    rintro e w2 ⟨A2, n2, c2, vs2, rfl, hR2, hb2⟩
    have hX2 := hX1.on hb2
    clear x0 x1 x2 xf
    have hbn := below_new w2 #[.int .i64 rb, .slice A2 n2 c2] 26
    have hbx := boxed w2 #[.int .i64 rb, .slice A2 n2 c2] 26
    obtain ⟨w3, hw3⟩ : ∃ w3, w2.alloc (.cells #[.int .i64 rb, .slice A2 n2 c2] 26) = w3 := ⟨_, rfl⟩
    have hX3 := hX2.on hbn
    have hR3 := hR2.rws.below hbn
    rw [hw3] at hX3 hR3 hbx hbn
    obtain ⟨x0, x1, x2, xf⟩ := three_in hX3.fb
    go_wp2_with fail
    refine (H2.out w3 hX3).mono ?_
    rintro e w4 ⟨A4, n4, c4, vs4, rfl, hR4, hb4⟩
    have hX4 := hX3.on hb4
    have hR34 := hR3.below (hb4.mono hbn.size)
    have hbx4 := (hb4.block _ (Array.getElem?_eq_some_iff.1 hbx).1).trans hbx
    have hbn4 := below_new w4 #[.int .i64 rb, .slice A4 n4 c4] 26
    have hbx44 := boxed w4 #[.int .i64 rb, .slice A4 n4 c4] 26
    obtain ⟨w5, hw5⟩ : ∃ w5, w4.alloc (.cells #[.int .i64 rb, .slice A4 n4 c4] 26) = w5 := ⟨_, rfl⟩
    have hz24 : w2.heap.size ≤ w4.heap.size := Nat.le_trans hbn.size hb4.size
    have hR35 := hR34.below (hbn4.mono hz24)
    have hR45 := hR4.rws.below hbn4
    have hbx5 := (hbn4.block _ (Array.getElem?_eq_some_iff.1 hbx4).1).trans hbx4
    have hX5 := hX4.on hbn4
    rw [hw5] at hR35 hR45 hbx5 hbx44 hX5 hbn4
    obtain ⟨y0, y1, yf⟩ := two_in hbx5
    obtain ⟨z0, z1, zf⟩ := two_in hbx44
    clear x0 x1 x2 xf hbx hbx4 hR34 hR3
    have HR35 := Lib.hid hR35; have HR45 := Lib.hid hR45
    have hz25 : w2.heap.size ≤ w5.heap.size := Nat.le_trans hz24 hbn4.size
    go_wp2_with fail
    refine (same_two HR35.out HR45.out hz25 hbn4.size HSM.out).mono ?_
    rintro e w6 ⟨rfl, hb6⟩
    have hX6 := hX5.on hb6
    go_wp2
    go_ret
    exact ⟨rfl, hX6.be⟩
  · rw [hL] at hlc hl ⊢
    have hlI : (40000 : Int) < (L : Int) := by omega
    clear hl hL hS
    go_enter Try.func4, Try.ntmps4
    go_wp2_with fail
    rw [HWA.out]
    refine (knownBk_any wA).mono ?_
    rintro e w1 ⟨rfl, hb1⟩
    have hX1 := hX0.on hb1
    go_wp2
    go_ret
    exact ⟨rfl, hX1.be⟩
end Go.Proofs.Ytfbhiaoodompdaa
