/- block: Unpack. -/
import Derived.Test.YtfbhiaoodompdaaBloC
namespace Go.Proofs.Ytfbhiaoodompdaa
open Go.RowKit
set_option maxRecDepth 100000
set_option maxHeartbeats 4000000

/-- Two boxes, one behind the other. -/
theorem two_boxes (w : World) (a b : Array Value) (t s : TypeId) : ∃ wA, (w.alloc (.cells a t)).alloc (.cells b s) = wA ∧ wA.heap.size = w.heap.size + 2 ∧ Below w.heap.size w wA ∧
    wA.heap[w.heap.size]? = some (.cells a t (0, 0)) ∧ wA.heap[w.heap.size + 1]? = some (.cells b s (0, 0)) := by
  refine ⟨_, rfl, by simp, ((Below.refl _ w).alloc (Nat.le_refl _) _).alloc (by simp) _, ?_, ?_⟩
  · exact boxed_on ((Below.refl _ (w.alloc (.cells a t))).alloc (Nat.le_refl _) _)
  · have h := boxed (w.alloc (.cells a t)) b s
    have e : (w.alloc (.cells a t)).heap.size = w.heap.size + 1 := by simp
    rw [e] at h
    exact h
theorem unpackBl_no {l : List Nat} {r c b : Int} (h : ¬ rightB r c b = true) : unpackBl l r c b = (0, [], 1) := by unfold unpackBl; rw [if_neg h]
theorem unpackBl_err {l : List Nat} {r c b : Int} (h : rightB r c b = true) (he : (unpackR l b).2 ≠ 0) : unpackBl l r c b = (0, [], (unpackR l b).2) := by unfold unpackBl; rw [if_pos h, if_neg he]
theorem unpackBl_ok {l : List Nat} {r c b : Int} (h : rightB r c b = true) (he : (unpackR l b).2 = 0) : unpackBl l r c b = partR (unpackR l b).1 r c b := by unfold unpackBl; rw [if_pos h, if_pos he]
theorem unpackBk_any (v : Value) (l : List Nat) (r c b : Int) (w : World) (B : Nat) (hS : Sli w B v (cu8 l)) (hB : B ≤ w.heap.size) (hx : ∀ x ∈ l, x < 256) (hn : l.length ≤ 1099511627776) :
    Calls Try.prog 35 #[v, .agg #[.int .i64 r, .int .i64 c, .int .i64 b]] w (BkPost (unpackBl l r c b) w) := by
  obtain ⟨A, q, rfl, hlc, hcm⟩ := hS.form8
  have hr := fun w => right_any r c b w
  have hup := fun (w1 : World) (h : Sli w1 B (.slice A l.length q) (cu8 l)) (h2 : B ≤ w1.heap.size) => unpack_any _ l b w1 B h h2 hx hn
  have hpl := unpk_small (b := l) (n := b)
  obtain ⟨wA, hwA, hsA, hbA, hfb, hrb⟩ := two_boxes w #[.int .i64 r, .int .i64 c, .int .i64 b] #[.int .i64 0, .slice none 0 0] 23 26
  have hSA := hS.below (hbA.mono hB)
  have HWA := Lib.hid hwA
  clear hwA
  by_cases h1 : rightB r c b = true
  · rw [h1] at hr
    by_cases h2 : (unpackR l b).2 = 0
    · rw [unpackBl_ok h1 h2]
      have hpt := fun (w1 : World) (v : Value) (h : Sli w1 w1.heap.size v (ci (unpackR l b).1)) => partBk_any v _ r c b w1 _ h (Nat.le_refl _) (by omega)
      generalize partR (unpackR l b).1 r c b = res at *
      obtain ⟨ul, ue⟩ : ∃ u, u = unpackR l b := ⟨_, rfl⟩
      rw [← ue] at hup h2 hpt
      clear ue hpl
      obtain ⟨ur, ure⟩ := ul
      simp only at h2 hpt
      subst h2
      obtain ⟨rb, rr, re⟩ := res
      have HR := Lib.hid hr; have HUP := Lib.hid hup; have HPT := Lib.hid hpt
      clear hr hup hpt h1 hS
      generalize l.length = L at *
      go_enter Try.func35, Try.ntmps35
      go_wp2_with fail
      rw [HWA.out]
      obtain ⟨x0, x1, x2, xf⟩ := three_in hfb
      go_wp2_with fail
      refine (HR.out _).mono ?_
      rintro e w1 ⟨rfl, hb1⟩
      rw [hsA] at hb1
      have hK1 := hb1.size
      rw [hsA] at hK1
      clear x0 x1 x2 xf
      obtain ⟨x0, x1, x2, xf⟩ := three_in (box_at hb1 hfb (by omega))
      have hS1 := hSA.below (hb1.mono (by omega))
      go_wp2_with fail
      refine (HUP.out w1 hS1 (by omega)).mono ?_
      rintro e w2 ⟨v2, rfl, ho2, hb2⟩
      have hb12 := hb1.trans (hb2.mono hK1)
      have hK2 := hb12.size
      rw [hsA] at hK2
      clear x0 x1 x2 xf hb2 hS1
      obtain ⟨x0, x1, x2, xf⟩ := three_in (box_at hb12 hfb (by omega))
      go_wp2_with fail
      refine (HPT.out w2 v2 ho2.sli).mono ?_
      rintro e w3 ⟨A3, n3, c3, vs3, rfl, hR3, hb3⟩
      have hb13 := hb12.trans (hb3.mono hK2)
      have hR3' := hR3.mono hK2
      clear x0 x1 x2 xf hb3 hR3
      obtain ⟨r0, r1, rf⟩ := two_in (box_at hb13 hrb (by omega))
      go_wp2
      refine bodyPost_ret (results_two rfl _ _ (w.heap.size + 1) 26 #[.int .i64 rb, .slice A3 n3 c3] (0, 0) _ rfl (two_set (box_at hb13 hrb (by omega))) Try.underlying26 rfl (by kernel_rfl)) rfl ?_
      obtain ⟨q1, q2⟩ := box_done (x := rb) hbA hb13 hrb (by omega) (by omega) hR3'
      exact ⟨_, _, _, _, rfl, q1, q2⟩
    · rw [unpackBl_err h1 h2]
      generalize unpackR l b = u at *
      obtain ⟨ur, ure⟩ := u
      simp only at h2
      have hne : (ure != 0) = true := by rw [bne_iff_ne]; exact h2
      have HR := Lib.hid hr; have HUP := Lib.hid hup
      clear hr hup h1 hS h2 hpl
      generalize l.length = L at *
      go_enter Try.func35, Try.ntmps35
      go_wp2_with fail
      rw [HWA.out]
      obtain ⟨x0, x1, x2, xf⟩ := three_in hfb
      go_wp2_with fail
      refine (HR.out _).mono ?_
      rintro e w1 ⟨rfl, hb1⟩
      rw [hsA] at hb1
      have hK1 := hb1.size
      rw [hsA] at hK1
      clear x0 x1 x2 xf
      obtain ⟨x0, x1, x2, xf⟩ := three_in (box_at hb1 hfb (by omega))
      have hS1 := hSA.below (hb1.mono (by omega))
      go_wp2_with fail
      refine (HUP.out w1 hS1 (by omega)).mono ?_
      rintro e w2 ⟨v2, rfl, ho2, hb2⟩
      have hb12 := hb1.trans (hb2.mono hK1)
      have hK2 := hb12.size
      rw [hsA] at hK2
      clear x0 x1 x2 xf hb2 hS1
      obtain ⟨r0, r1, rf⟩ := two_in (box_at hb12 hrb (by omega))
      go_wp2
      refine bodyPost_ret (results_two rfl _ _ (w.heap.size + 1) 26 #[.int .i64 0, .slice none 0 0] (0, 0) _ rfl (two_set (box_at hb12 hrb (by omega))) Try.underlying26 rfl (by kernel_rfl)) rfl ?_
      obtain ⟨q1, q2⟩ := box_done (x := 0) hbA hb12 hrb (by omega) (by omega) (RwG.nil _ _)
      exact ⟨_, _, _, _, rfl, q1, q2⟩
  · rw [unpackBl_no h1]
    rw [Bool.eq_false_iff.2 h1] at hr
    have HR := Lib.hid hr
    clear hr hup h1 hS hpl
    generalize l.length = L at *
    go_enter Try.func35, Try.ntmps35
    go_wp2_with fail
    rw [HWA.out]
    obtain ⟨x0, x1, x2, xf⟩ := three_in hfb
    go_wp2_with fail
    refine (HR.out _).mono ?_
    rintro e w1 ⟨rfl, hb1⟩
    rw [hsA] at hb1
    clear x0 x1 x2 xf
    obtain ⟨r0, r1, rf⟩ := two_in (box_at hb1 hrb (by omega))
    go_wp2
    refine bodyPost_ret (results_two rfl _ _ (w.heap.size + 1) 26 #[.int .i64 0, .slice none 0 0] (0, 0) _ rfl (two_set (box_at hb1 hrb (by omega))) Try.underlying26 rfl (by kernel_rfl)) rfl ?_
    obtain ⟨q1, q2⟩ := box_done (x := 0) hbA hb1 hrb (by omega) (by omega) (RwG.nil _ _)
    exact ⟨_, _, _, _, rfl, q1, q2⟩
end Go.Proofs.Ytfbhiaoodompdaa
