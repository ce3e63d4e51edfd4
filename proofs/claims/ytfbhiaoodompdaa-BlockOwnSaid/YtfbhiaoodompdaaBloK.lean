/- block: Part. -/
import Derived.Test.YtfbhiaoodompdaaBloI
import Derived.Deep.OwnRows
import Derived.Deep.DeepCutAuto
import Derived.Deep.CutBlock
namespace Go.Proofs.Ytfbhiaoodompdaa
open Go.RowKit
set_option maxRecDepth 100000
set_option maxHeartbeats 4000000

/-- A call of Part: its samples, its format in a box, the result's box. -/
structure Pt (w0 w : World) (v : Value) (l : List Int) (r c b : Int) : Prop where
  be : Below w0.heap.size w0 w
  s : Sli w w0.heap.size v (ci l)
  fb : w.heap[w0.heap.size]? = some (.cells #[.int .i64 r, .int .i64 c, .int .i64 b] 23 (0, 0))
  rb : w.heap[w0.heap.size + 1]? = some (.cells #[.int .i64 0, .slice none 0 0] 26 (0, 0))
theorem Pt.start {w : World} {v : Value} {l : List Int} {r c b : Int} (h : Sli w w.heap.size v (ci l)) : Pt w ((w.alloc (.cells #[.int .i64 r, .int .i64 c, .int .i64 b] 23)).alloc (.cells #[.int .i64 0, .slice none 0 0] 26)) v l r c b := by
  have h1 := below_new w #[.int .i64 r, .int .i64 c, .int .i64 b] 23
  have h2 := h1.trans ((below_new (w.alloc (.cells #[.int .i64 r, .int .i64 c, .int .i64 b] 23)) #[.int .i64 0, .slice none 0 0] 26).mono h1.size)
  refine ⟨h2, h.below h2, boxed_on (below_new _ _ _), ?_⟩
  have := boxed (w.alloc (.cells #[.int .i64 r, .int .i64 c, .int .i64 b] 23)) #[.int .i64 0, .slice none 0 0] 26
  simpa using this
theorem Pt.on {w0 w w' : World} {v : Value} {l : List Int} {r c b : Int} (h : Pt w0 w v l r c b) (hb : Below w.heap.size w w') : Pt w0 w' v l r c b :=
  ⟨bthen h.be hb h.be.size, h.s.below (hb.mono h.be.size), (hb.block _ (Array.getElem?_eq_some_iff.1 h.fb).1).trans h.fb, (hb.block _ (Array.getElem?_eq_some_iff.1 h.rb).1).trans h.rb⟩
theorem Pt.set {w0 w : World} {v u : Value} {l : List Int} {r c b : Int} (h : Pt w0 w v l r c b) (g j : Nat) (hg : w0.heap.size + 2 ≤ g) : Pt w0 (w.setCell ⟨g, j, none⟩ u) v l r c b := by
  have hgr := grown_set w g j u
  have hb : Below w0.heap.size w (w.setCell ⟨g, j, none⟩ u) := below_of_only hgr (by omega) h.be.size
  exact ⟨h.be.trans hb, h.s.below hb, (hgr.block _ (Array.getElem?_eq_some_iff.1 h.fb).1 (by simp; omega)).trans h.fb, (hgr.block _ (Array.getElem?_eq_some_iff.1 h.rb).1 (by simp; omega)).trans h.rb⟩
theorem Pt.drew {w0 w : World} {v : Value} {l : List Int} {r c b : Int} (h : Pt w0 w v l r c b) : Pt w0 w.drew v l r c b := ⟨h.be.drew, h.s.keep fun _ _ => rfl, h.fb, h.rb⟩
theorem Pt.drewN {w0 w : World} {v : Value} {l : List Int} {r c b : Int} (h : Pt w0 w v l r c b) (n : Nat) : Pt w0 (w.drewN n) v l r c b := ⟨below_drewN h.be n, h.s.keep fun _ _ => rfl, h.fb, h.rb⟩
theorem Pt.size {w0 w : World} {v : Value} {l : List Int} {r c b : Int} (h : Pt w0 w v l r c b) : w0.heap.size + 2 ≤ w.heap.size := (Array.getElem?_eq_some_iff.1 h.rb).1
/-- What it returns: the result's box is written last. -/
theorem Pt.done {w0 w : World} {v : Value} {l : List Int} {r c b x : Int} {A : Option Addr} {n k : Nat} {vs : List Value} {rs : List (List Int)} (h : Pt w0 w v l r c b) (hR : RwG w (w0.heap.size + 2) (.slice A n k) vs rs) :
    RwG ((w.setCell ⟨w0.heap.size + 1, 0, none⟩ (.int .i64 x)).setCell ⟨w0.heap.size + 1, 1, none⟩ (.slice A n k)) w0.heap.size (.slice A n k) vs rs ∧ Below w0.heap.size w0 ((w.setCell ⟨w0.heap.size + 1, 0, none⟩ (.int .i64 x)).setCell ⟨w0.heap.size + 1, 1, none⟩ (.slice A n k)) :=
  ⟨(hR.far h.rb (by decide) (by decide) (two_gr w (w0.heap.size + 1) _ _)).mono (by omega), h.be.trans (below_of_only (two_gr w (w0.heap.size + 1) _ _) (by omega) h.be.size)⟩

theorem partBk_bad (v : Value) (l : List Int) (r c b : Int) (w : World) (B : Nat) (hS : Sli w B v (ci l)) (hB : B ≤ w.heap.size) (hn : l.length ≤ 1099511627776) (h : (partR l r c b).2.2 ≠ 0) :
    Calls Try.prog 28 #[v, .agg #[.int .i64 r, .int .i64 c, .int .i64 b]] w (BkPost (partR l r c b) w) := by
  replace hS := hS.more hB
  obtain ⟨A, k, rfl, hlc, hcm⟩ := hS.formI
  obtain ⟨wA, hwA⟩ : ∃ wA, (w.alloc (.cells #[.int .i64 r, .int .i64 c, .int .i64 b] 23)).alloc (.cells #[.int .i64 0, .slice none 0 0] 26) = wA := ⟨_, rfl⟩
  have hX := Pt.start (r := r) (c := c) (b := b) hS
  rw [hwA] at hX
  have hr := fun w => right_any r c b w
  have HWA := Lib.hid hwA
  clear hwA hS
  unfold partR at h ⊢
  by_cases h1 : rightB r c b = true
  · rw [if_pos h1] at h ⊢
    rw [h1] at hr
    obtain ⟨_, _, hc1, hc8, hpb⟩ := rightB_iff.1 h1
    by_cases h2 : l.length = 0
    · rw [if_pos h2]
      rw [h2] at hX hlc ⊢
      have HR := Lib.hid hr
      clear hr h1 h h2
      go_enter Try.func28, Try.ntmps28
      go_wp2_with fail
      rw [HWA.out]
      obtain ⟨f0, f1, f2, ff⟩ := three_in hX.fb
      go_wp2_with fail
      refine (HR.out _).mono ?_
      rintro e w1 ⟨rfl, hb1⟩
      have hX1 := hX.on hb1
      obtain ⟨r0, r1, rf⟩ := two_in hX1.rb
      clear f0 f1 f2 ff
      go_wp2
      refine bodyPost_ret (results_two rfl _ _ (w.heap.size + 1) 26 #[.int .i64 0, .slice none 0 0] (0, 0) _ rfl (two_set hX1.rb) Try.underlying26 rfl (by kernel_rfl)) rfl ?_
      obtain ⟨q1, q2⟩ := hX1.done (x := 0) (RwG.nil _ _)
      exact ⟨_, _, _, _, rfl, q1, q2⟩
    · rw [if_neg h2] at h ⊢
      obtain ⟨m, rfl⟩ := Int.eq_ofNat_of_zero_le (show 0 ≤ c by omega)
      rw [Int.toNat_natCast] at h ⊢
      obtain ⟨L, hL⟩ : ∃ L, l.length = L := ⟨_, rfl⟩
      have hS2 := hX.s
      rw [hL] at hX hlc h h2 hS2 hn ⊢
      have hl0 : ((L : Int) == 0) = false := by rw [beq_eq_false_iff_ne]; omega
      have hLp : 0 < L := by omega
      have hm0 : (m : Int) ≠ 0 := by omega
      by_cases h3 : L % m = 0
      · rw [if_pos h3] at h ⊢
        have hrem : ((L : Int) % (m : Int) != 0) = false := by rw [← Int.natCast_emod, h3]; rfl
        obtain ⟨q, hq⟩ : ∃ q, L / m = q := ⟨_, rfl⟩
        have hdiv : (L : Int) / (m : Int) = (q : Nat) := by rw [← Int.natCast_ediv, hq]
        rw [hq] at h ⊢
        by_cases h4 : q ≤ 4096
        · rw [if_pos h4] at h ⊢
          by_cases h5 : l.all (fun x => fitsB x b) = true
          · rw [if_pos h5] at h; simp at h
          · rw [if_neg h5]
            have hfa := fun (w1 : World) (h : Pt w w1 (.slice A L k) l r (m : Nat) b) => allFit_any _ l b w1 w.heap.size h.s (by omega)
            rw [Bool.eq_false_iff.2 h5] at hfa
            have HFA := Lib.hid hfa; have HR := Lib.hid hr; have HQ := Lib.hid hq; have HL := Lib.hid hL
            clear hr h1 h h2 h3 hfa hq hL hS2 h5 hpb
            go_enter Try.func28, Try.ntmps28
            go_wp2_with fail
            rw [HWA.out]
            obtain ⟨f0, f1, f2, ff⟩ := three_in hX.fb
            go_wp2_with fail
            refine (HR.out _).mono ?_
            rintro e w1 ⟨rfl, hb1⟩
            have hX1 := hX.on hb1
            obtain ⟨r0, r1, rf⟩ := two_in hX1.rb
            clear f0 f1 f2 ff
            obtain ⟨f0, f1, f2, ff⟩ := three_in hX1.fb
            go_wp2_with (go_at_call 43; refine (HFA.out _ hX1).mono ?_; rintro e w2 ⟨rfl, rfl⟩)
            refine bodyPost_ret (results_two rfl _ _ (w.heap.size + 1) 26 #[.int .i64 0, .slice none 0 0] (0, 0) _ rfl (two_set hX1.rb) Try.underlying26 rfl (by kernel_rfl)) rfl ?_
            obtain ⟨q1, q2⟩ := hX1.done (x := 0) (RwG.nil _ _)
            exact ⟨_, _, _, _, rfl, q1, q2⟩
        · rw [if_neg h4]
          have h4I : (4096 : Int) < (q : Int) := by omega
          have hqB : (q : Int) ≤ 1099511627776 := by have : q ≤ L := by (rw [← hq]; exact Nat.div_le_self _ _)
                                                     omega
          have HR := Lib.hid hr; have HQ := Lib.hid hq; have HL := Lib.hid hL
          clear hr h1 h h2 h3 h4 hq hL hS2 hpb
          go_enter Try.func28, Try.ntmps28
          go_wp2_with fail
          rw [HWA.out]
          obtain ⟨f0, f1, f2, ff⟩ := three_in hX.fb
          go_wp2_with fail
          refine (HR.out _).mono ?_
          rintro e w1 ⟨rfl, hb1⟩
          have hX1 := hX.on hb1
          obtain ⟨r0, r1, rf⟩ := two_in hX1.rb
          clear f0 f1 f2 ff
          obtain ⟨f0, f1, f2, ff⟩ := three_in hX1.fb
          go_wp2
          refine bodyPost_ret (results_two rfl _ _ (w.heap.size + 1) 26 #[.int .i64 0, .slice none 0 0] (0, 0) _ rfl (two_set hX1.rb) Try.underlying26 rfl (by kernel_rfl)) rfl ?_
          obtain ⟨q1, q2⟩ := hX1.done (x := 0) (RwG.nil _ _)
          exact ⟨_, _, _, _, rfl, q1, q2⟩
      · rw [if_neg h3]
        have hrem : ((L : Int) % (m : Int) != 0) = true := by rw [← Int.natCast_emod, bne_iff_ne]; omega
        have HR := Lib.hid hr; have HL := Lib.hid hL
        clear hr h1 h h2 h3 hL hS2 hpb
        go_enter Try.func28, Try.ntmps28
        go_wp2_with fail
        rw [HWA.out]
        obtain ⟨f0, f1, f2, ff⟩ := three_in hX.fb
        go_wp2_with fail
        refine (HR.out _).mono ?_
        rintro e w1 ⟨rfl, hb1⟩
        have hX1 := hX.on hb1
        obtain ⟨r0, r1, rf⟩ := two_in hX1.rb
        clear f0 f1 f2 ff
        obtain ⟨f0, f1, f2, ff⟩ := three_in hX1.fb
        go_wp2
        refine bodyPost_ret (results_two rfl _ _ (w.heap.size + 1) 26 #[.int .i64 0, .slice none 0 0] (0, 0) _ rfl (two_set hX1.rb) Try.underlying26 rfl (by kernel_rfl)) rfl ?_
        obtain ⟨q1, q2⟩ := hX1.done (x := 0) (RwG.nil _ _)
        exact ⟨_, _, _, _, rfl, q1, q2⟩
  · rw [if_neg h1]
    rw [Bool.eq_false_iff.2 h1] at hr
    have HR := Lib.hid hr
    clear hr h1 h
    go_enter Try.func28, Try.ntmps28
    go_wp2_with fail
    rw [HWA.out]
    obtain ⟨f0, f1, f2, ff⟩ := three_in hX.fb
    go_wp2_with fail
    refine (HR.out _).mono ?_
    rintro e w1 ⟨rfl, hb1⟩
    have hX1 := hX.on hb1
    obtain ⟨r0, r1, rf⟩ := two_in hX1.rb
    clear f0 f1 f2 ff
    obtain ⟨f0, f1, f2, ff⟩ := three_in hX1.fb
    go_wp2
    refine bodyPost_ret (results_two rfl _ _ (w.heap.size + 1) 26 #[.int .i64 0, .slice none 0 0] (0, 0) _ rfl (two_set hX1.rb) Try.underlying26 rfl (by kernel_rfl)) rfl ?_
    obtain ⟨q1, q2⟩ := hX1.done (x := 0) (RwG.nil _ _)
    exact ⟨_, _, _, _, rfl, q1, q2⟩

theorem made_own (W : World) (n : Nat) (hn : n ≤ 1024) {base : Nat} (hb : base ≤ W.heap.size) : Own (W.alloc (.cells (madeCells #[.slice none 0 0] n) 37)) base 37 (.slice (some ⟨W.heap.size, 0, none⟩) n n) (List.replicate n (.slice none 0 0)) := by
  have hs : (madeCells #[Value.slice none 0 0] n).size = n := by rw [← Array.length_toList, toList_madeCells_one]; simp
  unfold Own
  rw [List.length_replicate]
  refine ⟨by simp, .inr ⟨W.heap.size, n, madeCells #[.slice none 0 0] n, rfl, hb, heap_alloc_new W _, by simp, by unfold maxLen; omega, by rw [hs]; simp, ?_⟩⟩
  rw [Nat.mul_one, ← toList_madeCells_one, List.take_of_length_le (by rw [Array.length_toList]; omega)]
theorem makeN (n : Nat) (hn : n ≤ 1024) (W : World) : (Instr.makeSlice 24 (.int .i64 (n : Int)) (.int .i64 (n : Int))).run Try.prog W = .ok (.slice (some ⟨W.heap.size, 0, none⟩) n n) (W.alloc (.cells (madeCells #[.slice none 0 0] n) 37)) :=
  run_make_row' 24 37 (.slice none 0 0) 24 Try.underlying24 info_sIntB rfl .i64 .i64 n (by omega) (by omega) W

theorem two_ways_a (W : World) (m : Nat) (hm : m ≤ 1024) (b : Int) :
    ((W.alloc (.cells (madeCells #[.slice none 0 0] m) 37)).alloc (.cells #[.int .i64 b, .slice (some ⟨W.heap.size, 0, none⟩) m m] 26)).drew.heap[W.heap.size + 1]? = some (.cells #[.int .i64 b, .slice (some ⟨W.heap.size, 0, none⟩) m m] 26 (0, 0)) ∧
    Own ((W.alloc (.cells (madeCells #[.slice none 0 0] m) 37)).alloc (.cells #[.int .i64 b, .slice (some ⟨W.heap.size, 0, none⟩) m m] 26)).drew W.heap.size 37 (.slice (some ⟨W.heap.size, 0, none⟩) m m) (List.replicate m (.slice none 0 0)) ∧
    Below W.heap.size W ((W.alloc (.cells (madeCells #[.slice none 0 0] m) 37)).alloc (.cells #[.int .i64 b, .slice (some ⟨W.heap.size, 0, none⟩) m m] 26)).drew := by
  refine ⟨?_, ((made_own W m hm (Nat.le_refl _)).alloc _).drew, (((Below.refl _ W).alloc (Nat.le_refl _) _).alloc (by simp) _).drew⟩
  have := boxed (W.alloc (.cells (madeCells #[.slice none 0 0] m) 37)) #[.int .i64 b, .slice (some ⟨W.heap.size, 0, none⟩) m m] 26
  have e : (W.alloc (.cells (madeCells #[.slice none 0 0] m) 37)).heap.size = W.heap.size + 1 := by simp
  rw [e] at this
  exact this
theorem two_ways_b (W : World) (m : Nat) (hm : m ≤ 1024) (b : Int) :
    ((W.alloc (.cells #[.int .i64 b, .slice (some ⟨W.heap.size + 1, 0, none⟩) m m] 26)).alloc (.cells (madeCells #[.slice none 0 0] m) 37)).drew.heap[W.heap.size]? = some (.cells #[.int .i64 b, .slice (some ⟨W.heap.size + 1, 0, none⟩) m m] 26 (0, 0)) ∧
    Own ((W.alloc (.cells #[.int .i64 b, .slice (some ⟨W.heap.size + 1, 0, none⟩) m m] 26)).alloc (.cells (madeCells #[.slice none 0 0] m) 37)).drew W.heap.size 37 (.slice (some ⟨W.heap.size + 1, 0, none⟩) m m) (List.replicate m (.slice none 0 0)) ∧
    Below W.heap.size W ((W.alloc (.cells #[.int .i64 b, .slice (some ⟨W.heap.size + 1, 0, none⟩) m m] 26)).alloc (.cells (madeCells #[.slice none 0 0] m) 37)).drew := by
  refine ⟨boxed_on (below_new _ _ _).drew, ?_, (((Below.refl _ W).alloc (Nat.le_refl _) _).alloc (by simp) _).drew⟩
  have h := made_own (W.alloc (.cells #[.int .i64 b, .slice (some ⟨W.heap.size + 1, 0, none⟩) m m] 26)) m hm (base := W.heap.size) (by simp)
  have e : (W.alloc (.cells #[.int .i64 b, .slice (some ⟨W.heap.size + 1, 0, none⟩) m m] 26)).heap.size = W.heap.size + 1 := by simp
  rw [e] at h
  exact h.drew
theorem row_take {l : List Int} {m q c i : Nat} (hi : i < q) : ((List.range q).map fun i => l.getD (i * m + c) 0)[i]? = some (l.getD (i * m + c) 0) := by simp [hi]
theorem part_take {l : List Int} {m q k : Nat} (hk : k < m) : ((partB l m q).take k ++ List.replicate (m - k) []).set k ((List.range q).map fun i => l.getD (i * m + k) 0) = (partB l m q).take (k + 1) ++ List.replicate (m - (k + 1)) [] := by
  have h1 : ((partB l m q).take k).length = k := by rw [List.length_take, partB_len]; omega
  rw [List.set_append_right _ _ (by omega), h1, Nat.sub_self, show m - k = (m - (k + 1)) + 1 by omega, List.replicate_succ, List.set_cons_zero, List.take_add_one, List.append_assoc]
  congr 1
  simp [partB, hk]
theorem partBk_good (v : Value) (l : List Int) (r : Int) (m q : Nat) (b : Int) (w : World) (B : Nat) (hS : Sli w B v (ci l)) (hB : B ≤ w.heap.size) (hn : l.length ≤ 1099511627776)
    (h1 : rightB r (m : Nat) b = true) (h2 : l.length ≠ 0) (h3 : l.length % m = 0) (hq : l.length / m = q) (h4 : q ≤ 4096) (h5 : l.all (fun x => fitsB x b) = true) :
    Calls Try.prog 28 #[v, .agg #[.int .i64 r, .int .i64 (m : Nat), .int .i64 b]] w (BkPost (b, partB l m q, 0) w) := by
  replace hS := hS.more hB
  obtain ⟨A, kc, rfl, hlc, hcm⟩ := hS.formI
  obtain ⟨wA, hwA⟩ : ∃ wA, (w.alloc (.cells #[.int .i64 r, .int .i64 (m : Nat), .int .i64 b] 23)).alloc (.cells #[.int .i64 0, .slice none 0 0] 26) = wA := ⟨_, rfl⟩
  have hX := Pt.start (r := r) (c := (m : Nat)) (b := b) hS
  rw [hwA] at hX
  have hr := fun w => right_any r (m : Nat) b w
  have HWA := Lib.hid hwA
  clear hwA hS
  rw [h1] at hr
  obtain ⟨_, _, hc1, hc8, hpb⟩ := rightB_iff.1 h1
  obtain ⟨L, hL⟩ : ∃ L, l.length = L := ⟨_, rfl⟩
  rw [hL] at hX hlc h2 h3 hn hq ⊢
  have hl0 : ((L : Int) == 0) = false := by rw [beq_eq_false_iff_ne]; omega
  have hm0 : (m : Int) ≠ 0 := by omega
  have hrem : ((L : Int) % (m : Int) != 0) = false := by rw [← Int.natCast_emod, h3]; rfl
  have hdiv : (L : Int) / (m : Int) = (q : Nat) := by rw [← Int.natCast_ediv, hq]
  have hqm : q * m = L := by rw [← hq]; exact Nat.div_mul_cancel (Nat.dvd_of_mod_eq_zero h3)
  have hfa := fun (w1 : World) (h : Pt w w1 (.slice A L kc) l r (m : Nat) b) => allFit_any _ l b w1 w.heap.size h.s (by omega)
  rw [h5] at hfa
  have HFA := Lib.hid hfa; have HR := Lib.hid hr; have HQ := Lib.hid hq; have HL := Lib.hid hL; have HQM := Lib.hid hqm
  clear hr h1 h2 h3 hfa hq hL h5 hpb hqm
  go_enter Try.func28, Try.ntmps28
  go_wp2_with fail
  rw [HWA.out]
  obtain ⟨f0, f1, f2, ff⟩ := three_in hX.fb
  go_wp2_with fail
  refine (HR.out _).mono ?_
  rintro e w1 ⟨rfl, hb1⟩
  have hX1 := hX.on hb1
  obtain ⟨r0, r1, rf⟩ := two_in hX1.rb
  clear f0 f1 f2 ff hX hb1
  obtain ⟨f0, f1, f2, ff⟩ := three_in hX1.fb
  go_upto_region 11 with (go_at_call 43; refine (HFA.out _ hX1).mono ?_; rintro e w2 ⟨rfl, rfl⟩)
  have hrun := makeN m (by omega)
  have hz1 := hX1.size
  have hz2 : w.heap.size < w1.heap.size := by omega
  go_cut [6] (fun p wx => ∃ gB gS, p = .pointer (some ⟨gB, 0, none⟩) ∧ w1.heap.size ≤ gB ∧ wx.heap[gB]? = some (.cells #[.int .i64 b, .slice (some ⟨gS, 0, none⟩) m m] 26 (0, 0)) ∧ Own wx w1.heap.size 37 (.slice (some ⟨gS, 0, none⟩) m m) (List.replicate m (.slice none 0 0)) ∧ Below w1.heap.size w1 wx)
  case first =>
    go_region
    all_goals
      go_wp2_with fail
      go_meet
      case rel =>
        first
          | exact ⟨_, _, rfl, Nat.le_succ _, two_ways_a w1 m (by omega) b⟩
          | exact ⟨_, _, rfl, Nat.le_refl _, two_ways_b w1 m (by omega) b⟩
  case rest =>
    obtain ⟨gB, gS, rfl, hgB, hbx, hos, hb2⟩ := hcut
    have hX2 := hX1.on hb2
    have hG := hX2.size
    have hR2 := RwG.made (hos.mono hz1)
    have hgS := (hos.lt gS rfl).1
    have hne : gB ≠ gS := by
      obtain ⟨cs, hc⟩ := hos.blk (k := gS) rfl
      intro e; subst e
      rw [hbx] at hc; injection hc with hc; injection hc with _ hc
      exact absurd hc (by decide)
    obtain ⟨c0, c1, cf⟩ := two_in hbx
    clear hX1 hb2 hos hrun f0 f1 f2 ff r0 r1 rf
    go_wp2
    clear c0 c1 cf
    go_loopw [52] (fun kk wr => ∃ k : Nat, k ≤ m ∧ kk = .int .i64 k ∧ Pt w wr (.slice A L kc) l r (m : Nat) b ∧ wr.heap[gB]? = some (.cells #[.int .i64 b, .slice (some ⟨gS, 0, none⟩) m m] 26 (0, 0)) ∧ ∃ vs, RwG wr (w.heap.size + 2) (.slice (some ⟨gS, 0, none⟩) m m) vs ((partB l m q).take k ++ List.replicate (m - k) [])) (fun kk _ => m - (intOf kk).toNat)
    case atStart => exact ⟨0, Nat.zero_le _, rfl, hX2, hbx, _, by simpa using hR2⟩
    case round =>
      clear hX2 hbx hR2 hG
      obtain ⟨k, hk, rfl, hP, hbx, vs, hR⟩ := hrel
      obtain ⟨wo, hwo⟩ : ∃ wo, wo = wr := ⟨_, rfl⟩
      subst hwo
      by_cases hkm : k < m
      · obtain ⟨f0, f1, f2, ff⟩ := three_in hP.fb
        have hqq : (List.range q).map (fun i => l.getD (i * m + k) 0) = (List.range q).map (fun i => l.getD (i * m + k) 0) := rfl
        obtain ⟨row, hrow⟩ : ∃ row, (List.range q).map (fun i => l.getD (i * m + k) 0) = row := ⟨_, rfl⟩
        have hrl : row.length = q := by rw [← hrow]; simp
        have hpt := part_take (l := l) (q := q) hkm
        rw [hrow] at hpt
        have HROW := Lib.hid hrow; have HRL := Lib.hid hrl; have HPT := Lib.hid hpt
        clear hqq hrow hrl hpt
        have hqI : (q : Int) ≤ 4096 := by omega
        go_wp2_with (at_make; refine wpl_make Try.underlying37 info_int rfl (by decide) (by omega) rfl rfl rfl rfl (n := q) (h := ?_); intro w3 ho3 hb3; refine cut_here ?_)
        unfold CutHere
        clear f0 f1 f2 ff
        go_wp2
        go_loopw [63] (fun ii wr => ∃ i : Nat, i ≤ q ∧ ii = .int .i64 i ∧ Own wr wo.heap.size 3 (.slice (some ⟨wo.heap.size, 0, none⟩) q q) (ci (row.take i ++ List.replicate (q - i) 0)) ∧ Below wo.heap.size wo wr) (fun ii _ => q - (intOf ii).toNat)
        case atStart => exact ⟨0, Nat.zero_le _, rfl, by simpa [ci] using ho3, hb3⟩
        case round =>
          clear ho3 hb3
          obtain ⟨i, hi, rfl, ho, hb⟩ := hrel
          have hP4 := hP.on hb
          by_cases hiq : i < q
          · obtain ⟨f0, f1, f2, ff⟩ := three_in hP4.fb
            have hlt : i * m + k < L := by
              have h6 : (i + 1) * m ≤ q * m := Nat.mul_le_mul_right _ hiq
              have h7 := HQM.out
              rw [Nat.succ_mul] at h6
              omega
            have hjl : i * m + k < l.length := by rw [HL.out]; exact hlt
            obtain ⟨b5, o5, rfl, hb5, hc5⟩ := hP4.s.atI hjl
            have hat : row[i]? = some (l.getD (i * m + k) 0) := by rw [← HROW.out]; exact row_take hiq
            rw [List.getD_eq_getElem?_getD, List.getElem?_eq_getElem hjl, Option.getD_some] at hat
            obtain ⟨g2, cc, hv, hg2, _, _, hcells, hfro, hset⟩ := ho.at_ (by rw [fillI_len HRL.out hi]; omega)
            injection hv with e1 e2 e3
            injection e1 with e1; injection e1 with e1
            subst e1; subst e3
            have hck := hcells i (by rw [fillI_len HRL.out hi]; exact hiq)
            rw [fillI_get HRL.out hiq] at hck
            generalize l[i * m + k] = x at *
            have hst := hset i (.int .i64 x)
            rw [fillI_set HRL.out hiq hat] at hst
            have HST := Lib.hid hst
            have hfi := hfro i
            obtain ⟨P, hPm⟩ : ∃ P, i * m + k = P := ⟨_, rfl⟩
            have hmulI : (i : Int) * (m : Int) = ((i * m : Nat) : Int) := by simp
            have hPI : ((i * m : Nat) : Int) + (k : Int) = (P : Nat) := by rw [← hPm]; simp
            rw [hPm] at hc5 hlt
            have hmB : i * m ≤ P := by omega
            generalize i * m = im at *
            have hb6 : Below wo.heap.size wo (wr.setCell ⟨wo.heap.size, i, none⟩ (.int .i64 x)) := hb.setCell (p := ⟨wo.heap.size, i, none⟩) (Nat.le_refl _) _
            have HB6 := Lib.hid hb6
            clear hcells hfro hset hst e2 hat hjl hPm hb6
            go_wp2
            exact ⟨⟨i + 1, by omega, by simp, HST.out, HB6.out⟩, by simp [intOf]; omega⟩
          · have hiq2 : i = q := by omega
            have hrow2 : row.take i ++ List.replicate (q - i) 0 = row := by rw [hiq2, Nat.sub_self, List.replicate_zero, List.append_nil, List.take_of_length_le (by rw [HRL.out]; exact Nat.le_refl _)]
            rw [hrow2] at ho
            have hbx4 := (hb.block _ (Array.getElem?_eq_some_iff.1 hbx).1).trans hbx
            obtain ⟨c0, c1, cf⟩ := two_in hbx4
            have hR5 := hR.put (i := k) (by have := hP.size; omega) hb ho (by simp [partB_len]; omega)
            have hP5 := hP4.set (u := .slice (some ⟨wo.heap.size, 0, none⟩) q q) gS k (by omega)
            have hbx5 := ((grown_set wr gS k (.slice (some ⟨wo.heap.size, 0, none⟩) q q)).block _ (Array.getElem?_eq_some_iff.1 hbx4).1 (by simp; omega)).trans hbx4
            rw [HPT.out] at hR5
            obtain ⟨g2, cc, hv, hg2, _, _, hcells, hfro, hset⟩ := (hR.kept hb).top.at_ (by have := hR.len; rw [this]; simp [partB_len]; omega)
            injection hv with e1 e2 e3
            injection e1 with e1; injection e1 with e1
            subst e1
            have hvl : k < vs.length := by have := hR.len; rw [this]; simp [partB_len]; omega
            have hck := hcells k hvl
            rw [List.getElem?_eq_getElem hvl] at hck
            have hfi := hfro k
            have HR5 := Lib.hid hR5; have HP5 := Lib.hid hP5; have HBX5 := Lib.hid hbx5
            clear hcells hfro hset hR5 hP5 hbx5 hrow2
            go_wp2
            exact ⟨⟨k + 1, by omega, by simp, HP5.out, HBX5.out, _, HR5.out⟩, by simp [intOf]; omega⟩
      · have hkk : k = m := by omega
        have hall : (partB l m q).take k ++ List.replicate (m - k) [] = partB l m q := by rw [hkk, Nat.sub_self, List.replicate_zero, List.append_nil, List.take_of_length_le (by rw [partB_len]; exact Nat.le_refl _)]
        rw [hall] at hR
        obtain ⟨c0, c1, cf⟩ := two_in hbx
        obtain ⟨r0, r1, rf⟩ := two_in hP.rb
        go_wp2
        refine bodyPost_ret (results_two rfl _ _ (w.heap.size + 1) 26 #[.int .i64 b, .slice (some ⟨gS, 0, none⟩) m m] (0, 0) _ rfl (two_set hP.rb) Try.underlying26 rfl (by kernel_rfl)) rfl ?_
        obtain ⟨q1, q2⟩ := hP.done (x := b) hR
        exact ⟨_, _, _, _, rfl, q1, q2⟩
theorem partBk_any (v : Value) (l : List Int) (r c b : Int) (w : World) (B : Nat) (hS : Sli w B v (ci l)) (hB : B ≤ w.heap.size) (hn : l.length ≤ 1099511627776) :
    Calls Try.prog 28 #[v, .agg #[.int .i64 r, .int .i64 c, .int .i64 b]] w (BkPost (partR l r c b) w) := by
  by_cases h : (partR l r c b).2.2 = 0
  · have hh := h
    unfold partR at h ⊢
    by_cases h1 : rightB r c b = true
    · rw [if_pos h1] at h ⊢
      by_cases h2 : l.length = 0
      · rw [if_pos h2] at h; simp at h
      · rw [if_neg h2] at h ⊢
        by_cases h3 : l.length % c.toNat = 0
        · rw [if_pos h3] at h ⊢
          by_cases h4 : l.length / c.toNat ≤ 4096
          · rw [if_pos h4] at h ⊢
            by_cases h5 : l.all (fun x => fitsB x b) = true
            · rw [if_pos h5]
              have hr := rightB_iff.1 h1
              obtain ⟨m, rfl⟩ := Int.eq_ofNat_of_zero_le (show 0 ≤ c by omega)
              rw [Int.toNat_natCast] at h3 h4 ⊢
              exact partBk_good v l r m _ b w B hS hB hn h1 h2 h3 rfl h4 h5
            · rw [if_neg h5] at h; simp at h
          · rw [if_neg h4] at h; simp at h
        · rw [if_neg h3] at h; simp at h
    · rw [if_neg h1] at h; simp at h
  · exact partBk_bad v l r c b w B hS hB hn h
end Go.Proofs.Ytfbhiaoodompdaa
