/- The reference's reader of bytes, for packages above: new, left, take, small. -/
import Derived.Test.YtfbhiaoodompdaaOctN
import Derived.Test.YtfbhiaoodompdaaFoot
import Derived.Deep.RegionHeld3
import Derived.Deep.RegionWith
import Derived.Deep.DeepCutAuto
import Derived.Deep.QuietTactic
import Derived.BigQuiet
namespace Go.Proofs.Ytfbhiaoodompdaa
open Go.RowKit
set_option maxRecDepth 100000
set_option maxHeartbeats 800000

/-- The reference's reader at block g: the bytes lie below block B. -/
def OcO (w : World) (B g : Nat) (l : List Nat) (at_ : Nat) (er : Int) : Prop :=
  ∃ v, w.heap[g]? = some (.cells #[v, .int .i64 at_, .int .i64 er] 85 (0, 0)) ∧ Sli w B v (cu8 l) ∧ B ≤ g ∧ at_ ≤ l.length ∧ (∀ x ∈ l, x < 256) ∧ l.length ≤ 1099511627776
theorem OcO.lt {w : World} {B g at_ : Nat} {l : List Nat} {er : Int} (h : OcO w B g l at_ er) : g < w.heap.size := by
  obtain ⟨v, h1, _⟩ := h; exact (Array.getElem?_eq_some_iff.1 h1).1
theorem OcO.only {w w' : World} {B g g' at_ : Nat} {l : List Nat} {er : Int} (h : OcO w B g l at_ er) (hg : w.grownBy w' (some g')) (hne : g ≠ g') (hB : B ≤ g') : OcO w' B g l at_ er := by
  have hlt := h.lt
  obtain ⟨v, h1, h2, hBg, r⟩ := h
  exact ⟨v, (hg.block g hlt (by simp; exact hne)).trans h1, h2.below (below_of_only hg hB (by omega)), hBg, r⟩
theorem OcO.below {w w' : World} {B g at_ : Nat} {l : List Nat} {er : Int} (h : OcO w B g l at_ er) (hb : Below w.heap.size w w') : OcO w' B g l at_ er := by
  have hlt := h.lt
  obtain ⟨v, h1, h2, hBg, r⟩ := h
  exact ⟨v, (hb.block g hlt).trans h1, h2.below (hb.mono (by omega)), hBg, r⟩
theorem OcO.blk {w : World} {B g at_ : Nat} {l : List Nat} {er : Int} (h : OcO w B g l at_ er) : ∃ cs, w.heap[g]? = some (.cells cs 85 (0, 0)) := by
  obtain ⟨v, h1, _⟩ := h; exact ⟨_, h1⟩
theorem OcO.drewN {w : World} {B g at_ : Nat} {l : List Nat} {er : Int} (h : OcO w B g l at_ er) (n : Nat) : OcO (w.drewN n) B g l at_ er := h
theorem OcO.set1 {w : World} {B g at_ : Nat} {l : List Nat} {er : Int} (h : OcO w B g l at_ er) {n : Nat} (hn : n ≤ l.length) : OcO (w.setCell ⟨g, 1, none⟩ (.int .i64 n)) B g l n er := by
  obtain ⟨v, h1, h2, hB, _, r⟩ := h
  exact ⟨v, heap_setCell_same w g 1 _ _ _ h1, h2.keep fun p hp => World.cell?_setCell_other w _ p _ (fun e => by subst e; simp at hp; omega), hB, hn, r⟩
theorem OcO.set2 {w : World} {B g at_ : Nat} {l : List Nat} {er e' : Int} (h : OcO w B g l at_ er) : OcO (w.setCell ⟨g, 2, none⟩ (.int .i64 e')) B g l at_ e' := by
  obtain ⟨v, h1, h2, hB, r⟩ := h
  exact ⟨v, heap_setCell_same w g 2 _ _ _ h1, h2.keep fun p hp => World.cell?_setCell_other w _ p _ (fun e => by subst e; simp at hp; omega), hB, r⟩

theorem qnew_any (v : Value) (l : List Nat) (w : World) (B : Nat) (hl : Sli w B v (cu8 l)) (hB : B ≤ w.heap.size) (hx : ∀ x ∈ l, x < 256) (hn : l.length ≤ 1099511627776) :
    Calls Try.prog 66 #[v] w fun e w' => ∃ g, e = .returned (.pointer (some ⟨g, 0, none⟩)) ∧ OcO w' B g l 0 0 ∧ w.heap.size ≤ g ∧ Below w.heap.size w w' := by
  obtain ⟨A, c, rfl, hlc, hcm⟩ := hl.form8
  go_enter Try.func66, Try.ntmps66
  go_wp2
  go_ret
  exact ⟨w.heap.size, rfl, ⟨_, heap_alloc_new w _, hl.keep fun p hp => World.cell?_alloc_lt w _ p (by omega), hB, Nat.zero_le _, hx, hn⟩, Nat.le_refl _, (Below.refl _ _).alloc (Nat.le_refl _) _⟩

theorem qleft_any {w : World} {B g at_ : Nat} {l : List Nat} {er : Int} (hR : OcO w B g l at_ er) :
    Calls Try.prog 67 #[.pointer (some ⟨g, 0, none⟩)] w fun e w' => e = .returned (.int .i64 (l.length - at_ : Nat)) ∧ ∃ n, w' = w.drewN n := by
  obtain ⟨v, h1, h2, hB, hal, _, hlen⟩ := hR
  obtain ⟨A, c, rfl, _⟩ := h2.form8
  obtain ⟨c0, c1, c2, hf⟩ := blk3 h1
  clear h1 h2 hf
  go_enter Try.func67, Try.ntmps67
  go_wp2
  go_quiet (fail)
  go_wp2
  go_ret
  exact ⟨by simp; omega, _, rfl⟩

theorem qtake_any {w : World} {B g at_ : Nat} {l : List Nat} {er : Int} (hR : OcO w B g l at_ er) (n : Int) (hn : n ≤ 9223372036854775807) :
    Calls Try.prog 77 #[.pointer (some ⟨g, 0, none⟩), .int .i64 n] w fun e w' => ∃ v', e = .returned v' ∧ Own w' w.heap.size 5 v' (cu8 (rdTake l at_ er n.toNat).1) ∧ OcO w' B g l (rdTake l at_ er n.toNat).2.1 (rdTake l at_ er n.toNat).2.2 ∧ w.grownBy w' (some g) := by
  obtain ⟨v, h1, h2, hB, hal, hx, hlen⟩ := id hR
  obtain ⟨A, c, rfl, hlc, hcm⟩ := h2.form8
  obtain ⟨c0, c1, c2, hf⟩ := blk3 h1
  obtain ⟨m, hm, hmx⟩ : ∃ m : Nat, n.toNat = m ∧ (if n < 0 then (0 : Int) else n) = m := ⟨n.toNat, rfl, by split <;> omega⟩
  rw [hm]
  have hm63 : m ≤ 9223372036854775807 := by omega
  have HM := Lib.hid hmx
  have hgw := hR.lt
  clear h1 hmx hm
  by_cases he : er = 0
  · subst he
    by_cases hs : l.length - at_ < m
    · have hr : rdTake l at_ 0 m = ([], at_, 3) := by simp [rdTake, hs]
      rw [hr]; clear hr
      go_enter Try.func77, Try.ntmps77
      go_upto_region 1 with (fail)
      go_cut [1] (fun v wr => v = .int .i64 (m : Nat) ∧ wr = w)
      case first =>
        go_wp2
        all_goals go_meet
        all_goals (case rel => exact ⟨by have := HM.out; simp; omega, rfl⟩)
      case rest =>
        obtain ⟨rfl, rfl⟩ := hcut
        go_wp2_with (go_at_call 67; refine (qleft_any hR).mono ?_; rintro e w1 ⟨rfl, nd, rfl⟩)
        go_ret
        exact ⟨_, rfl, Own.nil _ _ _, (hR.drewN nd).set2, grown_trans (grown_drewN (World.grownBy.refl _ _) nd) (grown_set _ _ _ _)⟩
    · have hr : rdTake l at_ 0 m = ((l.drop at_).take m, at_ + m, 0) := by simp [rdTake, hs]
      rw [hr]; clear hr
      have hn2 : at_ + m ≤ l.length := by omega
      go_enter Try.func77, Try.ntmps77
      go_upto_region 1 with (fail)
      go_cut [1] (fun v wr => v = .int .i64 (m : Nat) ∧ wr = w)
      case first =>
        go_wp2
        all_goals go_meet
        all_goals (case rel => exact ⟨by have := HM.out; simp; omega, rfl⟩)
      case rest =>
        obtain ⟨rfl, rfl⟩ := hcut
        go_wp2_with (go_at_call 67; refine (qleft_any hR).mono ?_; rintro e w1 ⟨rfl, nd, rfl⟩)
        have ca0 := fun (n : Nat) (o : Obj) => (World.cell?_alloc_lt (wc.drewN n) o ⟨g, 0, none⟩ hgw).trans c0
        have ca1 := fun (n : Nat) (o : Obj) => (World.cell?_alloc_lt (wc.drewN n) o ⟨g, 1, none⟩ hgw).trans c1
        have hlc' : l.length ≤ c := hlc
        have hB' : B ≤ wc.heap.size := by omega
        have hml : (cu8 ((l.drop at_).take m)).length ≤ 8796093022208 := by simp [cu8]; omega
        have hw1 : IntKind.i64.wrap ((at_ : Int) + m) = (at_ : Int) + m := IntWalk.i64_in _ (by omega)
        have hw2 : ((at_ : Int) + m).toNat = at_ + m := by omega
        have hw3 : (0 : Int) ≤ (at_ : Int) + m := by omega
        have hw5 : at_ + m - at_ = m := by omega
        have hw6 : (at_ : Int) + m ≤ (c : Int) := by omega
        by_cases hc : c = at_
        · have hS := Sli.tip (w := wc) (B := B) (A := A) (xs := cu8 l) (c := c) (by rw [cu8_len]; exact hlc) at_ m (by rw [cu8_len]; exact hn2) hc
          rw [cu8_cut] at hS
          have HE : (c = at_) = True := eq_true hc
          have HZ : c - at_ = 0 := by omega
          clear hc
          go_region_held3 (fun w' => w'.cell? ⟨g, 0, none⟩ = some (.slice A l.length c) ∧ w'.cell? ⟨g, 1, none⟩ = some (.int .i64 at_))
            (first | go_keep | exact ⟨ca0 _ _, ca1 _ _⟩ | exact ⟨cw0, cw1⟩)
            ((refine step_copy (w := wc.drewN _) hS (by simp; omega) hml Try.underlying29 info_u8 rfl (by decide) (cu8_one _) rfl rfl rfl rfl (h := ?_); intro v2 w2 ho2 hb2; have cw0 := (hb2.cell (p := ⟨g, 0, none⟩) hgw).trans c0; have cw1 := (hb2.cell (p := ⟨g, 1, none⟩) hgw).trans c1; have fw1 := (hb2.frozen (p := ⟨g, 1, none⟩) hgw).trans (hf 1)))
          go_wp2
          go_ret
          have hR2 := (hR.drewN _).below hb2
          exact ⟨_, rfl, (Own.keptAt (show Own w2 wc.heap.size 5 v2 (cu8 ((l.drop at_).take m)) from ho2) (grown_set _ g 1 _) hgw), hR2.set1 hn2, grown_trans (grown_of_below (below_drewN (Below.refl _ _) _ |>.trans hb2) _) (grown_set _ _ _ _)⟩
        · have hS := Sli.mid2 h2 at_ m hn2
          rw [cu8_cut] at hS
          have HW := Lib.hid (And.intro hw1 hw2); clear hw1 hw2
          obtain ⟨hw1, hw2⟩ := HW.out
          go_region_held3 (fun w' => w'.cell? ⟨g, 0, none⟩ = some (.slice A l.length c) ∧ w'.cell? ⟨g, 1, none⟩ = some (.int .i64 at_))
            (first | go_keep | exact ⟨ca0 _ _, ca1 _ _⟩ | exact ⟨cw0, cw1⟩)
            ((refine step_copy (w := wc.drewN _) hS (by simp; omega) hml Try.underlying29 info_u8 rfl (by decide) (cu8_one _) rfl rfl rfl rfl (h := ?_); intro v2 w2 ho2 hb2; have cw0 := (hb2.cell (p := ⟨g, 0, none⟩) hgw).trans c0; have cw1 := (hb2.cell (p := ⟨g, 1, none⟩) hgw).trans c1; have fw1 := (hb2.frozen (p := ⟨g, 1, none⟩) hgw).trans (hf 1)))
          go_wp2
          go_ret
          have hR2 := (hR.drewN _).below hb2
          exact ⟨_, rfl, (Own.keptAt (show Own w2 wc.heap.size 5 v2 (cu8 ((l.drop at_).take m)) from ho2) (grown_set _ g 1 _) hgw), hR2.set1 hn2, grown_trans (grown_of_below (below_drewN (Below.refl _ _) _ |>.trans hb2) _) (grown_set _ _ _ _)⟩
  · have hr : rdTake l at_ er m = ([], at_, er) := by simp [rdTake, he]
    rw [hr]; clear hr
    have hne : (er != 0) = true := by simpa using he
    go_enter Try.func77, Try.ntmps77
    go_wp2
    all_goals go_ret
    all_goals exact ⟨_, rfl, Own.nil _ _ _, hR, World.grownBy.refl _ _⟩

theorem leV_split (t : List Nat) {k x : Nat} (h : t[k]? = some x) : leV (t.drop k) = leV (t.drop (k + 1)) * 256 + x := by
  obtain ⟨hk, e⟩ := List.getElem?_eq_some_iff.1 h
  rw [List.drop_eq_getElem_cons hk, e, leV]; omega
theorem leV_drop_lt (t : List Nat) (h : ∀ x ∈ t, x < 256) (k : Nat) : leV (t.drop k) < 256 ^ (t.length - k) := by
  have := leV_lt (t.drop k) (fun x hx => h x (List.mem_of_mem_drop hx))
  simpa using this


theorem qsmall_any {w : World} {B g at_ : Nat} {l : List Nat} {er : Int} (hR : OcO w B g l at_ er) (n : Int) (_ : -9223372036854775808 ≤ n) (_ : n ≤ 9223372036854775807) :
    Calls Try.prog 68 #[.pointer (some ⟨g, 0, none⟩), .int .i64 n] w fun e w' => e = .returned (.int .u64 (leV (rdTake l at_ er (clampN n)).1 : Nat)) ∧ OcO w' B g l (rdTake l at_ er (clampN n)).2.1 (rdTake l at_ er (clampN n)).2.2 ∧ w.grownBy w' (some g) := by
  have hcl := clampN_le n
  have htk := qtake_any hR (if 8 < n then 8 else n) (by split <;> omega)
  rw [show (if 8 < n then 8 else n).toNat = clampN n by unfold clampN; split <;> omega] at htk
  have hlen := rdTake_len l at_ er (clampN n)
  have hby := rdTake_byte l at_ er (clampN n) (by obtain ⟨v, _, _, _, _, h, _⟩ := hR; exact h)
  generalize rdTake l at_ er (clampN n) = r at htk hlen hby ⊢
  obtain ⟨t, q⟩ := r
  simp only at htk hlen hby ⊢
  have H := Lib.hid htk
  clear htk
  go_enter Try.func68, Try.ntmps68
  go_upto_region 1 with (fail)
  go_cut [5] (fun v wr => ∃ A k, v = .slice A t.length k ∧ Own wr w.heap.size 5 (.slice A t.length k) (cu8 t) ∧ OcO wr B g l q.1 q.2 ∧ w.grownBy wr (some g))
  case first =>
    by_cases h8 : 8 < n
    · rw [if_pos h8] at H
      go_wp2_with (go_at_call 77; refine (H.out).mono ?_; rintro e w1 ⟨v1, rfl, ho1, hR1, hg1⟩; obtain ⟨A1, k1, rfl, _, _⟩ := ho1.form8)
      all_goals go_meet
      all_goals (case rel => exact ⟨A1, k1, rfl, ho1, hR1, hg1⟩)
    · rw [if_neg h8] at H
      go_wp2_with (go_at_call 77; refine (H.out).mono ?_; rintro e w1 ⟨v1, rfl, ho1, hR1, hg1⟩; obtain ⟨A1, k1, rfl, _, _⟩ := ho1.form8)
      all_goals go_meet
      all_goals (case rel => exact ⟨A1, k1, rfl, ho1, hR1, hg1⟩)
  case rest =>
    obtain ⟨A1, k1, rfl, ho1, hR1, hg1⟩ := hcut
    have hh1 := ho1.sli.hasn
    go_wp2
    go_loop [6, 7] (fun v i => ∃ k : Nat, k ≤ t.length ∧ i = .int .i64 ((k : Int) - 1) ∧ v = .int .u64 (leV (t.drop k) : Nat)) (fun _ i => (intOf i + 1).toNat)
    case atStart => exact ⟨t.length, Nat.le_refl _, rfl, by simp [leV]⟩
    case round =>
      obtain ⟨k, hk, rfl, rfl⟩ := hrel
      rcases k with _ | k
      · rw [List.drop_zero]
        go_wp2
        go_ret
        exact ⟨rfl, hR1, hg1⟩
      · obtain ⟨b, o, u, rfl, hb, hcell, hu⟩ := hh1.get (j := k) (by omega)
        obtain ⟨x, hxk⟩ : ∃ x, t[k]? = some x := ⟨_, List.getElem?_eq_getElem (by omega)⟩
        have hx' : x < 256 := hby x (List.mem_of_getElem? hxk)
        have hu' : u = .int .u8 (x : Nat) := by simpa [cu8, hxk] using hu.symm
        subst hu'
        have hs := leV_split t hxk
        have hst := be_step (Nat.lt_of_lt_of_le (leV_drop_lt t hby (k + 1)) (pow256_le (by omega))) hx'
        rw [← hs] at hst
        have HS := Lib.hid hst; clear hst hs hxk hu
        generalize leV (t.drop (k + 1)) = y at HS ⊢
        rw [show (((k + 1 : Nat) : Int) - 1) = (k : Int) by omega]
        have hkl : k < t.length := by omega
        go_wp2
        exact ⟨⟨k, by omega, by simp, by rw [HS.out]⟩, by simp [intOf]⟩

end Go.Proofs.Ytfbhiaoodompdaa
