/- The reference's reader of bytes. -/
import Derived.Test.YtcmlnjohjjibnaaOctV
namespace Go.Proofs.Ytcmlnjohjjibnaa
open Go.RowKit
set_option maxRecDepth 100000
set_option maxHeartbeats 800000

/-- The reference's reader at block g: the bytes lie below block B. -/
def OcO (w : World) (B g : Nat) (l : List Nat) (at_ : Nat) (er : Int) : Prop :=
  ∃ v, w.heap[g]? = some (.cells #[v, .int .i64 at_, .int .i64 er] 39 (0, 0)) ∧ Sli w B v (cu8 l) ∧ B ≤ g ∧ at_ ≤ l.length ∧ (∀ x ∈ l, x < 256) ∧ l.length ≤ 1099511627776
theorem OcO.lt {w : World} {B g at_ : Nat} {l : List Nat} {er : Int} (h : OcO w B g l at_ er) : g < w.heap.size := by
  obtain ⟨v, h1, _⟩ := h; exact (Array.getElem?_eq_some_iff.1 h1).1
theorem OcO.only {w w' : World} {B g g' at_ : Nat} {l : List Nat} {er : Int} (h : OcO w B g l at_ er) (hg : w.grownBy w' (some g')) (hne : g ≠ g') (hB : B ≤ g') : OcO w' B g l at_ er := by
  have hlt := h.lt
  obtain ⟨v, h1, h2, hBg, r⟩ := h
  exact ⟨v, (hg.block g hlt (by simp; exact hne)).trans h1, h2.below (below_of_only hg hB (by omega)), hBg, r⟩
theorem OcO.below {w w' : World} {B g at_ : Nat} {l : List Nat} {er : Int} (h : OcO w B g l at_ er) (hb : Below w.heap.size w w') : OcO w' B g l at_ er := by
  have hlt := h.lt
  obtain ⟨v, h1, h2, hBg, r⟩ := h
  exact ⟨v, (hb.block g hlt).trans h1, h2.below (hb.mono (by omega)), hBg, r⟩
theorem OcO.blk {w : World} {B g at_ : Nat} {l : List Nat} {er : Int} (h : OcO w B g l at_ er) : ∃ cs, w.heap[g]? = some (.cells cs 39 (0, 0)) := by
  obtain ⟨v, h1, _⟩ := h; exact ⟨_, h1⟩
theorem OcO.drewN {w : World} {B g at_ : Nat} {l : List Nat} {er : Int} (h : OcO w B g l at_ er) (n : Nat) : OcO (w.drewN n) B g l at_ er := h
theorem OcO.set1 {w : World} {B g at_ : Nat} {l : List Nat} {er : Int} (h : OcO w B g l at_ er) {n : Nat} (hn : n ≤ l.length) : OcO (w.setCell ⟨g, 1, none⟩ (.int .i64 n)) B g l n er := by
  obtain ⟨v, h1, h2, hB, _, r⟩ := h
  exact ⟨v, heap_setCell_same w g 1 _ _ _ h1, h2.keep fun p hp => World.cell?_setCell_other w _ p _ (fun e => by subst e; simp at hp; omega), hB, hn, r⟩
theorem OcO.set2 {w : World} {B g at_ : Nat} {l : List Nat} {er e' : Int} (h : OcO w B g l at_ er) : OcO (w.setCell ⟨g, 2, none⟩ (.int .i64 e')) B g l at_ e' := by
  obtain ⟨v, h1, h2, hB, r⟩ := h
  exact ⟨v, heap_setCell_same w g 2 _ _ _ h1, h2.keep fun p hp => World.cell?_setCell_other w _ p _ (fun e => by subst e; simp at hp; omega), hB, r⟩

theorem qnew_any (v : Value) (l : List Nat) (w : World) (B : Nat) (hl : Sli w B v (cu8 l)) (hB : B ≤ w.heap.size) (hx : ∀ x ∈ l, x < 256) (hn : l.length ≤ 1099511627776) :
    Calls Try.prog 12 #[v] w fun e w' => ∃ g, e = .returned (.pointer (some ⟨g, 0, none⟩)) ∧ OcO w' B g l 0 0 ∧ w.heap.size ≤ g ∧ Below w.heap.size w w' := by
  obtain ⟨A, c, rfl, hlc, hcm⟩ := hl.form8
  go_enter Try.func12, Try.ntmps12
  go_wp2
  go_ret
  exact ⟨w.heap.size, rfl, ⟨_, heap_alloc_new w _, hl.keep fun p hp => World.cell?_alloc_lt w _ p (by omega), hB, Nat.zero_le _, hx, hn⟩, Nat.le_refl _, (Below.refl _ _).alloc (Nat.le_refl _) _⟩

theorem qleft_any {w : World} {B g at_ : Nat} {l : List Nat} {er : Int} (hR : OcO w B g l at_ er) :
    Calls Try.prog 26 #[.pointer (some ⟨g, 0, none⟩)] w fun e w' => e = .returned (.int .i64 (l.length - at_ : Nat)) ∧ ∃ n, w' = w.drewN n := by
  obtain ⟨v, h1, h2, hB, hal, _, hlen⟩ := hR
  obtain ⟨A, c, rfl, _⟩ := h2.form8
  obtain ⟨c0, c1, c2, hf⟩ := blk3 h1
  clear h1 h2 hf
  go_enter Try.func26, Try.ntmps26
  go_wp2
  go_quiet (fail)
  go_wp2
  go_ret
  exact ⟨by simp; omega, _, rfl⟩

theorem u8_127 (x : Nat) (h : x < 256) : bits .and .u8 (x : Int) 127 = ((x % 128 : Nat) : Int) := by
  rw [show (127 : Int) = ((127 : Nat) : Int) from rfl, u8_and_nat _ _ h (by omega), nat_mask7]

theorem or_step7 {acc x k : Nat} (hx : x < 256) (hk : k ≤ 9) (hacc : acc < 2 ^ (7 * k)) (h9 : k = 9 → x ≤ 1) :
    bits .or .u64 (acc : Int) (IntKind.u64.wrap (IntKind.u64.wrap (bits .and .u8 (x : Int) 127) * 2 ^ (7 * k))) = ((acc + x % 128 * 2 ^ (7 * k) : Nat) : Int) ∧ acc + x % 128 * 2 ^ (7 * k) < 2 ^ (7 * k + 7) ∧ acc + x % 128 * 2 ^ (7 * k) < 18446744073709551616 := by
  have h := or_step hx hk hacc h9
  have e1 : bits .andNot .u8 (x : Int) 128 = ((x % 128 : Nat) : Int) := by
    rw [show (128 : Int) = ((128 : Nat) : Int) from rfl, u8_andNot_nat _ _ hx (by omega), andNot128 x hx]
  rw [e1] at h
  rw [u8_127 x hx]
  exact h

theorem qnum_any {w : World} {B g at_ : Nat} {l : List Nat} {er : Int} (hR : OcO w B g l at_ er) (most : Nat) :
    Calls Try.prog 14 #[.pointer (some ⟨g, 0, none⟩), .int .u64 most] w fun e w' => e = .returned (.int .u64 ((rdNum l at_ er most).1 : Nat)) ∧ OcO w' B g l (rdNum l at_ er most).2.1 (rdNum l at_ er most).2.2 ∧ w.grownBy w' (some g) := by
  obtain ⟨v, h1, h2, hB, hal, hx, hlen⟩ := id hR
  obtain ⟨A, c, rfl, hlc, hcm⟩ := h2.form8
  obtain ⟨c0, c1, c2, hf⟩ := blk3 h1
  by_cases he : er = 0
  · subst he
    clear h1
    go_enter Try.func14, Try.ntmps14
    go_wp2
    go_loopw [5, 6] (fun v i wr => ∃ (k acc q : Nat), at_ + k ≤ l.length ∧ k ≤ 9 ∧ i = .int .i64 k ∧ v = .int .u64 acc ∧ acc < 2 ^ (7 * k) ∧ Hid (vrd k acc (l.drop (at_ + k)) = vrd 0 0 (l.drop at_)) ∧ wr = w.drewN q) (fun _ i _ => l.length - at_ - (intOf i).toNat)
    case atStart => exact ⟨0, 0, 0, by omega, by omega, rfl, rfl, by simp, rfl, rfl⟩
    case round =>
      obtain ⟨k, acc, q, hk, hk9, rfl, rfl, hacc, hv, rfl⟩ := hrel
      by_cases hlt : at_ + k < l.length
      · obtain ⟨b, o, u, rfl, hb, hcell, hu⟩ := h2.hasn.get hlt
        obtain ⟨x, hxk⟩ : ∃ x, l[at_ + k]? = some x := ⟨_, List.getElem?_eq_getElem hlt⟩
        have hx' : x < 256 := hx x (List.mem_of_getElem? hxk)
        have hu' : u = .int .u8 (x : Nat) := by simpa [cu8, hxk] using hu.symm
        subst hu'
        have hdrop : l.drop (at_ + k) = x :: l.drop (at_ + k + 1) := by
          obtain ⟨hk, e⟩ := List.getElem?_eq_some_iff.1 hxk
          rw [List.drop_eq_getElem_cons hk, e]
        have hs := hv.out
        rw [hdrop, vrd] at hs
        have hand := u8_127 x hx'
        have hcx : w.cell? ⟨b, o + (at_ + k), none⟩ = some (.int .u8 (x : Nat)) := hcell
        have hw1 : IntKind.i64.wrap ((at_ : Int) + k) = (at_ : Int) + k := IntWalk.i64_in _ (by omega)
        have hw2 : ((at_ : Int) + k).toNat = at_ + k := by omega
        have hw3 : (0 : Int) ≤ (at_ : Int) + k := by omega
        have hw4 : ((at_ : Int) + k) < (l.length : Int) := by omega
        have HW := Lib.hid (And.intro hw1 hw2)
        clear hw1 hw2 hcell
        by_cases hbad : (k = 9 ∧ 1 < x) ∨ (0 < k ∧ x = 0)
        · rw [if_pos hbad] at hs
          have hr : rdNum l at_ 0 most = (0, at_, 2) := by simp [rdNum, ← hs]
          have HR := Lib.hid hr
          clear hs hdrop hxk hu hr hv hand
          go_wp2
          go_quiet (fail)
          go_wp2
          obtain ⟨hw1, hw2⟩ := HW.out
          go_quiet (fail)
          clear hw1 hw2
          go_wp2
          all_goals (try simp only [beq_iff_eq, beq_eq_false_iff_ne, ne_eq] at *)
          all_goals first | (exfalso; omega) | skip
          all_goals (go_ret; rw [HR.out]; exact ⟨rfl, (hR.drewN _).set2, grown_trans (grown_drewN (World.grownBy.refl _ _) _) (grown_set _ _ _ _)⟩)
        · rw [if_neg hbad] at hs
          obtain ⟨e1, e2, e3⟩ := or_step7 (acc := acc) hx' hk9 hacc (by omega)
          have E1 := Lib.hid e1; have E2 := Lib.hid e2; have HB := Lib.hid hbad
          have hb1 : k = 9 → x ≤ 1 := by omega
          have HB1 := Lib.hid hb1; clear hb1
          clear e1 e2 hand hbad hacc
          by_cases h128 : x < 128
          · rw [if_pos h128] at hs
            have hr : rdNum l at_ 0 most = if most < acc + x % 128 * 2 ^ (7 * k) then (0, at_, 4) else (acc + x % 128 * 2 ^ (7 * k), at_ + (k + 1), 0) := by simp [rdNum, ← hs]
            clear hs hv hdrop hxk hu
            have hal2 : at_ + (k + 1) ≤ l.length := by omega
            have HR := Lib.hid hr; clear hr
            have e1 := E1.out
            generalize hN : acc + x % 128 * 2 ^ (7 * k) = N at e1 E1 E2 e3 HR
            clear hN E1 E2
            by_cases hm : most < N
            all_goals
              by_cases h9 : k = 9
              · have hx1 := HB1.out h9
                subst h9
                clear HB1
                simp only [Nat.reduceMul, Int.reducePow] at e1
                go_wp2
                go_quiet (fail)
                go_wp2
                obtain ⟨hw1, hw2⟩ := HW.out
                go_quiet (fail)
                clear hw1 hw2
                go_wp2
                all_goals (have hbb := HB.out; clear HB; try simp only [beq_iff_eq, beq_eq_false_iff_ne, ne_eq] at *)
                all_goals first | (exfalso; omega) | skip
                all_goals (go_ret; rw [HR.out])
                all_goals first
                  | (rw [if_pos (by assumption)]; exact ⟨rfl, (hR.drewN _).set2, grown_trans (grown_drewN (World.grownBy.refl _ _) _) (grown_set _ _ _ _)⟩)
                  | (rw [if_neg (by assumption)]; exact ⟨by simp, (hR.drewN _).set1 hal2, grown_trans (grown_drewN (World.grownBy.refl _ _) _) (grown_set _ _ _ _)⟩)
              · go_wp2
                go_quiet (fail)
                go_wp2
                obtain ⟨hw1, hw2⟩ := HW.out
                go_quiet (fail)
                clear hw1 hw2
                go_wp2
                all_goals (have hbb := HB.out; clear HB; try simp only [beq_iff_eq, beq_eq_false_iff_ne, ne_eq] at *)
                all_goals first | (exfalso; omega) | skip
                all_goals (go_ret; rw [HR.out])
                all_goals first
                  | (rw [if_pos (by assumption)]; exact ⟨rfl, (hR.drewN _).set2, grown_trans (grown_drewN (World.grownBy.refl _ _) _) (grown_set _ _ _ _)⟩)
                  | (rw [if_neg (by assumption)]; exact ⟨by simp, (hR.drewN _).set1 hal2, grown_trans (grown_drewN (World.grownBy.refl _ _) _) (grown_set _ _ _ _)⟩)
          · rw [if_neg h128] at hs
            have HS := Lib.hid hs
            clear hs hv hdrop hxk hu
            go_wp2
            go_quiet (fail)
            go_wp2
            obtain ⟨hw1, hw2⟩ := HW.out
            go_quiet (fail)
            clear hw1 hw2
            go_wp2
            all_goals (try simp only [beq_iff_eq, beq_eq_false_iff_ne, ne_eq] at *)
            all_goals first | (exfalso; have := HB.out; omega) | skip
            all_goals exact ⟨⟨k + 1, _, _, by omega, by have := HB.out; omega, by simp, by rw [E1.out], E2.out, HS.out, rfl⟩, by simp [intOf]; omega⟩
      · have hs := hv.out
        rw [List.drop_eq_nil_of_le (by omega), vrd] at hs
        have hr : rdNum l at_ 0 most = (0, at_, 3) := by simp [rdNum, ← hs]
        have HR := Lib.hid hr
        clear hs hr hv
        go_wp2
        go_quiet (fail)
        go_wp2
        go_ret
        rw [HR.out]
        exact ⟨rfl, (hR.drewN _).set2, grown_trans (grown_drewN (World.grownBy.refl _ _) _) (grown_set _ _ _ _)⟩
  · have hr : rdNum l at_ er most = (0, at_, er) := by simp [rdNum, he]
    rw [hr]; clear hr
    have hne : (er != 0) = true := by simpa using he
    clear h1 h2
    go_enter Try.func14, Try.ntmps14
    go_wp2
    go_ret
    exact ⟨rfl, hR, World.grownBy.refl _ _⟩

end Go.Proofs.Ytcmlnjohjjibnaa
