/- octet: the reader's methods. -/
import Derived.Test.YtcmlnjohjjibnaaOctW
import Derived.Deep.QuietTactic
import Derived.BigQuiet
namespace Go.Proofs.Ytcmlnjohjjibnaa
open Go.RowKit
set_option maxRecDepth 100000
set_option maxHeartbeats 400000

theorem cu8_len (l : List Nat) : (cu8 l).length = l.length := by simp [cu8]
theorem cu8_cut (l : List Nat) (a n : Nat) : ((cu8 l).drop a).take n = cu8 ((l.drop a).take n) := by simp [cu8, List.map_take, List.map_drop]
/-- The reader at block g reads the bytes l, a row of its own; 'at_' of them are read; its error. -/
def RdO (w : World) (g : Nat) (l : List Nat) (at_ : Nat) (er : Int) : Prop :=
  ∃ v, w.heap[g]? = some (.cells #[v, .int .i64 at_, .int .i64 er] 56 (0, 0)) ∧ Own w 0 5 v (cu8 l) ∧ at_ ≤ l.length ∧ (∀ x ∈ l, x < 256) ∧ l.length ≤ 1099511627776
theorem RdO.lt {w : World} {g at_ : Nat} {l : List Nat} {er : Int} (h : RdO w g l at_ er) : g < w.heap.size := by
  obtain ⟨v, h1, _⟩ := h; exact (Array.getElem?_eq_some_iff.1 h1).1
theorem RdO.below {w w' : World} {g at_ : Nat} {l : List Nat} {er : Int} (h : RdO w g l at_ er) (hb : Below w.heap.size w w') : RdO w' g l at_ er := by
  have hg := h.lt
  obtain ⟨v, h1, h2, r⟩ := h
  exact ⟨v, (hb.block g hg).trans h1, h2.kept hb, r⟩
theorem RdO.drewN {w : World} {g at_ : Nat} {l : List Nat} {er : Int} (h : RdO w g l at_ er) (n : Nat) : RdO (w.drewN n) g l at_ er := h
/-- Another reader, or another struct, is written. -/
theorem RdO.only {w w' : World} {g g' at_ : Nat} {l : List Nat} {er : Int} {cs : Array Value} {t : TypeId} {fr : Nat × Nat} (h : RdO w g l at_ er) (hg' : w.heap[g']? = some (.cells cs t fr)) (ht : 5 ≠ t) (hg : w.grownBy w' (some g')) (hne : g ≠ g') : RdO w' g l at_ er := by
  have hlt := h.lt
  obtain ⟨v, h1, h2, r⟩ := h
  exact ⟨v, (hg.block g hlt (by simp; exact hne)).trans h1, h2.far hg' ht hg, r⟩
theorem RdO.blk {w : World} {g at_ : Nat} {l : List Nat} {er : Int} (h : RdO w g l at_ er) : ∃ cs, w.heap[g]? = some (.cells cs 56 (0, 0)) := by
  obtain ⟨v, h1, _⟩ := h; exact ⟨_, h1⟩
/-- A store into the reader's own struct. -/
theorem RdO.set1 {w : World} {g at_ : Nat} {l : List Nat} {er : Int} (h : RdO w g l at_ er) {n : Nat} (hn : n ≤ l.length) : RdO (w.setCell ⟨g, 1, none⟩ (.int .i64 n)) g l n er := by
  obtain ⟨v, h1, h2, _, r⟩ := h
  exact ⟨v, heap_setCell_same w g 1 _ _ _ h1, h2.far h1 (by decide) (grown_set w g 1 _), hn, r⟩
theorem RdO.set2 {w : World} {g at_ : Nat} {l : List Nat} {er e' : Int} (h : RdO w g l at_ er) : RdO (w.setCell ⟨g, 2, none⟩ (.int .i64 e')) g l at_ e' := by
  obtain ⟨v, h1, h2, r⟩ := h
  exact ⟨v, heap_setCell_same w g 2 _ _ _ h1, h2.far h1 (by decide) (grown_set w g 2 _), r⟩

theorem at_any {w : World} {g at_ : Nat} {l : List Nat} {er : Int} (hR : RdO w g l at_ er) :
    Calls Try.prog 24 #[.pointer (some ⟨g, 0, none⟩)] w fun e w' => e = .returned (.int .i64 at_) ∧ w = w' := by
  obtain ⟨v, h1, h2, _⟩ := hR
  obtain ⟨c0, c1, c2, hf⟩ := blk3 h1
  clear h1 h2 hf
  go_enter Try.func24, Try.ntmps24
  go_wp2
  go_ret
  exact ⟨rfl, rfl⟩

theorem err_any {w : World} {g at_ : Nat} {l : List Nat} {er : Int} (hR : RdO w g l at_ er) :
    Calls Try.prog 27 #[.pointer (some ⟨g, 0, none⟩)] w fun e w' => e = .returned (.int .i64 er) ∧ w = w' := by
  obtain ⟨v, h1, h2, _⟩ := hR
  obtain ⟨c0, c1, c2, hf⟩ := blk3 h1
  clear h1 h2 hf
  go_enter Try.func27, Try.ntmps27
  go_wp2
  go_ret
  exact ⟨rfl, rfl⟩

theorem left_any {w : World} {g at_ : Nat} {l : List Nat} {er : Int} (hR : RdO w g l at_ er) :
    Calls Try.prog 25 #[.pointer (some ⟨g, 0, none⟩)] w fun e w' => e = .returned (.int .i64 (l.length - at_ : Nat)) ∧ ∃ n, w' = w.drewN n := by
  obtain ⟨v, h1, h2o, hal, _, hlen⟩ := hR
  have h2 := h2o.sli
  clear h2o
  obtain ⟨A, c, rfl, _⟩ := h2
  obtain ⟨c0, c1, c2, hf⟩ := blk3 h1
  have e1 : (cu8 l).length = l.length := by simp [cu8]
  rw [e1] at c0
  clear h1 hf e1
  go_enter Try.func25, Try.ntmps25
  go_wp2
  go_quiet (fail)
  go_wp2
  go_ret
  exact ⟨by simp; omega, _, rfl⟩


theorem new_any (v : Value) (l : List Nat) (w : World) (hl : Sli w w.heap.size v (cu8 l)) (hx : ∀ x ∈ l, x < 256) (hn : l.length ≤ 1099511627776) :
    Calls Try.prog 11 #[v] w fun e w' => ∃ g, e = .returned (.pointer (some ⟨g, 0, none⟩)) ∧ RdO w' g l 0 0 ∧ w.heap.size ≤ g ∧ Below w.heap.size w w' := by
  go_enter Try.func11, Try.ntmps11
  go_wp2_with (go_at_call 34; refine (clone_any v l _ hl hn).mono ?_; rintro e w1 ⟨v1, rfl, hown, hb⟩; obtain ⟨A1, k1, rfl, _, _⟩ := hown.form)
  go_ret
  exact ⟨w1.heap.size, rfl, ⟨_, heap_alloc_new w1 _, (hown.mono (Nat.zero_le _)).alloc _, Nat.zero_le _, hx, hn⟩, hb.size, hb.alloc hb.size _⟩

theorem next_any {w : World} {g at_ : Nat} {l : List Nat} {er : Int} (hR : RdO w g l at_ er) (n : Nat) (hn : n ≤ 9223372036854775807) :
    Calls Try.prog 36 #[.pointer (some ⟨g, 0, none⟩), .int .i64 n] w fun e w' => ∃ v', e = .returned v' ∧ Sli w' w'.heap.size v' (cu8 (rdTake l at_ er n).1) ∧ RdO w' g l (rdTake l at_ er n).2.1 (rdTake l at_ er n).2.2 ∧ w.grownBy w' (some g) := by
  obtain ⟨v, h1, h2o, hal, hx, hlen⟩ := id hR
  have h2 := h2o.sli
  obtain ⟨c0, c1, c2, hf⟩ := blk3 h1
  by_cases he : er = 0
  · subst he
    by_cases hs : l.length - at_ < n
    · have hr : rdTake l at_ 0 n = ([], at_, 3) := by simp [rdTake, hs]
      rw [hr]; clear hr
      clear h1 h2
      go_enter Try.func36, Try.ntmps36
      go_wp2_with (go_at_call 25; refine (left_any hR).mono ?_; rintro e w1 ⟨rfl, nd, rfl⟩)
      go_ret
      exact ⟨_, rfl, Sli.nil _ _, (hR.drewN nd).set2, grown_trans (grown_drewN (World.grownBy.refl _ _) nd) (grown_set _ _ _ _)⟩
    · have hr : rdTake l at_ 0 n = ((l.drop at_).take n, at_ + n, 0) := by simp [rdTake, hs]
      rw [hr]; clear hr
      obtain ⟨A, c, rfl, hh, hlc, hcm, hnc⟩ := h2
      have e1 : (cu8 l).length = l.length := by simp [cu8]
      have ho' := Lib.hid (fun (u : Value) => (h2o.far h1 (by decide) (grown_set w g 1 u)))
      rw [e1] at c0 hlc
      clear h1 e1 h2o
      go_enter Try.func36, Try.ntmps36
      go_wp2_with (go_at_call 25; refine (left_any hR).mono ?_; rintro e w1 ⟨rfl, nd, rfl⟩)
      have hn2 : at_ + n ≤ l.length := by omega
      have cc : (w.setCell ⟨g, 1, none⟩ (.int .i64 ((at_ : Int) + n))).cell? ⟨g, 0, none⟩ = some (.slice A l.length c) := by rw [World.cell?_setCell_other _ _ _ _ (by simp)]; exact c0
      have cd : (w.setCell ⟨g, 1, none⟩ (.int .i64 ((at_ : Int) + n))).cell? ⟨g, 1, none⟩ = some (.int .i64 ((at_ : Int) + n)) := by rw [World.cell?_setCell_same w _ _ c1]
      have hlc2 : l.length ≤ c := hlc
      go_quiet (fail)
      go_wp2
      all_goals (go_ret; refine ⟨_, rfl, ?_, ((hR.drewN nd).set1 hn2).drewN nq, grown_drewN (grown_trans (grown_drewN (World.grownBy.refl _ _) nd) (grown_set _ _ _ _)) nq⟩)
      · exact cu8_cut l at_ n ▸ Sli.tip (by rw [cu8_len]; exact hlc) at_ n (by rw [cu8_len]; omega) ‹_›
      · have h3 := Sli.mid2 (ho'.out (.int .i64 ((at_ : Int) + n))).sli at_ n (by rw [cu8_len]; omega)
        rw [cu8_cut] at h3
        exact h3
  · have hr : rdTake l at_ er n = ([], at_, er) := by simp [rdTake, he]
    rw [hr]; clear hr
    have hne : (er != 0) = true := by simpa using he
    clear h1 h2
    go_enter Try.func36, Try.ntmps36
    go_wp2
    go_ret
    exact ⟨_, rfl, Sli.nil _ _, hR, World.grownBy.refl _ _⟩

/-- 'r.b[r.at:]' as the walk spells it. -/
theorem Sli.rest {w : World} {B c : Nat} {A : Option Addr} {l : List Nat} (hh : Has w B A (cu8 l).length (cu8 l)) (hcm : c ≤ maxLen) (hlc : l.length ≤ c) (hnc : A = none → c = 0) (at_ : Nat) (h : at_ ≤ l.length) :
    (c = at_ → Sli w B (.slice A (l.length - at_) 0) (cu8 (l.drop at_))) ∧ (¬ c = at_ → Sli w B (.slice (A.map fun x => x.add at_) (l.length - at_) (c - at_)) (cu8 (l.drop at_))) := by
  have e : cu8 (l.drop at_) = ((cu8 l).drop at_).take (l.length - at_) := by rw [cu8_cut, List.take_of_length_le (by simp)]
  rw [e]
  exact ⟨fun he => Sli.tip (by rw [cu8_len]; exact hlc) _ _ (by rw [cu8_len]; omega) he, fun _ => Sli.mid hh hcm (by rw [cu8_len]; exact hlc) hnc at_ (l.length - at_) (by rw [cu8_len]; omega)⟩

theorem num_any {w : World} {g at_ : Nat} {l : List Nat} {er : Int} (hR : RdO w g l at_ er) (most : Nat) :
    Calls Try.prog 13 #[.pointer (some ⟨g, 0, none⟩), .int .u64 most] w fun e w' => e = .returned (.int .u64 ((rdNum l at_ er most).1 : Nat)) ∧ RdO w' g l (rdNum l at_ er most).2.1 (rdNum l at_ er most).2.2 ∧ w.grownBy w' (some g) := by
  obtain ⟨v, h1, h2o, hal, hx, hlen⟩ := id hR
  have h2 := h2o.sli
  obtain ⟨c0, c1, c2, hf⟩ := blk3 h1
  by_cases he : er = 0
  · subst he
    obtain ⟨A, c, rfl, hh, hlc, hcm, hnc⟩ := h2
    rw [cu8_len] at c0 hlc
    obtain ⟨hs1, hs2⟩ := Sli.rest hh hcm hlc hnc at_ hal
    have hxd : ∀ x ∈ l.drop at_, x < 256 := fun x hx' => hx x (List.mem_of_mem_drop hx')
    have hld : (l.drop at_).length ≤ 1099511627776 := by simp; omega
    have hok := vrd_ok (l.drop at_) 0 0 (by omega) (by simp) hxd
    obtain ⟨hv1, hv2, _⟩ := vrd_err (l.drop at_) 0 0
    unfold rdNum
    rw [if_pos rfl]
    have hvar := fun v (hv : Sli w w.heap.size v (cu8 (l.drop at_))) (k : Nat) => varint_any v (l.drop at_) (w.drewN k) w.heap.size hv hxd hld
    generalize vrd 0 0 (l.drop at_) = q at hok hv1 hv2 hvar ⊢
    obtain ⟨n, s, e⟩ := q
    simp only at hok hv1 hv2 hvar ⊢
    have hsl : (c = at_ → ∀ k : Nat, Calls Try.prog 35 #[.slice A (l.length - at_) 0] (w.drewN k) fun e' w' => e' = .returned (.tuple #[.int .u64 n, .int .i64 s, .int .i64 e]) ∧ w.drewN k = w') ∧ (¬ c = at_ → ∀ k : Nat, Calls Try.prog 35 #[.slice (A.map fun x => x.add at_) (l.length - at_) (c - at_)] (w.drewN k) fun e' w' => e' = .returned (.tuple #[.int .u64 n, .int .i64 s, .int .i64 e]) ∧ w.drewN k = w') :=
      ⟨fun h => hvar _ (hs1 h), fun h => hvar _ (hs2 h)⟩
    have H := Lib.hid hsl
    clear hvar hsl hs1 hs2 hh h1 hxd hld hnc
    by_cases hz : e = 0
    · subst hz
      simp only [List.length_drop] at hok
      obtain ⟨o1, o2, o3, o4⟩ := hok trivial
      clear hok hv1 hv2
      have hc : ¬ c = at_ := by omega
      have HC := Lib.hid (H.out.2 hc)
      by_cases hm : most < n
      · simp only [hm, if_true]
        go_enter Try.func13, Try.ntmps13
        go_wp2
        go_quiet ((go_at_call 35; exact quietLN (HC.out _)))
        go_wp2
        go_ret
        exact ⟨rfl, (hR.drewN _).set2, grown_trans (grown_drewN (World.grownBy.refl _ _) _) (grown_set _ _ _ _)⟩
      · simp only [hm, if_false]
        have hs2 : at_ + s ≤ l.length := by omega
        go_enter Try.func13, Try.ntmps13
        go_wp2
        go_quiet ((go_at_call 35; exact quietLN (HC.out _)))
        go_wp2
        go_ret
        exact ⟨rfl, (hR.drewN _).set1 hs2, grown_trans (grown_drewN (World.grownBy.refl _ _) _) (grown_set _ _ _ _)⟩
    · simp only [hz, if_false]
      clear hok hv2
      have hzb : (e == 0) = false := by simpa using hz
      have hzn : (e != 0) = true := by simpa using hz
      clear hz
      by_cases hc : c = at_
      · have HC := Lib.hid (H.out.1 hc)
        have HE : (c = at_) = True := eq_true hc
        have HZ : c - at_ = 0 := by omega
        clear hc
        go_enter Try.func13, Try.ntmps13
        go_wp2
        go_quiet ((go_at_call 35; exact quietLN (HC.out _)))
        go_wp2
        go_ret
        exact ⟨rfl, (hR.drewN _).set2, grown_trans (grown_drewN (World.grownBy.refl _ _) _) (grown_set _ _ _ _)⟩
      · have HC := Lib.hid (H.out.2 hc)
        go_enter Try.func13, Try.ntmps13
        go_wp2
        go_quiet ((go_at_call 35; exact quietLN (HC.out _)))
        go_wp2
        go_ret
        exact ⟨rfl, (hR.drewN _).set2, grown_trans (grown_drewN (World.grownBy.refl _ _) _) (grown_set _ _ _ _)⟩
  · have hr : rdNum l at_ er most = (0, at_, er) := by simp [rdNum, he]
    rw [hr]; clear hr
    have hne : (er != 0) = true := by simpa using he
    clear h1 h2
    go_enter Try.func13, Try.ntmps13
    go_wp2
    go_ret
    exact ⟨rfl, hR, World.grownBy.refl _ _⟩

end Go.Proofs.Ytcmlnjohjjibnaa
