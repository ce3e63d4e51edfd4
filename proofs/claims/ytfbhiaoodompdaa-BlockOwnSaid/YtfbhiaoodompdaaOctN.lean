/- octet: the parts that later packages use: Small, New, the reader's Small. -/
import Derived.Test.YtfbhiaoodompdaaRows
import Derived.Test.YtfbhiaoodompdaaByt
import Derived.Test.YtfbhiaoodompdaaClone
import Derived.Test.YtfbhiaoodompdaaKit
import Derived.Test.YtfbhiaoodompdaaOct
import Derived.Deep.QuietTactic
import Derived.BigQuiet
import Derived.Deep.RegionWith
namespace Go.Proofs.Ytfbhiaoodompdaa
open Go.RowKit
set_option maxRecDepth 100000
set_option maxHeartbeats 400000

theorem clamp_any (n : Int) (w : World) :
    Calls Try.prog 74 #[.int .i64 n] w fun e w' => e = .returned (.int .i64 (clampN n : Nat)) ∧ w = w' := by
  go_enter Try.func74, Try.ntmps74
  go_wp2
  all_goals (go_ret; exact ⟨by simp [clampN]; omega, rfl⟩)

/-- The reader at block g reads the bytes l, a row of its own; 'at_' of them are read; its error. -/
def RdO (w : World) (g : Nat) (l : List Nat) (at_ : Nat) (er : Int) : Prop :=
  ∃ v, w.heap[g]? = some (.cells #[v, .int .i64 at_, .int .i64 er] 82 (0, 0)) ∧ Own w 0 5 v (cu8 l) ∧ at_ ≤ l.length ∧ (∀ x ∈ l, x < 256) ∧ l.length ≤ 1099511627776
theorem RdO.lt {w : World} {g at_ : Nat} {l : List Nat} {er : Int} (h : RdO w g l at_ er) : g < w.heap.size := by
  obtain ⟨v, h1, _⟩ := h; exact (Array.getElem?_eq_some_iff.1 h1).1
theorem RdO.below {w w' : World} {g at_ : Nat} {l : List Nat} {er : Int} (h : RdO w g l at_ er) (hb : Below w.heap.size w w') : RdO w' g l at_ er := by
  have hg := h.lt
  obtain ⟨v, h1, h2, r⟩ := h
  exact ⟨v, (hb.block g hg).trans h1, h2.kept hb, r⟩
theorem RdO.drewN {w : World} {g at_ : Nat} {l : List Nat} {er : Int} (h : RdO w g l at_ er) (n : Nat) : RdO (w.drewN n) g l at_ er := h
/-- Another reader, or another struct, is written. -/
theorem RdO.only {w w' : World} {g g' at_ : Nat} {l : List Nat} {er : Int} {cs : Array Value} {t : TypeId} {fr : Nat × Nat} (h : RdO w g l at_ er) (hg' : w.heap[g']? = some (.cells cs t fr)) (ht : 5 ≠ t) (hg : w.grownBy w' (some g')) (hne : g ≠ g') : RdO w' g l at_ er := by
  have hlt := h.lt
  obtain ⟨v, h1, h2, r⟩ := h
  exact ⟨v, (hg.block g hlt (by simp; exact hne)).trans h1, h2.far hg' ht hg, r⟩
theorem RdO.blk {w : World} {g at_ : Nat} {l : List Nat} {er : Int} (h : RdO w g l at_ er) : ∃ cs, w.heap[g]? = some (.cells cs 82 (0, 0)) := by
  obtain ⟨v, h1, _⟩ := h; exact ⟨_, h1⟩
/-- A store into the reader's own struct. -/
theorem RdO.set1 {w : World} {g at_ : Nat} {l : List Nat} {er : Int} (h : RdO w g l at_ er) {n : Nat} (hn : n ≤ l.length) : RdO (w.setCell ⟨g, 1, none⟩ (.int .i64 n)) g l n er := by
  obtain ⟨v, h1, h2, _, r⟩ := h
  exact ⟨v, heap_setCell_same w g 1 _ _ _ h1, h2.far h1 (by decide) (grown_set w g 1 _), hn, r⟩
theorem RdO.set2 {w : World} {g at_ : Nat} {l : List Nat} {er e' : Int} (h : RdO w g l at_ er) : RdO (w.setCell ⟨g, 2, none⟩ (.int .i64 e')) g l at_ e' := by
  obtain ⟨v, h1, h2, r⟩ := h
  exact ⟨v, heap_setCell_same w g 2 _ _ _ h1, h2.far h1 (by decide) (grown_set w g 2 _), r⟩

theorem left_any {w : World} {g at_ : Nat} {l : List Nat} {er : Int} (hR : RdO w g l at_ er) :
    Calls Try.prog 79 #[.pointer (some ⟨g, 0, none⟩)] w fun e w' => e = .returned (.int .i64 (l.length - at_ : Nat)) ∧ ∃ n, w' = w.drewN n := by
  obtain ⟨v, h1, h2o, hal, _, hlen⟩ := hR
  have h2 := h2o.sli
  clear h2o
  obtain ⟨A, c, rfl, _⟩ := h2
  obtain ⟨c0, c1, c2, hf⟩ := blk3 h1
  have e1 : (cu8 l).length = l.length := by simp [cu8]
  rw [e1] at c0
  clear h1 hf e1
  go_enter Try.func79, Try.ntmps79
  go_wp2
  go_quiet (fail)
  go_wp2
  go_ret
  exact ⟨by simp; omega, _, rfl⟩


theorem new_any (v : Value) (l : List Nat) (w : World) (hl : Sli w w.heap.size v (cu8 l)) (hx : ∀ x ∈ l, x < 256) (hn : l.length ≤ 1099511627776) :
    Calls Try.prog 63 #[v] w fun e w' => ∃ g, e = .returned (.pointer (some ⟨g, 0, none⟩)) ∧ RdO w' g l 0 0 ∧ w.heap.size ≤ g ∧ Below w.heap.size w w' := by
  go_enter Try.func63, Try.ntmps63
  go_wp2_with (go_at_call 75; refine (clone_any v l _ hl hn).mono ?_; rintro e w1 ⟨v1, rfl, hown, hb⟩; obtain ⟨A1, k1, rfl, _, _⟩ := hown.form)
  go_ret
  exact ⟨w1.heap.size, rfl, ⟨_, heap_alloc_new w1 _, (hown.mono (Nat.zero_le _)).alloc _, Nat.zero_le _, hx, hn⟩, hb.size, hb.alloc hb.size _⟩

theorem next_any {w : World} {g at_ : Nat} {l : List Nat} {er : Int} (hR : RdO w g l at_ er) (n : Nat) (hn : n ≤ 9223372036854775807) :
    Calls Try.prog 76 #[.pointer (some ⟨g, 0, none⟩), .int .i64 n] w fun e w' => ∃ v', e = .returned v' ∧ Sli w' w'.heap.size v' (cu8 (rdTake l at_ er n).1) ∧ RdO w' g l (rdTake l at_ er n).2.1 (rdTake l at_ er n).2.2 ∧ w.grownBy w' (some g) := by
  obtain ⟨v, h1, h2o, hal, hx, hlen⟩ := id hR
  have h2 := h2o.sli
  obtain ⟨c0, c1, c2, hf⟩ := blk3 h1
  by_cases he : er = 0
  · subst he
    by_cases hs : l.length - at_ < n
    · have hr : rdTake l at_ 0 n = ([], at_, 3) := by simp [rdTake, hs]
      rw [hr]; clear hr
      clear h1 h2
      go_enter Try.func76, Try.ntmps76
      go_wp2_with (go_at_call 79; refine (left_any hR).mono ?_; rintro e w1 ⟨rfl, nd, rfl⟩)
      go_ret
      exact ⟨_, rfl, Sli.nil _ _, (hR.drewN nd).set2, grown_trans (grown_drewN (World.grownBy.refl _ _) nd) (grown_set _ _ _ _)⟩
    · have hr : rdTake l at_ 0 n = ((l.drop at_).take n, at_ + n, 0) := by simp [rdTake, hs]
      rw [hr]; clear hr
      obtain ⟨A, c, rfl, hh, hlc, hcm, hnc⟩ := h2
      have e1 : (cu8 l).length = l.length := by simp [cu8]
      have ho' := Lib.hid (fun (u : Value) => (h2o.far h1 (by decide) (grown_set w g 1 u)))
      rw [e1] at c0 hlc
      clear h1 e1 h2o
      go_enter Try.func76, Try.ntmps76
      go_wp2_with (go_at_call 79; refine (left_any hR).mono ?_; rintro e w1 ⟨rfl, nd, rfl⟩)
      have hn2 : at_ + n ≤ l.length := by omega
      have cc : (w.setCell ⟨g, 1, none⟩ (.int .i64 ((at_ : Int) + n))).cell? ⟨g, 0, none⟩ = some (.slice A l.length c) := by rw [World.cell?_setCell_other _ _ _ _ (by simp)]; exact c0
      have cd : (w.setCell ⟨g, 1, none⟩ (.int .i64 ((at_ : Int) + n))).cell? ⟨g, 1, none⟩ = some (.int .i64 ((at_ : Int) + n)) := by rw [World.cell?_setCell_same w _ _ c1]
      have hlc2 : l.length ≤ c := hlc
      go_quiet (fail)
      go_wp2
      all_goals (go_ret; refine ⟨_, rfl, ?_, ((hR.drewN nd).set1 hn2).drewN nq, grown_drewN (grown_trans (grown_drewN (World.grownBy.refl _ _) nd) (grown_set _ _ _ _)) nq⟩)
      · exact cu8_cut l at_ n ▸ Sli.tip (by rw [cu8_len]; exact hlc) at_ n (by rw [cu8_len]; omega) ‹_›
      · have h3 := Sli.mid2 (ho'.out (.int .i64 ((at_ : Int) + n))).sli at_ n (by rw [cu8_len]; omega)
        rw [cu8_cut] at h3
        exact h3
  · have hr : rdTake l at_ er n = ([], at_, er) := by simp [rdTake, he]
    rw [hr]; clear hr
    have hne : (er != 0) = true := by simpa using he
    clear h1 h2
    go_enter Try.func76, Try.ntmps76
    go_wp2
    go_ret
    exact ⟨_, rfl, Sli.nil _ _, hR, World.grownBy.refl _ _⟩

theorem rsmall_any {w : World} {g at_ : Nat} {l : List Nat} {er : Int} (hR : RdO w g l at_ er) (n : Int) :
    Calls Try.prog 65 #[.pointer (some ⟨g, 0, none⟩), .int .i64 n] w fun e w' => e = .returned (.int .u64 (leV (rdTake l at_ er (clampN n)).1 : Nat)) ∧ RdO w' g l (rdTake l at_ er (clampN n)).2.1 (rdTake l at_ er (clampN n)).2.2 ∧ w.grownBy w' (some g) := by
  have hcl := clampN_le n
  have hn1 := next_any hR (clampN n) (by omega)
  have hlen := rdTake_len l at_ er (clampN n)
  have hby := rdTake_byte l at_ er (clampN n) (by obtain ⟨v, _, _, _, h, _⟩ := hR; exact h)
  generalize rdTake l at_ er (clampN n) = r at hn1 hlen hby ⊢
  obtain ⟨t, q⟩ := r
  simp only at hn1 hlen hby ⊢
  have H := Lib.hid hn1
  clear hn1
  go_enter Try.func65, Try.ntmps65
  go_wp2_with (first
      | (go_at_call 74; refine (clamp_any n _).mono ?_; rintro e w0 ⟨rfl, rfl⟩)
      | (go_at_call 76; refine (H.out).mono ?_; rintro e w1 ⟨v1, rfl, ⟨A1, k1, rfl, hh1, _⟩, hR1, hg1⟩; rw [cu8_len] at hh1 ⊢))
  go_loop [5, 13] (fun v i => ∃ k : Nat, k ≤ t.length ∧ i = .int .i64 k ∧ v = .int .u64 (leV (t.take k) : Nat)) (fun _ i => t.length - (intOf i).toNat)
  case atStart => exact ⟨0, Nat.zero_le _, rfl, rfl⟩
  case round =>
    obtain ⟨k, hk, rfl, rfl⟩ := hrel
    by_cases hlt : k < t.length
    · obtain ⟨b, o, u, rfl, hb, hcell, hu⟩ := hh1.get hlt
      obtain ⟨x, hxk⟩ : ∃ x, t[k]? = some x := ⟨_, List.getElem?_eq_getElem hlt⟩
      have hx' : x < 256 := hby x (List.mem_of_getElem? hxk)
      have hu' : u = .int .u8 (x : Nat) := by simpa [cu8, hxk] using hu.symm
      subst hu'
      have htk : t.take (k + 1) = t.take k ++ [x] := by rw [List.take_add_one, hxk]; rfl
      have hs := leV_snoc (t.take k) x
      rw [← htk, List.length_take, Nat.min_eq_left hk] at hs
      have hlt2 := leV_lt (t.take k) (fun x hx => hby x (List.mem_of_mem_take hx))
      rw [List.length_take, Nat.min_eq_left hk] at hlt2
      have hst := le_step (k := k) (by omega) hlt2 hx'
      rw [← hs] at hst
      have HS := Lib.hid hst; clear hst hs htk hxk hu hlt2
      generalize leV (t.take k) = y at HS ⊢
      go_wp2
      exact ⟨⟨k + 1, by omega, by simp, by rw [HS.out]⟩, by simp [intOf]; omega⟩
    · have hkn : k = t.length := by omega
      subst hkn
      rw [List.take_length]
      go_wp2
      go_ret
      exact ⟨rfl, hR1, hg1⟩

theorem leB_len : ∀ k n, (leB k n).length = k
  | 0, _ => rfl
  | k + 1, n => by rw [leB, List.length_cons, leB_len]
theorem leB_get : ∀ k n i, i < k → (leB k n)[i]? = some (n / 256 ^ i % 256)
  | k + 1, n, 0, _ => by simp [leB]
  | k + 1, n, i + 1, h => by
    rw [leB, List.getElem?_cons_succ, leB_get k _ i (by omega), Nat.div_div_eq_div_mul, Nat.pow_succ, Nat.mul_comm]
theorem leB_byte : ∀ k n, ∀ x ∈ leB k n, x < 256
  | 0, _, x, h => by simp [leB] at h
  | k + 1, n, x, h => by
    rw [leB] at h
    rcases List.mem_cons.1 h with rfl | h
    · omega
    · exact leB_byte k _ x h
theorem leV_leB : ∀ k n, leV (leB k n) = n % 256 ^ k
  | 0, n => by simp [leB, leV]; omega
  | k + 1, n => by
    rw [leB, leV, leV_leB, show 256 ^ (k + 1) = 256 * 256 ^ k by rw [Nat.pow_succ, Nat.mul_comm], Nat.mod_mul]
theorem fill_get {L : List Nat} {m k : Nat} (hL : L.length = m) (hk : k < m) : (L.take k ++ List.replicate (m - k) 0)[k]? = some 0 := by
  rw [List.getElem?_append_right (by simp; omega), List.length_take, Nat.min_eq_left (by omega), Nat.sub_self, List.getElem?_replicate, if_pos (by omega)]
theorem fill_set {L : List Nat} {m k x : Nat} (hL : L.length = m) (hk : k < m) (hx : L[k]? = some x) : (L.take k ++ List.replicate (m - k) 0).set k x = L.take (k + 1) ++ List.replicate (m - (k + 1)) 0 := by
  rw [List.take_add_one, hx, show m - k = (m - (k + 1)) + 1 by omega, List.replicate_succ, List.set_append_right _ _ (by simp; omega)]
  simp [hL, Nat.min_eq_left (Nat.le_of_lt hk)]
theorem osmall_any (n : Nat) (size : Int) (w : World) (_ : n < 18446744073709551616) :
    Calls Try.prog 56 #[.int .u64 n, .int .i64 size] w fun e w' => ∃ g c, e = .returned (.slice (some ⟨g, 0, none⟩) (clampN size) c) ∧ Own w' w.heap.size 5 (.slice (some ⟨g, 0, none⟩) (clampN size) c) (cu8 (leB (clampN size) n)) ∧ Below w.heap.size w w' := by
  have hcl := clampN_le size
  have hcm := fun W => clamp_any size W
  generalize clampN size = m at *
  have HC := Lib.hid hcm; clear hcm
  go_enter Try.func56, Try.ntmps56
  go_wp2_with (first
    | (go_at_call 74; refine (HC.out _).mono ?_; rintro e w0 ⟨rfl, rfl⟩)
    | (at_make; refine wpl_make Try.underlying29 info_u8 rfl (by decide) (by omega) rfl rfl rfl rfl ?_; intro w1 ho1 hb1))
  go_loopw [12] (fun i wr => ∃ k : Nat, k ≤ m ∧ i = .int .i64 k ∧ Own wr w.heap.size 5 (.slice (some ⟨w.heap.size, 0, none⟩) m m) (cu8 ((leB m n).take k ++ List.replicate (m - k) 0)) ∧ Below w.heap.size w wr) (fun i _ => m - (intOf i).toNat)
  case atStart => exact ⟨0, Nat.zero_le _, rfl, by simpa [cu8] using ho1, hb1⟩
  case round =>
    obtain ⟨k, hk, rfl, ho, hb⟩ := hrel
    by_cases hlt : k < m
    · have hlen : (cu8 ((leB m n).take k ++ List.replicate (m - k) 0)).length = m := by simp [cu8, leB_len]; omega
      obtain ⟨g, c, hv, hg, _, _, hcell, hfro, hset⟩ := ho.at_ (by omega)
      injection hv with e1 e2 e3
      injection e1 with e1; injection e1 with e1; subst e1
      have hck := hcell k (by omega)
      rw [show (cu8 ((leB m n).take k ++ List.replicate (m - k) 0))[k]? = some (.int .u8 (0 : Nat)) by unfold cu8; rw [List.getElem?_map, fill_get (leB_len m n) hlt]; rfl] at hck
      have hs := hset k (.int .u8 ((n / 256 ^ k % 256 : Nat) : Int))
      have he : (cu8 ((leB m n).take k ++ List.replicate (m - k) 0)).set k (.int .u8 ((n / 256 ^ k % 256 : Nat) : Int)) = cu8 ((leB m n).take (k + 1) ++ List.replicate (m - (k + 1)) 0) := by
        unfold cu8; rw [← fill_set (leB_len m n) hlt (leB_get m n k hlt), List.map_set]
      rw [he] at hs
      have hval : (n : Int) / 2 ^ (8 * k) % 256 = ((n / 256 ^ k % 256 : Nat) : Int) := by
        rw [pow256]; simp
      have HV := Lib.hid hval; have HS := Lib.hid hs
      clear hcell hset hs he hval e2 e3 hlen
      go_wp2
      rw [HV.out]
      exact ⟨⟨k + 1, by omega, by simp, HS.out, hb.setCell (p := ⟨w.heap.size, k, none⟩) (Nat.le_refl _) _⟩, by simp [intOf]; omega⟩
    · have hkm : k = m := by omega
      subst hkm
      go_wp2
      go_ret
      rw [List.take_of_length_le (by rw [leB_len]; exact Nat.le_refl _), Nat.sub_self, List.replicate_zero, List.append_nil] at ho
      exact ⟨w.heap.size, k, rfl, ho, hb⟩
end Go.Proofs.Ytfbhiaoodompdaa
