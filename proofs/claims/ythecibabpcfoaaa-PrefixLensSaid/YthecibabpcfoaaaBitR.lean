/- bits: the reader's methods. -/
import Derived.Test.YthecibabpcfoaaaBitL
import Derived.Test.YthecibabpcfoaaaFoot
import Derived.Deep.QuietTactic
import Derived.BigQuiet
import Derived.Deep.DeepCutAuto
namespace Go.Proofs.Ythecibabpcfoaaa
open Go.RowKit
set_option maxRecDepth 100000
set_option maxHeartbeats 400000

/-- The reader at block g reads the bits of the bytes l, a row of its own; 'at_' bits are read; its error. -/
def RdB (w : World) (g : Nat) (l : List Nat) (at_ : Nat) (er : Int) : Prop :=
  ∃ v, w.heap[g]? = some (.cells #[v, .int .i64 at_, .int .i64 er] 76 (0, 0)) ∧ Own w 0 5 v (cu8 l) ∧ at_ ≤ 8 * l.length ∧ (∀ x ∈ l, x < 256) ∧ l.length ≤ 1099511627776
theorem RdB.lt {w : World} {g at_ : Nat} {l : List Nat} {er : Int} (h : RdB w g l at_ er) : g < w.heap.size := by
  obtain ⟨v, h1, _⟩ := h; exact (Array.getElem?_eq_some_iff.1 h1).1
theorem RdB.below {w w' : World} {g at_ : Nat} {l : List Nat} {er : Int} (h : RdB w g l at_ er) (hb : Below w.heap.size w w') : RdB w' g l at_ er := by
  have hg := h.lt
  obtain ⟨v, h1, h2, r⟩ := h
  exact ⟨v, (hb.block g hg).trans h1, h2.kept hb, r⟩
theorem RdB.drewN {w : World} {g at_ : Nat} {l : List Nat} {er : Int} (h : RdB w g l at_ er) (n : Nat) : RdB (w.drewN n) g l at_ er := h
/-- Another reader, or another struct, is written. -/
theorem RdB.only {w w' : World} {g g' at_ : Nat} {l : List Nat} {er : Int} {cs : Array Value} {t : TypeId} {fr : Nat × Nat} (h : RdB w g l at_ er) (hg' : w.heap[g']? = some (.cells cs t fr)) (ht : 5 ≠ t) (hg : w.grownBy w' (some g')) (hne : g ≠ g') : RdB w' g l at_ er := by
  have hlt := h.lt
  obtain ⟨v, h1, h2, r⟩ := h
  exact ⟨v, (hg.block g hlt (by simp; exact hne)).trans h1, h2.far hg' ht hg, r⟩
theorem RdB.blk {w : World} {g at_ : Nat} {l : List Nat} {er : Int} (h : RdB w g l at_ er) : ∃ cs, w.heap[g]? = some (.cells cs 76 (0, 0)) := by
  obtain ⟨v, h1, _⟩ := h; exact ⟨_, h1⟩
theorem RdB.set1 {w : World} {g at_ : Nat} {l : List Nat} {er : Int} (h : RdB w g l at_ er) {n : Nat} (hn : n ≤ 8 * l.length) : RdB (w.setCell ⟨g, 1, none⟩ (.int .i64 n)) g l n er := by
  obtain ⟨v, h1, h2, _, r⟩ := h
  exact ⟨v, heap_setCell_same w g 1 _ _ _ h1, h2.far h1 (by decide) (grown_set w g 1 _), hn, r⟩
theorem RdB.set2 {w : World} {g at_ : Nat} {l : List Nat} {er e' : Int} (h : RdB w g l at_ er) : RdB (w.setCell ⟨g, 2, none⟩ (.int .i64 e')) g l at_ e' := by
  obtain ⟨v, h1, h2, r⟩ := h
  exact ⟨v, heap_setCell_same w g 2 _ _ _ h1, h2.far h1 (by decide) (grown_set w g 2 _), r⟩

theorem bat_any {w : World} {g at_ : Nat} {l : List Nat} {er : Int} (hR : RdB w g l at_ er) :
    Calls Try.prog 28 #[.pointer (some ⟨g, 0, none⟩)] w fun e w' => e = .returned (.int .i64 at_) ∧ w = w' := by
  obtain ⟨v, h1, h2, _⟩ := hR
  obtain ⟨c0, c1, c2, hf⟩ := blk3 h1
  clear h1 h2 hf
  go_enter Try.func28, Try.ntmps28
  go_wp2
  go_ret
  exact ⟨rfl, rfl⟩

theorem berr_any {w : World} {g at_ : Nat} {l : List Nat} {er : Int} (hR : RdB w g l at_ er) :
    Calls Try.prog 61 #[.pointer (some ⟨g, 0, none⟩)] w fun e w' => e = .returned (.int .i64 er) ∧ w = w' := by
  obtain ⟨v, h1, h2, _⟩ := hR
  obtain ⟨c0, c1, c2, hf⟩ := blk3 h1
  clear h1 h2 hf
  go_enter Try.func61, Try.ntmps61
  go_wp2
  go_ret
  exact ⟨rfl, rfl⟩

theorem bleft_any {w : World} {g at_ : Nat} {l : List Nat} {er : Int} (hR : RdB w g l at_ er) :
    Calls Try.prog 59 #[.pointer (some ⟨g, 0, none⟩)] w fun e w' => e = .returned (.int .i64 (8 * l.length - at_ : Nat)) ∧ ∃ n, w' = w.drewN n := by
  obtain ⟨v, h1, h2o, hal, _, hlen⟩ := hR
  obtain ⟨A, c, rfl, _⟩ := h2o.form
  obtain ⟨c0, c1, c2, hf⟩ := blk3 h1
  rw [cu8_len] at c0
  clear h1 hf h2o
  go_enter Try.func59, Try.ntmps59
  go_wp2
  go_quiet (fail)
  go_wp2
  go_ret
  exact ⟨by simp; omega, _, rfl⟩

theorem bnew_any (v : Value) (l : List Nat) (w : World) (hl : Sli w w.heap.size v (cu8 l)) (hx : ∀ x ∈ l, x < 256) (hn : l.length ≤ 1099511627776) :
    Calls Try.prog 22 #[v] w fun e w' => ∃ g, e = .returned (.pointer (some ⟨g, 0, none⟩)) ∧ RdB w' g l 0 0 ∧ w.heap.size ≤ g ∧ Below w.heap.size w w' := by
  go_enter Try.func22, Try.ntmps22
  go_wp2_with (go_at_call 41; refine (clone_any v l _ hl hn).mono ?_; rintro e w1 ⟨v1, rfl, hown, hb⟩; obtain ⟨A1, k1, rfl, _, _⟩ := hown.form)
  go_ret
  exact ⟨w1.heap.size, rfl, ⟨_, heap_alloc_new w1 _, (hown.mono (Nat.zero_le _)).alloc _, Nat.zero_le _, hx, hn⟩, hb.size, hb.alloc hb.size _⟩

def lackE (left n : Int) : Int := if n < 0 ∨ 64 < n then 1 else if left < n then 3 else 0
theorem blacks_any {w : World} {g at_ : Nat} {l : List Nat} {er : Int} (hR : RdB w g l at_ er) (n : Int) :
    Calls Try.prog 42 #[.pointer (some ⟨g, 0, none⟩), .int .i64 n] w fun e w' => e = .returned (.int .i64 (lackE (8 * l.length - at_ : Nat) n)) ∧ ∃ n, w' = w.drewN n := by
  have HL := Lib.hid (bleft_any hR)
  obtain ⟨v, h1, h2o, hal, _, hlen⟩ := hR
  clear h1 h2o
  generalize hm : 8 * l.length - at_ = m at *
  clear hm
  by_cases h0 : n < 0
  · have hr : lackE m n = 1 := by simp [lackE, h0]
    rw [hr]
    go_enter Try.func42, Try.ntmps42
    go_wp2
    go_ret
    exact ⟨rfl, 0, rfl⟩
  by_cases h64 : 64 < n
  · have hr : lackE m n = 1 := by simp [lackE, h64]
    rw [hr]
    go_enter Try.func42, Try.ntmps42
    go_wp2
    go_ret
    exact ⟨rfl, 0, rfl⟩
  by_cases hm : (m : Int) < n
  · have hr : lackE m n = 3 := by rw [lackE, if_neg (by omega), if_pos hm]
    rw [hr]
    go_enter Try.func42, Try.ntmps42
    go_wp2_with (go_at_call 59; refine (HL.out).mono ?_; rintro e w1 ⟨rfl, nd, rfl⟩)
    go_ret
    exact ⟨rfl, _, rfl⟩
  · have hr : lackE m n = 0 := by rw [lackE, if_neg (by omega), if_neg hm]
    rw [hr]
    go_enter Try.func42, Try.ntmps42
    go_wp2_with (go_at_call 59; refine (HL.out).mono ?_; rintro e w1 ⟨rfl, nd, rfl⟩)
    go_ret
    exact ⟨rfl, _, rfl⟩

theorem byte_cut {x t s : Nat} (hs : s ≤ 8) : bits .and .u8 ((x : Int) / 2 ^ t) ((2 ^ s - 1 : Nat) : Int) = ((x / 2 ^ t % 2 ^ s : Nat) : Int) ∨ ¬ x < 256 := by
  by_cases hx : x < 256
  · left
    have h8 : 2 ^ s ≤ 2 ^ 8 := Nat.pow_le_pow_right (by omega) hs
    have e : (x : Int) / 2 ^ t = ((x / 2 ^ t : Nat) : Int) := by simp
    have : x / 2 ^ t ≤ x := Nat.div_le_self _ _
    rw [e, u8_and_nat _ _ (by omega) (by omega), Nat.and_two_pow_sub_one_eq_mod]
  · exact .inr hx
theorem or_shl {V c k s : Nat} (hV : V < 2 ^ k) (hc : c < 2 ^ s) (h : k + s ≤ 64) : bits .or .u64 (IntKind.u64.wrap ((V : Int) * 2 ^ s)) (c : Int) = ((V * 2 ^ s + c : Nat) : Int) ∧ V * 2 ^ s + c < 18446744073709551616 := by
  have h1 : (V + 1) * 2 ^ s ≤ 2 ^ k * 2 ^ s := Nat.mul_le_mul_right _ hV
  rw [← Nat.pow_add] at h1
  have h2 : 2 ^ (k + s) ≤ 2 ^ 64 := Nat.pow_le_pow_right (by omega) h
  have h3 : 2 ^ s ≤ 2 ^ 64 := Nat.pow_le_pow_right (by omega) (by omega)
  rw [Nat.add_mul] at h1
  have h4 : V * 2 ^ s + c < 18446744073709551616 := by omega
  have e : IntKind.u64.wrap ((V : Int) * 2 ^ s) = ((V * 2 ^ s : Nat) : Int) := by
    have : ((V : Int) * 2 ^ s) = ((V * 2 ^ s : Nat) : Int) := by simp
    rw [this]; exact IntWalk.u64_in _ (by omega)
  refine ⟨?_, h4⟩
  rw [e, u64_or_nat _ _ (by omega) (by omega), Nat.mul_comm, Nat.two_pow_add_eq_or_of_lt hc]

theorem bpeek_any {w : World} {g at_ : Nat} {l : List Nat} {er : Int} (hR : RdB w g l at_ er) (n : Nat) (hn : n ≤ 64) (hin : at_ + n ≤ 8 * l.length) :
    Calls Try.prog 43 #[.pointer (some ⟨g, 0, none⟩), .int .i64 n] w fun e w' => e = .returned (.int .u64 (bnum (bitAt l) at_ n : Nat)) ∧ ∃ n, w' = w.drewN n := by
  obtain ⟨v, h1, ho, hal, hx, hlen⟩ := hR
  obtain ⟨c0, c1, c2, hf⟩ := blk3 h1
  obtain ⟨f, hff⟩ : ∃ f, bitAt l = f := ⟨_, rfl⟩
  have HF := Lib.hid hff
  rw [hff]
  clear hff
  obtain ⟨A0, n0, c0', rfl⟩ := ho.shape
  have HO := Lib.hid ho
  clear h1 ho
  go_enter Try.func43, Try.ntmps43
  go_wp2
  go_loopw [1, 5, 6] (fun nn vv pp wr => ∃ (k p m q : Nat), nn = .int .i64 m ∧ pp = .int .i64 p ∧ vv = .int .u64 (bnum f at_ k : Nat) ∧ Hid (p = at_ + k ∧ k + m = n) ∧ wr = w.drewN q) (fun nn _ _ _ => (intOf nn).toNat)
  case atStart => exact ⟨0, at_, n, 0, rfl, rfl, rfl, ⟨rfl, by omega⟩, rfl⟩
  case round =>
    obtain ⟨k, p, m, q, rfl, rfl, rfl, hpk, hwr⟩ := hrel
    have c0 : wr.cell? ⟨g, 0, none⟩ = some (.slice A0 n0 c0') := by rw [hwr]; exact c0
    have c1 : wr.cell? ⟨g, 1, none⟩ = some (.int .i64 at_) := by rw [hwr]; exact c1
    have HO : Hid (Own wr 0 5 (.slice A0 n0 c0') (cu8 l)) := by rw [hwr]; exact HO
    have HW := Lib.hid hwr; clear hwr
    have hp := hpk.out
    by_cases hm0 : m = 0
    · subst hm0
      obtain rfl : k = n := by omega
      clear hp
      go_wp2
      go_ret
      exact ⟨rfl, _, HW.out⟩
    have hmp : (0 : Int) < m := by omega
    have hpl : p < 8 * l.length := by omega
    have hpm : p + m ≤ 8 * l.length := by omega
    have hm64 : m ≤ 64 := by omega
    clear hp
    obtain ⟨r, hr8⟩ : ∃ r, p % 8 = r := ⟨_, rfl⟩
    obtain ⟨qq, hq⟩ : ∃ q, p / 8 = q := ⟨_, rfl⟩
    have hr : (p : Int) % 8 = (r : Nat) := by omega
    have hqi : (p : Int) / 8 = (qq : Nat) := by omega
    have hql : qq < l.length := by omega
    have hr7 : r ≤ 7 := by omega
    obtain ⟨y, hy⟩ : ∃ y, l[qq]? = some y := ⟨_, List.getElem?_eq_getElem hql⟩
    have hy' := hx y (List.mem_of_getElem? hy)
    obtain ⟨g2, cc, hv, hg2, _, _, hcell, hfro, hset⟩ := HO.out.at_ (by rw [cu8_len]; omega)
    injection hv with e1 e2 e3
    subst e1; subst e3
    rw [cu8_len] at e2
    subst e2
    have hck := hcell qq (by rw [cu8_len]; omega)
    rw [show (cu8 l)[qq]? = some (.int .u8 (y : Nat)) by unfold cu8; rw [List.getElem?_map, hy]; rfl] at hck
    clear hcell hset hfro
    obtain ⟨s, hs⟩ : ∃ s : Nat, min (8 - r) m = s := ⟨_, rfl⟩
    have hs1 : 1 ≤ s := by omega
    have hs2 : s ≤ 8 - r := by omega
    have hs3 : s ≤ m := by omega
    have hmin : min ((8 : Int) - r) (m : Int) = (s : Nat) := by omega
    obtain ⟨t, ht⟩ : ∃ t : Nat, (8 : Int) - (r : Nat) - (s : Nat) = (t : Nat) := ⟨8 - r - s, by omega⟩
    have hlow := fun (W : World) => lowest_any s W (by omega)
    have HLO := Lib.hid hlow; clear hlow
    have hcut := (byte_cut (x := y) (t := t) (s := s) (by omega)).resolve_right (by omega)
    have hcb := bnum_byte l p s (by omega)
    rw [hr8, hq, List.getD_eq_getElem?_getD, hy, Option.getD_some, show 8 - r - s = t by omega, HF.out] at hcb
    rw [← hcb] at hcut
    have hcl := bnum_lt f p s
    have hadd := bnum_add f at_ k s
    rw [show at_ + k = p by have := hpk.out; omega] at hadd
    have hor := or_shl (bnum_lt f at_ k) hcl (by have := hpk.out; omega)
    rw [← hadd] at hor
    obtain ⟨hor, hlt⟩ := hor
    have hc8 : bnum f p s < 256 := Nat.lt_of_lt_of_le hcl (Nat.pow_le_pow_right (by omega) (show s ≤ 8 by omega) : 2 ^ s ≤ 2 ^ 8)
    generalize bnum f p s = c at *
    generalize bnum f at_ k = V at *
    have HADD := Lib.hid hadd
    clear hadd hcb hcl hy hs
    have HQ := Lib.hid hq; have HR := Lib.hid hr8; clear hq hr8
    have hwq : IntKind.i64.wrap ((qq : Nat) : Int) = (qq : Nat) := IntWalk.i64_in _ (by omega)
    have hw3 : (0 : Int) ≤ (qq : Nat) := by omega
    have hwt : IntKind.i64.wrap ((t : Nat) : Int) = (t : Nat) := IntWalk.i64_in _ (by omega)
    have hw5 : (0 : Int) ≤ (t : Nat) := by omega
    have hw4 : ((qq : Nat) : Int) < (l.length : Nat) := by omega
    go_upto_region 6 with (fail)
    go_quiet ((go_at_call 60; exact quietLN (HLO.out _)))
    go_wp2
    refine ⟨⟨k + s, p + s, m - s, q + nq, by congr 1; omega, by congr 1, ?_, ⟨by have := hpk.out; omega, by have := hpk.out; omega⟩, by rw [HW.out, World.drewN_drewN]⟩, by simp [intOf]; omega⟩
    rfl

theorem bget_any {w : World} {g at_ : Nat} {l : List Nat} {er : Int} (hR : RdB w g l at_ er) (n : Int) :
    Calls Try.prog 24 #[.pointer (some ⟨g, 0, none⟩), .int .i64 n] w fun e w' => e = .returned (.int .u64 ((gGet (bitAt l) (8 * l.length) at_ er n).1 : Nat)) ∧ RdB w' g l (gGet (bitAt l) (8 * l.length) at_ er n).2.1 (gGet (bitAt l) (8 * l.length) at_ er n).2.2 ∧ w.grownBy w' (some g) := by
  obtain ⟨v, h1, h2o, hal, hx, hlen⟩ := id hR
  obtain ⟨c0, c1, c2, hf⟩ := blk3 h1
  by_cases he : er = 0
  · subst he
    have HL := Lib.hid (blacks_any hR n)
    by_cases hk : lackE (8 * l.length - at_ : Nat) n = 0
    · rw [hk] at HL
      have hn : 0 ≤ n ∧ n ≤ 64 ∧ n ≤ (8 * l.length - at_ : Nat) := by
        unfold lackE at hk
        split at hk
        · omega
        · split at hk <;> omega
      obtain ⟨hn0, hn1, hn2⟩ := hn
      obtain ⟨m, rfl⟩ := Int.eq_ofNat_of_zero_le hn0
      have hr : gGet (bitAt l) (8 * l.length) at_ 0 m = (bnum (bitAt l) at_ m, at_ + m, 0) := by
        unfold gGet; rw [if_pos rfl, if_neg (by omega), if_neg (by omega)]; rfl
      rw [hr]
      have HP := fun (q : Nat) => Lib.hid (bpeek_any (((hR.drewN q).set2 (e' := 0))) m (by omega) (by omega))
      have hm2 : at_ + m ≤ 8 * l.length := by omega
      clear h1 h2o hk hr
      go_enter Try.func24, Try.ntmps24
      go_wp2_with (first
        | (go_at_call 42; refine (HL.out).mono ?_; rintro e w1 ⟨rfl, nd, rfl⟩)
        | (go_at_call 43; refine ((HP nd).out).mono ?_; rintro e w2 ⟨rfl, nd2, rfl⟩))
      go_ret
      exact ⟨rfl, (((hR.drewN nd).set2).drewN nd2).set1 hm2, grown_trans (grown_drewN (grown_trans (grown_drewN (World.grownBy.refl _ _) nd) (grown_set _ _ _ _)) nd2) (grown_set _ _ _ _)⟩
    · have hr : gGet (bitAt l) (8 * l.length) at_ 0 n = (0, at_, lackE (8 * l.length - at_ : Nat) n) := by
        unfold gGet; rw [if_pos rfl]
        unfold lackE at hk ⊢
        by_cases h : n < 0 ∨ 64 < n
        · rw [if_pos h, if_pos h]
        · rw [if_neg h] at hk ⊢
          by_cases h2 : ((8 * l.length - at_ : Nat) : Int) < n
          · rw [if_pos h2, if_neg h, if_pos (by omega)]
          · rw [if_neg h2] at hk; omega
      rw [hr]
      generalize lackE (8 * l.length - at_ : Nat) n = e1 at *
      have hne : (e1 != 0) = true := by simpa using hk
      clear h1 h2o hk hr
      go_enter Try.func24, Try.ntmps24
      go_wp2_with (go_at_call 42; refine (HL.out).mono ?_; rintro e w1 ⟨rfl, nd, rfl⟩)
      go_ret
      exact ⟨rfl, (hR.drewN nd).set2, grown_trans (grown_drewN (World.grownBy.refl _ _) nd) (grown_set _ _ _ _)⟩
  · have hr : gGet (bitAt l) (8 * l.length) at_ er n = (0, at_, er) := by simp [gGet, he]
    rw [hr]; clear hr
    have hne : (er != 0) = true := by simpa using he
    have hnb : (er == 0) = false := by simpa using he
    clear h1 h2o
    go_enter Try.func24, Try.ntmps24
    go_wp2
    go_ret
    exact ⟨rfl, hR, World.grownBy.refl _ _⟩

end Go.Proofs.Ythecibabpcfoaaa
