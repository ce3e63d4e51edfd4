/- The reference's reader of bits. -/
import Derived.Test.YtohbpjehphmedaaBitS
namespace Go.Proofs.Ytohbpjehphmedaa
open Go.RowKit
set_option maxRecDepth 100000
set_option maxHeartbeats 400000

/-- The reference's reader at block g: the bytes lie below block B. -/
def OcB (w : World) (B g : Nat) (l : List Nat) (at_ : Nat) (er : Int) : Prop :=
  ∃ v, w.heap[g]? = some (.cells #[v, .int .i64 at_, .int .i64 er] 57 (0, 0)) ∧ Sli w B v (cu8 l) ∧ B ≤ g ∧ at_ ≤ 8 * l.length ∧ (∀ x ∈ l, x < 256) ∧ l.length ≤ 1099511627776
theorem OcB.lt {w : World} {B g at_ : Nat} {l : List Nat} {er : Int} (h : OcB w B g l at_ er) : g < w.heap.size := by
  obtain ⟨v, h1, _⟩ := h; exact (Array.getElem?_eq_some_iff.1 h1).1
theorem OcB.only {w w' : World} {B g g' at_ : Nat} {l : List Nat} {er : Int} (h : OcB w B g l at_ er) (hg : w.grownBy w' (some g')) (hne : g ≠ g') (hB : B ≤ g') : OcB w' B g l at_ er := by
  have hlt := h.lt
  obtain ⟨v, h1, h2, hBg, r⟩ := h
  exact ⟨v, (hg.block g hlt (by simp; exact hne)).trans h1, h2.below (below_of_only hg hB (by omega)), hBg, r⟩
theorem OcB.below {w w' : World} {B g at_ : Nat} {l : List Nat} {er : Int} (h : OcB w B g l at_ er) (hb : Below w.heap.size w w') : OcB w' B g l at_ er := by
  have hlt := h.lt
  obtain ⟨v, h1, h2, hBg, r⟩ := h
  exact ⟨v, (hb.block g hlt).trans h1, h2.below (hb.mono (by omega)), hBg, r⟩
theorem OcB.blk {w : World} {B g at_ : Nat} {l : List Nat} {er : Int} (h : OcB w B g l at_ er) : ∃ cs, w.heap[g]? = some (.cells cs 57 (0, 0)) := by
  obtain ⟨v, h1, _⟩ := h; exact ⟨_, h1⟩
theorem OcB.drewN {w : World} {B g at_ : Nat} {l : List Nat} {er : Int} (h : OcB w B g l at_ er) (n : Nat) : OcB (w.drewN n) B g l at_ er := h
theorem OcB.set1 {w : World} {B g at_ : Nat} {l : List Nat} {er : Int} (h : OcB w B g l at_ er) {n : Nat} (hn : n ≤ 8 * l.length) : OcB (w.setCell ⟨g, 1, none⟩ (.int .i64 n)) B g l n er := by
  obtain ⟨v, h1, h2, hB, _, r⟩ := h
  exact ⟨v, heap_setCell_same w g 1 _ _ _ h1, h2.keep fun p hp => World.cell?_setCell_other w _ p _ (fun e => by subst e; simp at hp; omega), hB, hn, r⟩
theorem OcB.set2 {w : World} {B g at_ : Nat} {l : List Nat} {er e' : Int} (h : OcB w B g l at_ er) : OcB (w.setCell ⟨g, 2, none⟩ (.int .i64 e')) B g l at_ e' := by
  obtain ⟨v, h1, h2, hB, r⟩ := h
  exact ⟨v, heap_setCell_same w g 2 _ _ _ h1, h2.keep fun p hp => World.cell?_setCell_other w _ p _ (fun e => by subst e; simp at hp; omega), hB, r⟩

theorem onew_any (v : Value) (l : List Nat) (w : World) (B : Nat) (hl : Sli w B v (cu8 l)) (hB : B ≤ w.heap.size) (hx : ∀ x ∈ l, x < 256) (hn : l.length ≤ 1099511627776) :
    Calls Try.prog 29 #[v] w fun e w' => ∃ g, e = .returned (.pointer (some ⟨g, 0, none⟩)) ∧ OcB w' B g l 0 0 ∧ w.heap.size ≤ g ∧ Below w.heap.size w w' := by
  obtain ⟨A, c, rfl, hlc, hcm⟩ := hl.form8
  go_enter Try.func29, Try.ntmps29
  go_wp2
  go_ret
  exact ⟨w.heap.size, rfl, ⟨_, heap_alloc_new w _, hl.keep fun p hp => World.cell?_alloc_lt w _ p (by omega), hB, Nat.zero_le _, hx, hn⟩, Nat.le_refl _, (Below.refl _ _).alloc (Nat.le_refl _) _⟩

theorem oleft_any {w : World} {B g at_ : Nat} {l : List Nat} {er : Int} (hR : OcB w B g l at_ er) :
    Calls Try.prog 57 #[.pointer (some ⟨g, 0, none⟩)] w fun e w' => e = .returned (.int .i64 (8 * l.length - at_ : Nat)) ∧ ∃ n, w' = w.drewN n := by
  obtain ⟨v, h1, h2, hB, hal, _, hlen⟩ := hR
  obtain ⟨A, c, rfl, _⟩ := h2.form8
  obtain ⟨c0, c1, c2, hf⟩ := blk3 h1
  clear h1 h2 hf
  go_enter Try.func57, Try.ntmps57
  go_wp2
  go_quiet (fail)
  go_wp2
  go_ret
  exact ⟨by simp; omega, _, rfl⟩

theorem obit_any {w : World} {B g at_ : Nat} {l : List Nat} {er : Int} (hR : OcB w B g l at_ er) (p : Nat) (hp : p < 8 * l.length) :
    Calls Try.prog 58 #[.pointer (some ⟨g, 0, none⟩), .int .i64 p] w fun e w' => e = .returned (.int .u64 ((bitAt l p).toNat : Nat)) ∧ w = w' := by
  obtain ⟨v, h1, h2, hB, hal, hx, hlen⟩ := hR
  obtain ⟨A, c, rfl, hlc, hcm⟩ := h2.form8
  obtain ⟨c0, c1, c2, hf⟩ := blk3 h1
  obtain ⟨r, hr8⟩ : ∃ r, p % 8 = r := ⟨_, rfl⟩
  obtain ⟨qq, hq⟩ : ∃ q, p / 8 = q := ⟨_, rfl⟩
  have hr : (p : Int) % 8 = (r : Nat) := by omega
  have hqi : (p : Int) / 8 = (qq : Nat) := by omega
  have hql : qq < l.length := by omega
  obtain ⟨y, hy⟩ : ∃ y, l[qq]? = some y := ⟨_, List.getElem?_eq_getElem hql⟩
  have hy' := hx y (List.mem_of_getElem? hy)
  obtain ⟨b, o, u, rfl, hb, hcell, hu⟩ := h2.hasn.get hql
  have hu' : u = .int .u8 (y : Nat) := by simpa [cu8, hy] using hu.symm
  subst hu'
  obtain ⟨t, ht⟩ : ∃ t : Nat, (7 : Int) - (r : Nat) = (t : Nat) := ⟨7 - r, by omega⟩
  have hbit := bit_of (x := y) (t := t) hy'
  have hfp : y.testBit t = bitAt l p := by rw [bitAt, hr8, hq, List.getD_eq_getElem?_getD, hy, Option.getD_some, show 7 - r = t by omega]
  rw [hfp] at hbit
  obtain ⟨z, hz⟩ : ∃ z : Nat, (bitAt l p).toNat = z := ⟨_, rfl⟩
  rw [hz] at hbit ⊢
  have hz1 : z ≤ 1 := by rw [← hz]; cases bitAt l p <;> simp
  have hut : IntKind.u64.wrap ((t : Nat) : Int) = (t : Nat) := IntWalk.u64_in _ (by omega)
  have hwq : IntKind.i64.wrap ((qq : Nat) : Int) = (qq : Nat) := IntWalk.i64_in _ (by omega)
  clear hfp hz hy hq hr8 h1 h2 hu hf
  go_enter Try.func58, Try.ntmps58
  go_wp2
  go_ret
  exact ⟨rfl, rfl⟩

theorem shl1 {V b k : Nat} (hV : V < 2 ^ k) (hb : b ≤ 1) (h : k + 1 ≤ 64) : bits .or .u64 (IntKind.u64.wrap ((V : Int) * 2)) (b : Int) = ((2 * V + b : Nat) : Int) ∧ 2 * V + b < 18446744073709551616 := by
  have h1 := or_shl (V := V) (c := b) (k := k) (s := 1) hV (by omega) h
  rw [Nat.pow_one, Nat.mul_comm V 2] at h1
  exact h1

theorem oget_any {w : World} {B g at_ : Nat} {l : List Nat} {er : Int} (hR : OcB w B g l at_ er) (n : Int) :
    Calls Try.prog 31 #[.pointer (some ⟨g, 0, none⟩), .int .i64 n] w fun e w' => e = .returned (.int .u64 ((gGet (bitAt l) (8 * l.length) at_ er n).1 : Nat)) ∧ OcB w' B g l (gGet (bitAt l) (8 * l.length) at_ er n).2.1 (gGet (bitAt l) (8 * l.length) at_ er n).2.2 ∧ w.grownBy w' (some g) := by
  have HL := Lib.hid (oleft_any hR)
  obtain ⟨v, h1, h2o, hB, hal, hx, hlen⟩ := id hR
  obtain ⟨A, c, rfl, hlc, hcm⟩ := h2o.form8
  obtain ⟨c0, c1, c2, hf⟩ := blk3 h1
  by_cases he : er = 0
  · subst he
    by_cases h0 : n < 0 ∨ 64 < n
    · have hr : gGet (bitAt l) (8 * l.length) at_ 0 n = (0, at_, 1) := by simp [gGet, h0]
      rw [hr]
      clear h1 h2o hr
      by_cases hn : n < 0
      all_goals
        go_enter Try.func31, Try.ntmps31
        go_wp2
        go_ret
        exact ⟨rfl, hR.set2, grown_set _ _ _ _⟩
    obtain ⟨m, rfl⟩ := Int.eq_ofNat_of_zero_le (by omega : 0 ≤ n)
    have hm64 : m ≤ 64 := by omega
    by_cases hs : 8 * l.length - at_ < m
    · have hr : gGet (bitAt l) (8 * l.length) at_ 0 m = (0, at_, 3) := by
        unfold gGet; rw [if_pos rfl, if_neg h0, if_pos (by omega)]
      rw [hr]
      clear h1 h2o hr h0
      generalize 8 * l.length - at_ = left at *
      go_enter Try.func31, Try.ntmps31
      go_wp2_with (go_at_call 57; refine (HL.out).mono ?_; rintro e w1 ⟨rfl, nd, rfl⟩)
      go_ret
      exact ⟨rfl, (hR.drewN nd).set2, grown_trans (grown_drewN (World.grownBy.refl _ _) nd) (grown_set _ _ _ _)⟩
    · have hr : gGet (bitAt l) (8 * l.length) at_ 0 m = (bnum (bitAt l) at_ m, at_ + m, 0) := by
        unfold gGet; rw [if_pos rfl, if_neg h0, if_neg (by omega)]; rfl
      rw [hr]
      have hin : at_ + m ≤ 8 * l.length := by omega
      clear h1 h2o hr h0
      obtain ⟨left, hle⟩ : ∃ left, 8 * l.length - at_ = left := ⟨_, rfl⟩
      rw [hle] at HL hs
      clear hle
      go_enter Try.func31, Try.ntmps31
      go_wp2_with (go_at_call 57; refine (HL.out).mono ?_; rintro e w1 ⟨rfl, nd, rfl⟩)
      go_loopw [5, 6] (fun vv i wr => ∃ (k q : Nat), k ≤ m ∧ i = .int .i64 k ∧ vv = .int .u64 (bnum (bitAt l) at_ k : Nat) ∧ wr = w.drewN q) (fun _ i _ => m - (intOf i).toNat)
      case atStart => exact ⟨0, nd, Nat.zero_le _, rfl, rfl, rfl⟩
      case round =>
        obtain ⟨k, q, hk, rfl, rfl, hwr⟩ := hrel
        have hRw : OcB wr B g l at_ 0 := by rw [hwr]; exact hR.drewN q
        have c1 : wr.cell? ⟨g, 1, none⟩ = some (.int .i64 at_) := by rw [hwr]; exact c1
        have hf : ∀ i, wr.frozen? ⟨g, i, none⟩ = false := by rw [hwr]; exact hf
        have HW := Lib.hid hwr; clear hwr
        by_cases hlt : k < m
        · have hbi := obit_any hRw (at_ + k) (by omega)
          have hsh := shl1 (bnum_lt (bitAt l) at_ k) (show (bitAt l (at_ + k)).toNat ≤ 1 by cases bitAt l (at_ + k) <;> simp) (by omega)
          rw [← bnum] at hsh
          obtain ⟨hsh, _⟩ := hsh
          obtain ⟨p, hp⟩ : ∃ p : Nat, at_ + k = p := ⟨_, rfl⟩
          have hpi : (at_ : Int) + k = (p : Nat) := by omega
          rw [hp] at hbi hsh
          have HBI := Lib.hid hbi; clear hbi hp
          go_wp2_with (go_at_call 58; refine (HBI.out).mono ?_; rintro e w1 ⟨rfl, rfl⟩)
          exact ⟨⟨k + 1, q, by omega, by simp, rfl, HW.out⟩, by simp [intOf]; omega⟩
        · obtain rfl : k = m := by omega
          go_wp2
          go_ret
          exact ⟨rfl, hRw.set1 hin, by rw [HW.out]; exact grown_trans (grown_drewN (World.grownBy.refl _ _) q) (grown_set _ _ _ _)⟩
  · have hr : gGet (bitAt l) (8 * l.length) at_ er n = (0, at_, er) := by simp [gGet, he]
    rw [hr]; clear hr
    have hne : (er != 0) = true := by simpa using he
    clear h1 h2o
    go_enter Try.func31, Try.ntmps31
    go_wp2
    go_ret
    exact ⟨rfl, hR, World.grownBy.refl _ _⟩

theorem sgn_zero (k : Nat) : sgnI 0 k = 0 := by
  unfold sgnI
  have e : ((0 : Nat) : Int) * 2 ^ k = 0 := by rw [Int.natCast_zero, Int.zero_mul]
  have h : wrap64 (IntKind.u64.wrap 0) = 0 := by decide +kernel
  rw [e, h, Int.zero_ediv]

theorem osigned_any {w : World} {B g at_ : Nat} {l : List Nat} {er : Int} (hR : OcB w B g l at_ er) (n : Int) :
    Calls Try.prog 94 #[.pointer (some ⟨g, 0, none⟩), .int .i64 n] w fun e w' => e = .returned (.int .i64 (gSigned (bitAt l) (8 * l.length) at_ er n)) ∧ OcB w' B g l (gGet (bitAt l) (8 * l.length) at_ er n).2.1 (gGet (bitAt l) (8 * l.length) at_ er n).2.2 ∧ w.grownBy w' (some g) := by
  have hg := oget_any hR n
  have hok := @gGet_ok (bitAt l) (8 * l.length) at_ er n
  have hz : n = 0 → (gGet (bitAt l) (8 * l.length) at_ er n).1 = 0 := by
    intro h; subst h; unfold gGet; split
    · rw [if_neg (by omega)]; split <;> rfl
    · rfl
  unfold gSigned
  generalize gGet (bitAt l) (8 * l.length) at_ er n = r at hg hok hz ⊢
  obtain ⟨V, a2, e2⟩ := r
  simp only at hg hok hz ⊢
  have HG := Lib.hid hg; clear hg
  by_cases he : e2 = 0
  · subst he
    rw [if_pos rfl]
    obtain ⟨h0, h64⟩ := hok rfl
    obtain ⟨k, hk⟩ : ∃ k : Nat, (64 : Int) - n = (k : Nat) := ⟨(64 - n).toNat, by omega⟩
    have hkn : (64 - n).toNat = k := by omega
    have huk : IntKind.u64.wrap ((k : Nat) : Int) = (k : Nat) := IntWalk.u64_in _ (by omega)
    rw [hkn]
    clear hkn hok
    by_cases hn0 : n = 0
    · have hV := hz hn0
      subst hV
      rw [sgn_zero k]
      subst hn0
      clear hz hk huk
      go_enter Try.func94, Try.ntmps94
      go_wp2_with (go_at_call 31; refine (HG.out).mono ?_; rintro e w1 ⟨rfl, hR1, hg1⟩; obtain ⟨v1, h1, _⟩ := id hR1; obtain ⟨c0, c1, c2, hf⟩ := blk3 h1; clear h1)
      go_ret
      exact ⟨rfl, hR1, hg1⟩
    · have hnb : (n == 0) = false := by simpa using hn0
      clear hz hn0
      go_enter Try.func94, Try.ntmps94
      go_wp2_with (go_at_call 31; refine (HG.out).mono ?_; rintro e w1 ⟨rfl, hR1, hg1⟩; obtain ⟨v1, h1, _⟩ := id hR1; obtain ⟨c0, c1, c2, hf⟩ := blk3 h1; clear h1)
      go_ret
      exact ⟨rfl, hR1, hg1⟩
  · rw [if_neg he]
    have hne : (e2 != 0) = true := by simpa using he
    clear hok hz
    go_enter Try.func94, Try.ntmps94
    go_wp2_with (go_at_call 31; refine (HG.out).mono ?_; rintro e w1 ⟨rfl, hR1, hg1⟩; obtain ⟨v1, h1, _⟩ := id hR1; obtain ⟨c0, c1, c2, hf⟩ := blk3 h1; clear h1)
    go_ret
    exact ⟨rfl, hR1, hg1⟩

end Go.Proofs.Ytohbpjehphmedaa
