/- bits: the writer's methods, on. -/
import Derived.Test.YtohbpjehphmedaaBitW
namespace Go.Proofs.Ytohbpjehphmedaa
open Go.RowKit
set_option maxRecDepth 100000
set_option maxHeartbeats 400000

theorem msb_one (a b : Nat) : msb 1 (a + (b + 1)) = List.replicate a false ++ msb 1 (b + 1) := by
  rw [msb_add, show 1 / 2 ^ (b + 1) = 0 by rw [Nat.div_eq_zero_iff]; right; exact Nat.one_lt_two_pow (by omega), msb_zero]
theorem WrO.rows {w : World} {base g : Nat} {v : Value} {L : List Bool} (h : WrO w base g v L) : ∀ k, v.ownBlock = some k → base ≤ k := by
  obtain ⟨_, _, l, h2, _⟩ := h; exact fun k hk => (h2.lt k hk).1

theorem wunary_any {w : World} {base g : Nat} {v : Value} {L : List Bool} (hR : WrO w base g v L) (hlen : L.length ≤ 1099511627776 - 8192) (hb : base ≤ w.heap.size) (n : Int) (_ : -9223372036854775808 ≤ n) (_ : n ≤ 9223372036854775807) :
    Calls Try.prog 99 #[.pointer (some ⟨g, 0, none⟩), .int .i64 n] w fun e w' => e = .returned (.int .i64 (wUnary L n).2) ∧ ∃ v', WrO w' base g v' (wUnary L n).1 ∧ Mov w w' g v v' := by
  by_cases h0 : n < 0
  · have hr : wUnary L n = (L, 1) := by simp [wUnary, h0]
    rw [hr]
    go_enter Try.func99, Try.ntmps99
    go_wp2
    go_ret
    exact ⟨rfl, v, hR, Mov.refl _ _ _⟩
  by_cases h1 : 4096 < n
  · have hr : wUnary L n = (L, 1) := by simp [wUnary, h1]
    rw [hr]
    go_enter Try.func99, Try.ntmps99
    go_wp2
    go_ret
    exact ⟨rfl, v, hR, Mov.refl _ _ _⟩
  obtain ⟨k, rfl⟩ := Int.eq_ofNat_of_zero_le (by omega : 0 ≤ n)
  have hr : wUnary L k = (L ++ msb 1 (k + 1), 0) := by rw [wUnary, if_neg (by omega)]; simp
  rw [hr]
  clear hr
  go_enter Try.func99, Try.ntmps99
  go_wp2
  go_loopw [1] (fun nn wr => ∃ (j : Nat) (v1 : Value), nn = .int .i64 j ∧ j ≤ k ∧ WrO wr base g v1 (L ++ List.replicate (k - j) false) ∧ Mov w wr g v v1) (fun nn _ => (intOf nn).toNat)
  case atStart => exact ⟨k, v, rfl, Nat.le_refl _, by simpa using hR, Mov.refl _ _ _⟩
  case round =>
    obtain ⟨j, v1, rfl, hj, hR1, hm1⟩ := hrel
    have hll : (L ++ List.replicate (k - j) false).length ≤ 1099511627776 := by simp; omega
    by_cases hj0 : 64 ≤ j
    · have hp := wput_any hR1 hll (Nat.le_trans hb hm1.size) 0 64 (by omega) (by omega) (by omega)
      have e : wPut (L ++ List.replicate (k - j) false) 0 64 = (L ++ List.replicate (k - (j - 64)) false, 0) := by
        rw [wPut, if_neg (by simp)]
        rw [show (64 : Int).toNat = 64 from rfl, msb_zero, List.append_assoc, List.replicate_append_replicate, show k - j + 64 = k - (j - 64) by omega]
      rw [e] at hp
      have HP := Lib.hid hp; clear hp e
      go_wp2_with (go_at_call 39; refine (HP.out).mono ?_; rintro e w1 ⟨rfl, v2, hR2, hm2⟩)
      exact ⟨⟨j - 64, v2, by congr 1; omega, by omega, hR2, hm1.trans hm2⟩, by simp [intOf]; omega⟩
    · have hp := wput_any hR1 hll (Nat.le_trans hb hm1.size) 1 (j + 1) (by omega) (by omega) (by omega)
      have e : wPut (L ++ List.replicate (k - j) false) 1 ((j : Int) + 1) = (L ++ msb 1 (k + 1), 0) := by
        rw [wPut, show ((j : Int) + 1).toNat = j + 1 by omega, if_neg ?_]
        · rw [show k + 1 = (k - j) + (j + 1) by omega, msb_one (k - j) j, List.append_assoc]
        · have := Nat.one_lt_two_pow (n := j + 1) (by omega)
          omega
      rw [e] at hp
      have HP := Lib.hid hp; clear hp e
      go_wp2_with (go_at_call 39; refine (HP.out).mono ?_; rintro e w1 ⟨rfl, v2, hR2, hm2⟩)
      go_ret
      exact ⟨rfl, v2, hR2, hm1.trans hm2⟩

theorem wlen_any {w : World} {base g : Nat} {v : Value} {L : List Bool} (hR : WrO w base g v L) :
    Calls Try.prog 23 #[.pointer (some ⟨g, 0, none⟩)] w fun e w' => e = .returned (.int .i64 (L.length : Nat)) ∧ w = w' := by
  obtain ⟨hbg, hblk, l, ho, hP⟩ := hR
  obtain ⟨c0, c1, hf⟩ := blk2 hblk
  clear hblk ho hP
  go_enter Try.func23, Try.ntmps23
  go_wp2
  go_ret
  exact ⟨rfl, rfl⟩

theorem wbytes_any {w : World} {base g : Nat} {v : Value} {L : List Bool} (hR : WrO w base g v L) (hlen : L.length ≤ 1099511627776) :
    Calls Try.prog 26 #[.pointer (some ⟨g, 0, none⟩)] w fun e w' => ∃ v' l, e = .returned v' ∧ Packed l L ∧ Own w' w.heap.size 5 v' (cu8 l) ∧ Below w.heap.size w w' := by
  obtain ⟨hbg, hblk, l, ho, hP⟩ := hR
  obtain ⟨c0, c1, hf⟩ := blk2 hblk
  have hc := clone_any v l w ho.sli (by have := hP.len; omega)
  obtain ⟨A, n, c, rfl⟩ := ho.shape
  have HC := Lib.hid hc; clear hc hblk ho
  go_enter Try.func26, Try.ntmps26
  go_wp2_with (go_at_call 54; refine (HC.out).mono ?_; rintro e w1 ⟨v1, rfl, ho1, hb1⟩; obtain ⟨A1, n1, c1, rfl⟩ := ho1.shape)
  go_ret
  exact ⟨_, l, rfl, hP, ho1, hb1⟩

end Go.Proofs.Ytohbpjehphmedaa
