/- bits: the writer's methods, on. -/
import Derived.Test.YthecibabpcfoaaaBitW
namespace Go.Proofs.Ythecibabpcfoaaa
open Go.RowKit
set_option maxRecDepth 100000
set_option maxHeartbeats 400000

theorem msb_one (a b : Nat) : msb 1 (a + (b + 1)) = List.replicate a false ++ msb 1 (b + 1) := by
  rw [msb_add, show 1 / 2 ^ (b + 1) = 0 by rw [Nat.div_eq_zero_iff]; right; exact Nat.one_lt_two_pow (by omega), msb_zero]
theorem WrO.rows {w : World} {base g : Nat} {v : Value} {L : List Bool} (h : WrO w base g v L) : ∀ k, v.ownBlock = some k → base ≤ k := by
  obtain ⟨_, _, l, h2, _⟩ := h; exact fun k hk => (h2.lt k hk).1

theorem wlen_any {w : World} {base g : Nat} {v : Value} {L : List Bool} (hR : WrO w base g v L) :
    Calls Try.prog 33 #[.pointer (some ⟨g, 0, none⟩)] w fun e w' => e = .returned (.int .i64 (L.length : Nat)) ∧ w = w' := by
  obtain ⟨hbg, hblk, l, ho, hP⟩ := hR
  obtain ⟨c0, c1, hf⟩ := blk2 hblk
  clear hblk ho hP
  go_enter Try.func33, Try.ntmps33
  go_wp2
  go_ret
  exact ⟨rfl, rfl⟩

theorem wbytes_any {w : World} {base g : Nat} {v : Value} {L : List Bool} (hR : WrO w base g v L) (hlen : L.length ≤ 1099511627776) :
    Calls Try.prog 31 #[.pointer (some ⟨g, 0, none⟩)] w fun e w' => ∃ v' l, e = .returned v' ∧ Packed l L ∧ Own w' w.heap.size 5 v' (cu8 l) ∧ Below w.heap.size w w' := by
  obtain ⟨hbg, hblk, l, ho, hP⟩ := hR
  obtain ⟨c0, c1, hf⟩ := blk2 hblk
  have hc := clone_any v l w ho.sli (by have := hP.len; omega)
  obtain ⟨A, n, c, rfl⟩ := ho.shape
  have HC := Lib.hid hc; clear hc hblk ho
  go_enter Try.func31, Try.ntmps31
  go_wp2_with (go_at_call 41; refine (HC.out).mono ?_; rintro e w1 ⟨v1, rfl, ho1, hb1⟩; obtain ⟨A1, n1, c1, rfl⟩ := ho1.shape)
  go_ret
  exact ⟨_, l, rfl, hP, ho1, hb1⟩

end Go.Proofs.Ythecibabpcfoaaa
