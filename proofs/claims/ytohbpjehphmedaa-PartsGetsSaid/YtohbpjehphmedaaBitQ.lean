/- The reference's writer of bits. -/
import Derived.Test.YtohbpjehphmedaaBitV
import Derived.Deep.LoopGhost
namespace Go.Proofs.Ytohbpjehphmedaa
open Go.RowKit
set_option maxRecDepth 100000
set_option maxHeartbeats 400000

def c01 (L : List Bool) : List Value := cu8 (L.map Bool.toNat)
theorem c01_len (L : List Bool) : (c01 L).length = L.length := by simp [c01, cu8]
/-- The reference's writer at block g: a byte for each bit. -/
def WqO (w : World) (base g : Nat) (v : Value) (L : List Bool) : Prop :=
  base ≤ g ∧ w.heap[g]? = some (.cells #[v] 38 (0, 0)) ∧ Own w base 5 v (c01 L)
theorem WqO.lt {w : World} {base g : Nat} {v : Value} {L : List Bool} (h : WqO w base g v L) : g < w.heap.size := (Array.getElem?_eq_some_iff.1 h.2.1).1
theorem WqO.rows {w : World} {base g : Nat} {v : Value} {L : List Bool} (h : WqO w base g v L) : ∀ k, v.ownBlock = some k → base ≤ k := by
  obtain ⟨_, _, h2⟩ := h; exact fun k hk => (h2.lt k hk).1
theorem WqO.moved {w w' : World} {base g g2 : Nat} {v v2 v2' : Value} {L : List Bool} {cs : Array Value} {t : TypeId} {fr : Nat × Nat} (h : WqO w base g v L) (hm : Mov w w' g2 v2 v2') (hg2 : w.heap[g2]? = some (.cells cs t fr)) (ht : 5 ≠ t) (hne : g ≠ g2) (ha : Apart v2 v) (hv : v2.ownBlock ≠ some g) : WqO w' base g v L := by
  have hlt := h.lt
  obtain ⟨h0, h1, h2⟩ := h
  exact ⟨h0, (hm.block g hlt hne hv).trans h1, h2.moved hm hg2 ht ha⟩
theorem blk1 {w : World} {g : Nat} {a : Value} {t : TypeId} (h : w.heap[g]? = some (.cells #[a] t (0, 0))) :
    w.cell? ⟨g, 0, none⟩ = some a ∧ ∀ i, w.frozen? ⟨g, i, none⟩ = false :=
  ⟨by rw [cell_of_row w g 0 _ t (0, 0) h]; rfl, fun i => frozen_of_row w g i _ t h⟩
/-- 'w.L = append(w.L, b)', behind append. -/
theorem WqO.grown {w w2 : World} {base g : Nat} {v v2 : Value} {L : List Bool} (h : WqO w base g v L) (hm : ∀ g, Mov w w2 g v v2) : w2.heap[g]? = some (.cells #[v] 38 (0, 0)) := by
  have hlt := h.lt
  obtain ⟨_, h1, h2⟩ := h
  exact ((hm (g + 1)).block g hlt (by omega) (h2.ne h1 (by decide))).trans h1
theorem WqO.push {w2 : World} {base g : Nat} {v v2 : Value} {L : List Bool} (hbg : base ≤ g) (hb2 : w2.heap[g]? = some (.cells #[v] 38 (0, 0))) (b : Bool) {z : Int} (ho2 : Own w2 base 5 v2 (c01 L ++ [.int .u8 z])) (hz : z = (b.toNat : Nat)) : WqO (w2.setCell ⟨g, 0, none⟩ v2) base g v2 (L ++ [b]) := by
  subst hz
  refine ⟨hbg, heap_setCell_same w2 g 0 _ _ _ hb2, ?_⟩
  have e : c01 L ++ [.int .u8 (b.toNat : Nat)] = c01 (L ++ [b]) := by simp [c01, cu8]
  rw [e] at ho2
  exact ho2.far hb2 (by decide) (grown_set w2 g 0 _)

theorem bit64 {x t : Nat} (hx : x < 18446744073709551616) : bits .and .u64 ((x : Int) / 2 ^ t) 1 = (((x.testBit t).toNat : Nat) : Int) := by
  have e : (x : Int) / 2 ^ t = ((x / 2 ^ t : Nat) : Int) := by simp
  have : x / 2 ^ t ≤ x := Nat.div_le_self _ _
  rw [e, show (1 : Int) = ((1 : Nat) : Int) from rfl, u64_and_nat _ _ (by omega) (by omega), nat_mask1, toNat_testBit]
theorem msb_bit (x i : Nat) : msb (x / 2 ^ i % 2 ^ 1) 1 = [x.testBit i] := by
  rw [msb_mod]; unfold msb
  simp [List.range_succ, ← Nat.shiftRight_eq_div_pow]
theorem toNat_le1 (b : Bool) : b.toNat ≤ 1 := by cases b <;> simp

theorem qput_any {w : World} {base g : Nat} {v : Value} {L : List Bool} (hR : WqO w base g v L) (hlen : L.length ≤ 1099511627776) (hb : base ≤ w.heap.size) (x : Nat) (n : Int) (hx : x < 18446744073709551616) (_ : -9223372036854775808 ≤ n) (_ : n ≤ 9223372036854775807) :
    Calls Try.prog 51 #[.pointer (some ⟨g, 0, none⟩), .int .u64 x, .int .i64 n] w fun e w' => e = .returned (.int .i64 (wPut L x n).2) ∧ ∃ v', WqO w' base g v' (wPut L x n).1 ∧ Mov w w' g v v' := by
  by_cases h0 : n < 0
  · have hr : wPut L x n = (L, 1) := by simp [wPut, h0]
    rw [hr]
    go_enter Try.func51, Try.ntmps51
    go_wp2
    go_ret
    exact ⟨rfl, v, hR, Mov.refl _ _ _⟩
  by_cases h1 : 64 < n
  · have hr : wPut L x n = (L, 1) := by simp [wPut, h1]
    rw [hr]
    go_enter Try.func51, Try.ntmps51
    go_wp2
    go_ret
    exact ⟨rfl, v, hR, Mov.refl _ _ _⟩
  obtain ⟨k, rfl⟩ := Int.eq_ofNat_of_zero_le (by omega : 0 ≤ n)
  have hu : IntKind.u64.wrap ((k : Nat) : Int) = (k : Nat) := IntWalk.u64_in _ (by omega)
  by_cases h2 : 2 ^ k ≤ x
  · have hr : wPut L x k = (L, 1) := by simp [wPut, h2]
    rw [hr]
    have hk64 : k < 64 := by
      rcases Nat.lt_or_ge k 64 with h | h
      · exact h
      · have : 2 ^ 64 ≤ 2 ^ k := Nat.pow_le_pow_right (by omega) h
        omega
    have hd : (((x : Int) / 2 ^ k) != 0) = true := by
      have e : (x : Int) / 2 ^ k = ((x / 2 ^ k : Nat) : Int) := by simp
      have : 0 < x / 2 ^ k := Nat.div_pos h2 (Nat.pow_pos (by omega))
      rw [e]; simp; omega
    clear hr h2
    go_enter Try.func51, Try.ntmps51
    go_wp2
    go_ret
    exact ⟨rfl, v, hR, Mov.refl _ _ _⟩
  have hr : wPut L x k = (L ++ msb x k, 0) := by simp [wPut, h2]; omega
  rw [hr]
  have hd : (((x : Int) / 2 ^ k) != 0) = false := by
    have e : (x : Int) / 2 ^ k = ((x / 2 ^ k : Nat) : Int) := by simp
    rw [e, Nat.div_eq_of_lt (by omega)]; rfl
  clear hr h2
  go_enter Try.func51, Try.ntmps51
  go_upto_region 3 with (fail)
  all_goals
    go_wp2
    go_loopw [7] (fun nn wr => ∃ (j : Nat) (v1 : Value), nn = .int .i64 ((j : Int) - 1) ∧ j ≤ k ∧ WqO wr base g v1 (L ++ msb (x / 2 ^ j) (k - j)) ∧ Mov w wr g v v1) (fun nn _ => (intOf nn + 1).toNat)
    case atStart => exact ⟨k, v, by simp, Nat.le_refl _, by simpa [msb] using hR, Mov.refl _ _ _⟩
    case round =>
      obtain ⟨j, v1, rfl, hj, hR1, hm1⟩ := hrel
      by_cases hj0 : j = 0
      · subst hj0
        go_wp2
        go_ret
        exact ⟨rfl, v1, by simpa using hR1, hm1⟩
      obtain ⟨i, rfl⟩ : ∃ i, j = i + 1 := ⟨j - 1, by omega⟩
      have hi : ((i + 1 : Nat) : Int) - 1 = (i : Nat) := by omega
      have hui : IntKind.u64.wrap ((i : Nat) : Int) = (i : Nat) := IntWalk.u64_in _ (by omega)
      have hbit := bit64 (t := i) hx
      have hle := toNat_le1 (x.testBit i)
      obtain ⟨z, hz⟩ : ∃ z : Nat, (x.testBit i).toNat = z := ⟨_, rfl⟩
      rw [hz] at hbit hle
      have hst := put_step (L := L) (x := x) (k := k) rfl hj rfl (rfl : x / 2 ^ i % 2 ^ 1 = _)
      rw [msb_bit] at hst
      have HST := Lib.hid hst; have HZ := Lib.hid hz; clear hst hz
      have hln : (L ++ msb (x / 2 ^ (i + 1)) (k - (i + 1))).length ≤ 1099511627840 := by simp [msb_len]; omega
      generalize L ++ msb (x / 2 ^ (i + 1)) (k - (i + 1)) = L1 at *
      have hbr := Nat.le_trans hb hm1.size
      obtain ⟨hbg, hblk, ho⟩ := id hR1
      obtain ⟨c0, hf⟩ := blk1 hblk
      have hgr := fun (v2 : Value) (w2 : World) (hm : ∀ g, Mov wr w2 g v1 v2) => hR1.grown hm
      have HG := Lib.hid hgr; clear hgr hblk
      go_wp2_with (at_builtin; refine wpl_push ho hbr (by rw [c01_len]; omega) Try.underlying33 info_u8 rfl (by decide) rfl rfl rfl rfl rfl (h := ?_); intro v2 w2 ho2 hm2; obtain ⟨A2, n2, k2, rfl⟩ := ho2.shape; have hb2 := HG.out _ _ hm2; obtain ⟨d0, hf2⟩ := blk1 hb2)
      exact ⟨⟨i, _, rfl, by omega, HST.out ▸ WqO.push hbg hb2 (x.testBit i) ho2 (by rw [HZ.out]), (hm1.trans (hm2 g)).set _ (.inl rfl)⟩, by simp [intOf]⟩

theorem qunary_any {w : World} {base g : Nat} {v : Value} {L : List Bool} (hR : WqO w base g v L) (hlen : L.length ≤ 1099511627776) (hb : base ≤ w.heap.size) (n : Int) (_ : -9223372036854775808 ≤ n) (_ : n ≤ 9223372036854775807) :
    Calls Try.prog 73 #[.pointer (some ⟨g, 0, none⟩), .int .i64 n] w fun e w' => e = .returned (.int .i64 (wUnary L n).2) ∧ ∃ v', WqO w' base g v' (wUnary L n).1 ∧ Mov w w' g v v' := by
  by_cases h0 : n < 0
  · have hr : wUnary L n = (L, 1) := by simp [wUnary, h0]
    rw [hr]
    go_enter Try.func73, Try.ntmps73
    go_wp2
    go_ret
    exact ⟨rfl, v, hR, Mov.refl _ _ _⟩
  by_cases h1 : 4096 < n
  · have hr : wUnary L n = (L, 1) := by simp [wUnary, h1]
    rw [hr]
    go_enter Try.func73, Try.ntmps73
    go_wp2
    go_ret
    exact ⟨rfl, v, hR, Mov.refl _ _ _⟩
  obtain ⟨k, rfl⟩ := Int.eq_ofNat_of_zero_le (by omega : 0 ≤ n)
  have hr : wUnary L k = (L ++ List.replicate k false ++ [true], 0) := by
    rw [wUnary, if_neg (by omega)]
    have := msb_one k 0
    rw [Nat.zero_add] at this
    rw [Int.toNat_natCast, this, List.append_assoc]; rfl
  rw [hr]
  clear hr
  go_enter Try.func73, Try.ntmps73
  go_wp2
  go_loopw [5] (fun nn wr => ∃ (j : Nat) (v1 : Value), nn = .int .i64 j ∧ j ≤ k ∧ WqO wr base g v1 (L ++ List.replicate j false) ∧ Mov w wr g v v1) (fun nn _ => k - (intOf nn).toNat)
  case atStart => exact ⟨0, v, rfl, Nat.zero_le _, by simpa using hR, Mov.refl _ _ _⟩
  case round =>
    obtain ⟨j, v1, rfl, hj, hR1, hm1⟩ := hrel
    have hln : (L ++ List.replicate j false).length ≤ 1099511636736 := by simp; omega
    have hst : L ++ List.replicate j false ++ [false] = L ++ List.replicate (j + 1) false := by rw [List.append_assoc, ← List.replicate_succ']
    generalize hL1 : L ++ List.replicate j false = L1 at *
    have HL1 := Lib.hid hL1; have HST := Lib.hid hst; clear hL1 hst
    have hbr := Nat.le_trans hb hm1.size
    obtain ⟨hbg, hblk, ho⟩ := id hR1
    obtain ⟨c0, hf⟩ := blk1 hblk
    have hgr := fun (v2 : Value) (w2 : World) (hm : ∀ g, Mov wr w2 g v1 v2) => hR1.grown hm
    have HG := Lib.hid hgr; clear hgr hblk
    by_cases hjk : j < k
    · go_wp2_with (at_builtin; refine wpl_push ho hbr (by rw [c01_len]; omega) Try.underlying33 info_u8 rfl (by decide) rfl rfl rfl rfl rfl (h := ?_); intro v2 w2 ho2 hm2; obtain ⟨A2, n2, k2, rfl⟩ := ho2.shape; have hb2 := HG.out _ _ hm2; obtain ⟨d0, hf2⟩ := blk1 hb2)
      exact ⟨⟨j + 1, _, by simp, by omega, HST.out ▸ WqO.push hbg hb2 false ho2 rfl, (hm1.trans (hm2 g)).set _ (.inl rfl)⟩, by simp [intOf]; omega⟩
    · obtain rfl : j = k := by omega
      go_wp2_with (at_builtin; refine wpl_push ho hbr (by rw [c01_len]; omega) Try.underlying33 info_u8 rfl (by decide) rfl rfl rfl rfl rfl (h := ?_); intro v2 w2 ho2 hm2; obtain ⟨A2, n2, k2, rfl⟩ := ho2.shape; have hb2 := HG.out _ _ hm2; obtain ⟨d0, hf2⟩ := blk1 hb2)
      go_ret
      rw [HL1.out]
      exact ⟨rfl, _, WqO.push hbg hb2 true ho2 rfl, (hm1.trans (hm2 g)).set _ (.inl rfl)⟩

theorem qlen_any {w : World} {base g : Nat} {v : Value} {L : List Bool} (hR : WqO w base g v L) :
    Calls Try.prog 24 #[.pointer (some ⟨g, 0, none⟩)] w fun e w' => e = .returned (.int .i64 (L.length : Nat)) ∧ w = w' := by
  obtain ⟨hbg, hblk, ho⟩ := hR
  obtain ⟨c0, hf⟩ := blk1 hblk
  obtain ⟨A, c, rfl, _⟩ := ho.form
  rw [c01_len] at c0
  clear hblk ho
  go_enter Try.func24, Try.ntmps24
  go_wp2
  go_ret
  exact ⟨rfl, rfl⟩

/-- The first k bits lie in their bytes. -/
structure Filled (l : List Nat) (L : List Bool) (k : Nat) : Prop where
  len : l.length = (L.length + 7) / 8
  byte : ∀ x ∈ l, x < 256
  bit : ∀ i, bitAt l i = (decide (i < k) && gb L i)
theorem Filled.start (L : List Bool) : Filled (List.replicate ((L.length + 7) / 8) 0) L 0 := by
  refine ⟨by simp, fun x hx => ?_, fun i => ?_⟩
  · have := (List.mem_replicate.1 hx).2; omega
  · unfold bitAt
    rw [List.getD_eq_getElem?_getD, List.getElem?_replicate]
    split <;> simp
theorem Filled.done {l : List Nat} {L : List Bool} (h : Filled l L L.length) : Packed l L := by
  refine ⟨h.len, h.byte, fun i => ?_⟩
  rw [h.bit]
  by_cases hi : i < L.length
  · simp [hi]
  · rw [gb_out (by omega)]; simp
theorem Filled.step {l : List Nat} {L : List Bool} {k x : Nat} (h : Filled l L k) (hk : k < L.length) (hx : l[k / 8]? = some x) :
    Filled (l.set (k / 8) (x ||| (gb L k).toNat * 2 ^ (7 - k % 8))) L (k + 1) := by
  have hxb := h.byte x (List.mem_of_getElem? hx)
  have hkl : k / 8 < l.length := (List.getElem?_eq_some_iff.1 hx).1
  have hy : x ||| (gb L k).toNat * 2 ^ (7 - k % 8) < 256 := Nat.or_lt_two_pow (n := 8) hxb (shl8 (s := 1) (by have := toNat_le1 (gb L k); omega) (by omega))
  refine ⟨by simp [h.len], fun y hy' => ?_, fun i => ?_⟩
  · rcases List.mem_or_eq_of_mem_set hy' with h' | h'
    · exact h.byte y h'
    · omega
  · rw [bitAt_set _ _ _ _ hkl]
    by_cases hik : i / 8 = k / 8
    · have hxi : x.testBit (7 - i % 8) = (decide (i < k) && gb L i) := by
        rw [← h.bit i, bitAt, hik, List.getD_eq_getElem?_getD, hx]; rfl
      rw [if_pos hik, Nat.testBit_or, hxi, ← Nat.shiftLeft_eq, Nat.testBit_shiftLeft]
      by_cases he : i = k
      · subst he
        simp
        cases gb L i <;> simp
      · by_cases hlt : i < k
        · rw [Nat.testBit_lt_two_pow (x := (gb L k).toNat) (Nat.lt_of_lt_of_le (show _ < 2 by have := toNat_le1 (gb L k); omega) (show 2 ≤ 2 ^ (7 - i % 8 - (7 - k % 8)) from Nat.pow_le_pow_right (n := 2) (by omega) (show 1 ≤ 7 - i % 8 - (7 - k % 8) by omega)))]
          simp [hlt, show i < k + 1 by omega]
        · rw [decide_eq_false (show ¬ 7 - i % 8 ≥ 7 - k % 8 by omega)]
          simp [hlt, show ¬ i < k + 1 by omega]
    · rw [if_neg hik, h.bit]
      have : (i < k) ↔ (i < k + 1) := by omega
      simp [this]

theorem WqO.below {w w' : World} {base g : Nat} {v : Value} {L : List Bool} (h : WqO w base g v L) (hb : Below w.heap.size w w') : WqO w' base g v L := by
  have hlt := h.lt
  obtain ⟨h0, h1, h2⟩ := h
  exact ⟨h0, (hb.block g hlt).trans h1, h2.kept hb⟩

theorem qbytes_any {w : World} {base g : Nat} {v : Value} {L : List Bool} (hR : WqO w base g v L) (hlen : L.length ≤ 1099511627776) :
    Calls Try.prog 27 #[.pointer (some ⟨g, 0, none⟩)] w fun e w' => ∃ v' l, e = .returned v' ∧ Packed l L ∧ Own w' w.heap.size 5 v' (cu8 l) ∧ Below w.heap.size w w' := by
  obtain ⟨hbg, hblk, ho⟩ := id hR
  obtain ⟨c0, hf⟩ := blk1 hblk
  obtain ⟨A, c, rfl, _⟩ := ho.form
  rw [c01_len] at c0 ho hR
  obtain ⟨m, hm⟩ : ∃ m, (L.length + 7) / 8 = m := ⟨_, rfl⟩
  have hmi : ((L.length : Int) + 7) / 8 = (m : Nat) := by omega
  have hm2 : m ≤ 1099511627776 := by omega
  have hst := Filled.start L
  rw [hm] at hst
  have HST := Lib.hid hst
  clear hst hblk hm
  go_enter Try.func27, Try.ntmps27
  go_wp2_with (at_make; refine wpl_make (n := m) Try.underlying33 info_u8 rfl (by decide) (by omega) rfl rfl (congrArg (Value.int IntKind.i64) hmi) (congrArg (Value.int IntKind.i64) hmi) ?_; intro w1 ho1 hb1)
  go_loopw [4] (fun i wr => ∃ (k : Nat) (l : List Nat), k ≤ L.length ∧ i = .int .i64 k ∧ Own wr w.heap.size 5 (.slice (some ⟨w.heap.size, 0, none⟩) m m) (cu8 l) ∧ Filled l L k ∧ Below w.heap.size w wr) (fun i _ => L.length - (intOf i).toNat)
  case atStart => exact ⟨0, _, Nat.zero_le _, rfl, by simpa [cu8] using ho1, HST.out, hb1⟩
  case round =>
    obtain ⟨k, l, hk, rfl, hol, hF, hbl⟩ := hrel
    have hRr := hR.below hbl
    obtain ⟨_, hblk2, ho2⟩ := id hRr
    obtain ⟨d0, hf2⟩ := blk1 hblk2
    clear hblk2
    by_cases hlt : k < L.length
    · have hln := hF.len
      obtain ⟨r, hr8⟩ : ∃ r, k % 8 = r := ⟨_, rfl⟩
      obtain ⟨qq, hq⟩ : ∃ q, k / 8 = q := ⟨_, rfl⟩
      have hr : (k : Int) % 8 = (r : Nat) := by omega
      have hqi : (k : Int) / 8 = (qq : Nat) := by omega
      have hlm : l.length = m := by omega
      have hqm : qq < m := by omega
      obtain ⟨t, ht⟩ : ∃ t : Nat, (7 : Int) - (r : Nat) = (t : Nat) := ⟨7 - r, by omega⟩
      obtain ⟨y, hy⟩ : ∃ y, l[qq]? = some y := ⟨_, List.getElem?_eq_getElem (by omega)⟩
      have hFs := hF.step hlt (by rw [hq]; exact hy)
      rw [hr8, hq, show 7 - r = t by omega] at hFs
      have hor := or8 (s := 1) (t := t) (hF.byte y (List.mem_of_getElem? hy)) (show (gb L k).toNat < 2 ^ 1 by have := toNat_le1 (gb L k); omega) (by omega)
      obtain ⟨b, hbb⟩ : ∃ b : Nat, (gb L k).toNat = b := ⟨_, rfl⟩
      rw [hbb] at hFs hor
      have hb1' : b ≤ 1 := by rw [← hbb]; exact toNat_le1 _
      obtain ⟨g1, c1, hv1, hg1, _, _, hcell1, _, _⟩ := ho2.at_ (by rw [c01_len]; exact Nat.lt_of_le_of_lt (Nat.zero_le _) hlt)
      injection hv1 with e1 e2 e3
      subst e1; subst e3; clear e2
      have hck1 := hcell1 k (by rw [c01_len]; exact hlt)
      have hgk : (c01 L)[k]? = some (.int .u8 (b : Nat)) := by
        unfold c01 cu8
        rw [List.getElem?_map, List.getElem?_map, List.getElem?_eq_getElem hlt, ← hbb]
        unfold gb
        rw [List.getD_eq_getElem?_getD, List.getElem?_eq_getElem hlt]; rfl
      rw [hgk] at hck1
      obtain ⟨g2, c2, hv2, hg2, _, _, hcell2, hfro2, hset2⟩ := hol.at_ (by rw [cu8_len]; omega)
      injection hv2 with e1 e2 e3
      injection e1 with e1; injection e1 with e1
      subst e1; clear e2 e3
      have hck2 := hcell2 qq (by rw [cu8_len]; omega)
      rw [show (cu8 l)[qq]? = some (.int .u8 (y : Nat)) by unfold cu8; rw [List.getElem?_map, hy]; rfl] at hck2
      have hse := hset2 qq (.int .u8 ((y ||| b * 2 ^ t : Nat) : Int))
      rw [show (cu8 l).set qq (.int .u8 ((y ||| b * 2 ^ t : Nat) : Int)) = cu8 (l.set qq (y ||| b * 2 ^ t)) by unfold cu8; rw [List.map_set]] at hse
      have hwq : IntKind.i64.wrap ((qq : Nat) : Int) = (qq : Nat) := IntWalk.i64_in _ (by omega)
      have hut : IntKind.u64.wrap ((t : Nat) : Int) = (t : Nat) := IntWalk.u64_in _ (by omega)
      have HSE := Lib.hid hse; have HFS := Lib.hid hFs
      have hgg : g ≠ w.heap.size := by have := hR.lt; omega
      clear hcell1 hcell2 hset2 hse hFs hgk hF hy hq hr8 hbb hln
      go_upto_region 5 with (fail)
      go_region
      go_wp2
      exact ⟨⟨k + 1, _, by omega, by simp, HSE.out, HFS.out, (hbl.setCell (p := ⟨w.heap.size, qq, none⟩) (Nat.le_refl _) _).drew⟩, by simp [intOf]; omega⟩
    · have hkm : k = L.length := by omega
      subst hkm
      have hP := hF.done
      clear hF
      go_wp2
      go_ret
      exact ⟨_, l, rfl, hP, hol, hbl⟩

end Go.Proofs.Ytohbpjehphmedaa
