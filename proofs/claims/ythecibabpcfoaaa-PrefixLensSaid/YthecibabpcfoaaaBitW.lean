/- bits: the writer's methods. -/
import Derived.Test.YthecibabpcfoaaaFoot
import Derived.Test.YthecibabpcfoaaaBitL
import Derived.Deep.DeepCutAuto
import Derived.Deep.RegionWith
namespace Go.Proofs.Ythecibabpcfoaaa
open Go.RowKit
set_option maxRecDepth 100000
set_option maxHeartbeats 400000

/-- The writer at block g: its row v holds the bits L. -/
def WrO (w : World) (base g : Nat) (v : Value) (L : List Bool) : Prop :=
  base ≤ g ∧ w.heap[g]? = some (.cells #[v, .int .i64 (L.length : Nat)] 52 (0, 0)) ∧ ∃ l, Own w base 5 v (cu8 l) ∧ Packed l L
theorem WrO.lt {w : World} {base g : Nat} {v : Value} {L : List Bool} (h : WrO w base g v L) : g < w.heap.size := (Array.getElem?_eq_some_iff.1 h.2.1).1
/-- Another object's method has run. -/
theorem WrO.moved {w w' : World} {base g g2 : Nat} {v v2 v2' : Value} {L : List Bool} {cs : Array Value} {t : TypeId} {fr : Nat × Nat} (h : WrO w base g v L) (hm : Mov w w' g2 v2 v2') (hg2 : w.heap[g2]? = some (.cells cs t fr)) (ht : 5 ≠ t) (hne : g ≠ g2) (ha : Apart v2 v) (hv : v2.ownBlock ≠ some g) : WrO w' base g v L := by
  have hlt := h.lt
  obtain ⟨h0, h1, l, h2, h3⟩ := h
  exact ⟨h0, (hm.block g hlt hne hv).trans h1, l, h2.moved hm hg2 ht ha, h3⟩
theorem blk2 {w : World} {g : Nat} {a b : Value} {t : TypeId} (h : w.heap[g]? = some (.cells #[a, b] t (0, 0))) :
    w.cell? ⟨g, 0, none⟩ = some a ∧ w.cell? ⟨g, 1, none⟩ = some b ∧ ∀ i, w.frozen? ⟨g, i, none⟩ = false :=
  ⟨by rw [cell_of_row w g 0 _ t (0, 0) h]; rfl, by rw [cell_of_row w g 1 _ t (0, 0) h]; rfl, fun i => frozen_of_row w g i _ t h⟩

theorem chunk_eq (x i s : Nat) (hs : s ≤ 8) : bits .and .u8 ((x : Int) / 2 ^ i % 256) ((2 ^ s - 1 : Nat) : Int) = ((x / 2 ^ i % 2 ^ s : Nat) : Int) := by
  have h8 : 2 ^ s ≤ 2 ^ 8 := Nat.pow_le_pow_right (by omega) hs
  have e : (x : Int) / 2 ^ i % 256 = ((x / 2 ^ i % 256 : Nat) : Int) := by simp
  rw [e, u8_and_nat _ _ (by omega) (by omega), Nat.and_two_pow_sub_one_eq_mod, Nat.mod_mod_of_dvd _ (Nat.pow_dvd_pow 2 hs : 2 ^ s ∣ 2 ^ 8)]
theorem shl8 {c s t : Nat} (hc : c < 2 ^ s) (h : s + t ≤ 8) : c * 2 ^ t < 256 := by
  have h1 : c * 2 ^ t < 2 ^ s * 2 ^ t := Nat.mul_lt_mul_of_pos_right hc (Nat.pow_pos (by omega))
  rw [← Nat.pow_add] at h1
  exact Nat.lt_of_lt_of_le h1 (Nat.pow_le_pow_right (by omega) h : 2 ^ (s + t) ≤ 2 ^ 8)
theorem or8 {y c s t : Nat} (hy : y < 256) (hc : c < 2 ^ s) (h : s + t ≤ 8) : bits .or .u8 (y : Int) ((c : Int) * 2 ^ t % 256) = ((y ||| c * 2 ^ t : Nat) : Int) := by
  have h1 := shl8 hc h
  have e : (c : Int) * 2 ^ t % 256 = ((c * 2 ^ t : Nat) : Int) := by
    have : ((c : Int) * 2 ^ t) = ((c * 2 ^ t : Nat) : Int) := by simp
    rw [this]; omega
  rw [e, u8_or_nat _ _ hy h1]
theorem put_step {L L1 : List Bool} {x k j i s c : Nat} (hL1 : L ++ msb (x / 2 ^ j) (k - j) = L1) (hj : j ≤ k) (hi : i + s = j) (hc : x / 2 ^ i % 2 ^ s = c) : L1 ++ msb c s = L ++ msb (x / 2 ^ i) (k - i) := by
  rw [← hL1, show k - i = (k - j) + s by omega, msb_add, Nat.div_div_eq_div_mul, ← Nat.pow_add, hi, ← hc, msb_mod, List.append_assoc]
theorem wput_any {w : World} {base g : Nat} {v : Value} {L : List Bool} (hR : WrO w base g v L) (hlen : L.length ≤ 1099511627776) (hb : base ≤ w.heap.size) (x : Nat) (n : Int) (hx : x < 18446744073709551616) (_ : -9223372036854775808 ≤ n) (_ : n ≤ 9223372036854775807) :
    Calls Try.prog 50 #[.pointer (some ⟨g, 0, none⟩), .int .u64 x, .int .i64 n] w fun e w' => e = .returned (.int .i64 (wPut L x n).2) ∧ ∃ v', WrO w' base g v' (wPut L x n).1 ∧ Mov w w' g v v' := by
  have h64 := bitLen_64 hx
  have hiff := fun m : Nat => bitLen_iff (n := m) hx
  by_cases h0 : n < 0
  · have hr : wPut L x n = (L, 1) := by simp [wPut, h0]
    rw [hr]
    go_enter Try.func50, Try.ntmps50
    go_wp2
    go_ret
    exact ⟨rfl, v, hR, Mov.refl _ _ _⟩
  by_cases h1 : 64 < n
  · have hr : wPut L x n = (L, 1) := by simp [wPut, h1]
    rw [hr]
    go_enter Try.func50, Try.ntmps50
    go_wp2
    go_ret
    exact ⟨rfl, v, hR, Mov.refl _ _ _⟩
  obtain ⟨k, rfl⟩ := Int.eq_ofNat_of_zero_le (by omega : 0 ≤ n)
  by_cases h2 : 2 ^ k ≤ x
  · have hr : wPut L x k = (L, 1) := by simp [wPut, h2]
    rw [hr]
    have h3 := (hiff k).2 h2
    clear hiff hr h2
    go_enter Try.func50, Try.ntmps50
    go_wp2_with (go_at_call 63; refine (len64_any x _ hx).mono ?_; rintro e w1 ⟨rfl, rfl⟩)
    go_ret
    exact ⟨rfl, v, hR, Mov.refl _ _ _⟩
  have hr : wPut L x k = (L ++ msb x k, 0) := by simp [wPut, h2]; omega
  rw [hr]
  have h3 : ¬ k < Lib.bitLen x := fun h => h2 ((hiff k).1 h)
  clear hiff hr h2
  go_enter Try.func50, Try.ntmps50
  go_wp2_with (go_at_call 63; refine (len64_any x _ hx).mono ?_; rintro e w1 ⟨rfl, rfl⟩)
  go_loopw [2] (fun nn wr => ∃ (j : Nat) (v1 : Value), nn = .int .i64 j ∧ j ≤ k ∧ WrO wr base g v1 (L ++ msb (x / 2 ^ j) (k - j)) ∧ Mov w wr g v v1) (fun nn _ => (intOf nn).toNat)
  case atStart => exact ⟨k, v, rfl, Nat.le_refl _, by simpa [msb] using hR, Mov.refl _ _ _⟩
  case round =>
    obtain ⟨j, v1, rfl, hj, hR1, hm1⟩ := hrel
    by_cases hj0 : j = 0
    · subst hj0
      go_wp2
      go_ret
      exact ⟨rfl, v1, by simpa using hR1, hm1⟩
    have hjp : (0 : Int) < j := by omega
    have hln : (L ++ msb (x / 2 ^ j) (k - j)).length = L.length + (k - j) := by simp [msb_len]
    generalize hL1 : L ++ msb (x / 2 ^ j) (k - j) = L1 at hR1 hln
    have HL1 := Lib.hid hL1; clear hL1
    have hmb : L1.length ≤ 1099511627840 := by omega
    obtain ⟨hbg, hblk, l, ho, hP⟩ := hR1
    have hP1 := hP.len
    obtain ⟨c0, c1, hf⟩ := blk2 hblk
    have hbr := Nat.le_trans hb hm1.size
    generalize hm' : L1.length = m at *
    have HLN := Lib.hid hln; have HM := Lib.hid hm'; clear hln hm'
    go_upto_if 29 with (fail)
    go_cut [2] (fun nn wc => nn = .int .i64 j ∧ ∃ (v2 : Value) (l1 : List Nat), wc.heap[g]? = some (.cells #[v2, .int .i64 m] 52 (0, 0)) ∧ Own wc base 5 v2 (cu8 l1) ∧ l1.length = m / 8 + 1 ∧ (∀ y ∈ l1, y < 256) ∧ (∀ i, bitAt l1 i = gb L1 i) ∧ Mov w wc g v v2)
    case first =>
      by_cases h8 : m % 8 = 0
      · have h8' : ((m : Int) % 8 == 0) = true := by rw [beq_iff_eq]; omega
        go_wp2_with (at_builtin; refine wpl_push ho hbr (by simp [cu8]; omega) Try.underlying35 info_u8 rfl (by decide) rfl rfl rfl rfl rfl (h := ?_); intro v2 w2 ho2 hm2; obtain ⟨A2, n2, k2, rfl⟩ := ho2.shape; have hb2 : w2.heap[g]? = some (.cells #[v1, .int .i64 m] 52 (0, 0)) := ((hm2 (g + 1)).block g ((Array.getElem?_eq_some_iff.1 hblk).1) (by omega) (ho.ne hblk (by decide))).trans hblk; obtain ⟨d0, d1, hf2⟩ := blk2 hb2)
        go_meet
        case rel =>
          have e8 : cu8 l ++ [.int .u8 0] = cu8 (l ++ [0]) := by simp [cu8]
          rw [e8] at ho2
          refine ⟨rfl, _, l ++ [0], heap_setCell_same w2 g 0 _ _ _ hb2, ho2.far hb2 (by decide) (grown_set w2 g 0 _), by simp; omega, fun y hy => ?_, fun i => (bitAt_zero l i).trans (hP.bit i), (hm1.trans (hm2 g)).set _ (.inl rfl)⟩
          rcases List.mem_append.1 hy with h | h
          · exact hP.byte y h
          · have : y = 0 := by simpa using h
            omega
      · have h8' : ((m : Int) % 8 == 0) = false := by rw [beq_eq_false_iff_ne]; omega
        go_wp2
        go_meet
        case rel => exact ⟨rfl, v1, l, hblk, ho, by omega, hP.byte, hP.bit, hm1⟩
    case rest =>
      obtain ⟨rfl, v2, l1, hb2, ho2, hl1, hy1, hi1, hm2⟩ := hcut
      obtain ⟨y, hy⟩ : ∃ y, l1[m / 8]? = some y := ⟨_, List.getElem?_eq_getElem (by omega)⟩
      have hy' := hy1 y (List.mem_of_getElem? hy)
      obtain ⟨g2, c2, rfl, hg2, _, _, hcell, hfro, hset⟩ := ho2.at_ (by rw [cu8_len]; omega)
      have hck := hcell (m / 8) (by rw [cu8_len]; omega)
      rw [show (cu8 l1)[m / 8]? = some (.int .u8 (y : Nat)) by unfold cu8; rw [List.getElem?_map, hy]; rfl] at hck
      rw [cu8_len, hl1] at hb2 ho2 hset hm2
      obtain ⟨d0, d1, hf2⟩ := blk2 hb2
      obtain ⟨r, hr8⟩ : ∃ r, m % 8 = r := ⟨_, rfl⟩
      obtain ⟨q, hq⟩ : ∃ q, m / 8 = q := ⟨_, rfl⟩
      have hr : (m : Int) % 8 = (r : Nat) := by omega
      have hr7 : r ≤ 7 := by omega
      have hqm : q ≤ 1099511627840 := by omega
      rw [hq] at hl1 hy hck hb2 ho2 hset d0 hm2
      have HQ := Lib.hid hq; have HR := Lib.hid hr8
      clear hq hr8 hP1 c0 c1 hf hblk ho hcell hP
      obtain ⟨s, hs⟩ : ∃ s : Nat, min (8 - r) j = s := ⟨_, rfl⟩
      have hs1 : 1 ≤ s := by omega
      have hs2 : s ≤ 8 - r := by omega
      have hs3 : s ≤ j := by omega
      have hmin : min ((8 : Int) - r) (j : Int) = (s : Nat) := by omega
      obtain ⟨i, hi⟩ : ∃ i : Nat, (j : Int) - (s : Nat) = (i : Nat) := ⟨j - s, by omega⟩
      obtain ⟨t, ht⟩ : ∃ t : Nat, (8 : Int) - (r : Nat) - (s : Nat) = (t : Nat) := ⟨8 - r - s, by omega⟩
      have hlow := fun (W : World) => lowest_any s W (by omega)
      have HLO := Lib.hid hlow; clear hlow
      go_upto_region 9 with (fail)
      go_quiet ((go_at_call 60; exact quietLN (HLO.out _)))
      go_upto_region 10 with (fail)
      rw [chunk_eq x i s (by omega)]
      have hc := Nat.mod_lt (x / 2 ^ i) (Nat.pow_pos (n := s) (show 0 < 2 by omega))
      generalize hcc : x / 2 ^ i % 2 ^ s = c at hc ⊢
      have HCC := Lib.hid hcc; clear hcc
      have hor := or8 (t := t) hy' hc (by omega)
      have hgg : g2 ≠ g := fun e => ho2.ne hb2 (by decide) (by rw [e]; rfl)
      have hgg2 : g ≠ g2 := fun e => hgg e.symm
      go_region
      have hse : Own ((wc.drewN (nq + 1)).setCell ⟨g2, q, none⟩ (.int .u8 ((y ||| c * 2 ^ t : Nat) : Int))) base 5 (.slice (some ⟨g2, 0, none⟩) (q + 1) c2) ((cu8 l1).set q (.int .u8 ((y ||| c * 2 ^ t : Nat) : Int))) := hset q (.int .u8 ((y ||| c * 2 ^ t : Nat) : Int))
      have e1 : (wc.drewN (nq + 1)).cell? ⟨g, 1, none⟩ = some (.int .i64 m) := d1
      have e3 : ∀ n, ((wc.drewN (nq + 1)).setCell ⟨g2, q, none⟩ (.int .u8 ((y ||| c * 2 ^ t : Nat) : Int))).frozen? ⟨g, n, none⟩ = false := by intro n; simpa using hf2 n
      clear hset hor
      go_wp2
      have hb3 : ((wc.drewN (nq + 1)).setCell ⟨g2, q, none⟩ (.int .u8 ((y ||| c * 2 ^ t : Nat) : Int))).heap[g]? = some (.cells #[.slice (some ⟨g2, 0, none⟩) (q + 1) c2, .int .i64 m] 52 (0, 0)) := (heap_setCell_other _ _ _ _ hgg2).trans hb2
      have hP := Packed.put (l := l1) (L := L1) (c := c) (s := s) (x := y) (by rw [HM.out, HQ.out, hl1]) hy1 hi1 hs1 (by rw [HM.out, HR.out]; omega) hc (by rw [HM.out, HQ.out]; exact hy)
      rw [HM.out, HQ.out, HR.out, show 8 - r - s = t by omega, put_step HL1.out hj (by omega) HCC.out] at hP
      have hlen2 : ((L ++ msb (x / 2 ^ i) (k - i)).length : Int) = (m : Int) + s := by rw [List.length_append, msb_len]; have := HLN.out; omega
      have ecu : (cu8 l1).set q (.int .u8 ((y ||| c * 2 ^ t : Nat) : Int)) = cu8 (l1.set q (y ||| c * 2 ^ t)) := by unfold cu8; rw [List.map_set]
      rw [ecu] at hse
      refine ⟨⟨i, _, rfl, by omega, ⟨hbg, ?_, _, hse.far hb3 (by decide) (grown_set _ g 1 _), hP⟩, ((hm2.drewN (nq + 1)).set _ (.inr rfl)).set _ (.inl rfl)⟩, by simp [intOf]; omega⟩
      rw [hlen2]
      exact heap_setCell_same _ g 1 _ _ _ hb3

end Go.Proofs.Ythecibabpcfoaaa
