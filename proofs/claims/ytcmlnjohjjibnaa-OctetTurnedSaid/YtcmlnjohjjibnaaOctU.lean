/- octet: a number the highest byte first is one the lowest byte first, turned. -/
import Derived.Test.YtcmlnjohjjibnaaOctT
import Derived.Deep.DeepCutAuto
namespace Go.Proofs.Ytcmlnjohjjibnaa
open Go.RowKit
set_option maxRecDepth 100000
set_option maxHeartbeats 400000

theorem want_mask (n j : Nat) (h : j < 8) : bits .and .u64 (n : Int) (IntKind.u64.wrap (IntKind.u64.wrap (2 ^ (8 * j)) - 1)) = (n : Int) % 256 ^ j := by
  have h0 : 0 < 2 ^ (8 * j) := Nat.pow_pos (by omega)
  have h1 : 256 ^ j ≤ 72057594037927936 := pow256_le (by omega)
  rw [pow256] at h1
  have e0 : ((2 : Int) ^ (8 * j)) = ((2 ^ (8 * j) : Nat) : Int) := by simp
  have e1 : IntKind.u64.wrap (IntKind.u64.wrap ((2 : Int) ^ (8 * j)) - 1) = ((2 ^ (8 * j) - 1 : Nat) : Int) := by
    rw [e0, IntKind.wrap_u64, IntKind.wrap_u64]; omega
  rw [e1, u64_mask (8 * j) (by omega) n, ← pow256]
  simp
theorem octetTurned_walk (n : Nat) (size : Int) (w : World) (hn : n < 18446744073709551616) :
    Calls Try.prog 7 #[.int .u64 n, .int .i64 size] w fun e w' => e = .returned (.bool true) ∧ Below w.heap.size w w' := by
  have hcl := clampN_le size
  have hb1' := fun W => obig_any n size W hn
  have hs1' := fun W => osmall_any n size W hn
  have hdef : clampN size = (min (max size 0) 8).toNat := rfl
  have hleV := leV_leB (clampN size) n
  have hrb := fun (W : World) (g : Nat) (h : RdO W g (leB (clampN size) n).reverse 0 0) => rbig_any h size
  have hrs := fun (W : World) (g : Nat) (h : RdO W g (leB (clampN size) n) 0 0) => rsmall_any h size
  have hlen := leB_len (clampN size) n
  have htk1 : rdTake (leB (clampN size) n).reverse 0 0 (clampN size) = ((leB (clampN size) n).reverse, clampN size, 0) := by
    simp only [rdTake, if_true, List.length_reverse, hlen, Nat.sub_zero, Nat.lt_irrefl, if_false, List.drop_zero, Nat.zero_add]
    rw [List.take_of_length_le (by simp [hlen])]
  have htk2 : rdTake (leB (clampN size) n) 0 0 (clampN size) = (leB (clampN size) n, clampN size, 0) := by
    simp only [rdTake, if_true, hlen, Nat.sub_zero, Nat.lt_irrefl, if_false, List.drop_zero, Nat.zero_add]
    rw [List.take_of_length_le (by simp [hlen])]
  simp only [htk1, beV_rev] at hrb
  simp only [htk2] at hrs
  have hby := leB_byte (clampN size) n
  generalize clampN size = m at *
  clear htk1 htk2
  rw [hleV] at hrb hrs
  clear hleV
  have HB := Lib.hid hb1'; have HS := Lib.hid hs1'; have HRB := Lib.hid hrb; have HRS := Lib.hid hrs; have HD := Lib.hid hdef; have HL := Lib.hid hlen
  clear hb1' hs1' hrb hrs hdef hlen
  go_enter Try.func7, Try.ntmps7
  go_upto_region 3 with (go_at_call 10; refine (known_any _).mono ?_; rintro e w1 ⟨rfl, hb1⟩)
  go_cut [5] (fun v wr => v = .int .i64 (m : Nat) ∧ wr = w1)
  case first =>
    go_wp2
    all_goals go_meet
    all_goals (case rel => exact ⟨by have := HD.out; simp; omega, rfl⟩)
  case rest =>
    obtain ⟨rfl, rfl⟩ := hcut
    go_wp2_with (first
      | (go_at_call 30; refine (HB.out _).mono ?_; rintro e w2 ⟨g2, c2, rfl, ho2, hb2⟩)
      | (go_at_call 31; refine (HS.out _).mono ?_; rintro e w3 ⟨g3, c3, rfl, ho3, hb3⟩))
    have ho2' := ho2.kept hb3
    go_loopw [8] (fun i wr => ∃ (j q : Nat), j ≤ m ∧ i = .int .i64 j ∧ wr = w3.drewN q) (fun i _ => m - (intOf i).toNat)
    case atStart => exact ⟨0, 0, Nat.zero_le _, rfl, rfl⟩
    case round =>
      obtain ⟨j, q, hj, rfl, rfl⟩ := hrel
      by_cases hlt : j < m
      · have hl := HL.out
        obtain ⟨g, c, hv, _, _, _, hca, _, _⟩ := ho2'.at_ (by rw [cu8_len, List.length_reverse, hl]; omega)
        injection hv with e1 e2 e3; injection e1 with e1; injection e1 with e1; subst e1
        clear e2 e3
        obtain ⟨g, c, hv, _, _, _, hcb, _, _⟩ := ho3.at_ (by rw [cu8_len, hl]; omega)
        injection hv with e1 e2 e3; injection e1 with e1; injection e1 with e1; subst e1
        clear e2 e3
        obtain ⟨x, hx⟩ : ∃ x, (leB m n)[m - 1 - j]? = some x := ⟨_, List.getElem?_eq_getElem (by omega)⟩
        have ha := hca j (by rw [cu8_len, List.length_reverse, hl]; omega)
        rw [show (cu8 (leB m n).reverse)[j]? = some (.int .u8 (x : Nat)) by unfold cu8; rw [List.getElem?_map, List.getElem?_reverse (by omega), hl, hx]; rfl] at ha
        have hbb := hcb (m - 1 - j) (by rw [cu8_len, hl]; omega)
        rw [show (cu8 (leB m n))[m - 1 - j]? = some (.int .u8 (x : Nat)) by unfold cu8; rw [List.getElem?_map, hx]; rfl] at hbb
        obtain ⟨t, ht⟩ : ∃ t, t = m - 1 - j := ⟨_, rfl⟩
        rw [← ht] at hbb
        have hti : (m : Int) - 1 - (j : Int) = (t : Int) := by omega
        have htm : t < m := by omega
        have HT := Lib.hid ht
        clear hca hcb hx hl ht
        go_wp2
        go_quiet (fail)
        go_wp2
        exact ⟨⟨j + 1, _, by omega, by simp, rfl⟩, by simp [intOf]; omega⟩
      · have hjm : j = m := by omega
        subst hjm
        have hnA := fun W h => new_any (.slice (some ⟨g2, 0, none⟩) j c2) (leB j n).reverse W h (fun x hx => hby x (by simpa using hx)) (by rw [List.length_reverse, HL.out]; omega)
        have hnB := fun W h => new_any (.slice (some ⟨g3, 0, none⟩) j c3) (leB j n) W h hby (by rw [HL.out]; omega)
        have HNA := Lib.hid hnA; have HNB := Lib.hid hnB
        clear hnA hnB hlt
        have hs2 := (ho2'.drewN q).sli
        have hs3 := (ho3.drewN q).sli
        by_cases h8 : j < 8
        · have he := want_mask n j h8
          go_wp2_with (first
            | (go_at_call_of 11 (Value.slice (some ⟨g2, 0, none⟩) j c2); refine (HNA.out _ hs2).mono ?_; rintro e w4 ⟨g4, rfl, hR4, hg4, hb4⟩)
            | (go_at_call_of 11 (Value.slice (some ⟨g3, 0, none⟩) j c3); refine (HNB.out _ ((hs3.below hb4).more hb4.size)).mono ?_; rintro e w5 ⟨g5, rfl, hR5, hg5, hb5⟩)
            | (go_at_call 15; refine (HRB.out _ _ (hR4.below hb5)).mono ?_; rintro e w6 ⟨rfl, hR6, hg6⟩; obtain ⟨cs6, hblk6⟩ := (hR4.below hb5).blk; have hR56 := hR5.only hblk6 (by decide) hg6 (by have := hR4.lt; omega))
            | (go_at_call 17; refine (HRS.out _ _ hR56).mono ?_; rintro e w7 ⟨rfl, hR7, hg7⟩; obtain ⟨cs7, hblk7⟩ := hR56.blk; have hR67 := hR6.only hblk7 (by decide) hg7 (by have := hR4.lt; omega))
            | (go_at_call_of 25 (Value.pointer (some ⟨g4, 0, none⟩)); refine (left_any hR67).mono ?_; rw [List.length_reverse, HL.out]; rintro e w8 ⟨rfl, n8, rfl⟩)
            | (go_at_call_of 25 (Value.pointer (some ⟨g5, 0, none⟩)); refine (left_any (hR7.drewN n8)).mono ?_; rw [HL.out]; rintro e w9 ⟨rfl, n9, rfl⟩))
          go_ret
          have s1 := hb1.size; have s2 := hb2.size; have s3 := hb3.size; have s4 := hb4.size; have s5 := hb5.size
          have hb4' : Below w3.heap.size w3 w4 := (below_drewN (Below.refl _ w3) q).trans hb4
          exact ⟨by simp, below_drewN (bonly (bonly (bthen (bthen (bthen (bthen hb1 hb2 (by omega)) hb3 (by omega)) hb4' (by omega)) hb5 (Nat.le_trans (Nat.le_trans s1 (Nat.le_trans s2 s3)) hb4'.size)) hg6 (Nat.le_refl _) (Nat.le_trans (Nat.le_trans s1 (Nat.le_trans s2 s3)) hg4)) hg7 (Nat.le_refl _) (Nat.le_trans (Nat.le_trans (Nat.le_trans s1 (Nat.le_trans s2 s3)) hb4'.size) hg5)) (n8 + n9)⟩
        · have h88 : j = 8 := by omega
          have he : (n : Int) % 256 ^ j = (n : Int) := by rw [h88]; omega
          have h8' : 8 ≤ j := by omega
          clear h88
          go_wp2_with (first
            | (go_at_call_of 11 (Value.slice (some ⟨g2, 0, none⟩) j c2); refine (HNA.out _ hs2).mono ?_; rintro e w4 ⟨g4, rfl, hR4, hg4, hb4⟩)
            | (go_at_call_of 11 (Value.slice (some ⟨g3, 0, none⟩) j c3); refine (HNB.out _ ((hs3.below hb4).more hb4.size)).mono ?_; rintro e w5 ⟨g5, rfl, hR5, hg5, hb5⟩)
            | (go_at_call 15; refine (HRB.out _ _ (hR4.below hb5)).mono ?_; rintro e w6 ⟨rfl, hR6, hg6⟩; obtain ⟨cs6, hblk6⟩ := (hR4.below hb5).blk; have hR56 := hR5.only hblk6 (by decide) hg6 (by have := hR4.lt; omega))
            | (go_at_call 17; refine (HRS.out _ _ hR56).mono ?_; rintro e w7 ⟨rfl, hR7, hg7⟩; obtain ⟨cs7, hblk7⟩ := hR56.blk; have hR67 := hR6.only hblk7 (by decide) hg7 (by have := hR4.lt; omega))
            | (go_at_call_of 25 (Value.pointer (some ⟨g4, 0, none⟩)); refine (left_any hR67).mono ?_; rw [List.length_reverse, HL.out]; rintro e w8 ⟨rfl, n8, rfl⟩)
            | (go_at_call_of 25 (Value.pointer (some ⟨g5, 0, none⟩)); refine (left_any (hR7.drewN n8)).mono ?_; rw [HL.out]; rintro e w9 ⟨rfl, n9, rfl⟩))
          go_ret
          have s1 := hb1.size; have s2 := hb2.size; have s3 := hb3.size; have s4 := hb4.size; have s5 := hb5.size
          have hb4' : Below w3.heap.size w3 w4 := (below_drewN (Below.refl _ w3) q).trans hb4
          exact ⟨by simp, below_drewN (bonly (bonly (bthen (bthen (bthen (bthen hb1 hb2 (by omega)) hb3 (by omega)) hb4' (by omega)) hb5 (Nat.le_trans (Nat.le_trans s1 (Nat.le_trans s2 s3)) hb4'.size)) hg6 (Nat.le_refl _) (Nat.le_trans (Nat.le_trans s1 (Nat.le_trans s2 s3)) hg4)) hg7 (Nat.le_refl _) (Nat.le_trans (Nat.le_trans (Nat.le_trans s1 (Nat.le_trans s2 s3)) hb4'.size) hg5)) (n8 + n9)⟩

end Go.Proofs.Ytcmlnjohjjibnaa
