/- arith: the reference's odds, digits; a new coder, its odds, its bytes. -/
import Derived.Test.YtghbjlmbehljdaaAriQa
import Derived.Test.YtghbjlmbehljdaaAriE
import Derived.Test.YtghbjlmbehljdaaAriF
namespace Go.Proofs.Ytghbjlmbehljdaa
open Go.RowKit
set_option maxRecDepth 100000
set_option maxHeartbeats 1000000

theorem qafter_any (o b : Nat) (w : World) (ho : o ≤ 4096) (hb : b ≤ 1) : Calls Try.prog 39 #[.int .i64 o, .int .i64 b] w fun e w' => e = .returned (.int .i64 (odd' o b : Nat)) ∧ w = w' := by
  unfold odd'
  rcases (by omega : b = 0 ∨ b = 1) with rfl | rfl
  · obtain ⟨z, hz⟩ : ∃ z, o + (4096 - o) / 32 = z := ⟨_, rfl⟩
    simp only [if_true]
    rw [hz]
    have hzI : (o : Int) + ((4096 : Int) - (o : Int)) / 32 = (z : Nat) := by omega
    have h0 : (0 : Int) ≤ 4096 - (o : Int) := by omega
    clear hz
    go_enter Try.func39, Try.ntmps39
    go_wp2
    go_ret
    simp
  · obtain ⟨z, hz⟩ : ∃ z, o - o / 32 = z := ⟨_, rfl⟩
    simp only [Nat.one_ne_zero, if_false]
    rw [hz]
    have hzI : (o : Int) - (o : Int) / 32 = (z : Nat) := by omega
    clear hz
    go_enter Try.func39, Try.ntmps39
    go_wp2
    go_ret
    simp
theorem laid_set {n i : Nat} (h : i < n) : (laid i n).set i (.int .i64 2048) = laid (i + 1) n := by
  unfold laid
  rw [show (Value.int .i64 2048) = .int .i64 ((2048 : Nat) : Int) from rfl, cn_set]
  congr 1
  rw [show n - i = (n - (i + 1)) + 1 by omega, List.replicate_succ, List.set_append_right _ _ (by simp)]
  simp only [List.length_replicate, Nat.sub_self, List.set_cons_zero]
  rw [List.replicate_succ', List.append_assoc]
  rfl
theorem qods_any (n : Nat) (w : World) (h1 : 1 ≤ n) (hn : n ≤ 1048576) :
    Calls Try.prog 34 #[.int .i64 n] w fun e w' => ∃ v', e = .returned v' ∧ Own w' w.heap.size 3 v' (cn (List.replicate n 2048)) ∧ Below w.heap.size w w' := by
  go_enter Try.func34, Try.ntmps34
  go_wp2_with (at_make; refine wpl_make (n := n) Try.underlying59 info_odd rfl (by decide) (by omega) rfl rfl rfl rfl ?_; intro w1 ho1 hb1)
  obtain ⟨S0, hS0⟩ : ∃ S0, w.heap.size = S0 := ⟨_, rfl⟩
  rw [hS0] at ho1 hb1 ⊢
  have HO1 := Lib.hid (show Own w1 S0 3 (.slice (some ⟨S0, 0, none⟩) n n) (laid 0 n) by rw [laid, List.replicate_zero, List.nil_append, Nat.sub_zero, cn, List.map_replicate]; exact ho1)
  have HS0 := Lib.hid hS0
  clear ho1 hS0
  go_loopw [4] (fun nn wr => ∃ i : Nat, nn = .int .i64 i ∧ i ≤ n ∧ Own wr S0 3 (.slice (some ⟨S0, 0, none⟩) n n) (laid i n) ∧ Below S0 w wr) (fun nn _ => n - (intOf nn).toNat)
  case atStart => exact ⟨0, rfl, Nat.zero_le _, HO1.out, hb1⟩
  case round =>
    obtain ⟨i, rfl, hin, ho, hb⟩ := hrel
    by_cases hie : i = n
    · subst hie
      have hge : ¬ (i : Int) < (i : Nat) := by omega
      go_wp2
      go_ret
      exact ⟨_, rfl, by rw [HS0.out]; have := ho; rw [laid, Nat.sub_self, List.replicate_zero, List.append_nil] at this; exact this, by rw [HS0.out]; exact hb⟩
    · have hlt : (i : Int) < (n : Nat) := by omega
      have hlen := laid_len (m := i) (n := n) hin
      obtain ⟨g2, c2, hv, _, _, _, hcell, hfro, hset⟩ := ho.at_ (by rw [hlen]; omega)
      injection hv with e1 e2 e3
      injection e1 with e1; injection e1 with e1
      subst e1
      have hc := hcell i (by rw [hlen]; omega)
      have hS := hset i (.int .i64 2048)
      rw [laid_set (by omega)] at hS
      have hl2 : (laid i n)[i]? = some (.int .i64 0) := by
        unfold laid cn
        rw [List.getElem?_map, List.getElem?_append_right (by simp)]
        simp [List.getElem?_replicate]; omega
      rw [hl2] at hc
      have HSS := Lib.hid hS
      have HBB := Lib.hid (hb.trans (below_of_only (grown_set wr S0 i (.int .i64 2048)) (Nat.le_refl _) (HS0.out ▸ hb.size)))
      clear hcell hset hlen hS ho hb hie e2 e3 hl2 hb1
      go_wp2
      exact ⟨⟨i + 1, rfl, by omega, HSS.out, HBB.out⟩, by simp [intOf]; omega⟩

theorem qnew_bad (n : Int) (w : World) (h : areB n = false) : Calls Try.prog 12 #[.int .i64 n] w fun e w' => e = .returned (.tuple #[.pointer none, .int .i64 1]) ∧ w = w' := by
  by_cases h1 : n < 1
  · clear h
    go_enter Try.func12, Try.ntmps12
    go_wp2
    go_ret2
    exact ⟨rfl, rfl⟩
  · have h2 : 4096 < n := by
      rcases Int.lt_or_le 4096 n with h2 | h2
      · exact h2
      · simp [areB] at h; omega
    clear h
    go_enter Try.func12, Try.ntmps12
    go_wp2
    go_ret2
    exact ⟨rfl, rfl⟩
theorem qnew_good (n : Nat) (w : World) (h : areB n = true) : Calls Try.prog 12 #[.int .i64 n] w fun e w' => ∃ g F, e = .returned (.tuple #[.pointer (some ⟨g, 0, none⟩), .int .i64 0]) ∧ CoQ w' F g (start n) ∧ (∀ k, F k → w.heap.size ≤ k) ∧ Below w.heap.size w w' := by
  have hn : 1 ≤ n ∧ n ≤ 4096 := by simp [areB] at h; omega
  have hO := fun W : World => qods_any n W hn.1 (by omega)
  have q1 : (1 : Int) ≤ (n : Nat) := by omega
  have q2 : ((n : Nat) : Int) ≤ 4096 := by omega
  clear h
  go_enter Try.func12, Try.ntmps12
  go_wp2
  have hmk := make4
  go_region_with (first
    | (go_at_call 34; refine (hO _).mono ?_; rintro e wo ⟨vo, rfl, hoo, hbo⟩; obtain ⟨Ao, no, co, rfl⟩ := hoo.shape)
    | fail)
  · have hom := own_made4 w (Nat.le_refl _)
    have hm0 : Below w.heap.size w (w.alloc (.cells (madeCells #[.int .u8 0] 4) 5)) := (Below.refl _ _).alloc (Nat.le_refl _) _
    have hom1 : Own wo w.heap.size 5 (.slice (some ⟨w.heap.size, 0, none⟩) 4 4) (List.replicate 4 (.int .u8 0)) := Own.kept (w := (w.alloc (.cells (madeCells #[.int .u8 0] 4) 5)).drew) hom hbo
    have hbo' : Below w.heap.size w wo := (hm0.drew).trans (hbo.mono (by simp))
    clear hO hmk hom
    go_wp2
    go_ret2
    refine ⟨_, _, rfl, ⟨_, _, heap_alloc_new wo _, (own_zero (n := n) (hom1.mono (Nat.zero_le _))).alloc _, (hoo.mono (Nat.zero_le _)).alloc _, rfl⟩, fun k hk => ?_, hbo'.alloc hbo'.size _⟩
    rcases hk with rfl | hk | hk
    · exact hbo'.size
    · exact (hom1.lt k hk).1
    · exact Nat.le_trans (by simp) (hoo.lt k hk).1
  · have hbo' : Below w.heap.size w wo := (Below.refl _ w).drew.trans hbo
    have hom := own_made4 wo hbo'.size
    have hm0 : Below wo.heap.size wo (wo.alloc (.cells (madeCells #[.int .u8 0] 4) 5)) := (Below.refl _ _).alloc (Nat.le_refl _) _
    have hoo1 := hoo.kept hm0
    have hb2 := hbo'.alloc hbo'.size (.cells (madeCells #[.int .u8 0] 4) 5)
    clear hO hmk
    go_wp2
    go_ret2
    rw [show wo.heap.size + 1 = (wo.alloc (.cells (madeCells #[.int .u8 0] 4) 5)).heap.size by simp]
    refine ⟨_, _, rfl, ⟨_, _, heap_alloc_new _ _, (own_zero (n := n) (hom.mono (Nat.zero_le _))).alloc _, (hoo1.mono (Nat.zero_le _)).alloc _, rfl⟩, fun k hk => ?_, hb2.alloc hb2.size _⟩
    rcases hk with rfl | hk | hk
    · exact hb2.size
    · exact (hom.lt k hk).1
    · exact (hoo1.lt k hk).1
theorem qodds_any {w : World} {F : Nat → Prop} {g : Nat} {s : Co} (hC : CoQ w F g s) (c : Int) : Calls Try.prog 20 #[.pointer (some ⟨g, 0, none⟩), .int .i64 c] w fun e w' => e = .returned (.int .i64 (atO s.od c : Nat)) ∧ w = w' := by
  obtain ⟨vl, vo, hblk, ho, hoo, rfl⟩ := hC
  obtain ⟨c0, c1, c2, hf⟩ := blk3 hblk
  obtain ⟨A2, q2, rfl, _, _⟩ := hoo.form
  rw [cn_len] at *
  unfold atO
  by_cases h : hasB s.od.length c = true
  · rw [if_pos h]
    have h1 := has_iff.1 h
    obtain ⟨i, rfl⟩ := Int.eq_ofNat_of_zero_le h1.1
    have hi : i < s.od.length := by omega
    obtain ⟨_, b, rfl, hbw, hc, _, _⟩ := hoo.cnAt hi
    rw [Int.toNat_natCast]
    have hlt : (i : Int) < (s.od.length : Nat) := by omega
    clear hblk ho hoo h h1
    go_enter Try.func20, Try.ntmps20
    go_wp2
    go_ret
    exact ⟨rfl, rfl⟩
  · rw [if_neg h]
    have h2 : c < 0 ∨ (s.od.length : Int) ≤ c := by rw [has_iff] at h; omega
    by_cases h3 : c < 0
    · clear hblk ho hoo h h2
      go_enter Try.func20, Try.ntmps20
      go_wp2
      go_ret
      exact ⟨rfl, rfl⟩
    · have h4 : (s.od.length : Int) ≤ c := by omega
      clear hblk ho hoo h h2
      go_enter Try.func20, Try.ntmps20
      go_wp2
      go_ret
      exact ⟨rfl, rfl⟩
theorem qbytes_any {w : World} {F : Nat → Prop} {g : Nat} {s : Co} (hC : CoQ w F g s) (hk : s.k ≤ 1099511627776) : Calls Try.prog 23 #[.pointer (some ⟨g, 0, none⟩)] w fun e w' => ∃ v', e = .returned v' ∧ Own w' w.heap.size 5 v' (cu8 (digs s.k s.lo)) ∧ Below w.heap.size w w' := by
  obtain ⟨vl, vo, hblk, ho, hoo, rfl⟩ := hC
  obtain ⟨c0, c1, c2, hf⟩ := blk3 hblk
  have hS := ho.sli
  have hl : (digs s.k s.lo).length ≤ 8796093022208 := by rw [digs_len]; omega
  have hgl := (Array.getElem?_eq_some_iff.1 hblk).1
  have d0 : (w.alloc (.cells #[] 5)).cell? ⟨g, 0, none⟩ = some vl := (World.cell?_alloc_lt w _ _ hgl).trans c0
  obtain ⟨A1, n1, k1, rfl⟩ := ho.shape
  have HS := Lib.hid hS; have HL := Lib.hid hl
  generalize digs s.k s.lo = l at *
  clear hS hblk ho hoo hl c0
  go_enter Try.func23, Try.ntmps23
  go_wp2_with (at_builtin; go_loud (refine wpl_copy HS.out (Nat.le_refl _) (by rw [cu8_len]; exact HL.out) Try.underlying39 info_u8 rfl (by decide) (cu8_one l) rfl rfl rfl rfl (h := ?_)); intro v2 w2 ho2 hb2; obtain ⟨A2, n2, c2', rfl⟩ := ho2.shape)
  go_ret
  exact ⟨_, rfl, ho2, hb2⟩
theorem qdigs_any (v : Nat) (w : World) (hv : v < 4294967296) : Calls Try.prog 43 #[.int .u64 v] w fun e w' => e = .returned (.int .i64 (numD v : Nat)) ∧ w = w' := by
  have hd := numD_le hv
  have hin := numD_in v
  obtain ⟨x, hx⟩ : ∃ x : Int, ((v : Nat) : Int) = x := ⟨_, rfl⟩
  have hx0 : 0 ≤ x := by omega
  have hx1 : x ≤ 4294967295 := by omega
  rw [hx]
  have HV := Lib.hid (fun _ : True => And.intro hx (And.intro hin hd))
  generalize numD v = D at *
  clear hv hd hin hx
  go_enter Try.func43, Try.ntmps43
  go_wp2
  go_loopw [3] (fun nn wr => ∃ d : Nat, nn = .int .i64 d ∧ d ≤ D ∧ wr = w) (fun nn _ => D - (intOf nn).toNat)
  case atStart => exact ⟨0, rfl, Nat.zero_le _, rfl⟩
  case round =>
    obtain ⟨d, rfl, hdD, rfl⟩ := hrel
    have hdd : d ≤ 32 := by have := (HV.out trivial).2.2; omega
    have hmin : min d 64 = d := by omega
    obtain ⟨P, hP⟩ : ∃ P : Nat, (v + 1) / 2 ^ d = P := ⟨_, rfl⟩
    have hPI : (x + 1) / 2 ^ d = (P : Nat) := by
      rw [← hP, ← (HV.out trivial).1]
      simp
    have hwr : IntKind.u64.wrap (d : Int) = (d : Int) := by rw [IntKind.wrap_u64]; omega
    by_cases hde : d = D
    · have hP1 : P ≤ 1 := by
        have h2 := (HV.out trivial).2.1.2
        rw [← hP, ← Nat.lt_succ_iff, Nat.div_lt_iff_lt_mul (Nat.pow_pos (by omega)), hde]
        rw [Nat.pow_succ] at h2
        simp only [Nat.succ_eq_add_one] at *
        omega
      have HDE := Lib.hid hde
      clear hP hde
      go_wp2
      go_ret
      exact ⟨by first | rfl | (rw [HDE.out]; rfl), rfl⟩
    · have hP2 : 2 ≤ P := by
        have h2 := (HV.out trivial).2.1.1
        have h3 : 2 ^ (d + 1) ≤ 2 ^ D := Nat.pow_le_pow_right (by omega) (by omega)
        rw [← hP, Nat.le_div_iff_mul_le (Nat.pow_pos (by omega))]
        rw [Nat.pow_succ] at h3
        omega
      clear hP
      go_wp2
      exact ⟨⟨d + 1, rfl, by omega, by trivial⟩, by simp [intOf]; omega⟩
end Go.Proofs.Ytghbjlmbehljdaa
