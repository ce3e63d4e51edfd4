/- arith: the reference's coder: a number is added to Low, a bit is encoded. -/
import Derived.Test.YtghbjlmbehljdaaAriB
import Derived.Deep.RegionLaw
namespace Go.Proofs.Ytghbjlmbehljdaa
open Go.RowKit
set_option maxRecDepth 100000
set_option maxHeartbeats 1000000

/-- The reference's coder at block g; F are its blocks. -/
def CoQ (w : World) (F : Nat → Prop) (g : Nat) (s : Co) : Prop :=
  ∃ vl vo, w.heap[g]? = some (.cells #[vl, .int .u64 (s.w : Nat), vo] 66 (0, 0)) ∧ Own w 0 5 vl (cu8 (digs s.k s.lo)) ∧ Own w 0 3 vo (cn s.od) ∧ F = fp g vl vo
theorem CoQ.at_ {w : World} {F : Nat → Prop} {g : Nat} {s : Co} (h : CoQ w F g s) : F g := by
  obtain ⟨vl, vo, _, _, _, rfl⟩ := h; exact .inl rfl
theorem CoQ.lt {w : World} {F : Nat → Prop} {g : Nat} {s : Co} (h : CoQ w F g s) : ∀ k, F k → k < w.heap.size := by
  obtain ⟨vl, vo, h1, h2, h3, rfl⟩ := h
  intro k hk
  rcases hk with rfl | hk | hk
  · exact (Array.getElem?_eq_some_iff.1 h1).1
  · exact h2.own_lt hk
  · exact h3.own_lt hk
theorem CoQ.keep {w w' : World} {F : Nat → Prop} {g : Nat} {s : Co} (h : CoQ w F g s) (hk : ∀ k, F k → w'.heap[k]? = w.heap[k]?) : CoQ w' F g s := by
  obtain ⟨vl, vo, h1, h2, h3, rfl⟩ := h
  exact ⟨vl, vo, (hk g (.inl rfl)).trans h1, h2.stay fun k e _ => hk k (.inr (.inl e)), h3.stay fun k e _ => hk k (.inr (.inr e)), rfl⟩
/-- Another object has changed. -/
theorem CoQ.kept {w w' : World} {F G G' : Nat → Prop} {g : Nat} {s : Co} (h : CoQ w F g s) (hc : Chg w w' G G') (hd : ∀ k, F k → ¬ G k) : CoQ w' F g s := h.keep fun k hk => hc.block k (h.lt k hk) (hd k hk)
theorem CoQ.below {w w' : World} {F : Nat → Prop} {g : Nat} {s : Co} (h : CoQ w F g s) (hc : Below w.heap.size w w') : CoQ w' F g s := h.keep fun k hk => hc.block k (h.lt k hk)
theorem CoQ.drewN {w : World} {F : Nat → Prop} {g : Nat} {s : Co} (h : CoQ w F g s) (n : Nat) : CoQ (w.drewN n) F g s := h

theorem qmore_any {w : World} {g : Nat} {vl vo : Value} {W k lo n : Nat} (hblk : w.heap[g]? = some (.cells #[vl, .int .u64 (W : Nat), vo] 66 (0, 0))) (ho : Own w 0 5 vl (cu8 (digs k lo))) (hn : n < 4294967296) (ht : lo + n < 256 ^ k) (hk : k ≤ 1099511627776) :
    Calls Try.prog 51 #[.pointer (some ⟨g, 0, none⟩), .int .u64 n] w fun e w' => e = .returned (.tuple #[]) ∧ w'.heap[g]? = some (.cells #[vl, .int .u64 (W : Nat), vo] 66 (0, 0)) ∧ Own w' 0 5 vl (cu8 (digs k (lo + n))) ∧ w.grownBy w' vl.ownBlock := by
  obtain ⟨A, c, rfl, hc1, hc2⟩ := ho.form8
  rw [digs_len] at *
  have hgl : (Value.slice A k c).ownBlock ≠ some g := ho.ne hblk (by decide)
  have hcar := fun t => carr_le lo n t
  have hstep := fun t => carr_step (a := lo) (b := lo + n) (t := t) (Nat.le_add_right _ _)
  have hend := carr_end (a := lo) ht
  have hz := fun t => carr_zero (a := lo) (b := lo + n) (t := t) (Nat.le_add_right _ _)
  obtain ⟨c0, c1, c2, hf⟩ := blk3 hblk
  have HT := Lib.hid ht; have HCAR := Lib.hid hcar; have HSTEP := Lib.hid hstep; have HEND := Lib.hid hend; have HZ := Lib.hid hz
  have h0 : carr lo (lo + n) 0 = n := by unfold carr; simp
  have H0 := Lib.hid h0
  have HBLK := Lib.hid hblk; have HGL := Lib.hid hgl
  clear ht hcar hstep hend hz h0 hblk hgl
  go_enter Try.func51, Try.ntmps51
  go_wp2
  go_loopw [1, 4] (fun nn ii wr => ∃ t cc : Nat, nn = .int .u64 cc ∧ ii = .int .i64 ((k : Int) - 1 - t) ∧ t ≤ k ∧ Hid (carr lo (lo + n) t = cc) ∧ Hid (wr.heap[g]? = w.heap[g]?) ∧ Own wr 0 5 (.slice A k c) (cu8 (mixd k t lo (lo + n))) ∧ w.grownBy wr (Value.slice A k c).ownBlock) (fun _ ii _ => (intOf ii + 1).toNat)
  case atStart => exact ⟨0, n, rfl, by simp, Nat.zero_le _, H0, Lib.hid rfl, by rw [mixd_zero]; exact ho, ⟨rfl, rfl, rfl, Nat.le_refl _, fun _ _ _ => rfl⟩⟩
  case round =>
    obtain ⟨t, cc, rfl, rfl, htk, HCC, HW, ho1, hg1⟩ := hrel
    have hcc := HCAR.out t
    rw [HCC.out] at hcc
    by_cases hcz : cc = 0
    · subst hcz
      have hd := HZ.out t HCC.out
      clear ho
      rw [mixd_done hd] at ho1
      go_wp2
      all_goals
        go_end0
        exact ⟨rfl, HW.out.trans HBLK.out, ho1, hg1⟩
    · have htl : t < k := by
        rcases Nat.lt_or_ge t k with h | h
        · exact h
        · exfalso
          have : t = k := by omega
          subst this
          rw [HEND.out] at HCC
          exact hcz HCC.out.symm
      obtain ⟨g2, c2', hv, hg2, _, _, hcell, hfro, hset⟩ := ho1.at_ (by rw [cu8_len, mixd_len]; omega)
      rw [cu8_len, mixd_len] at hv
      injection hv with hA hk' hc'
      subst hA; subst hc'
      have hq := hcell (k - 1 - t) (by rw [cu8_len, mixd_len]; omega)
      rw [cu8_get (mixd_at htl)] at hq
      obtain ⟨s1, s2⟩ := HSTEP.out t
      rw [HCC.out] at s1 s2
      have hy : lo / 256 ^ t % 256 < 256 := Nat.mod_lt _ (by omega)
      generalize lo / 256 ^ t % 256 = y at *
      have hS := hset (k - 1 - t) (.int .u8 (((lo + n) / 256 ^ t % 256 : Nat) : Int))
      rw [cu8_set, mixd_set htl] at hS
      generalize (lo + n) / 256 ^ t % 256 = z at *
      obtain ⟨q, hqe⟩ : ∃ q : Nat, (k : Int) - 1 - (t : Int) = (q : Nat) := ⟨k - 1 - t, by omega⟩
      have hqn : k - 1 - t = q := by omega
      rw [hqn] at hq hS
      have hqk : q < k := by omega
      obtain ⟨d0, d1, d2, hf2⟩ := blk3 (HW.out.trans HBLK.out)
      have hgg : g2 ≠ g := fun e => HGL.out (by rw [e]; rfl)
      have hzz : ((cc : Int) + (y : Int)) % 256 = (z : Nat) := by omega
      obtain ⟨c3, hc3⟩ : ∃ c3, carr lo (lo + n) (t + 1) = c3 := ⟨_, rfl⟩
      have hdd : ((cc : Int) + (y : Int)) / 256 = (c3 : Nat) := by omega
      have hand : bits .and .u64 ((cc : Int) + (y : Int)) 255 = (z : Nat) := by
        have h8 := u64_mask 8 (by omega) (cc + y)
        rw [show ((cc + y : Nat) : Int) = (cc : Int) + (y : Int) by omega] at h8
        rw [show (255 : Int) = ((2 ^ 8 - 1 : Nat) : Int) by omega, h8]
        omega
      have HS := Lib.hid hS; have HC3 := Lib.hid hc3; have HQN := Lib.hid hqn
      have HBL : Hid ((wr.setCell ⟨g2, q, none⟩ (.int .u8 (z : Nat))).heap[g]? = w.heap[g]?) := Lib.hid ((heap_setCell_other wr ⟨g2, q, none⟩ g _ (fun e => hgg e.symm)).trans HW.out)
      have HGR := Lib.hid (grown_trans hg1 (grown_set wr g2 q (.int .u8 (z : Nat))))
      clear hS hc3 hqn s1 s2 hcell hset ho ho1 hg1 HW c0 c1 c2 hf
      go_wp2
      refine ⟨⟨t + 1, c3, by first | rfl | exact congrArg _ hdd, by congr 1; omega, by omega, HC3, HBL, HS.out, HGR.out⟩, by simp [intOf]; omega⟩

end Go.Proofs.Ytghbjlmbehljdaa
