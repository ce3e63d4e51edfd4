/- arith: what an object is made of; the coder: a number is added to Low, a bit is encoded. -/
import Derived.Test.YtghbjlmbehljdaaFoot
import Derived.Test.YtghbjlmbehljdaaByt
import Derived.Test.YtghbjlmbehljdaaAriP
import Derived.Deep.RegionWith
import Derived.Deep.DeepCutAuto
import Derived.Deep.LoopGhost
namespace Go.Proofs.Ytghbjlmbehljdaa
open Go.RowKit
set_option maxRecDepth 100000
set_option maxHeartbeats 400000

/-- From world w to w' only the blocks F have changed; F' are the object's blocks now: the same, or new ones. -/
structure Chg (w w' : World) (F F' : Nat → Prop) : Prop where
  os : w'.os = w.os
  tape : w'.tape = w.tape
  output : w'.output = w.output
  size : w.heap.size ≤ w'.heap.size
  block : ∀ k, k < w.heap.size → ¬ F k → w'.heap[k]? = w.heap[k]?
  own : ∀ k, F' k → F k ∨ w.heap.size ≤ k
theorem Chg.refl (w : World) (F : Nat → Prop) : Chg w w F F := ⟨rfl, rfl, rfl, Nat.le_refl _, fun _ _ _ => rfl, fun _ h => .inl h⟩
theorem Chg.trans {w w1 w2 : World} {F F1 F2 : Nat → Prop} (h : Chg w w1 F F1) (k : Chg w1 w2 F1 F2) : Chg w w2 F F2 := by
  refine ⟨k.os.trans h.os, k.tape.trans h.tape, k.output.trans h.output, Nat.le_trans h.size k.size, fun i hi hF => ?_, fun i hi => ?_⟩
  · refine (k.block i (Nat.lt_of_lt_of_le hi h.size) fun e => ?_).trans (h.block i hi hF)
    rcases h.own i e with e | e
    · exact hF e
    · omega
  · rcases k.own i hi with e | e
    · exact h.own i e
    · exact .inr (Nat.le_trans h.size e)
theorem Chg.of_below {w w' : World} {F : Nat → Prop} (h : Below w.heap.size w w') : Chg w w' F F := ⟨h.os, h.tape, h.output, h.size, fun k hk _ => h.block k hk, fun _ e => .inl e⟩
theorem Chg.below {w w' : World} {F F' : Nat → Prop} {base : Nat} (h : Chg w w' F F') (hF : ∀ k, F k → base ≤ k) (hb : base ≤ w.heap.size) : Below base w w' :=
  ⟨h.os, h.tape, h.output, h.size, fun k hk => h.block k (Nat.lt_of_lt_of_le hk hb) (fun e => by have := hF k e; omega)⟩
theorem Chg.base {w w' : World} {F F' : Nat → Prop} {base : Nat} (h : Chg w w' F F') (hF : ∀ k, F k → base ≤ k) (hb : base ≤ w.heap.size) : ∀ k, F' k → base ≤ k := fun k hk => by
  rcases h.own k hk with e | e
  · exact hF k e
  · omega
theorem Chg.drewN {w w' : World} {F F' : Nat → Prop} (h : Chg w w' F F') (n : Nat) : Chg w (w'.drewN n) F F' := ⟨h.os, h.tape, h.output, h.size, h.block, h.own⟩
theorem Chg.drew {w w' : World} {F F' : Nat → Prop} (h : Chg w w' F F') : Chg w w'.drew F F' := ⟨h.os, h.tape, h.output, h.size, h.block, h.own⟩
theorem Chg.set {w w' : World} {F F' : Nat → Prop} {b j : Nat} (h : Chg w w' F F') (u : Value) (hb : F' b) : Chg w (w'.setCell ⟨b, j, none⟩ u) F F' :=
  h.trans ⟨rfl, rfl, rfl, by simp, fun k hk hF => heap_setCell_other w' ⟨b, j, none⟩ k u (fun e => hF (by have e : k = b := e; rw [e]; exact hb)), fun _ e => .inl e⟩
theorem Chg.to {w w' : World} {F F' G : Nat → Prop} (h : Chg w w' F F') (hg : ∀ k, G k → F' k) : Chg w w' F G := ⟨h.os, h.tape, h.output, h.size, h.block, fun k hk => h.own k (hg k hk)⟩
/-- The blocks of an object at g with the rows v and u. -/
def fp (g : Nat) (v u : Value) : Nat → Prop := fun k => k = g ∨ v.ownBlock = some k ∨ u.ownBlock = some k
theorem Chg.of_mov {w w' : World} {g : Nat} {v v' u : Value} (h : Mov w w' g v v') : Chg w w' (fp g v u) (fp g v' u) := by
  refine ⟨h.os, h.tape, h.output, h.size, fun k hk hF => h.block k hk (fun e => hF (.inl e)) (fun e => hF (.inr (.inl e))), fun k hk => ?_⟩
  rcases hk with e | e | e
  · exact .inl (.inl e)
  · rcases h.own k e with e | e
    · exact .inl (.inr (.inl e))
    · exact .inr e
  · exact .inl (.inr (.inr e))
theorem Own.stay {w w' : World} {base : Nat} {e : TypeId} {v : Value} {xs : List Value} (h : Own w base e v xs) (hk : ∀ k, v.ownBlock = some k → k < w.heap.size → w'.heap[k]? = w.heap[k]?) : Own w' base e v xs := by
  rcases h.2 with ⟨rfl, h0⟩ | ⟨k, cap, cur, rfl, hb, hg, r⟩
  · exact ⟨h.1, .inl ⟨rfl, h0⟩⟩
  · have hlt := (Array.getElem?_eq_some_iff.1 hg).1
    exact ⟨h.1, .inr ⟨k, cap, cur, rfl, hb, (hk k rfl hlt).trans hg, r⟩⟩
theorem Own.own_lt {w : World} {base : Nat} {e : TypeId} {v : Value} {xs : List Value} (h : Own w base e v xs) {k : Nat} (hk : v.ownBlock = some k) : k < w.heap.size := (h.lt k hk).2

/-- Numbers as ints. -/
def cn (l : List Nat) : List Value := l.map fun x => .int .i64 (x : Nat)
theorem cn_len (l : List Nat) : (cn l).length = l.length := by simp [cn]
theorem cn_at {l : List Nat} {i : Nat} (h : i < l.length) : (cn l)[i]? = some (.int .i64 (l.getD i 0 : Nat)) := by simp [cn, h]
theorem cn_set (l : List Nat) (i x : Nat) : (cn l).set i (.int .i64 (x : Nat)) = cn (l.set i x) := by simp [cn, List.map_set]
theorem cu8_set (l : List Nat) (i x : Nat) : (cu8 l).set i (.int .u8 (x : Nat)) = cu8 (l.set i x) := by simp [cu8, List.map_set]
theorem cu8_get {l : List Nat} {i x : Nat} (h : l[i]? = some x) : (cu8 l)[i]? = some (.int .u8 (x : Nat)) := by simp [cu8, h]

/-- The coder at block g; F are its blocks. -/
def CoO (w : World) (F : Nat → Prop) (g : Nat) (s : Co) : Prop :=
  ∃ vl vo, w.heap[g]? = some (.cells #[vl, .int .u64 (s.w : Nat), vo] 63 (0, 0)) ∧ Own w 0 5 vl (cu8 (digs s.k s.lo)) ∧ Own w 0 3 vo (cn s.od) ∧ F = fp g vl vo
theorem CoO.at_ {w : World} {F : Nat → Prop} {g : Nat} {s : Co} (h : CoO w F g s) : F g := by
  obtain ⟨vl, vo, _, _, _, rfl⟩ := h; exact .inl rfl
theorem CoO.lt {w : World} {F : Nat → Prop} {g : Nat} {s : Co} (h : CoO w F g s) : ∀ k, F k → k < w.heap.size := by
  obtain ⟨vl, vo, h1, h2, h3, rfl⟩ := h
  intro k hk
  rcases hk with rfl | hk | hk
  · exact (Array.getElem?_eq_some_iff.1 h1).1
  · exact h2.own_lt hk
  · exact h3.own_lt hk
theorem CoO.keep {w w' : World} {F : Nat → Prop} {g : Nat} {s : Co} (h : CoO w F g s) (hk : ∀ k, F k → w'.heap[k]? = w.heap[k]?) : CoO w' F g s := by
  obtain ⟨vl, vo, h1, h2, h3, rfl⟩ := h
  exact ⟨vl, vo, (hk g (.inl rfl)).trans h1, h2.stay fun k e _ => hk k (.inr (.inl e)), h3.stay fun k e _ => hk k (.inr (.inr e)), rfl⟩
/-- Another object has changed. -/
theorem CoO.kept {w w' : World} {F G G' : Nat → Prop} {g : Nat} {s : Co} (h : CoO w F g s) (hc : Chg w w' G G') (hd : ∀ k, F k → ¬ G k) : CoO w' F g s := h.keep fun k hk => hc.block k (h.lt k hk) (hd k hk)
theorem CoO.below {w w' : World} {F : Nat → Prop} {g : Nat} {s : Co} (h : CoO w F g s) (hc : Below w.heap.size w w') : CoO w' F g s := h.keep fun k hk => hc.block k (h.lt k hk)
theorem CoO.drewN {w : World} {F : Nat → Prop} {g : Nat} {s : Co} (h : CoO w F g s) (n : Nat) : CoO (w.drewN n) F g s := h

theorem carr_le (a n t : Nat) : carr a (a + n) t ≤ n := by
  unfold carr
  have hp : 0 < 256 ^ t := Nat.pow_pos (by omega)
  generalize 256 ^ t = D at *
  have h1 : (a + n) / D ≤ a / D + n := by
    have : (a + n) / D < a / D + n + 1 := by
      rw [Nat.div_lt_iff_lt_mul hp, Nat.add_mul, Nat.add_mul]
      have e1 := Nat.div_add_mod a D
      have e2 := Nat.mod_lt a hp
      have e3 : n * 1 ≤ n * D := Nat.mul_le_mul_left _ hp
      have e4 : D * (a / D) = a / D * D := Nat.mul_comm _ _
      omega
    omega
  omega

theorem cadd_any {w : World} {g : Nat} {vl vo : Value} {W k lo n : Nat} (hblk : w.heap[g]? = some (.cells #[vl, .int .u64 (W : Nat), vo] 63 (0, 0))) (ho : Own w 0 5 vl (cu8 (digs k lo))) (hn : n < 4294967296) (ht : lo + n < 256 ^ k) (hk : k ≤ 1099511627776) :
    Calls Try.prog 50 #[.pointer (some ⟨g, 0, none⟩), .int .u64 n] w fun e w' => e = .returned (.tuple #[]) ∧ w'.heap[g]? = some (.cells #[vl, .int .u64 (W : Nat), vo] 63 (0, 0)) ∧ Own w' 0 5 vl (cu8 (digs k (lo + n))) ∧ w.grownBy w' vl.ownBlock := by
  obtain ⟨A, c, rfl, hc1, hc2⟩ := ho.form8
  rw [digs_len] at *
  have hgl : (Value.slice A k c).ownBlock ≠ some g := ho.ne hblk (by decide)
  have hcar := fun t => carr_le lo n t
  have hstep := fun t => carr_step (a := lo) (b := lo + n) (t := t) (Nat.le_add_right _ _)
  have hend := carr_end (a := lo) ht
  have hz := fun t => carr_zero (a := lo) (b := lo + n) (t := t) (Nat.le_add_right _ _)
  obtain ⟨c0, c1, c2, hf⟩ := blk3 hblk
  have HT := Lib.hid ht; have HCAR := Lib.hid hcar; have HSTEP := Lib.hid hstep; have HEND := Lib.hid hend; have HZ := Lib.hid hz
  have h0 : carr lo (lo + n) 0 = n := by unfold carr; simp
  have H0 := Lib.hid h0
  have HBLK := Lib.hid hblk; have HGL := Lib.hid hgl
  clear ht hcar hstep hend hz h0 hblk hgl
  go_enter Try.func50, Try.ntmps50
  go_wp2
  go_loopw [1, 4] (fun nn ii wr => ∃ t cc : Nat, nn = .int .u64 cc ∧ ii = .int .i64 ((k : Int) - 1 - t) ∧ t ≤ k ∧ Hid (carr lo (lo + n) t = cc) ∧ Hid (wr.heap[g]? = w.heap[g]?) ∧ Own wr 0 5 (.slice A k c) (cu8 (mixd k t lo (lo + n))) ∧ w.grownBy wr (Value.slice A k c).ownBlock) (fun _ ii _ => (intOf ii + 1).toNat)
  case atStart => exact ⟨0, n, rfl, by simp, Nat.zero_le _, H0, Lib.hid rfl, by rw [mixd_zero]; exact ho, ⟨rfl, rfl, rfl, Nat.le_refl _, fun _ _ _ => rfl⟩⟩
  case round =>
    obtain ⟨t, cc, rfl, rfl, htk, HCC, HW, ho1, hg1⟩ := hrel
    have hcc := HCAR.out t
    rw [HCC.out] at hcc
    by_cases hcz : cc = 0
    · subst hcz
      have hd := HZ.out t HCC.out
      clear ho
      go_wp2
      go_end0
      rw [mixd_done hd] at ho1
      exact ⟨rfl, HW.out.trans HBLK.out, ho1, hg1⟩
    · have htl : t < k := by
        rcases Nat.lt_or_ge t k with h | h
        · exact h
        · exfalso
          have : t = k := by omega
          subst this
          rw [HEND.out] at HCC
          exact hcz HCC.out.symm
      obtain ⟨g2, c2', hv, hg2, _, _, hcell, hfro, hset⟩ := ho1.at_ (by rw [cu8_len, mixd_len]; omega)
      rw [cu8_len, mixd_len] at hv
      injection hv with hA hk' hc'
      subst hA; subst hc'
      have hq := hcell (k - 1 - t) (by rw [cu8_len, mixd_len]; omega)
      rw [cu8_get (mixd_at htl)] at hq
      obtain ⟨s1, s2⟩ := HSTEP.out t
      rw [HCC.out] at s1 s2
      have hy : lo / 256 ^ t % 256 < 256 := Nat.mod_lt _ (by omega)
      generalize lo / 256 ^ t % 256 = y at *
      have hS := hset (k - 1 - t) (.int .u8 (((lo + n) / 256 ^ t % 256 : Nat) : Int))
      rw [cu8_set, mixd_set htl] at hS
      generalize (lo + n) / 256 ^ t % 256 = z at *
      obtain ⟨q, hqe⟩ : ∃ q : Nat, (k : Int) - 1 - (t : Int) = (q : Nat) := ⟨k - 1 - t, by omega⟩
      have hqn : k - 1 - t = q := by omega
      rw [hqn] at hq hS
      have hqk : q < k := by omega
      obtain ⟨d0, d1, d2, hf2⟩ := blk3 (HW.out.trans HBLK.out)
      have hgg : g2 ≠ g := fun e => HGL.out (by rw [e]; rfl)
      have hzz : ((cc : Int) + (y : Int)) % 256 = (z : Nat) := by omega
      obtain ⟨c3, hc3⟩ : ∃ c3, carr lo (lo + n) (t + 1) = c3 := ⟨_, rfl⟩
      have hdd : ((cc : Int) + (y : Int)) / 256 = (c3 : Nat) := by omega
      have HS := Lib.hid hS; have HC3 := Lib.hid hc3; have HQN := Lib.hid hqn
      have HBL : Hid ((wr.setCell ⟨g2, q, none⟩ (.int .u8 (z : Nat))).heap[g]? = w.heap[g]?) := Lib.hid ((heap_setCell_other wr ⟨g2, q, none⟩ g _ (fun e => hgg e.symm)).trans HW.out)
      have HGR := Lib.hid (grown_trans hg1 (grown_set wr g2 q (.int .u8 (z : Nat))))
      clear hS hc3 hqn s1 s2 hcell hset ho ho1 hg1 HW c0 c1 c2 hf
      go_wp2
      refine ⟨⟨t + 1, c3, congrArg _ hdd, by congr 1; omega, by omega, HC3, HBL, HS.out, HGR.out⟩, by simp [intOf]; omega⟩

end Go.Proofs.Ytghbjlmbehljdaa
