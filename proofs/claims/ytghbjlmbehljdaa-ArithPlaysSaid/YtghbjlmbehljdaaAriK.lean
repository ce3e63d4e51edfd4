/- arith: a new decoder. -/
import Derived.Test.YtghbjlmbehljdaaAriJ
namespace Go.Proofs.Ytghbjlmbehljdaa
open Go.RowKit
set_option maxRecDepth 100000
set_option maxHeartbeats 1000000

/-- The number in the first bytes. -/
def vals (l : List Nat) (i : Nat) : Nat := (l.take i).foldl (fun v x => v * 256 + x) 0
theorem vals_succ {l : List Nat} {i x : Nat} (h : l[i]? = some x) : vals l (i + 1) = vals l i * 256 + x := by
  unfold vals
  rw [List.take_add_one, h]
  simp
theorem vals_lt {l : List Nat} (hb : ∀ x ∈ l, x < 256) : ∀ i, i ≤ l.length → vals l i < 256 ^ i
  | 0, _ => by simp [vals]
  | i + 1, h => by
    have h1 : l[i]? = some l[i] := List.getElem?_eq_getElem (by omega)
    have h2 := hb _ (List.mem_of_getElem? h1)
    have h3 := vals_lt hb i (by omega)
    rw [vals_succ h1, Nat.pow_succ]
    omega
theorem vals_digs {k lo : Nat} (h : lo < 256 ^ k) : ∀ i, i ≤ k → vals (digs k lo) i = lo / 256 ^ (k - i)
  | 0, _ => by simp [vals, Nat.div_eq_of_lt h]
  | i + 1, hi => by
    rw [vals_succ (digs_get (by omega)), vals_digs h i (by omega), show k - i = (k - (i + 1)) + 1 by omega, show k - 1 - i = k - (i + 1) by omega, div_pow_add, Nat.pow_one]
    omega
def fstD (l : List Nat) (n i : Nat) : De := ⟨l.drop i, vals l i, 4294967295, List.replicate n 2048, 0⟩

theorem drop_at {l : List Nat} {i x : Nat} (h : l[i]? = some x) : l.drop i = x :: l.drop (i + 1) := by
  obtain ⟨hi, rfl⟩ := List.getElem?_eq_some_iff.1 h
  exact List.drop_eq_getElem_cons hi
theorem DeB.only {w w' : World} {g b : Nat} {vr vr' vo : Value} {s t : De} (h : DeB w g b vr vo s) (hg : w.grownBy w' (some g)) (hblk : w'.heap[g]? = some (.cells #[vr', .int .u64 (t.v : Nat), .int .u64 (t.w : Nat), vo, .int .i64 (t.er : Nat)] 75 (0, 0))) (hr : Row w' b vr' t.rest) (ho : t.od = s.od) : DeB w' g b vr' vo t := by
  have hog : vo.ownBlock ≠ some g := h.own.ne h.blk (by decide)
  refine ⟨hblk, hr, ?_, h.ne, h.na, Nat.lt_of_lt_of_le h.lt hg.size⟩
  rw [ho]
  exact h.own.stay fun k e hk => hg.block k hk fun e' => hog (by rw [e]; exact e'.symm ▸ rfl)

theorem newd_short {w : World} {v : Value} {l : List Nat} {B : Nat} (n : Int) (hS : Sli w B v (cu8 l)) (hn : areB n = true) (hl : l.length < 4) :
    Calls Try.prog 25 #[v, .int .i64 n] w fun e w' => e = .returned (.tuple #[.pointer none, .int .i64 3]) ∧ w = w' := by
  obtain ⟨A, c, rfl, _, _⟩ := hS.form8
  have hA := arec_any n
  rw [hn] at hA
  clear hS
  go_enter Try.func25, Try.ntmps25
  go_wp2_with (go_at_call 32; refine (hA _).mono ?_; rintro e w1 ⟨rfl, rfl⟩)
  go_ret2
  exact ⟨rfl, rfl⟩
theorem newd_good {w : World} {v : Value} {l : List Nat} (n : Nat) (hS : Sli w w.heap.size v (cu8 l)) (hn : areB n = true) (hl : 4 ≤ l.length) (hlm : l.length ≤ 1099511627776) (hb : ∀ x ∈ l, x < 256) (hv : vals l 4 < 4294967295) :
    Calls Try.prog 25 #[v, .int .i64 n] w fun e w' => ∃ g F, e = .returned (.tuple #[.pointer (some ⟨g, 0, none⟩), .int .i64 0]) ∧ DeO w' F g (fstD l n 4) ∧ (∀ k, F k → w.heap.size ≤ k) ∧ Below w.heap.size w w' := by
  have hC := clone_any v l w hS hlm
  obtain ⟨A, c, rfl, _, _⟩ := hS.form8
  have hA := arec_any n
  rw [hn] at hA
  have hnn : 1 ≤ n ∧ n ≤ 4096 := by simp [areB] at hn; omega
  have hO := fun W : World => newod_any n W hnn.1 (by omega)
  have HC := Lib.hid hC; have HO := Lib.hid hO; have HV := Lib.hid (fun _ : True => hv); have HB := Lib.hid hb
  have HLM := Lib.hid (fun _ : True => hlm)
  have hlI : (4 : Int) ≤ (l.length : Nat) := by omega
  clear hC hS hO hv hb hlm hn hnn
  go_enter Try.func25, Try.ntmps25
  go_wp2_with (first
    | (go_at_call 32; refine (hA _).mono ?_; rintro e w1 ⟨rfl, rfl⟩)
    | (go_at_call 45; refine HC.out.mono ?_; rintro e w1 ⟨v1, rfl, ho1, hb1⟩; obtain ⟨g1, q1, hv1, hg1, hq1, hq2, hcell1, hf1, _⟩ := ho1.at_ (by rw [cu8_len]; omega); rw [cu8_len] at hv1 hq1 hcell1; subst hv1; clear hf1)
    | (go_at_call 33; refine (HO.out _).mono ?_; rintro e w2 ⟨v2, rfl, ho2, hb2⟩; obtain ⟨A2, n2, c2, rfl⟩ := ho2.shape))
  have hG : DeB (w2.alloc (.cells #[.slice (some ⟨g1, 0, none⟩) l.length q1, .int .u64 0, .int .u64 4294967295, .slice A2 n2 c2, .int .i64 0] 75)) w2.heap.size g1 (.slice (some ⟨g1, 0, none⟩) l.length q1) (.slice A2 n2 c2) (fstD l n 0) := by
    have hlt := ho1.own_lt (k := g1) rfl
    have hw12 := hb2.size
    have ho3 := ho2.alloc (.cells #[.slice (some ⟨g1, 0, none⟩) l.length q1, .int .u64 0, .int .u64 4294967295, .slice A2 n2 c2, .int .i64 0] 75)
    refine ⟨heap_alloc_new w2 _, ⟨0, q1, rfl, hq1, hq2, fun j x hx => ?_⟩, ho3.mono (Nat.zero_le _), by omega, fun e => ?_, by simp; omega⟩
    · have hj := (List.getElem?_eq_some_iff.1 hx).1
      rw [Nat.zero_add, World.cell?_alloc_lt w2 _ _ (show g1 < w2.heap.size by omega)]
      rw [hb2.cell (p := ⟨g1, j, none⟩) hlt, hcell1 j hj]
      exact cu8_get hx
    · have := (ho2.lt _ e).1
      omega
  have hBl : Below w.heap.size w (w2.alloc (.cells #[.slice (some ⟨g1, 0, none⟩) l.length q1, .int .u64 0, .int .u64 4294967295, .slice A2 n2 c2, .int .i64 0] 75)) := (hb1.trans (hb2.mono hb1.size)).alloc (Nat.le_trans hb1.size hb2.size) _
  have HF : Hid (w.heap.size ≤ w2.heap.size ∧ w.heap.size ≤ g1 ∧ ∀ k, (Value.slice A2 n2 c2).ownBlock = some k → w.heap.size ≤ k) := Lib.hid ⟨Nat.le_trans hb1.size hb2.size, hg1, fun k hk => Nat.le_trans hb1.size (ho2.lt k hk).1⟩
  generalize hGG : w2.heap.size = G at *
  have HG := Lib.hid hG; have HBL := Lib.hid hBl
  clear hG hBl ho1 ho2 hb1 hb2 hcell1 hg1 HO HC hGG
  go_loopw [21] (fun nn wr => ∃ (i : Nat) (vr : Value), nn = .int .i64 i ∧ i ≤ 4 ∧ DeB wr G g1 vr (.slice A2 n2 c2) (fstD l n i) ∧ Below w.heap.size w wr) (fun nn _ => 4 - (intOf nn).toNat)
  case atStart => exact ⟨0, _, rfl, by omega, HG.out, HBL.out⟩
  case round =>
    obtain ⟨i, vr, rfl, hi4, hB, hbl⟩ := hrel
    have HBI := Lib.hid hB; have HBW := Lib.hid hbl
    by_cases hi : i = 4
    · obtain ⟨c0, c1, c2', c3, c4, hf⟩ := blk5 hB.blk
      obtain ⟨V, hV⟩ : ∃ V : Int, (((fstD l n i).v : Nat) : Int) = V := ⟨_, rfl⟩
      have hVl : V < 4294967295 := by
        have := HV.out trivial
        rw [← hV, hi]
        show ((vals l 4 : Nat) : Int) < _
        omega
      rw [hV] at c1
      have c2'' : wr.cell? ⟨G, 2, none⟩ = some (.int .u64 4294967295) := c2'
      have HI := Lib.hid hi
      have hiI : ¬ (i : Int) < 4 := by omega
      clear hB hbl hV hi c2'
      go_wp2
      go_quiet (fail)
      go_wp2
      go_ret2
      refine ⟨G, fd G g1 (.slice A2 n2 c2), rfl, ⟨g1, vr, .slice A2 n2 c2, ?_, rfl⟩, fun k hk => ?_, ⟨HBW.out.os, HBW.out.tape, HBW.out.output, HBW.out.size, HBW.out.block⟩⟩
      · have := HBI.out
        rw [HI.out] at this
        exact ⟨this.blk, this.row.keep rfl, this.own, this.ne, this.na, this.lt⟩
      · rcases hk with rfl | rfl | hk
        · exact HF.out.1
        · exact HF.out.2.1
        · exact HF.out.2.2 k hk
    · obtain ⟨x, hx⟩ : ∃ x, l[i]? = some x := ⟨_, List.getElem?_eq_getElem (by omega)⟩
      have hx8 := HB.out x (List.mem_of_getElem? hx)
      have hvl := vals_lt HB.out i (by omega)
      have hp : 256 ^ i ≤ 256 ^ 3 := Nat.pow_le_pow_right (by omega) (by omega)
      have hrow : Row wr g1 vr (x :: l.drop (i + 1)) := by
        have := hB.row
        rwa [show (fstD l n i).rest = x :: l.drop (i + 1) from drop_at hx] at this
      have hSh := dshift_any hB.blk hrow hB.ne (by show vals l i < _; omega) hx8
      have HSH := Lib.hid hSh
      have HX := Lib.hid hx
      have hiI : (i : Int) < 4 := by omega
      have hi' : i < 4 := by omega
      clear hB hbl hvl hp hrow hSh hx hx8 hi
      go_wp2_with fail
      refine HSH.out.mono ?_
      rintro e w3 ⟨rfl, vr3, hb3, hr3, hg3⟩
      have hbb := HBW.out.trans (below_of_only hg3 HF.out.1 HBW.out.size)
      have HB3 := Lib.hid (HBI.out.only (t := fstD l n (i + 1)) hg3 (by rw [hb3]; show some (Obj.cells #[vr3, .int .u64 (vals l i * 256 + x : Nat), _, _, _] _ _) = some (Obj.cells #[_, .int .u64 (vals l (i + 1) : Nat), _, _, _] _ _); rw [vals_succ HX.out]; rfl) hr3 rfl)
      have HBB := Lib.hid hbb
      clear hbb hb3 hr3 hg3
      go_wp2
      exact ⟨⟨i + 1, vr3, rfl, by omega, HB3.out, HBB.out⟩, by simp [intOf]; omega⟩
end Go.Proofs.Ytghbjlmbehljdaa
