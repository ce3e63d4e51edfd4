/- arith: coded. -/
import Derived.Test.YtghbjlmbehljdaaAriV
import Derived.Deep.RegionHeld3
import Derived.Deep.CutBlock
namespace Go.Proofs.Ytghbjlmbehljdaa
open Go.RowKit
set_option maxRecDepth 100000
set_option maxHeartbeats 4000000

theorem aput_any {w : World} {F : Nat → Prop} {g n : Nat} {s : Co} (hC : CoO w F g s) (hK : Ok s n) (hk : s.k ≤ 1099511627000) (a : Ac) (h0 : a.what = 0) :
    Calls Try.prog 13 #[.pointer (some ⟨g, 0, none⟩), .int .i64 a.ctx, .int .i64 a.bit] w fun e w' => e = .returned (.int .i64 (actE n a : Nat)) ∧ ∃ F', CoO w' F' g (actS n s a) ∧ Chg w w' F F' := by
  have he : okA n a = putB n a.ctx a.bit := by unfold okA; rw [if_pos h0]
  unfold actE actS
  rw [he]
  cases hp : putB n a.ctx a.bit with
  | false =>
    refine (cput_bad hC a.ctx a.bit (by rw [hK.len]; exact hp)).mono ?_
    rintro e w' ⟨rfl, rfl⟩
    exact ⟨rfl, F, by simpa using hC, Chg.refl _ _⟩
  | true =>
    have h := hp
    simp only [putB, Bool.and_eq_true, has_iff, decide_eq_true_eq] at h
    obtain ⟨c, hc⟩ := Int.eq_ofNat_of_zero_le h.1.1
    obtain ⟨b, hb⟩ := Int.eq_ofNat_of_zero_le h.2.1
    have hops : opsA a = [(some c, b)] := by unfold opsA; rw [if_pos h0, hc, hb]; rfl
    rw [hops, hc, hb]
    refine (cput_any hC hK (by omega) c b (by omega) (by omega)).mono ?_
    rintro e w' ⟨rfl, F', h1, h2⟩
    exact ⟨rfl, F', by simpa [run] using h1, h2⟩
theorem araw_any {w : World} {F : Nat → Prop} {g n : Nat} {s : Co} (hC : CoO w F g s) (hK : Ok s n) (hk : s.k ≤ 1099511627000) (a : Ac) (ha : AcOk a) (h0 : ¬ a.what = 0) (h1 : a.what = 1) :
    Calls Try.prog 15 #[.pointer (some ⟨g, 0, none⟩), .int .u64 a.v, .int .i64 a.n] w fun e w' => e = .returned (.int .i64 (actE n a : Nat)) ∧ ∃ F', CoO w' F' g (actS n s a) ∧ Chg w w' F F' := by
  have he : okA n a = rawB a.v a.n := by unfold okA; rw [if_neg h0, if_pos h1]
  unfold actE actS
  rw [he]
  cases hp : rawB a.v a.n with
  | false =>
    refine (craw_bad a.v a.n ha.2.2.2.2 ha.2.2.2.1.1 ha.2.2.2.1.2 hp).mono ?_
    rintro e w' ⟨rfl, rfl⟩
    exact ⟨rfl, F, by simpa using hC, Chg.refl _ _⟩
  | true =>
    obtain ⟨p1, p2, p3⟩ := raw_iff.1 hp
    obtain ⟨k, hk'⟩ := Int.eq_ofNat_of_zero_le p1
    have hops : opsA a = rawOps a.v k := by unfold opsA; rw [if_neg h0, if_pos h1, hk']; rfl
    rw [hk', Int.toNat_natCast] at p3
    rw [hops, hk']
    refine (craw_any hC hK (by omega) a.v k (by omega) p3).mono ?_
    rintro e w' ⟨rfl, F', h1, h2⟩
    exact ⟨rfl, F', by simpa using h1, h2⟩
theorem anum_any {w : World} {F : Nat → Prop} {g n : Nat} {s : Co} (hC : CoO w F g s) (hK : Ok s n) (hn : n ≤ 4096) (hk : s.k ≤ 1099511627000) (a : Ac) (ha : AcOk a) (h0 : ¬ a.what = 0) (h1 : ¬ a.what = 1) :
    Calls Try.prog 17 #[.pointer (some ⟨g, 0, none⟩), .int .i64 a.ctx, .int .u64 a.v] w fun e w' => e = .returned (.int .i64 (actE n a : Nat)) ∧ ∃ F', CoO w' F' g (actS n s a) ∧ Chg w w' F F' := by
  have he : okA n a = numB n a.v a.ctx := by unfold okA; rw [if_neg h0, if_neg h1]
  unfold actE actS
  rw [he]
  cases hp : numB n a.v a.ctx with
  | false =>
    refine (cnum_bad hC (by rw [hK.len]; omega) a.ctx a.v ha.2.2.2.2 (by rw [hK.len]; exact hp)).mono ?_
    rintro e w' ⟨rfl, rfl⟩
    exact ⟨rfl, F, by simpa using hC, Chg.refl _ _⟩
  | true =>
    have h := hp
    simp only [numB, Bool.and_eq_true, have_iff, decide_eq_true_eq] at h
    obtain ⟨c, hc⟩ := Int.eq_ofNat_of_zero_le h.2.1
    have hops : opsA a = numOps c a.v := by unfold opsA; rw [if_neg h0, if_neg h1, hc]; rfl
    rw [hops, hc]
    refine (cnum_any hC hK (by omega) (by omega) c a.v (by omega) h.1).mono ?_
    rintro e w' ⟨rfl, F', h1, h2⟩
    exact ⟨rfl, F', by simpa using h1, h2⟩
theorem CoO.types {w : World} {F : Nat → Prop} {g : Nat} {s : Co} (h : CoO w F g s) {k : Nat} (hk : F k) {cs : Array Value} {fr : Nat × Nat} : w.heap[k]? ≠ some (.cells cs 33 fr) := by
  obtain ⟨vl, vo, h1, h2, h3, rfl⟩ := h
  intro he
  rcases hk with rfl | hk | hk
  · rw [h1] at he; injection he with he; injection he with _ e2; exact absurd e2 (by decide)
  · obtain ⟨c, hc⟩ := h2.blk hk
    rw [hc] at he; injection he with he; injection he with _ e2; exact absurd e2 (by decide)
  · obtain ⟨c, hc⟩ := h3.blk hk
    rw [hc] at he; injection he with he; injection he with _ e2; exact absurd e2 (by decide)
theorem CoO.acO {w w' : World} {F F' : Nat → Prop} {g base : Nat} {s : Co} {vd : Value} {es : List Ac} (h : CoO w F g s) (hA : AcO w base vd es) (hc : Chg w w' F F') : AcO w' base vd es :=
  hA.kept fun k hk => hc.block k (hA.lt k hk).2 fun hF => by
    obtain ⟨cs, e⟩ := hA.blk hk
    exact h.types hF e
theorem CoO.mov {w w' : World} {F : Nat → Prop} {g base gx : Nat} {s : Co} {vd vd' : Value} {es : List Ac} (h : CoO w F g s) (hA : AcO w base vd es) (hm : ∀ g, Mov w w' g vd vd') : CoO w' F g s :=
  h.keep fun k hF => (hm (w.heap.size)).block k (h.lt k hF) (by have := h.lt k hF; omega) fun e => by
    obtain ⟨cs, e'⟩ := hA.blk e
    exact h.types hF e'

theorem coded_any (n : Nat) (v : Value) (l : List Ac) (w : World) (hn1 : 1 ≤ n) (hn2 : n ≤ 4096) (hS : Acs w w.heap.size v l) (hok : ∀ x ∈ l, AcOk x) (hl : l.length ≤ 1000) :
    Calls Try.prog 24 #[.int .i64 n, v] w fun e w' => ∃ g F vd, e = .returned (.tuple #[.pointer (some ⟨g, 0, none⟩), vd]) ∧ CoO w' F g (run (start n) (opsL (doneA n l))) ∧ AcO w' w.heap.size vd (doneA n l) ∧ (∀ k, F k → w.heap.size ≤ k) ∧ Below w.heap.size w w' := by
  obtain ⟨A, q, rfl, _, _⟩ := hS.form
  have HS := Lib.hid hS; have HOK := Lib.hid hok
  have hN := newc_good n w (by simp [areB]; omega)
  have HN := Lib.hid hN
  have hrun := fun i => done_run n (l.take i)
  have HRUN := Lib.hid hrun
  have HNN := Lib.hid (fun _ : True => hn2)
  clear hS hok hN hrun hn1 hn2
  go_enter Try.func24, Try.ntmps24
  go_wp2_with (go_at_call 11; refine HN.out.mono ?_; rintro e w1 ⟨g, F1, rfl, hC1, hF1, hb1⟩)
  have HC1 := Lib.hid hC1; have HF1 := Lib.hid hF1; have HB1 := Lib.hid hb1
  clear hC1 hF1 hb1 HN
  go_loopw [8, 9, 10, 11] (fun vd nn _ _ wr => ∃ (i : Nat) (F : Nat → Prop), nn = .int .i64 i ∧ i ≤ l.length ∧ CoO wr F g (run (start n) (opsL (doneA n (l.take i)))) ∧ AcO wr w.heap.size vd (doneA n (l.take i)) ∧ Hid (∀ k, F k → w.heap.size ≤ k) ∧ Below w.heap.size w wr) (fun _ nn _ _ _ => l.length - (intOf nn).toNat)
  case atStart => exact ⟨0, F1, rfl, Nat.zero_le _, HC1.out, AcO.nil _ _, HF1, HB1.out⟩
  case round =>
    obtain ⟨i, F, rfl, hil, hC, hA, HF, hbr⟩ := hrel
    have HBR := Lib.hid hbr
    by_cases hie : i = l.length
    · subst hie
      rw [List.take_length] at hC hA
      have hge : ¬ ((l.length : Nat) : Int) < (l.length : Nat) := by omega
      clear hbr
      obtain ⟨A2, c2, rfl, _, _⟩ := hA.form
      go_wp2
      go_ret2
      exact ⟨g, F, _, rfl, hC, hA, HF.out, HBR.out⟩
    · obtain ⟨x, hx⟩ : ∃ x, l[i]? = some x := ⟨_, List.getElem?_eq_getElem (by omega)⟩
      have hSr := HS.out.below hbr
      obtain ⟨b, o, rfl, ⟨c0, c1, c2, c3, c4⟩, hbw⟩ := hSr.get hx
      have hax := HOK.out x (List.mem_of_getElem? hx)
      obtain ⟨hok1, hk1⟩ := HRUN.out i
      have hk2 : (run (start n) (opsL (doneA n (l.take i)))).k ≤ 1099511627000 := by
        have : (l.take i).length ≤ l.length := by simp; omega
        omega
      have HNX : Hid (run (start n) (opsL (doneA n (l.take (i + 1)))) = actS n (run (start n) (opsL (doneA n (l.take i)))) x) := Lib.hid (actS_is hx)
      have HDX : Hid (doneA n (l.take (i + 1)) = doneA n (l.take i) ++ if okA n x then [x] else []) := Lib.hid (doneA_snoc hx)
      have HDL : Hid (True → (doneA n (l.take i)).length ≤ 1000) := Lib.hid fun _ => by
        have := doneA_len n (l.take i)
        have : (l.take i).length ≤ l.length := by simp; omega
        omega
      generalize doneA n (l.take i) = ds at *
      have HA := Lib.hid hA; have HC := Lib.hid hC
      generalize run (start n) (opsL ds) = s at *
      obtain ⟨A2, q2, rfl, _, _⟩ := hA.form
      have hbx : Below wr.heap.size wr (wr.alloc (.cells (acCells x) 33)) := (Below.refl _ _).alloc (Nat.le_refl _) _
      have hCx := hC.below hbx
      have HX := Lib.hid (And.intro hbx (heap_alloc_new wr (.cells (acCells x) 33)))
      have hP0 := fun h0 => aput_any hCx hok1 hk2 x h0
      have hP1 := fun h0 h1 => araw_any hCx hok1 hk2 x hax h0 h1
      have hP2 := fun h0 h1 => anum_any hCx hok1 (HNN.out trivial) hk2 x hax h0 h1
      have hlt : (i : Int) < (l.length : Nat) := by omega
      have HCX := Lib.hid hCx
      have HP0 := Lib.hid hP0; have HP1 := Lib.hid hP1; have HP2 := Lib.hid hP2
      have hgl := hC.lt g hC.at_
      have hneG : g ≠ wr.heap.size := by omega
      clear hbr hie hSr hx hax hok1 hk1 hk2 hA hC hbx hCx hP0 hP1 hP2 hgl
      have HWH : Hid (∃ h : Int, x.what = h) := Lib.hid ⟨_, rfl⟩
      go_upto_block 2 with (fail)
      have hx0 : (wr.alloc (.cells (acCells x) 33)).cell? ⟨wr.heap.size, 1, none⟩ = some (.int .i64 x.ctx) := by rw [cell_of_row _ _ _ _ _ _ HX.out.2]; rfl
      have hx1 : (wr.alloc (.cells (acCells x) 33)).cell? ⟨wr.heap.size, 2, none⟩ = some (.int .i64 x.bit) := by rw [cell_of_row _ _ _ _ _ _ HX.out.2]; rfl
      have hx2 : (wr.alloc (.cells (acCells x) 33)).cell? ⟨wr.heap.size, 3, none⟩ = some (.int .i64 x.n) := by rw [cell_of_row _ _ _ _ _ _ HX.out.2]; rfl
      have hx3 : (wr.alloc (.cells (acCells x) 33)).cell? ⟨wr.heap.size, 4, none⟩ = some (.int .u64 (x.v : Nat)) := by rw [cell_of_row _ _ _ _ _ _ HX.out.2]; rfl
      rw [show (#[Value.int .i64 x.what, .int .i64 x.ctx, .int .i64 x.bit, .int .i64 x.n, .int .u64 (x.v : Nat)] : Array Value) = acCells x from rfl]
      generalize wr.alloc (.cells (acCells x) 33) = wx at HX HCX HP0 HP1 HP2 hx0 hx1 hx2 hx3 ⊢
      go_cut [11] (fun vf wc => vf = .int .i64 (actE n x : Nat) ∧ ∃ F2, CoO wc F2 g (actS n s x) ∧ Chg wx wc F F2)
      case first =>
        by_cases h0 : x.what = 0
        · have q0 : (x.what == 0) = true := by rw [beq_iff_eq]; exact h0
          have HP := Lib.hid (HP0.out h0)
          clear h0
          go_wp2_with (go_at_call 13; refine HP.out.mono ?_; rintro e w2 ⟨rfl, F2, hC2, hc2⟩)
          go_meet
          case rel => exact ⟨rfl, F2, hC2, hc2⟩
        · have q0 : (x.what == 0) = false := by rw [beq_eq_false_iff_ne]; exact h0
          by_cases h1 : x.what = 1
          · have q1 : (x.what == 1) = true := by rw [beq_iff_eq]; exact h1
            have HP := Lib.hid (HP1.out h0 h1)
            clear h0 h1
            go_wp2_with (go_at_call 15; refine HP.out.mono ?_; rintro e w2 ⟨rfl, F2, hC2, hc2⟩)
            go_meet
            case rel => exact ⟨rfl, F2, hC2, hc2⟩
          · have q1 : (x.what == 1) = false := by rw [beq_eq_false_iff_ne]; exact h1
            have HP := Lib.hid (HP2.out h0 h1)
            clear h0 h1
            go_wp2_with (go_at_call 17; refine HP.out.mono ?_; rintro e w2 ⟨rfl, F2, hC2, hc2⟩)
            go_meet
            case rel => exact ⟨rfl, F2, hC2, hc2⟩
      case rest =>
        obtain ⟨rfl, F2, hC2, hc2⟩ := hcut
        have hbxc : Below w.heap.size w wc := (HBR.out.trans (HX.out.1.mono HBR.out.size)).trans (hc2.below HF.out (Nat.le_trans HBR.out.size HX.out.1.size))
        have hA2 : AcO wc w.heap.size (.slice A2 ds.length q2) ds := HCX.out.acO (HA.out.below HX.out.1) hc2
        have hGn : ¬ F wr.heap.size := fun hF => by have := HC.out.lt _ hF; omega
        have hGc := (hc2.block wr.heap.size (Array.getElem?_eq_some_iff.1 HX.out.2).1 hGn).trans HX.out.2
        have e0 : wc.cell? ⟨wr.heap.size, 0, none⟩ = some (.int .i64 x.what) := by rw [cell_of_row _ _ _ _ _ _ hGc]; rfl
        have e1 : wc.cell? ⟨wr.heap.size, 1, none⟩ = some (.int .i64 x.ctx) := by rw [cell_of_row _ _ _ _ _ _ hGc]; rfl
        have e2 : wc.cell? ⟨wr.heap.size, 2, none⟩ = some (.int .i64 x.bit) := by rw [cell_of_row _ _ _ _ _ _ hGc]; rfl
        have e3 : wc.cell? ⟨wr.heap.size, 3, none⟩ = some (.int .i64 x.n) := by rw [cell_of_row _ _ _ _ _ _ hGc]; rfl
        have e4 : wc.cell? ⟨wr.heap.size, 4, none⟩ = some (.int .u64 (x.v : Nat)) := by rw [cell_of_row _ _ _ _ _ _ hGc]; rfl
        have HF2 := Lib.hid ((HX.out.1 : Below wr.heap.size wr wx) |> fun hb => hc2.base HF.out (Nat.le_trans HBR.out.size hb.size))
        have hHNX := HNX.out
        have hHDX := HDX.out
        cases hoka : okA n x with
        | false =>
          have hE : actE n x = 1 := by unfold actE; rw [hoka]; rfl
          rw [hE]
          rw [hoka] at hHDX
          simp only [Bool.false_eq_true, if_false, List.append_nil] at hHDX
          have HC2 := Lib.hid hC2; have HA2 := Lib.hid hA2; have HBX := Lib.hid hbxc; have HDX2 := Lib.hid hHDX; have HNX2 := Lib.hid hHNX
          clear hC2 hA2 hbxc hHDX hHNX hc2 hE hoka
          go_wp2
          exact ⟨⟨i + 1, F2, rfl, by omega, by rw [HNX2.out]; exact HC2.out, by rw [HDX2.out]; exact HA2.out, HF2, HBX.out⟩, by simp [intOf]; omega⟩
        | true =>
          have hE : actE n x = 0 := by unfold actE; rw [hoka]; rfl
          rw [hE]
          rw [hoka] at hHDX
          simp only [if_true] at hHDX
          have hroom : ds.length + 1 ≤ 1099511627776 := by have := HDL.out trivial; omega
          have hbase := hbxc.size
          have HC2 := Lib.hid hC2; have HA2 := Lib.hid hA2; have HBX := Lib.hid hbxc; have HDX2 := Lib.hid hHDX; have HNX2 := Lib.hid hHNX
          have HRO := Lib.hid (fun _ : True => hroom)
          clear hC2 hA2 hbxc hHDX hHNX hc2 hE hoka hroom
          go_wp2_with (refine wpl_push5 (w := wc) (f := x) HA2.out hbase (HRO.out trivial) rfl rfl rfl rfl (h := ?_); intro v6 w6 ho6 hm6)
          have HA6 := Lib.hid ho6
          have hb6 : Below w.heap.size wc w6 := (hm6 wc.heap.size).below hbase (fun k hk => (HA2.out.lt k hk).1) hbase
          have HC6 := Lib.hid (HC2.out.mov (gx := 0) HA2.out hm6)
          exact ⟨⟨i + 1, F2, rfl, by omega, by rw [HNX2.out]; exact HC6.out, by rw [HDX2.out]; exact HA6.out, HF2, HBX.out.trans hb6⟩, by simp [intOf]; omega⟩
end Go.Proofs.Ytghbjlmbehljdaa
