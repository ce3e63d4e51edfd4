/- arith: ArithPlays. -/
import Derived.Test.YtghbjlmbehljdaaAriW
import Derived.Test.YtghbjlmbehljdaaAriQe
import Derived.Test.YtghbjlmbehljdaaSam
import Derived.Deep.CutBlock
import Derived.Deep.RegionHeld3
namespace Go.Proofs.Ytghbjlmbehljdaa
open Go.RowKit
set_option maxRecDepth 100000
set_option maxHeartbeats 16000000

theorem qaput_any {w : World} {F : Nat → Prop} {g n : Nat} {s : Co} (hC : CoQ w F g s) (hK : Ok s n) (hk : s.k ≤ 1099511627000) (a : Ac) (h0 : a.what = 0) :
    Calls Try.prog 14 #[.pointer (some ⟨g, 0, none⟩), .int .i64 a.ctx, .int .i64 a.bit] w fun e w' => e = .returned (.int .i64 (actE n a : Nat)) ∧ ∃ F', CoQ w' F' g (actS n s a) ∧ Chg w w' F F' := by
  have he : okA n a = putB n a.ctx a.bit := by unfold okA; rw [if_pos h0]
  unfold actE actS
  rw [he]
  cases hp : putB n a.ctx a.bit with
  | false =>
    refine (qput_bad hC a.ctx a.bit (by rw [hK.len]; exact hp)).mono ?_
    rintro e w' ⟨rfl, rfl⟩
    exact ⟨rfl, F, by simpa using hC, Chg.refl _ _⟩
  | true =>
    have h := hp
    simp only [putB, Bool.and_eq_true, has_iff, decide_eq_true_eq] at h
    obtain ⟨c, hc⟩ := Int.eq_ofNat_of_zero_le h.1.1
    obtain ⟨b, hb⟩ := Int.eq_ofNat_of_zero_le h.2.1
    have hops : opsA a = [(some c, b)] := by unfold opsA; rw [if_pos h0, hc, hb]; rfl
    rw [hops, hc, hb]
    refine (qput_any hC hK (by omega) c b (by omega) (by omega)).mono ?_
    rintro e w' ⟨rfl, F', h1, h2⟩
    exact ⟨rfl, F', by simpa [run] using h1, h2⟩
theorem qaraw_any {w : World} {F : Nat → Prop} {g n : Nat} {s : Co} (hC : CoQ w F g s) (hK : Ok s n) (hk : s.k ≤ 1099511627000) (a : Ac) (ha : AcOk a) (h0 : ¬ a.what = 0) (h1 : a.what = 1) :
    Calls Try.prog 16 #[.pointer (some ⟨g, 0, none⟩), .int .u64 a.v, .int .i64 a.n] w fun e w' => e = .returned (.int .i64 (actE n a : Nat)) ∧ ∃ F', CoQ w' F' g (actS n s a) ∧ Chg w w' F F' := by
  have he : okA n a = rawB a.v a.n := by unfold okA; rw [if_neg h0, if_pos h1]
  unfold actE actS
  rw [he]
  cases hp : rawB a.v a.n with
  | false =>
    refine (qraw_bad a.v a.n ha.2.2.2.2 ha.2.2.2.1.1 ha.2.2.2.1.2 hp).mono ?_
    rintro e w' ⟨rfl, rfl⟩
    exact ⟨rfl, F, by simpa using hC, Chg.refl _ _⟩
  | true =>
    obtain ⟨p1, p2, p3⟩ := raw_iff.1 hp
    obtain ⟨k, hk'⟩ := Int.eq_ofNat_of_zero_le p1
    have hops : opsA a = rawOps a.v k := by unfold opsA; rw [if_neg h0, if_pos h1, hk']; rfl
    rw [hk', Int.toNat_natCast] at p3
    rw [hops, hk']
    refine (qraw_any hC hK (by omega) a.v k (by omega) p3).mono ?_
    rintro e w' ⟨rfl, F', h1, h2⟩
    exact ⟨rfl, F', by simpa using h1, h2⟩
theorem qanum_any {w : World} {F : Nat → Prop} {g n : Nat} {s : Co} (hC : CoQ w F g s) (hK : Ok s n) (hn : n ≤ 4096) (hk : s.k ≤ 1099511627000) (a : Ac) (ha : AcOk a) (h0 : ¬ a.what = 0) (h1 : ¬ a.what = 1) :
    Calls Try.prog 18 #[.pointer (some ⟨g, 0, none⟩), .int .i64 a.ctx, .int .u64 a.v] w fun e w' => e = .returned (.int .i64 (actE n a : Nat)) ∧ ∃ F', CoQ w' F' g (actS n s a) ∧ Chg w w' F F' := by
  have he : okA n a = numB n a.v a.ctx := by unfold okA; rw [if_neg h0, if_neg h1]
  unfold actE actS
  rw [he]
  cases hp : numB n a.v a.ctx with
  | false =>
    refine (qnum_bad hC (by rw [hK.len]; omega) a.ctx a.v ha.2.2.2.2 (by rw [hK.len]; exact hp)).mono ?_
    rintro e w' ⟨rfl, rfl⟩
    exact ⟨rfl, F, by simpa using hC, Chg.refl _ _⟩
  | true =>
    have h := hp
    simp only [numB, Bool.and_eq_true, have_iff, decide_eq_true_eq] at h
    obtain ⟨c, hc⟩ := Int.eq_ofNat_of_zero_le h.2.1
    have hops : opsA a = numOps c a.v := by unfold opsA; rw [if_neg h0, if_neg h1, hc]; rfl
    rw [hops, hc]
    refine (qnum_any hC hK (by omega) (by omega) c a.v (by omega) h.1).mono ?_
    rintro e w' ⟨rfl, F', h1, h2⟩
    exact ⟨rfl, F', by simpa using h1, h2⟩

/-- Both coders, at one state, of blocks apart. -/
structure Two (w0 w : World) (gc gx : Nat) (s : Co) (Fc Fx : Nat → Prop) : Prop where
  c : CoO w Fc gc s
  x : CoQ w Fx gx s
  dj : ∀ k, Fc k → ¬ Fx k
  bc : ∀ k, Fc k → w0.heap.size ≤ k
  bx : ∀ k, Fx k → w0.heap.size ≤ k
  be : Below w0.heap.size w0 w
theorem Two.below {w0 w w' : World} {gc gx : Nat} {s : Co} {Fc Fx : Nat → Prop} (h : Two w0 w gc gx s Fc Fx) (hb : Below w.heap.size w w') : Two w0 w' gc gx s Fc Fx :=
  ⟨h.c.below hb, h.x.below hb, h.dj, h.bc, h.bx, h.be.trans (hb.mono h.be.size)⟩
/-- c has taken a step, and then x. -/
theorem Two.both {w0 w wa wb : World} {gc gx : Nat} {s t : Co} {Fc Fx Gc Gx : Nat → Prop} (h : Two w0 w gc gx s Fc Fx) (hc : CoO wa Gc gc t) (c1 : Chg w wa Fc Gc) (hx : CoQ wb Gx gx t) (c2 : Chg wa wb Fx Gx) : Two w0 wb gc gx t Gc Gx := by
  have hgx : ∀ k, Gc k → ¬ Fx k := fun k hk hf => by
    rcases c1.own k hk with h1 | h1
    · exact h.dj k h1 hf
    · have := h.x.lt k hf; omega
  have hba := h.be.trans (c1.below h.bc h.be.size)
  refine ⟨hc.kept c2 hgx, hx, fun k hk hf => ?_, c1.base h.bc h.be.size, c2.base h.bx hba.size, hba.trans (c2.below h.bx hba.size)⟩
  rcases c2.own k hf with h1 | h1
  · exact hgx k hk h1
  · have := hc.lt k hk; omega
theorem Two.mid {w0 w wa : World} {gc gx : Nat} {s : Co} {Fc Fx Gc : Nat → Prop} (h : Two w0 w gc gx s Fc Fx) (c1 : Chg w wa Fc Gc) : CoQ wa Fx gx s := h.x.kept c1 fun k hx hc => h.dj k hc hx
/-- A block that is neither's stays. -/
theorem Two.box {w0 w wa wb : World} {gc gx G : Nat} {s : Co} {Fc Fx Gc Gx : Nat → Prop} (c1 : Chg w wa Fc Gc) (c2 : Chg wa wb Fx Gx) (hG : G < w.heap.size) (h1 : ¬ Fc G) (h2 : ¬ Fx G) : wa.heap[G]? = w.heap[G]? ∧ wb.heap[G]? = w.heap[G]? := by
  have e1 := c1.block G hG h1
  exact ⟨e1, (c2.block G (Nat.lt_of_lt_of_le hG c1.size) h2).trans e1⟩

theorem arithPlays_walkA (n : Int) (v : Value) (l : List Ac) (ask : Int) (w : World) (hS : Acs w w.heap.size v l) (hok : ∀ x ∈ l, AcOk x) (hn1 : -9223372036854775808 ≤ n) (hn2 : n ≤ 9223372036854775807) :
    Calls Try.prog 3 #[.int .i64 n, v, .int .i64 ask] w fun e w' => e = .returned (.bool true) ∧ Below w.heap.size w w' := by
  obtain ⟨A, q, rfl, _, _⟩ := hS.form
  have hk := knownA_any w
  have HK := Lib.hid hk
  by_cases hl : 100 < l.length
  · clear hS hk hok
    go_enter Try.func3, Try.ntmps3
    go_wp2_with (go_at_call 10; refine HK.out.mono ?_; rintro e w1 ⟨rfl, hb1⟩)
    go_ret
    exact ⟨rfl, hb1⟩
  cases har : areB n with
  | false =>
    have HA := Lib.hid (fun W : World => newc_bad n W har)
    have HB := Lib.hid (fun W : World => qnew_bad n W har)
    clear hS hk hok har
    go_enter Try.func3, Try.ntmps3
    go_wp2_with fail
    refine HK.out.mono ?_
    rintro e w1 ⟨rfl, hb1⟩
    go_wp2_with fail
    refine (HA.out _).mono ?_
    rintro e w2 ⟨rfl, rfl⟩
    go_wp2_with fail
    refine (HB.out _).mono ?_
    rintro e w2 ⟨rfl, rfl⟩
    go_wp2
    go_ret
    exact ⟨rfl, hb1⟩
  | true =>
    have hn : 1 ≤ n ∧ n ≤ 4096 := by simp [areB] at har; omega
    obtain ⟨m, rfl⟩ := Int.eq_ofNat_of_zero_le (by omega : 0 ≤ n)
    have HS := Lib.hid hS; have HOK := Lib.hid hok
    have HA := Lib.hid (fun W : World => newc_good m W har)
    have HB := Lib.hid (fun W : World => qnew_good m W har)
    have HRUN := Lib.hid (fun i => done_run m (l.take i))
    have HM := Lib.hid (fun _ : True => (show m ≤ 4096 by omega))
    clear hS hk hok har hn hn1 hn2
    go_enter Try.func3, Try.ntmps3
    go_wp2_with fail
    refine HK.out.mono ?_
    rintro e w1 ⟨rfl, hb1⟩
    have HB1 := Lib.hid hb1
    clear hb1
    go_wp2_with fail
    refine (HA.out _).mono ?_
    rintro e w2 ⟨gc, Fc, rfl, hC2, hF2, hb2⟩
    have HC2 := Lib.hid hC2
    have HF2 := Lib.hid (fun k hk => Nat.le_trans HB1.out.size (hF2 k hk))
    have HB2 := Lib.hid (HB1.out.trans (hb2.mono HB1.out.size))
    clear hC2 hF2 hb2
    go_wp2_with fail
    refine (HB.out _).mono ?_
    rintro e w3 ⟨gx, Fx, rfl, hC3, hF3, hb3⟩
    have HT3 : Hid (Two w w3 gc gx (start m) Fc Fx) := Lib.hid ⟨HC2.out.below hb3, hC3, fun k hc hx => by have := HC2.out.lt k hc; have := hF3 k hx; omega, HF2.out, fun k hk => Nat.le_trans HB2.out.size (hF3 k hk), HB2.out.trans (hb3.mono HB2.out.size)⟩
    clear hC3 hF3 hb3
    go_wp2_with fail
    go_loopw [11, 12, 13] (fun nn _ _ wr => ∃ (i : Nat) (Fc Fx : Nat → Prop), nn = .int .i64 i ∧ i ≤ l.length ∧ Two w wr gc gx (run (start m) (opsL (doneA m (l.take i)))) Fc Fx) (fun nn _ _ _ => l.length - (intOf nn).toNat)
    case atStart => exact ⟨0, Fc, Fx, rfl, Nat.zero_le _, HT3.out⟩
    case round =>
      obtain ⟨i, Fc, Fx, rfl, hil, hT⟩ := hrel
      obtain ⟨hok1, hk1⟩ := HRUN.out i
      have hk2 : (run (start m) (opsL (doneA m (l.take i)))).k ≤ 1099511627000 := by
        have : (l.take i).length ≤ l.length := by simp; omega
        omega
      by_cases hie : i = l.length
      · have hge : ¬ (i : Int) < (l.length : Nat) := by omega
        generalize run (start m) (opsL (doneA m (l.take i))) = s at *
        have HY1 := Lib.hid (cbytes_any hT.c (by omega))
        have HT := Lib.hid hT
        have HKK := Lib.hid (fun _ : True => hk2)
        clear hT hok1 hk1 hk2 hie
        go_wp2_with fail
        refine HY1.out.mono ?_
        rintro e w6 ⟨v6, rfl, ho6, hb6⟩
        have hT6 := HT.out.below hb6
        have HY2 := Lib.hid (qbytes_any hT6.x (by have := HKK.out trivial; omega))
        have HB6 := Lib.hid hT6.be
        have HO6 := Lib.hid ho6
        obtain ⟨A6, n6, c6, rfl⟩ := ho6.shape
        clear hT6 ho6 hb6
        go_wp2_with fail
        refine HY2.out.mono ?_
        rintro e w7 ⟨v7, rfl, ho7, hb7⟩
        have HB7 := Lib.hid (HB6.out.trans (hb7.mono HB6.out.size))
        have HSM := Lib.hid (same_self _ _ _ w7 _ _ (HO6.out.kept hb7).sli ho7.sli digs_lt)
        obtain ⟨A7, n7, c7, rfl⟩ := ho7.shape
        clear ho7 hb7
        go_wp2_with fail
        refine HSM.out.mono ?_
        rintro e w8 ⟨rfl, rfl⟩
        go_wp2
        go_ret
        exact ⟨rfl, HB7.out⟩
      · obtain ⟨x, hx⟩ : ∃ x, l[i]? = some x := ⟨_, List.getElem?_eq_getElem (by omega)⟩
        have hSr := HS.out.below hT.be
        obtain ⟨b, o, rfl, ⟨c0, c1, c2, c3, c4⟩, hbw⟩ := hSr.get hx
        have hax := HOK.out x (List.mem_of_getElem? hx)
        have HNX : Hid (run (start m) (opsL (doneA m (l.take (i + 1)))) = actS m (run (start m) (opsL (doneA m (l.take i)))) x) := Lib.hid (actS_is hx)
        generalize run (start m) (opsL (doneA m (l.take i))) = s at *
        have hbx : Below wr.heap.size wr (wr.alloc (.cells (acCells x) 33)) := (Below.refl _ _).alloc (Nat.le_refl _) _
        have hTx := hT.below hbx
        have hTd : Two w (wr.alloc (.cells (acCells x) 33)).drew gc gx s Fc Fx := hTx.below (Below.refl _ _).drew
        have HX := Lib.hid (heap_alloc_new wr (.cells (acCells x) 33))
        have hP0 := fun h0 => aput_any hTd.c hok1 hk2 x h0
        have hP1 := fun h0 h1 => araw_any hTd.c hok1 hk2 x hax h0 h1
        have hP2 := fun h0 h1 => anum_any hTd.c hok1 (HM.out trivial) hk2 x hax h0 h1
        have hQ0 := fun (W : World) (F : Nat → Prop) (h : CoQ W F gx s) h0 => qaput_any h hok1 hk2 x h0
        have hQ1 := fun (W : World) (F : Nat → Prop) (h : CoQ W F gx s) h0 h1 => qaraw_any h hok1 hk2 x hax h0 h1
        have hQ2 := fun (W : World) (F : Nat → Prop) (h : CoQ W F gx s) h0 h1 => qanum_any h hok1 (HM.out trivial) hk2 x hax h0 h1
        have hlt : (i : Int) < (l.length : Nat) := by omega
        have hnc : ¬ Fc wr.heap.size := fun h => by have := hT.c.lt _ h; omega
        have hnx : ¬ Fx wr.heap.size := fun h => by have := hT.x.lt _ h; omega
        have hsz : wr.heap.size < (wr.alloc (.cells (acCells x) 33)).drew.heap.size := by simp
        have HBX : Hid (∀ (wa wb : World) (Gc Gx : Nat → Prop), Chg (wr.alloc (.cells (acCells x) 33)).drew wa Fc Gc → Chg wa wb Fx Gx → wa.heap[wr.heap.size]? = some (.cells (acCells x) 33 (0, 0)) ∧ wb.heap[wr.heap.size]? = some (.cells (acCells x) 33 (0, 0))) := Lib.hid fun wa wb Gc Gx c1 c2 => by
          obtain ⟨e1, e2⟩ := Two.box (w0 := w) (gc := gc) (gx := gx) (s := s) c1 c2 hsz hnc hnx
          exact ⟨e1.trans HX.out, e2.trans HX.out⟩
        have HB1' : Hid (∀ (wa : World) (Gc : Nat → Prop), Chg (wr.alloc (.cells (acCells x) 33)).drew wa Fc Gc → wa.heap[wr.heap.size]? = some (.cells (acCells x) 33 (0, 0))) := Lib.hid fun wa Gc c1 => (c1.block wr.heap.size hsz hnc).trans HX.out
        have HTD := Lib.hid hTd
        have HP0 := Lib.hid hP0; have HP1 := Lib.hid hP1; have HP2 := Lib.hid hP2
        have HQ0 := Lib.hid hQ0; have HQ1 := Lib.hid hQ1; have HQ2 := Lib.hid hQ2
        have hx0 : (wr.alloc (.cells (acCells x) 33)).cell? ⟨wr.heap.size, 1, none⟩ = some (.int .i64 x.ctx) := by rw [cell_of_row _ _ _ _ _ _ HX.out]; rfl
        have hx1 : (wr.alloc (.cells (acCells x) 33)).cell? ⟨wr.heap.size, 2, none⟩ = some (.int .i64 x.bit) := by rw [cell_of_row _ _ _ _ _ _ HX.out]; rfl
        have hx2 : (wr.alloc (.cells (acCells x) 33)).cell? ⟨wr.heap.size, 3, none⟩ = some (.int .i64 x.n) := by rw [cell_of_row _ _ _ _ _ _ HX.out]; rfl
        have hx3 : (wr.alloc (.cells (acCells x) 33)).cell? ⟨wr.heap.size, 4, none⟩ = some (.int .u64 (x.v : Nat)) := by rw [cell_of_row _ _ _ _ _ _ HX.out]; rfl
        clear hie hSr hx hax hok1 hk1 hk2 hT hbx hTx hTd hP0 hP1 hP2 hQ0 hQ1 hQ2 hnc hnx hsz
        go_upto_block 2 with (fail)
        rw [show (#[Value.int .i64 x.what, .int .i64 x.ctx, .int .i64 x.bit, .int .i64 x.n, .int .u64 (x.v : Nat)] : Array Value) = acCells x from rfl]
        generalize wr.alloc (.cells (acCells x) 33) = wx at HX HP0 HP1 HP2 HTD HBX HB1' hx0 hx1 hx2 hx3 ⊢
        have y0 : wx.drew.cell? ⟨wr.heap.size, 1, none⟩ = some (.int .i64 x.ctx) := hx0
        have y1 : wx.drew.cell? ⟨wr.heap.size, 2, none⟩ = some (.int .i64 x.bit) := hx1
        have y2 : wx.drew.cell? ⟨wr.heap.size, 3, none⟩ = some (.int .i64 x.n) := hx2
        have y3 : wx.drew.cell? ⟨wr.heap.size, 4, none⟩ = some (.int .u64 (x.v : Nat)) := hx3
        have qq : (((actE m x : Nat) : Int) == ((actE m x : Nat) : Int)) = true := by simp
        go_cut [13] (fun vf wc => vf = .bool true ∧ ∃ Gc Gx, Two w wc gc gx (actS m s x) Gc Gx ∧ wc.heap[wr.heap.size]? = some (.cells (acCells x) 33 (0, 0)))
        case first =>
          by_cases h0 : x.what = 0
          · have q0 : (x.what == 0) = true := by rw [beq_iff_eq]; exact h0
            have HP := Lib.hid (HP0.out h0)
            have HQ := Lib.hid (fun W F h => HQ0.out W F h h0)
            clear h0
            go_wp2_with fail
            go_region_held3 (fun w' => w'.cell? ⟨wr.heap.size, 1, none⟩ = some (.int .i64 x.ctx) ∧ w'.cell? ⟨wr.heap.size, 2, none⟩ = some (.int .i64 x.bit))
              (first | go_keep | exact ⟨k1, k2⟩ | exact ⟨l1, l2⟩)
              (first
                | (go_at_call 13; refine HP.out.mono ?_; rintro e wa ⟨rfl, Ga, hCa, hca⟩; have hga := HB1'.out wa Ga hca; have k1 : wa.cell? ⟨wr.heap.size, 1, none⟩ = some (.int .i64 x.ctx) := (cell_of_row _ _ _ _ _ _ hga).trans rfl; have k2 : wa.cell? ⟨wr.heap.size, 2, none⟩ = some (.int .i64 x.bit) := (cell_of_row _ _ _ _ _ _ hga).trans rfl; have HMID := Lib.hid (HTD.out.mid hca); have HCa := Lib.hid hCa; have Hca := Lib.hid hca; clear hga hCa hca)
                | (go_at_call 14; refine (HQ.out wa Fx HMID.out).mono ?_; rintro e wb ⟨rfl, Gb, hCb, hcb⟩; have hgb := (HBX.out wa wb Ga Gb Hca.out hcb).2; have l1 : wb.cell? ⟨wr.heap.size, 1, none⟩ = some (.int .i64 x.ctx) := (cell_of_row _ _ _ _ _ _ hgb).trans rfl; have l2 : wb.cell? ⟨wr.heap.size, 2, none⟩ = some (.int .i64 x.bit) := (cell_of_row _ _ _ _ _ _ hgb).trans rfl; have HTB := Lib.hid (HTD.out.both HCa.out Hca.out hCb hcb); have HGB := Lib.hid hgb; clear hgb hCb hcb))
            all_goals
              go_wp2_with fail
              go_meet
              case rel => exact ⟨by simp, _, _, HTB.out, HGB.out⟩
          · have q0 : (x.what == 0) = false := by rw [beq_eq_false_iff_ne]; exact h0
            by_cases h1 : x.what = 1
            · have q1 : (x.what == 1) = true := by rw [beq_iff_eq]; exact h1
              have HP := Lib.hid (HP1.out h0 h1)
              have HQ := Lib.hid (fun W F h => HQ1.out W F h h0 h1)
              clear h0 h1
              go_wp2_with fail
              go_region_held3 (fun w' => w'.cell? ⟨wr.heap.size, 3, none⟩ = some (.int .i64 x.n) ∧ w'.cell? ⟨wr.heap.size, 4, none⟩ = some (.int .u64 (x.v : Nat)))
                (first | go_keep | exact ⟨k1, k2⟩ | exact ⟨l1, l2⟩)
                (first
                  | (go_at_call 15; refine HP.out.mono ?_; rintro e wa ⟨rfl, Ga, hCa, hca⟩; have hga := HB1'.out wa Ga hca; have k1 : wa.cell? ⟨wr.heap.size, 3, none⟩ = some (.int .i64 x.n) := (cell_of_row _ _ _ _ _ _ hga).trans rfl; have k2 : wa.cell? ⟨wr.heap.size, 4, none⟩ = some (.int .u64 (x.v : Nat)) := (cell_of_row _ _ _ _ _ _ hga).trans rfl; have HMID := Lib.hid (HTD.out.mid hca); have HCa := Lib.hid hCa; have Hca := Lib.hid hca; clear hga hCa hca)
                  | (go_at_call 16; refine (HQ.out wa Fx HMID.out).mono ?_; rintro e wb ⟨rfl, Gb, hCb, hcb⟩; have hgb := (HBX.out wa wb Ga Gb Hca.out hcb).2; have l1 : wb.cell? ⟨wr.heap.size, 3, none⟩ = some (.int .i64 x.n) := (cell_of_row _ _ _ _ _ _ hgb).trans rfl; have l2 : wb.cell? ⟨wr.heap.size, 4, none⟩ = some (.int .u64 (x.v : Nat)) := (cell_of_row _ _ _ _ _ _ hgb).trans rfl; have HTB := Lib.hid (HTD.out.both HCa.out Hca.out hCb hcb); have HGB := Lib.hid hgb; clear hgb hCb hcb))
              all_goals
                go_wp2_with fail
                go_meet
                case rel => exact ⟨by simp, _, _, HTB.out, HGB.out⟩
            · have q1 : (x.what == 1) = false := by rw [beq_eq_false_iff_ne]; exact h1
              have HP := Lib.hid (HP2.out h0 h1)
              have HQ := Lib.hid (fun W F h => HQ2.out W F h h0 h1)
              clear h0 h1
              go_wp2_with fail
              go_region_held3 (fun w' => w'.cell? ⟨wr.heap.size, 1, none⟩ = some (.int .i64 x.ctx) ∧ w'.cell? ⟨wr.heap.size, 4, none⟩ = some (.int .u64 (x.v : Nat)))
                (first | go_keep | exact ⟨k1, k2⟩ | exact ⟨l1, l2⟩)
                (first
                  | (go_at_call 17; refine HP.out.mono ?_; rintro e wa ⟨rfl, Ga, hCa, hca⟩; have hga := HB1'.out wa Ga hca; have k1 : wa.cell? ⟨wr.heap.size, 1, none⟩ = some (.int .i64 x.ctx) := (cell_of_row _ _ _ _ _ _ hga).trans rfl; have k2 : wa.cell? ⟨wr.heap.size, 4, none⟩ = some (.int .u64 (x.v : Nat)) := (cell_of_row _ _ _ _ _ _ hga).trans rfl; have HMID := Lib.hid (HTD.out.mid hca); have HCa := Lib.hid hCa; have Hca := Lib.hid hca; clear hga hCa hca)
                  | (go_at_call 18; refine (HQ.out wa Fx HMID.out).mono ?_; rintro e wb ⟨rfl, Gb, hCb, hcb⟩; have hgb := (HBX.out wa wb Ga Gb Hca.out hcb).2; have l1 : wb.cell? ⟨wr.heap.size, 1, none⟩ = some (.int .i64 x.ctx) := (cell_of_row _ _ _ _ _ _ hgb).trans rfl; have l2 : wb.cell? ⟨wr.heap.size, 4, none⟩ = some (.int .u64 (x.v : Nat)) := (cell_of_row _ _ _ _ _ _ hgb).trans rfl; have HTB := Lib.hid (HTD.out.both HCa.out Hca.out hCb hcb); have HGB := Lib.hid hgb; clear hgb hCb hcb))
              all_goals
                go_wp2_with fail
                go_meet
                case rel => exact ⟨by simp, _, _, HTB.out, HGB.out⟩
        case rest =>
          obtain ⟨rfl, Gc, Gx, hT, hG⟩ := hcut
          have e1 : wc.cell? ⟨wr.heap.size, 1, none⟩ = some (.int .i64 x.ctx) := by rw [cell_of_row _ _ _ _ _ _ hG]; rfl
          have HO1 := Lib.hid (fun (q : Nat) (c : Int) => codds_any (hT.c.drewN q) c)
          have HO2 := Lib.hid (fun (q : Nat) (c : Int) => qodds_any (hT.x.drewN q) c)
          have HT := Lib.hid hT
          obtain ⟨z1, hz1⟩ : ∃ z, atO (actS m s x).od x.ctx = z := ⟨_, rfl⟩
          obtain ⟨z2, hz2⟩ : ∃ z, atO (actS m s x).od ask = z := ⟨_, rfl⟩
          have p1 : (((z1 : Nat) : Int) != (z1 : Int)) = false := by simp
          have p2 : (((z2 : Nat) : Int) != (z2 : Int)) = false := by simp
          have HA1 := Lib.hid (fun (q : Nat) => hz1 ▸ HO1.out q x.ctx); have HA2 := Lib.hid (fun (q : Nat) => hz2 ▸ HO1.out q ask)
          have HC1 := Lib.hid (fun (q : Nat) => hz1 ▸ HO2.out q x.ctx); have HC2 := Lib.hid (fun (q : Nat) => hz2 ▸ HO2.out q ask)
          clear hT hG hz1 hz2 qq y0 y1 y2 y3 hx0 hx1 hx2 hx3 HO1 HO2
          go_wp2_with fail
          have HS1 := Lib.hid (show Calls Try.prog 19 #[.pointer (some ⟨gc, 0, none⟩), .int .i64 x.ctx] wc.drew fun e w' => e = .returned (.int .i64 z1) ∧ w' = wc.drew from (HA1.out 1).mono fun _ _ h => ⟨h.1, h.2.symm⟩)
          have HS2 := Lib.hid (show Calls Try.prog 20 #[.pointer (some ⟨gx, 0, none⟩), .int .i64 x.ctx] wc.drew fun e w' => e = .returned (.int .i64 z1) ∧ w' = wc.drew from (HC1.out 1).mono fun _ _ h => ⟨h.1, h.2.symm⟩)
          have HS3 := Lib.hid (show Calls Try.prog 19 #[.pointer (some ⟨gc, 0, none⟩), .int .i64 ask] wc.drew fun e w' => e = .returned (.int .i64 z2) ∧ w' = wc.drew from (HA2.out 1).mono fun _ _ h => ⟨h.1, h.2.symm⟩)
          have HS4 := Lib.hid (show Calls Try.prog 20 #[.pointer (some ⟨gx, 0, none⟩), .int .i64 ask] wc.drew fun e w' => e = .returned (.int .i64 z2) ∧ w' = wc.drew from (HC2.out 1).mono fun _ _ h => ⟨h.1, h.2.symm⟩)
          refine wp_region_still_lit (by kernel_rfl) (by kernel_rfl) ?_
          repeat still_step
          still_call HS1.out
          repeat still_step
          still_call HS2.out
          repeat still_step
          still_call HS3.out
          repeat still_step
          still_call HS4.out
          repeat still_step
          refine wpStill_nil ?_
          change Exit.then _ _ _ _ wc.drew
          have HT2 := Lib.hid (HT.out.below (Below.refl _ _).drew)
          go_wp2
          exact ⟨⟨i + 1, Gc, Gx, rfl, by omega, by rw [HNX.out]; exact HT2.out⟩, by simp [intOf]; omega⟩
theorem arithPlays_walk (n : Int) (v : Value) (rows : List (List Int)) (ask : Int) (w : World) (hS : Recs w w.heap.size v [.i64, .i64, .i64, .i64, .u64] rows) (hn1 : -9223372036854775808 ≤ n) (hn2 : n ≤ 9223372036854775807) :
    Calls Try.prog 3 #[.int .i64 n, v, .int .i64 ask] w fun e w' => e = .returned (.bool true) ∧ Below w.heap.size w w' := by
  obtain ⟨acts, h1, h2⟩ := acs_of_recs hS
  exact arithPlays_walkA n v acts ask w h1 h2 hn1 hn2
end Go.Proofs.Ytghbjlmbehljdaa
