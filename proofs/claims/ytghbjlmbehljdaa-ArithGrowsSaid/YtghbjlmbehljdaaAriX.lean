/- arith: asked. -/
import Derived.Test.YtghbjlmbehljdaaAriW
namespace Go.Proofs.Ytghbjlmbehljdaa
open Go.RowKit
set_option maxRecDepth 100000
set_option maxHeartbeats 8000000

/-- A step's bits behind it. -/
theorem ask_get {w : World} {F : Nat → Prop} {g n : Nat} {f s : Co} {a : Ac} (hD : DeO w F g (Sy f s)) (hK : Ok s n) (hi : In f (run s (opsA a))) (ho : okA n a = true) (h0 : a.what = 0) :
    Calls Try.prog 30 #[.pointer (some ⟨g, 0, none⟩), .int .i64 a.ctx] w fun e w' => e = .returned (.int .i64 a.bit) ∧ DeO w' F g (Sy f (run s (opsA a))) ∧ Chg w w' F F := by
  have h : putB n a.ctx a.bit = true := by unfold okA at ho; rwa [if_pos h0] at ho
  simp only [putB, Bool.and_eq_true, has_iff, decide_eq_true_eq] at h
  obtain ⟨c, hc⟩ := Int.eq_ofNat_of_zero_le h.1.1
  obtain ⟨b, hb⟩ := Int.eq_ofNat_of_zero_le h.2.1
  have hops : opsA a = [(some c, b)] := by unfold opsA; rw [if_pos h0, hc, hb]; rfl
  have hst : run s (opsA a) = step s (some c, b) := by rw [hops]; rfl
  rw [hst] at hi ⊢
  have hg := dget_any hD (In.ok hK (In.back hK ⟨by show b ≤ 1; omega, fun c' e => by injection e with e; omega⟩ hi)) (c : Int)
  rw [sy_get hK (by omega) (by omega) hi] at hg
  rw [hc, hb]
  exact hg
theorem ask_raw {w : World} {F : Nat → Prop} {g n : Nat} {f s : Co} {a : Ac} (hD : DeO w F g (Sy f s)) (hK : Ok s n) (hi : In f (run s (opsA a))) (ho : okA n a = true) (h0 : ¬ a.what = 0) (h1 : a.what = 1) :
    Calls Try.prog 47 #[.pointer (some ⟨g, 0, none⟩), .int .i64 a.n] w fun e w' => e = .returned (.int .u64 (a.v : Nat)) ∧ DeO w' F g (Sy f (run s (opsA a))) ∧ Chg w w' F F := by
  have h : rawB a.v a.n = true := by unfold okA at ho; rwa [if_neg h0, if_pos h1] at ho
  obtain ⟨p1, p2, p3⟩ := raw_iff.1 h
  obtain ⟨k, hk⟩ := Int.eq_ofNat_of_zero_le p1
  rw [hk, Int.toNat_natCast] at p3
  have hops : opsA a = rawOps a.v k := by unfold opsA; rw [if_neg h0, if_pos h1, hk]; rfl
  rw [hops] at hi ⊢
  have hg := draw_any hD (In.ok hK (In.run _ hK (raw_good n _ _) hi)) (k : Int) (by omega) (by omega)
  rw [sy_draw hK (by omega) hi, Nat.mod_eq_of_lt p3] at hg
  rw [hk]
  exact hg
theorem ask_num {w : World} {F : Nat → Prop} {g n : Nat} {f s : Co} {a : Ac} (hD : DeO w F g (Sy f s)) (hK : Ok s n) (hn : n ≤ 4096) (hi : In f (run s (opsA a))) (ho : okA n a = true) (h0 : ¬ a.what = 0) (h1 : ¬ a.what = 1) :
    Calls Try.prog 28 #[.pointer (some ⟨g, 0, none⟩), .int .i64 a.ctx, .int .u64 (a.v : Nat)] w fun e w' => e = .returned (.int .u64 (a.v : Nat)) ∧ DeO w' F g (Sy f (run s (opsA a))) ∧ Chg w w' F F := by
  have h : numB n a.v a.ctx = true := by unfold okA at ho; rwa [if_neg h0, if_neg h1] at ho
  simp only [numB, Bool.and_eq_true, have_iff, decide_eq_true_eq] at h
  obtain ⟨c, hc⟩ := Int.eq_ofNat_of_zero_le h.2.1
  have hops : opsA a = numOps c a.v := by unfold opsA; rw [if_neg h0, if_neg h1, hc]; rfl
  rw [hops] at hi ⊢
  have hg := dnum_any hD (In.ok hK (In.run _ hK (num_good (by omega) h.1) hi)) (by omega) (c : Int) a.v
  rw [sy_num hK (by omega) h.1 hi, if_neg (by omega)] at hg
  rw [hc]
  exact hg
theorem opsL_in {n i : Nat} {l : List Ac} {f s : Co} (hK : Ok s n) (ho : ∀ a ∈ l, okA n a = true) (hi : In f (run s (opsL l))) : Ok (run s (opsL (l.take i))) n ∧ In f (run s (opsL (l.take i))) := by
  have h1 := (runs_in (opsL (l.take i)) hK (opsL_good (fun x hx => ho x (List.mem_of_mem_take hx)))).1
  have h2 : run s (opsL l) = run (run s (opsL (l.take i))) (opsL (l.drop i)) := by
    rw [← run_app]; unfold opsL; rw [← List.flatMap_append, List.take_append_drop]
  exact ⟨h1, In.run (opsL (l.drop i)) h1 (opsL_good (fun x hx => ho x (List.mem_of_mem_drop hx))) (h2 ▸ hi)⟩
theorem opsL_snoc {i : Nat} {l : List Ac} {a : Ac} {s : Co} (h : l[i]? = some a) : run s (opsL (l.take (i + 1))) = run (run s (opsL (l.take i))) (opsA a) := by
  unfold opsL; rw [List.take_add_one, h, List.flatMap_append, run_app]; simp

theorem asked_any {w : World} {F : Nat → Prop} {g n base : Nat} {f s : Co} {v : Value} {l : List Ac} (hD : DeO w F g (Sy f s)) (hK : Ok s n) (hn : n ≤ 4096) (hS : Acs w base v l) (hF : ∀ k, F k → base ≤ k) (hb : base ≤ w.heap.size) (ho : ∀ a ∈ l, okA n a = true) (hi : In f (run s (opsL l))) (hl : l.length ≤ 1000) :
    Calls Try.prog 26 #[.pointer (some ⟨g, 0, none⟩), v] w fun e w' => e = .returned (.bool true) ∧ DeO w' F g (Sy f (run s (opsL l))) ∧ Chg w w' F F := by
  obtain ⟨A, q, rfl, _, _⟩ := hS.form
  have HS := Lib.hid hS; have HO := Lib.hid ho; have HF := Lib.hid hF
  have hin := fun i => opsL_in (i := i) hK ho hi
  have HIN := Lib.hid hin
  have HNN := Lib.hid (fun _ : True => hn)
  have HD := Lib.hid hD
  clear hS ho hF hin hn hK hi hD
  go_enter Try.func26, Try.ntmps26
  go_wp2
  go_loopw [5, 6, 7] (fun nn _ _ wr => ∃ (i : Nat), nn = .int .i64 i ∧ i ≤ l.length ∧ DeO wr F g (Sy f (run s (opsL (l.take i)))) ∧ Chg w wr F F) (fun nn _ _ _ => l.length - (intOf nn).toNat)
  case atStart => exact ⟨0, rfl, Nat.zero_le _, HD.out, Chg.refl _ _⟩
  case round =>
    obtain ⟨i, rfl, hil, hDr, hcr⟩ := hrel
    have HCR := Lib.hid hcr
    by_cases hie : i = l.length
    · subst hie
      rw [List.take_length] at hDr
      have hge : ¬ ((l.length : Nat) : Int) < (l.length : Nat) := by omega
      clear hcr
      go_wp2
      go_ret
      exact ⟨rfl, hDr, HCR.out⟩
    · obtain ⟨x, hx⟩ : ∃ x, l[i]? = some x := ⟨_, List.getElem?_eq_getElem (by omega)⟩
      have hSr := HS.out.below (hcr.below HF.out hb)
      obtain ⟨b, o, rfl, ⟨c0, c1, c2, c3, c4⟩, hbw⟩ := hSr.get hx
      have hox := HO.out x (List.mem_of_getElem? hx)
      have hok1 := (HIN.out i).1
      have hin1 := (HIN.out (i + 1)).2
      rw [opsL_snoc hx] at hin1
      have HNX : Hid (run s (opsL (l.take (i + 1))) = run (run s (opsL (l.take i))) (opsA x)) := Lib.hid (opsL_snoc hx)
      generalize run s (opsL (l.take i)) = s1 at *
      have hbx : Below wr.heap.size wr (wr.alloc (.cells (acCells x) 33)) := (Below.refl _ _).alloc (Nat.le_refl _) _
      have hDx := hDr.below hbx
      have hDy : DeO (wr.alloc (.cells (acCells x) 33)).drew F g (Sy f s1) := hDx.below (Below.refl _ _).drew
      have HX := Lib.hid (And.intro hbx (heap_alloc_new wr (.cells (acCells x) 33)))
      have hP0 := fun h0 => ask_get hDy hok1 hin1 hox h0
      have hP1 := fun h0 h1 => ask_raw hDy hok1 hin1 hox h0 h1
      have hP2 := fun h0 h1 => ask_num hDy hok1 (HNN.out trivial) hin1 hox h0 h1
      have HP0 := Lib.hid hP0; have HP1 := Lib.hid hP1; have HP2 := Lib.hid hP2
      have hlt : (i : Int) < (l.length : Nat) := by omega
      have hx0 : (wr.alloc (.cells (acCells x) 33)).cell? ⟨wr.heap.size, 1, none⟩ = some (.int .i64 x.ctx) := by rw [cell_of_row _ _ _ _ _ _ HX.out.2]; rfl
      have hx1 : (wr.alloc (.cells (acCells x) 33)).cell? ⟨wr.heap.size, 2, none⟩ = some (.int .i64 x.bit) := by rw [cell_of_row _ _ _ _ _ _ HX.out.2]; rfl
      have hx2 : (wr.alloc (.cells (acCells x) 33)).cell? ⟨wr.heap.size, 3, none⟩ = some (.int .i64 x.n) := by rw [cell_of_row _ _ _ _ _ _ HX.out.2]; rfl
      have hx3 : (wr.alloc (.cells (acCells x) 33)).cell? ⟨wr.heap.size, 4, none⟩ = some (.int .u64 (x.v : Nat)) := by rw [cell_of_row _ _ _ _ _ _ HX.out.2]; rfl
      have hneG : ¬ F wr.heap.size := fun hF => by have := hDr.lt _ hF; omega
      have HKC : Hid (∀ (w2 : World), Chg (wr.alloc (.cells (acCells x) 33)).drew w2 F F → w2.heap[wr.heap.size]? = some (.cells (acCells x) 33 (0, 0)) ∧ Chg w w2 F F) := Lib.hid fun w2 hc => ⟨(hc.block wr.heap.size (by simp) hneG).trans HX.out.2, HCR.out.trans (Chg.trans (Chg.of_below HX.out.1) ⟨hc.os, hc.tape, hc.output, hc.size, hc.block, hc.own⟩)⟩
      have HVX : Hid (∃ V : Int, ((x.v : Nat) : Int) = V) := Lib.hid ⟨_, rfl⟩
      clear hcr hie hSr hx hox hok1 hin1 hDr hbx hDx hDy hP0 hP1 hP2 hneG
      go_upto_block 2 with (fail)
      rw [show (#[Value.int .i64 x.what, .int .i64 x.ctx, .int .i64 x.bit, .int .i64 x.n, .int .u64 (x.v : Nat)] : Array Value) = acCells x from rfl]
      generalize wr.alloc (.cells (acCells x) 33) = wx at HX HP0 HP1 HP2 hx0 hx1 hx2 hx3 HKC ⊢
      obtain ⟨V, hV⟩ := HVX.out
      rw [hV] at hx3 HP2
      have HP1' : Hid (∀ (h0 : ¬ x.what = 0) (h1 : x.what = 1), Calls Try.prog 47 #[.pointer (some ⟨g, 0, none⟩), .int .i64 x.n] wx.drew fun e w' => e = .returned (.int .u64 V) ∧ DeO w' F g (Sy f (run s1 (opsA x))) ∧ Chg wx.drew w' F F) := by
        have := HP1.out
        rw [hV] at this
        exact Lib.hid this
      have y0 : wx.drew.cell? ⟨wr.heap.size, 1, none⟩ = some (.int .i64 x.ctx) := hx0
      have y1 : wx.drew.cell? ⟨wr.heap.size, 2, none⟩ = some (.int .i64 x.bit) := hx1
      have y2 : wx.drew.cell? ⟨wr.heap.size, 3, none⟩ = some (.int .i64 x.n) := hx2
      have y3 : wx.drew.cell? ⟨wr.heap.size, 4, none⟩ = some (.int .u64 V) := hx3
      have HVV : Hid ((acCells x)[4]? = some (.int .u64 V)) := Lib.hid (by rw [← hV]; rfl)
      clear hV HP1 HVX
      by_cases h0 : x.what = 0
      · have q0 : (x.what == 0) = true := by rw [beq_iff_eq]; exact h0
        have HP := Lib.hid (HP0.out h0)
        have qq : (x.bit == x.bit) = true := by simp
        clear h0
        go_wp2_with fail
        go_region_held3 (fun w' => w'.cell? ⟨wr.heap.size, 1, none⟩ = some (.int .i64 x.ctx) ∧ w'.cell? ⟨wr.heap.size, 2, none⟩ = some (.int .i64 x.bit))
          (first | go_keep | exact ⟨k1, k2⟩)
          (first
            | (go_at_call 30; refine HP.out.mono ?_; rintro e w2 ⟨rfl, hD2, hc2⟩; have hk2 := HKC.out w2 hc2; have k1 : w2.cell? ⟨wr.heap.size, 1, none⟩ = some (.int .i64 x.ctx) := (cell_of_row _ _ _ _ _ _ hk2.1).trans rfl; have k2 : w2.cell? ⟨wr.heap.size, 2, none⟩ = some (.int .i64 x.bit) := (cell_of_row _ _ _ _ _ _ hk2.1).trans rfl))
        all_goals
          have HD2 := Lib.hid hD2
          have HC2 := Lib.hid hk2.2
          have HE2 := Lib.hid (derr_any hD2)
          clear hD2 hc2 hk2
          go_wp2_with fail
          refine HE2.out.mono ?_
          rintro e w3 ⟨rfl, rfl⟩
          rw [show (Sy f (run s1 (opsA x))).er = 0 from rfl]
          go_wp2
          exact ⟨⟨i + 1, rfl, by omega, by rw [HNX.out]; exact HD2.out, HC2.out⟩, by simp [intOf]; omega⟩
      · have q0 : (x.what == 0) = false := by rw [beq_eq_false_iff_ne]; exact h0
        by_cases h1 : x.what = 1
        · have q1 : (x.what == 1) = true := by rw [beq_iff_eq]; exact h1
          have HP := Lib.hid (HP1'.out h0 h1)
          have qq : (V == V) = true := by simp
          clear h0 h1
          go_wp2_with fail
          go_region_held3 (fun w' => w'.cell? ⟨wr.heap.size, 3, none⟩ = some (.int .i64 x.n) ∧ w'.cell? ⟨wr.heap.size, 4, none⟩ = some (.int .u64 V))
            (first | go_keep | exact ⟨k1, k2⟩)
            (first
              | (go_at_call 47; refine HP.out.mono ?_; rintro e w2 ⟨rfl, hD2, hc2⟩; have hk2 := HKC.out w2 hc2; have k1 : w2.cell? ⟨wr.heap.size, 3, none⟩ = some (.int .i64 x.n) := (cell_of_row _ _ _ _ _ _ hk2.1).trans rfl; have k2 : w2.cell? ⟨wr.heap.size, 4, none⟩ = some (.int .u64 V) := (cell_of_row _ _ _ _ _ _ hk2.1).trans HVV.out))
          all_goals
            have HD2 := Lib.hid hD2
            have HC2 := Lib.hid hk2.2
            have HE2 := Lib.hid (derr_any hD2)
            clear hD2 hc2 hk2
            go_wp2_with fail
            refine HE2.out.mono ?_
            rintro e w3 ⟨rfl, rfl⟩
            rw [show (Sy f (run s1 (opsA x))).er = 0 from rfl]
            go_wp2
            exact ⟨⟨i + 1, rfl, by omega, by rw [HNX.out]; exact HD2.out, HC2.out⟩, by simp [intOf]; omega⟩
        · have q1 : (x.what == 1) = false := by rw [beq_eq_false_iff_ne]; exact h1
          have HP := Lib.hid (HP2.out h0 h1)
          have qq : (V == V) = true := by simp
          clear h0 h1
          go_wp2_with fail
          go_region_held3 (fun w' => w'.cell? ⟨wr.heap.size, 1, none⟩ = some (.int .i64 x.ctx) ∧ w'.cell? ⟨wr.heap.size, 4, none⟩ = some (.int .u64 V))
            (first | go_keep | exact ⟨k1, k2⟩)
            (first
              | (go_at_call 28; refine HP.out.mono ?_; rintro e w2 ⟨rfl, hD2, hc2⟩; have hk2 := HKC.out w2 hc2; have k1 : w2.cell? ⟨wr.heap.size, 1, none⟩ = some (.int .i64 x.ctx) := (cell_of_row _ _ _ _ _ _ hk2.1).trans rfl; have k2 : w2.cell? ⟨wr.heap.size, 4, none⟩ = some (.int .u64 V) := (cell_of_row _ _ _ _ _ _ hk2.1).trans HVV.out))
          all_goals
            have HD2 := Lib.hid hD2
            have HC2 := Lib.hid hk2.2
            have HE2 := Lib.hid (derr_any hD2)
            clear hD2 hc2 hk2
            go_wp2_with fail
            refine HE2.out.mono ?_
            rintro e w3 ⟨rfl, rfl⟩
            rw [show (Sy f (run s1 (opsA x))).er = 0 from rfl]
            go_wp2
            exact ⟨⟨i + 1, rfl, by omega, by rw [HNX.out]; exact HD2.out, HC2.out⟩, by simp [intOf]; omega⟩
end Go.Proofs.Ytghbjlmbehljdaa
