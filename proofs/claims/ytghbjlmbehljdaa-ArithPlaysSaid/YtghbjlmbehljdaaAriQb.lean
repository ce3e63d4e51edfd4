/- arith: the reference encodes a bit. -/
import Derived.Test.YtghbjlmbehljdaaAriQa
import Derived.Maps.AppendAt
namespace Go.Proofs.Ytghbjlmbehljdaa
open Go.RowKit
set_option maxRecDepth 100000
set_option maxHeartbeats 16000000

theorem CoQ.mk3 {w : World} {g : Nat} {vl vo : Value} {s : Co} (h1 : w.heap[g]? = some (.cells #[vl, .int .u64 (s.w : Nat), vo] 66 (0, 0))) (h2 : Own w 0 5 vl (cu8 (digs s.k s.lo))) (h3 : Own w 0 3 vo (cn s.od)) : CoQ w (fp g vl vo) g s := ⟨vl, vo, h1, h2, h3, rfl⟩
theorem step_pushR {P : Program} {w : World} {base : Nat} {e t : TypeId} {z v : Value} {bytes : Nat} {xs : List Value} (hown : Own w base e v xs) (hbase : base ≤ w.heap.size) (hroom : xs.length + 1 ≤ 8796093022208)
    (ht : P.underlying t = some (.slice e)) (hinf : (P.info? e).map (fun i => (i.zero, i.size, i.bytes)) = some (some z, 1, bytes)) (hzs : z.cells.size = 1) (hb16 : bytes ≤ 16)
    {ops : Array Oper} {o : Oper} {a : Act} {K : Act → World → Prop} {Q : Exit → Act → World → Prop} {E : Prop} {s x : Operand} {u : Value} (hgd : o.guard = none)
    (ho : o.op = .call { callee := .builtin .append, args := #[s, x], argTypes := #[t, t] })
    (hs : a.eval s = v) {k : Nat} (hx : a.eval x = .slice (some ⟨k, 0, none⟩) 1 1) (hu : u.oneCell' = true) (hk : k = w.heap.size := by simp)
    (h : ∀ v' w', Own w' base e v' (xs ++ [u]) → (∀ g, Mov w w' g v v') → K (a.put o.dst v') w') : if Region.wanted o (yielded ops a.tmps) = true then Oper.wp P o a (w.alloc (.cells #[u] e)) K Q else E := by
  subst hk
  rw [if_pos (by simp [Region.wanted, hgd])]
  obtain ⟨i, hi, hz0, hz1, hz2⟩ := info_parts hinf
  have hown' := World.ownsRow.alloc hown (.cells #[u] e)
  have hbytes : (xs.length + 1) * bytes ≤ 140737488355328 := by
    have : (xs.length + 1) * bytes ≤ 8796093022208 * 16 := Nat.mul_le_mul hroom hb16
    omega
  obtain ⟨v', w', hr, h2, h3, _, h5⟩ := run_append_own_at (P := P) (w.alloc (.cells #[u] e)) base t o.type e i z 1 bytes ht hi hz0 hz1 hz2 hzs (by decide) v _ xs hown' ⟨w.heap.size, 0, none⟩ 1 1 [u] rfl (cell_one_new w u e) (by intro u' hu'; simp at hu'; subst hu'; exact hu) (by unfold maxLen; omega) hbytes (by simp; omega)
  unfold Oper.wp execOp
  simp only [ho, resolve, invoke, builtin, Sem.run_bind, Sem.run_pure, Result.andThen_ok, List.map_toArray, List.map_cons, List.map_nil, hs, hx, hr]
  have h1 : Below w.heap.size w (w.alloc (.cells #[u] e)) := (Below.refl _ _).alloc (Nat.le_refl _) _
  refine h v' w' (by unfold Own; simpa using h2) fun g => ?_
  refine (Mov.of_below h1).grown h3 fun k hk => ?_
  rcases h5 with e | e
  · exact .inl (e ▸ hk)
  · rw [e] at hk; injection hk with hk; exact .inr (by omega)
theorem qstep_any {w : World} {F : Nat → Prop} {g : Nat} {s : Co} (hC : CoQ w F g s) (bd b : Nat) (hb : b ≤ 1) (h1 : 65536 ≤ bd) (h2 : bd + 65536 ≤ s.w) (hw : s.w < 4294967296) (ht : s.lo + s.w ≤ 256 ^ s.k) (hk : s.k ≤ 1099511627700) :
    Calls Try.prog 40 #[.pointer (some ⟨g, 0, none⟩), .int .u64 bd, .int .i64 b] w fun e w' => e = .returned (.tuple #[]) ∧ ∃ F', CoQ w' F' g (enc s bd b) ∧ Chg w w' F F' := by
  obtain ⟨vl, vo, hblk, ho, hoo, rfl⟩ := hC
  obtain ⟨lo, k, W, od⟩ := s
  simp only at *
  have hvg : vl.ownBlock ≠ some g := ho.ne hblk (by decide)
  have hog : vo.ownBlock ≠ some g := hoo.ne hblk (by decide)
  have hlv : ∀ q, vl.ownBlock = some q → vo.ownBlock ≠ some q := fun q e e' => by
    obtain ⟨cs, h⟩ := ho.blk e
    exact hoo.ne h (by decide) e'
  rcases (by omega : b = 0 ∨ b = 1) with rfl | rfl
  · have hadd : Hid (enc ⟨lo, k, W, od⟩ bd 0 = shft ⟨lo, k, bd, od⟩) := Lib.hid rfl
    obtain ⟨c0, c1, c2, hf⟩ := blk3 hblk
    have hS := heap_setCell_same w g 1 _ _ (.int .u64 (bd : Nat)) hblk
    have HS : Hid (∃ vl', (w.setCell ⟨g, 1, none⟩ (.int .u64 (bd : Nat))).heap[g]? = some (.cells #[vl', .int .u64 (bd : Nat), vo] 66 (0, 0)) ∧ Own (w.setCell ⟨g, 1, none⟩ (.int .u64 (bd : Nat))) 0 5 vl' (cu8 (digs k lo)) ∧ Own (w.setCell ⟨g, 1, none⟩ (.int .u64 (bd : Nat))) 0 3 vo (cn od) ∧ Chg w (w.setCell ⟨g, 1, none⟩ (.int .u64 (bd : Nat))) (fp g vl vo) (fp g vl' vo)) :=
      Lib.hid ⟨vl, hS, ho.far hblk (by decide) (grown_set w g 1 _), hoo.far hblk (by decide) (grown_set w g 1 _), (Chg.refl _ _).set _ (.inl rfl)⟩
    have HT := Lib.hid ht
    clear hS hblk ho hoo hvg hog hlv ht
    have hbw : bd < 4294967296 := by omega
    go_enter Try.func40, Try.ntmps40
    go_wp2
    go_loopg [] (if bd < 16777216 then 1 else 0) (fun d wr => ∃ (vl' : Value) (lo1 k1 w1 : Nat), wr.heap[g]? = some (.cells #[vl', .int .u64 (w1 : Nat), vo] 66 (0, 0)) ∧ Own wr 0 5 vl' (cu8 (digs k1 lo1)) ∧ Own wr 0 3 vo (cn od) ∧ Chg w wr (fp g vl vo) (fp g vl' vo) ∧ Hid (d ≠ 0 → w1 < 16777216 ∧ d = 1 ∧ lo1 = lo ∧ k1 = k ∧ w1 = bd) ∧ Hid (d = 0 → ¬ w1 < 16777216 ∧ shft ⟨lo, k, bd, od⟩ = ⟨lo1, k1, w1, od⟩))
    case atStart =>
      obtain ⟨vl', a1, a2, a3, a4⟩ := HS.out
      refine ⟨vl', lo, k, bd, a1, a2, a3, a4, Lib.hid fun h => ?_, Lib.hid fun h => ?_⟩
      · by_cases hh : bd < 16777216
        · simp [hh]
        · simp [hh] at h
      · by_cases hh : bd < 16777216
        · simp [hh] at h
        · exact ⟨hh, shft_big hh⟩
    case round =>
      obtain ⟨vl', lo1, k1, w1, a1, a2, a3, a4, HP, HZ⟩ := hrel
      obtain ⟨c0, c1, c2, hf⟩ := blk3 a1
      by_cases hd : gk = 0
      · obtain ⟨z1, z2⟩ := HZ.out hd
        have z3 := Lib.hid z2
        have hz : decide ((w1 : Int) < 16777216) = false := by simp; omega
        clear z2 HS z1
        go_wp2
        go_end0
        exact ⟨rfl, _, by rw [hadd.out, z3.out]; exact CoQ.mk3 (s := ⟨lo1, k1, w1, od⟩) a1 a2 a3, a4⟩
      · obtain ⟨z1, z2, z3, z4, z5⟩ := HP.out hd
        subst z3; subst z4; subst z5
        have Z2 := Lib.hid z2
        obtain ⟨w2, hw2⟩ : ∃ w2, w1 * 256 = w2 := ⟨_, rfl⟩
        have eW : (w1 : Int) * 256 = (w2 : Nat) := by omega
        have HW2 := Lib.hid hw2
        clear HS HZ HP z2 hw2
        obtain ⟨A1, n1, q1, rfl⟩ := a2.shape
        have hroom : (cu8 (digs k1 lo1)).length + 1 ≤ 8796093022208 := by rw [cu8_len, digs_len]; omega
        have hgb : g < wr.heap.size := (Array.getElem?_eq_some_iff.1 a1).1
        have hng : (Value.slice A1 n1 q1).ownBlock ≠ some g := a2.ne a1 (by decide)
        have hno : ∀ q, (Value.slice A1 n1 q1).ownBlock = some q → vo.ownBlock ≠ some q := fun q e e' => by
          obtain ⟨cs, h⟩ := a2.blk e
          exact a3.ne h (by decide) e'
        have hog2 : vo.ownBlock ≠ some g := a3.ne a1 (by decide)
        have hz : decide ((w1 : Int) < 16777216) = true := by simp; omega
        have Z1 := Lib.hid z1
        have eW2 : (w1 : Int) * 2 ^ 8 = (w2 : Nat) := by omega
        have f0 : (wr.drew.alloc (.cells #[.int .u8 0] 5)).cell? ⟨g, 0, none⟩ = some (.slice A1 n1 q1) := (World.cell?_alloc_lt wr.drew _ _ hgb).trans c0
        have f1 : (wr.drew.alloc (.cells #[.int .u8 0] 5)).cell? ⟨g, 1, none⟩ = some (.int .u64 w1) := (World.cell?_alloc_lt wr.drew _ _ hgb).trans c1
        have g0 : wr.drew.cell? ⟨g, 0, none⟩ = some (.slice A1 n1 q1) := c0
        have g1 : wr.drew.cell? ⟨g, 1, none⟩ = some (.int .u64 w1) := c1
        have HA1 := Lib.hid a1; have HA2 := Lib.hid a2; have HA3 := Lib.hid a3; have HA4 := Lib.hid a4
        have HRM := Lib.hid (fun _ : True => hroom)
        clear a1 a2 a3 a4 z1 hroom
        go_wp2_with fail
        go_region_law (refine step_pushR (w := wr.drew) (u := .int .u8 0) (show Own wr.drew 0 5 (.slice A1 n1 q1) (cu8 (digs k1 lo1)) from HA2.out) (Nat.zero_le _) (HRM.out trivial) Try.underlying39 info_u8 rfl (by decide) rfl rfl rfl rfl rfl (h := ?_); intro v2 w3 ho2 hm2; obtain ⟨A2, n2, k2, rfl⟩ := ho2.shape; have hb2 : w3.heap[g]? = some (.cells #[.slice A1 n1 q1, .int .u64 w1, vo] 66 (0, 0)) := ((hm2 (g + 1)).block g hgb (by omega) hng).trans HA1.out; obtain ⟨e0, e1, e2, hf3⟩ := blk3 hb2; have hbs := heap_setCell_same w3 g 1 _ _ (.int .u64 (w2 : Nat)) hb2; obtain ⟨s0, s1, s2, sf⟩ := blk3 hbs)
        all_goals
          have hbw0 := heap_setCell_same _ g 0 _ _ (.slice A2 n2 k2) hbs
          have e8 : cu8 (digs k1 lo1) ++ [.int .u8 0] = cu8 (digs (k1 + 1) (lo1 * 256)) := by rw [← digs_push]; simp [cu8]
          rw [e8] at ho2
          have hO3 : Own w3 0 3 vo (cn od) := HA3.out.stay fun q e hq => (hm2 g).block q hq (fun e' => hog2 (e' ▸ e)) (fun e' => hno q e' e)
          have hO4 := (hO3.far hb2 (by decide) (grown_set w3 g 1 (.int .u64 (w2 : Nat)))).far hbs (by decide) (grown_set _ g 0 (.slice A2 n2 k2))
          have hO5 := (ho2.far hb2 (by decide) (grown_set w3 g 1 (.int .u64 (w2 : Nat)))).far hbs (by decide) (grown_set _ g 0 (.slice A2 n2 k2))
          have hCC := ((HA4.out.trans (.of_mov (w := wr) ⟨(hm2 g).os, (hm2 g).tape, (hm2 g).output, (hm2 g).size, (hm2 g).block, (hm2 g).own⟩)).set (j := 1) (.int .u64 (w2 : Nat)) (.inl rfl)).set (j := 0) (.slice A2 n2 k2) (.inl rfl)
          have hwW : IntKind.u64.wrap ((w2 : Nat) : Int) = ((w2 : Nat) : Int) := by
            rw [IntKind.wrap_u64]
            have := HW2.out
            have := Z1.out
            omega
          (try rw [hwW])
          go_wp2_with fail
          go_roundg 0
          case measure => omega
          case rel =>
            refine ⟨_, lo1 * 256, k1 + 1, w2, hbw0, hO5, hO4, hCC, Lib.hid (fun h => absurd rfl h), Lib.hid fun _ => ⟨by have := HW2.out; omega, ?_⟩⟩
            rw [shft_small Z1.out, HW2.out]

  · obtain ⟨wd, hwd⟩ : ∃ wd, W - bd = wd := ⟨_, rfl⟩
    obtain ⟨lp, hlp⟩ : ∃ lp, lo + bd = lp := ⟨_, rfl⟩
    have hadd : Hid (enc ⟨lo, k, W, od⟩ bd 1 = shft ⟨lp, k, wd, od⟩) := Lib.hid (by rw [← hwd, ← hlp]; rfl)
    have hA := qmore_any (n := bd) hblk ho (by omega) (by omega) (by omega)
    rw [hlp] at hA
    have hwI : (W : Int) - (bd : Int) = (wd : Nat) := by omega
    have HA := Lib.hid hA
    have HS0 : Hid (∀ w1 : World, w1.heap[g]? = some (.cells #[vl, .int .u64 (W : Nat), vo] 66 (0, 0)) → Own w1 0 5 vl (cu8 (digs k lp)) → w.grownBy w1 vl.ownBlock → ∃ vl', (w1.setCell ⟨g, 1, none⟩ (.int .u64 (wd : Nat))).heap[g]? = some (.cells #[vl', .int .u64 (wd : Nat), vo] 66 (0, 0)) ∧ Own (w1.setCell ⟨g, 1, none⟩ (.int .u64 (wd : Nat))) 0 5 vl' (cu8 (digs k lp)) ∧ Own (w1.setCell ⟨g, 1, none⟩ (.int .u64 (wd : Nat))) 0 3 vo (cn od) ∧ Chg w (w1.setCell ⟨g, 1, none⟩ (.int .u64 (wd : Nat))) (fp g vl vo) (fp g vl' vo)) :=
      Lib.hid fun w1 hb1 ho1 hg1 => by
        have hoo1 : Own w1 0 3 vo (cn od) := hoo.stay fun q e hq => hg1.block q hq fun e' => hlv q e'.symm e
        have hC : Chg w w1 (fp g vl vo) (fp g vl vo) := ⟨hg1.os, hg1.tape, hg1.output, hg1.size, fun q hq hF => hg1.block q hq (fun e => hF (.inr (.inl e.symm))), fun _ e => .inl e⟩
        exact ⟨vl, heap_setCell_same w1 g 1 _ _ (.int .u64 (wd : Nat)) hb1, ho1.far hb1 (by decide) (grown_set w1 g 1 _), hoo1.far hb1 (by decide) (grown_set w1 g 1 _), hC.set _ (.inl rfl)⟩
    have HT := Lib.hid ht
    have HWD := Lib.hid hwd
    have hbw : wd < 4294967296 := by omega
    have hW : W < 18446744073709551616 := by omega
    have hbd : bd < 18446744073709551616 := by omega
    have HLP := Lib.hid hlp
    clear hA hblk ho hoo hvg hog hlv ht hwd hlp
    go_enter Try.func40, Try.ntmps40
    go_wp2_with (go_at_call 51; refine (HA.out).mono ?_; rintro e w1 ⟨rfl, hb1, ho1, hg1⟩; obtain ⟨c0, c1, c2, hf⟩ := blk3 hb1)
    have HS := Lib.hid (HS0.out w1 hb1 ho1 hg1)
    clear HS0 hb1 ho1 hg1
    go_loopg [] (if wd < 16777216 then 1 else 0) (fun d wr => ∃ (vl' : Value) (lo1 k1 w1 : Nat), wr.heap[g]? = some (.cells #[vl', .int .u64 (w1 : Nat), vo] 66 (0, 0)) ∧ Own wr 0 5 vl' (cu8 (digs k1 lo1)) ∧ Own wr 0 3 vo (cn od) ∧ Chg w wr (fp g vl vo) (fp g vl' vo) ∧ Hid (d ≠ 0 → w1 < 16777216 ∧ d = 1 ∧ lo1 = lp ∧ k1 = k ∧ w1 = wd) ∧ Hid (d = 0 → ¬ w1 < 16777216 ∧ shft ⟨lp, k, wd, od⟩ = ⟨lo1, k1, w1, od⟩))
    case atStart =>
      obtain ⟨vl', a1, a2, a3, a4⟩ := HS.out
      refine ⟨vl', lp, k, wd, a1, a2, a3, a4, Lib.hid fun h => ?_, Lib.hid fun h => ?_⟩
      · by_cases hh : wd < 16777216
        · simp [hh]
        · simp [hh] at h
      · by_cases hh : wd < 16777216
        · simp [hh] at h
        · exact ⟨hh, shft_big hh⟩
    case round =>
      obtain ⟨vl', lo1, k1, w1, a1, a2, a3, a4, HP, HZ⟩ := hrel
      obtain ⟨c0, c1, c2, hf⟩ := blk3 a1
      by_cases hd : gk = 0
      · obtain ⟨z1, z2⟩ := HZ.out hd
        have z3 := Lib.hid z2
        have hz : decide ((w1 : Int) < 16777216) = false := by simp; omega
        clear z2 HS z1
        go_wp2
        go_end0
        exact ⟨rfl, _, by rw [hadd.out, z3.out]; exact CoQ.mk3 (s := ⟨lo1, k1, w1, od⟩) a1 a2 a3, a4⟩
      · obtain ⟨z1, z2, z3, z4, z5⟩ := HP.out hd
        subst z3; subst z4; subst z5
        have Z2 := Lib.hid z2
        obtain ⟨w2, hw2⟩ : ∃ w2, w1 * 256 = w2 := ⟨_, rfl⟩
        have eW : (w1 : Int) * 256 = (w2 : Nat) := by omega
        have HW2 := Lib.hid hw2
        clear HS HZ HP z2 hw2
        obtain ⟨A1, n1, q1, rfl⟩ := a2.shape
        have hroom : (cu8 (digs k1 lo1)).length + 1 ≤ 8796093022208 := by rw [cu8_len, digs_len]; omega
        have hgb : g < wr.heap.size := (Array.getElem?_eq_some_iff.1 a1).1
        have hng : (Value.slice A1 n1 q1).ownBlock ≠ some g := a2.ne a1 (by decide)
        have hno : ∀ q, (Value.slice A1 n1 q1).ownBlock = some q → vo.ownBlock ≠ some q := fun q e e' => by
          obtain ⟨cs, h⟩ := a2.blk e
          exact a3.ne h (by decide) e'
        have hog2 : vo.ownBlock ≠ some g := a3.ne a1 (by decide)
        have hz : decide ((w1 : Int) < 16777216) = true := by simp; omega
        have Z1 := Lib.hid z1
        have eW2 : (w1 : Int) * 2 ^ 8 = (w2 : Nat) := by omega
        have f0 : (wr.drew.alloc (.cells #[.int .u8 0] 5)).cell? ⟨g, 0, none⟩ = some (.slice A1 n1 q1) := (World.cell?_alloc_lt wr.drew _ _ hgb).trans c0
        have f1 : (wr.drew.alloc (.cells #[.int .u8 0] 5)).cell? ⟨g, 1, none⟩ = some (.int .u64 w1) := (World.cell?_alloc_lt wr.drew _ _ hgb).trans c1
        have g0 : wr.drew.cell? ⟨g, 0, none⟩ = some (.slice A1 n1 q1) := c0
        have g1 : wr.drew.cell? ⟨g, 1, none⟩ = some (.int .u64 w1) := c1
        have HA1 := Lib.hid a1; have HA2 := Lib.hid a2; have HA3 := Lib.hid a3; have HA4 := Lib.hid a4
        have HRM := Lib.hid (fun _ : True => hroom)
        clear a1 a2 a3 a4 z1 hroom
        go_wp2_with fail
        go_region_law (refine step_pushR (w := wr.drew) (u := .int .u8 0) (show Own wr.drew 0 5 (.slice A1 n1 q1) (cu8 (digs k1 lo1)) from HA2.out) (Nat.zero_le _) (HRM.out trivial) Try.underlying39 info_u8 rfl (by decide) rfl rfl rfl rfl rfl (h := ?_); intro v2 w3 ho2 hm2; obtain ⟨A2, n2, k2, rfl⟩ := ho2.shape; have hb2 : w3.heap[g]? = some (.cells #[.slice A1 n1 q1, .int .u64 w1, vo] 66 (0, 0)) := ((hm2 (g + 1)).block g hgb (by omega) hng).trans HA1.out; obtain ⟨e0, e1, e2, hf3⟩ := blk3 hb2; have hbs := heap_setCell_same w3 g 1 _ _ (.int .u64 (w2 : Nat)) hb2; obtain ⟨s0, s1, s2, sf⟩ := blk3 hbs)
        all_goals
          have hbw0 := heap_setCell_same _ g 0 _ _ (.slice A2 n2 k2) hbs
          have e8 : cu8 (digs k1 lo1) ++ [.int .u8 0] = cu8 (digs (k1 + 1) (lo1 * 256)) := by rw [← digs_push]; simp [cu8]
          rw [e8] at ho2
          have hO3 : Own w3 0 3 vo (cn od) := HA3.out.stay fun q e hq => (hm2 g).block q hq (fun e' => hog2 (e' ▸ e)) (fun e' => hno q e' e)
          have hO4 := (hO3.far hb2 (by decide) (grown_set w3 g 1 (.int .u64 (w2 : Nat)))).far hbs (by decide) (grown_set _ g 0 (.slice A2 n2 k2))
          have hO5 := (ho2.far hb2 (by decide) (grown_set w3 g 1 (.int .u64 (w2 : Nat)))).far hbs (by decide) (grown_set _ g 0 (.slice A2 n2 k2))
          have hCC := ((HA4.out.trans (.of_mov (w := wr) ⟨(hm2 g).os, (hm2 g).tape, (hm2 g).output, (hm2 g).size, (hm2 g).block, (hm2 g).own⟩)).set (j := 1) (.int .u64 (w2 : Nat)) (.inl rfl)).set (j := 0) (.slice A2 n2 k2) (.inl rfl)
          have hwW : IntKind.u64.wrap ((w2 : Nat) : Int) = ((w2 : Nat) : Int) := by
            rw [IntKind.wrap_u64]
            have := HW2.out
            have := Z1.out
            omega
          (try rw [hwW])
          go_wp2_with fail
          go_roundg 0
          case measure => omega
          case rel =>
            refine ⟨_, lo1 * 256, k1 + 1, w2, hbw0, hO5, hO4, hCC, Lib.hid (fun h => absurd rfl h), Lib.hid fun _ => ⟨by have := HW2.out; omega, ?_⟩⟩
            rw [shft_small Z1.out, HW2.out]
end Go.Proofs.Ytghbjlmbehljdaa
