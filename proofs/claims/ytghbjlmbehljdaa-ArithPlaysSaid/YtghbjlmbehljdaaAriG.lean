/- arith: the decoder; a shift, a bit. -/
import Derived.Test.YtghbjlmbehljdaaAriE
namespace Go.Proofs.Ytghbjlmbehljdaa
open Go.RowKit
set_option maxRecDepth 100000
set_option maxHeartbeats 400000

theorem blk5 {w : World} {g : Nat} {a b c d e : Value} {t : TypeId} (h : w.heap[g]? = some (.cells #[a, b, c, d, e] t (0, 0))) :
    w.cell? ⟨g, 0, none⟩ = some a ∧ w.cell? ⟨g, 1, none⟩ = some b ∧ w.cell? ⟨g, 2, none⟩ = some c ∧ w.cell? ⟨g, 3, none⟩ = some d ∧ w.cell? ⟨g, 4, none⟩ = some e ∧ ∀ i, w.frozen? ⟨g, i, none⟩ = false :=
  ⟨by rw [cell_of_row w g 0 _ t (0, 0) h]; rfl, by rw [cell_of_row w g 1 _ t (0, 0) h]; rfl, by rw [cell_of_row w g 2 _ t (0, 0) h]; rfl, by rw [cell_of_row w g 3 _ t (0, 0) h]; rfl, by rw [cell_of_row w g 4 _ t (0, 0) h]; rfl, fun i => frozen_of_row w g i _ t h⟩
/-- A slice of block b that reads as these bytes. -/
def Row (w : World) (b : Nat) (v : Value) (l : List Nat) : Prop :=
  ∃ o c, v = .slice (some ⟨b, o, none⟩) l.length c ∧ l.length ≤ c ∧ c ≤ maxLen ∧ ∀ j x, l[j]? = some x → w.cell? ⟨b, o + j, none⟩ = some (.int .u8 (x : Nat))
theorem Row.keep {w w' : World} {b : Nat} {v : Value} {l : List Nat} (h : Row w b v l) (hk : w'.heap[b]? = w.heap[b]?) : Row w' b v l := by
  obtain ⟨o, c, h1, h2, h3, h4⟩ := h
  exact ⟨o, c, h1, h2, h3, fun j x hx => (World.cell?_of_block hk).trans (h4 j x hx)⟩
/-- A decoder in memory at block g: its bytes in block b. -/
structure DeB (w : World) (g b : Nat) (vr vo : Value) (s : De) : Prop where
  blk : w.heap[g]? = some (.cells #[vr, .int .u64 (s.v : Nat), .int .u64 (s.w : Nat), vo, .int .i64 (s.er : Nat)] 75 (0, 0))
  row : Row w b vr s.rest
  own : Own w 0 3 vo (cn s.od)
  ne : b ≠ g
  na : vo.ownBlock ≠ some b
  lt : b < w.heap.size
def fd (g b : Nat) (vo : Value) : Nat → Prop := fun k => k = g ∨ k = b ∨ vo.ownBlock = some k
def DeO (w : World) (F : Nat → Prop) (g : Nat) (s : De) : Prop := ∃ b vr vo, DeB w g b vr vo s ∧ F = fd g b vo
theorem DeB.glt {w : World} {g b : Nat} {vr vo : Value} {s : De} (h : DeB w g b vr vo s) : g < w.heap.size := (Array.getElem?_eq_some_iff.1 h.blk).1
theorem DeO.lt {w : World} {F : Nat → Prop} {g : Nat} {s : De} (h : DeO w F g s) : ∀ k, F k → k < w.heap.size := by
  obtain ⟨b, vr, vo, h, rfl⟩ := h
  intro k hk
  rcases hk with rfl | rfl | hk
  · exact h.glt
  · exact h.lt
  · exact h.own.own_lt hk
theorem DeO.keep {w w' : World} {F : Nat → Prop} {g : Nat} {s : De} (h : DeO w F g s) (hs : w.heap.size ≤ w'.heap.size) (hk : ∀ k, F k → w'.heap[k]? = w.heap[k]?) : DeO w' F g s := by
  obtain ⟨b, vr, vo, h, rfl⟩ := h
  exact ⟨b, vr, vo, ⟨(hk g (.inl rfl)).trans h.blk, h.row.keep (hk b (.inr (.inl rfl))), h.own.stay fun k e _ => hk k (.inr (.inr e)), h.ne, h.na, Nat.lt_of_lt_of_le h.lt hs⟩, rfl⟩
theorem DeO.kept {w w' : World} {F G G' : Nat → Prop} {g : Nat} {s : De} (h : DeO w F g s) (hc : Chg w w' G G') (hd : ∀ k, F k → ¬ G k) : DeO w' F g s := h.keep hc.size fun k hk => hc.block k (h.lt k hk) (hd k hk)
theorem DeO.below {w w' : World} {F : Nat → Prop} {g : Nat} {s : De} (h : DeO w F g s) (hc : Below w.heap.size w w') : DeO w' F g s := h.keep hc.size fun k hk => hc.block k (h.lt k hk)

theorem row_tail {w : World} {b x o c : Nat} {r : List Nat} (hc1 : r.length + 1 ≤ c) (hc2 : c ≤ maxLen) (hx : ∀ j y, (x :: r)[j]? = some y → w.cell? ⟨b, o + j, none⟩ = some (.int .u8 (y : Nat))) :
    (c = 1 → Row w b (.slice (some ⟨b, o, none⟩) r.length 0) r) ∧ (¬ c = 1 → Row w b (.slice (some ⟨b, o + 1, none⟩) r.length (c - 1)) r) := by
  refine ⟨fun h => ?_, fun h => ?_⟩
  · have : r = [] := List.eq_nil_of_length_eq_zero (by omega)
    subst this
    exact ⟨o, 0, rfl, Nat.le_refl _, by simp [maxLen], fun j y hj => by simp at hj⟩
  · refine ⟨o + 1, c - 1, rfl, by omega, by omega, fun j y hj => ?_⟩
    rw [show o + 1 + j = o + (j + 1) by omega]
    exact hx (j + 1) y (by simpa using hj)
theorem dshift_any {w : World} {g b : Nat} {vr vo : Value} {x v W : Nat} {er : Nat} {r : List Nat} (hblk : w.heap[g]? = some (.cells #[vr, .int .u64 v, .int .u64 W, vo, .int .i64 er] 75 (0, 0))) (hR : Row w b vr (x :: r)) (hbg : b ≠ g) (hv : v < 4294967296) (hx : x < 256) :
    Calls Try.prog 46 #[.pointer (some ⟨g, 0, none⟩)] w fun e w' => e = .returned (.tuple #[]) ∧ ∃ vr', w'.heap[g]? = some (.cells #[vr', .int .u64 (v * 256 + x : Nat), .int .u64 W, vo, .int .i64 er] 75 (0, 0)) ∧ Row w' b vr' r ∧ w.grownBy w' (some g) := by
  obtain ⟨o, c, rfl, hc1, hc2, hcell⟩ := hR
  have hc0 := hcell 0 x rfl
  rw [Nat.add_zero] at hc0
  rw [List.length_cons] at *
  obtain ⟨c0, c1, c2, c3, c4, hf⟩ := blk5 hblk
  obtain ⟨z, hz⟩ : ∃ z, v * 256 + x = z := ⟨_, rfl⟩
  have hzI : (v : Int) * 256 + (x : Int) = (z : Nat) := by omega
  rw [hz]
  have HB := Lib.hid hblk; have HCL := Lib.hid hcell
  have hS := heap_setCell_same w g 1 _ _ (.int .u64 (z : Nat)) hblk
  have HS := Lib.hid hS
  have d0 : (w.setCell ⟨g, 1, none⟩ (.int .u64 (z : Nat))).cell? ⟨g, 0, none⟩ = some (.slice (some ⟨b, o, none⟩) (r.length + 1) c) := (blk5 hS).1
  have d1 : ∀ i, (w.setCell ⟨g, 1, none⟩ (.int .u64 (z : Nat))).frozen? ⟨g, i, none⟩ = false := (blk5 hS).2.2.2.2.2
  have HT := Lib.hid (row_tail hc1 hc2 hcell)
  have hvI : (v : Int) < 4294967296 := by omega
  have hl0 : (0 : Int) < (r.length : Nat) + 1 := by omega
  clear hblk hcell hS hz
  generalize (v : Int) = y at *
  clear hv
  go_enter Try.func46, Try.ntmps46
  go_wp2
  go_region
  go_wp2
  all_goals
    go_end0
    refine ⟨rfl, _, heap_setCell_same _ g 0 _ _ _ HS.out, Row.keep (w := w) (by first | exact HT.out.2 h | exact HT.out.1 h) ?_, grown_drew (grown_trans (grown_set w g 1 _) (grown_set _ g 0 _))⟩
    exact (heap_setCell_other _ ⟨g, 0, none⟩ b _ hbg).trans (heap_setCell_other w ⟨g, 1, none⟩ b _ hbg)

theorem set5 {w : World} {g : Nat} {a b c d e : Value} {t : TypeId} (h : w.heap[g]? = some (.cells #[a, b, c, d, e] t (0, 0))) (u0 u1 u2 u3 u4 : Value) :
    (((((w.setCell ⟨g, 0, none⟩ u0).setCell ⟨g, 1, none⟩ u1).setCell ⟨g, 2, none⟩ u2).setCell ⟨g, 3, none⟩ u3).setCell ⟨g, 4, none⟩ u4).heap[g]? = some (.cells #[u0, u1, u2, u3, u4] t (0, 0)) ∧
    w.grownBy (((((w.setCell ⟨g, 0, none⟩ u0).setCell ⟨g, 1, none⟩ u1).setCell ⟨g, 2, none⟩ u2).setCell ⟨g, 3, none⟩ u3).setCell ⟨g, 4, none⟩ u4) (some g) := by
  refine ⟨?_, grown_trans (grown_trans (grown_trans (grown_trans (grown_set w g 0 u0) (grown_set _ g 1 u1)) (grown_set _ g 2 u2)) (grown_set _ g 3 u3)) (grown_set _ g 4 u4)⟩
  have h0 := heap_setCell_same w g 0 _ _ u0 h
  have h1 := heap_setCell_same _ g 1 _ _ u1 h0
  have h2 := heap_setCell_same _ g 2 _ _ u2 h1
  have h3 := heap_setCell_same _ g 3 _ _ u3 h2
  exact heap_setCell_same _ g 4 _ _ u4 h3
/-- The decoder's struct is written. -/
theorem DeB.done {w wr w' : World} {g b : Nat} {vr vr1 vo : Value} {s t : De} (h : DeB w g b vr vo s) (hb : Below w.heap.size w wr) (hg : wr.grownBy w' (some g)) (hblk : w'.heap[g]? = some (.cells #[vr1, .int .u64 (t.v : Nat), .int .u64 (t.w : Nat), vo, .int .i64 (t.er : Nat)] 75 (0, 0))) (hr : Row wr b vr1 t.rest) (ho : t.od = s.od) :
    DeO w' (fd g b vo) g t ∧ Chg w w' (fd g b vo) (fd g b vo) := by
  have hsz := hb.size
  have hkeep : ∀ k, k < w.heap.size → k ≠ g → w'.heap[k]? = w.heap[k]? := fun k hk hn => (hg.block k (by omega) (fun e => hn (Option.some.inj e))).trans (hb.block k hk)
  have hog : vo.ownBlock ≠ some g := h.own.ne h.blk (by decide)
  refine ⟨⟨b, vr1, vo, ⟨hblk, hr.keep (hg.block b (by have := h.lt; omega) fun e => h.ne (Option.some.inj e)), ?_, h.ne, h.na, by have := h.lt; have := hg.size; omega⟩, rfl⟩, ⟨hg.os.trans hb.os, hg.tape.trans hb.tape, hg.output.trans hb.output, Nat.le_trans hsz hg.size, fun k hk hF => hkeep k hk fun e => hF (.inl e), fun _ e => .inl e⟩⟩
  rw [ho]
  exact h.own.stay fun k e hk => hkeep k hk fun e' => hog (e' ▸ e)
theorem ddec_any {w : World} {F : Nat → Prop} {g n : Nat} {s : De} (hD : DeO w F g s) (hK : DOk s n) (bd : Nat) (h1 : 65536 ≤ bd) (h2 : bd + 65536 ≤ s.w) :
    Calls Try.prog 48 #[.pointer (some ⟨g, 0, none⟩), .int .u64 bd] w fun e w' => e = .returned (.int .i64 ((dec s bd).2 : Nat)) ∧ DeO w' F g (dec s bd).1 ∧ Chg w w' F F := by
  obtain ⟨b, vr, vo, hB, rfl⟩ := hD
  obtain ⟨rest, v, W, od, er⟩ := s
  obtain ⟨k1, k2, k3, k4, k5, k6⟩ := hK
  simp only at *
  obtain ⟨c0, c1, c2, c3, c4, hf⟩ := blk5 hB.blk
  have HB := Lib.hid hB
  have HK6 := Lib.hid k6
  obtain ⟨o, c, rfl, hc1, hc2, hcell⟩ := hB.row
  obtain ⟨A2, n2, k2', rfl⟩ := hB.own.shape
  clear hB hcell k1 k2 k6
  by_cases hv : v < bd
  · have HDB : Hid (¬ bd < 16777216 → dec ⟨rest, v, W, od, er⟩ bd = (⟨rest, v, bd, od, er⟩, 0)) := Lib.hid fun h => by simp [dec, hv, h]
    have HDE : Hid (bd < 16777216 → rest = [] → dec ⟨rest, v, W, od, er⟩ bd = (⟨rest, v, W, od, 3⟩, 0)) := Lib.hid fun h e => by subst e; simp [dec, hv, h]
    have HDC : Hid (bd < 16777216 → ∀ x r, rest = x :: r → dec ⟨rest, v, W, od, er⟩ bd = (⟨r, v * 256 + x, bd * 256, od, er⟩, 0)) := Lib.hid fun h x r e => by subst e; simp [dec, hv, h]
    have HVA : Hid (True → v < 4294967296) := Lib.hid fun _ => (by omega)
    have HWL : Hid (True → 65536 ≤ bd) := Lib.hid fun _ => h1
    have hvI : (v : Int) < (bd : Int) := by omega
    obtain ⟨ya, hya⟩ : ∃ ya : Int, (v : Int) = ya := ⟨_, rfl⟩
    obtain ⟨Ya, hYa⟩ : ∃ Ya : Int, (bd : Int) = Ya := ⟨_, rfl⟩
    have HYA := Lib.hid hya; have HWA := Lib.hid hYa
    rw [hya] at c1 hvI
    rw [hYa] at hvI ⊢
    clear hv k3 k4 k5 h1 h2 hya hYa
    go_enter Try.func48, Try.ntmps48
    go_wp2
    go_loopg [] (if bd < 16777216 then 1 else 0) (fun d wr => ∃ (vr1 : Value) (rest1 : List Nat) (v1 w1 : Int), wr.heap[w.heap.size]? = some (.cells #[vr1, .int .u64 v1, .int .u64 w1, .slice A2 n2 k2', .int .i64 er] 75 (0, 0)) ∧ Row wr b vr1 rest1 ∧ Below w.heap.size w wr ∧ Hid (d ≠ 0 → bd < 16777216 ∧ d = 1 ∧ rest1 = rest ∧ v1 = v ∧ w1 = bd) ∧ Hid (d = 0 → ¬ w1 < 16777216 ∧ ∃ vn wn : Nat, v1 = vn ∧ w1 = wn ∧ dec ⟨rest, v, W, od, er⟩ bd = (⟨rest1, vn, wn, od, er⟩, 0)))
    case atStart =>
      have hbw : Below w.heap.size w (w.alloc (.cells #[.slice (some ⟨b, o, none⟩) rest.length c, .int .u64 ya, .int .u64 Ya, .slice A2 n2 k2', .int .i64 er] 75)) := (Below.refl _ _).alloc (Nat.le_refl _) _
      refine ⟨_, rest, ya, Ya, heap_alloc_new w _, HB.out.row.keep (hbw.block b HB.out.lt), hbw, Lib.hid fun h => ?_, Lib.hid fun h => ?_⟩
      · by_cases hh : bd < 16777216
        · exact ⟨hh, by simp [hh], rfl, HYA.out.symm, HWA.out.symm⟩
        · simp [hh] at h
      · by_cases hh : bd < 16777216
        · simp [hh] at h
        · exact ⟨by have := HWA.out; omega, v, bd, HYA.out.symm, HWA.out.symm, HDB.out hh⟩
    case round =>
      obtain ⟨vr1, rest1, v1, w1, a1, ⟨o1, q1, rfl, hq1, hq2, hcell1⟩, a3, HP, HZ⟩ := hrel
      have HCE := Lib.hid hcell1
      clear hcell1
      have hgG : g ≠ w.heap.size := fun e => by have := HB.out.glt; omega
      have hbG : b ≠ w.heap.size := fun e => by have := HB.out.lt; omega
      have hbg := (a3.block g HB.out.glt).trans HB.out.blk
      obtain ⟨c0, c1, c2, c3, c4, hf⟩ := blk5 hbg
      obtain ⟨d0, d1, d2, d3, d4, hf2⟩ := blk5 a1
      have HBG := Lib.hid hbg; have HA1 := Lib.hid a1
      clear hbg a1
      by_cases hd : gk = 0
      · obtain ⟨z1, vn, wn, z2, z3, z4⟩ := HZ.out hd
        have Z4 := Lib.hid z4; have Z2 := Lib.hid z2; have Z3 := Lib.hid z3
        have hvg : (Value.slice A2 n2 k2').ownBlock ≠ some g := HB.out.own.ne HB.out.blk (by decide)
        clear HP HZ z2 z3 z4
        go_wp2
        go_ret
        rw [Z4.out]
        obtain ⟨hs5, hg5⟩ := set5 HBG.out (.slice (some ⟨b, o1, none⟩) rest1.length q1) (.int .u64 v1) (.int .u64 w1) (.slice A2 n2 k2') (.int .i64 er)
        rw [Z2.out, Z3.out] at hs5 hg5 ⊢
        exact ⟨rfl, HB.out.done (t := ⟨rest1, vn, wn, od, er⟩) a3 hg5 hs5 ⟨o1, q1, rfl, hq1, hq2, HCE.out⟩ rfl⟩
      · obtain ⟨z1, z2, z3, z4, z5⟩ := HP.out hd
        subst z3
        have Z4 := Lib.hid z4; have Z5 := Lib.hid z5
        have hw0 : 0 ≤ w1 := by omega
        have hw1 : w1 < 16777216 := by omega
        have Z1 := Lib.hid (fun _ : True => (⟨z1, z2⟩ : bd < 16777216 ∧ gk = 1))
        cases rest1 with
        | nil =>
          have hde := HDE.out z1 rfl
          have HDE2 := Lib.hid hde
          clear HP HZ hde z1 z2 z4 z5
          go_wp2
          go_ret
          rw [HDE2.out]
          exact ⟨rfl, HB.out.done (t := ⟨[], v, W, od, 3⟩) a3 (grown_set wr g 4 (.int .i64 3)) (heap_setCell_same wr g 4 _ _ (.int .i64 3) HBG.out) (HB.out.row.keep (a3.block b HB.out.lt)) rfl⟩
        | cons x r =>
          have hx : x < 256 := HK6.out x (by simp)
          have hde := HDC.out z1 x r rfl
          have HDE2 := Lib.hid hde
          obtain ⟨w2, hw2⟩ : ∃ w2 : Nat, w1 * 256 = (w2 : Nat) := ⟨bd * 256, by omega⟩
          have HW2 := Lib.hid hw2
          have hS1 := heap_setCell_same wr w.heap.size 2 _ _ (.int .u64 (w2 : Nat)) HA1.out
          have hR1 : Row (wr.setCell ⟨w.heap.size, 2, none⟩ (.int .u64 (w2 : Nat))) b _ (x :: r) := Row.keep (w := wr) ⟨o1, q1, rfl, hq1, hq2, HCE.out⟩ (heap_setCell_other wr ⟨w.heap.size, 2, none⟩ b _ hbG)
          rw [z4] at hS1
          have hSh := dshift_any hS1 hR1 hbG (HVA.out trivial) hx
          have HSH := Lib.hid hSh
          have hBs := a3.trans (below_of_only (grown_set wr w.heap.size 2 (.int .u64 (w2 : Nat))) (Nat.le_refl _) a3.size)
          have HBS := Lib.hid hBs
          clear HP HZ hde z1 z2 z5 hS1 hR1 hSh a3 hBs
          go_wp2_with fail
          refine HSH.out.mono ?_
          rintro e w3 ⟨rfl, vr3, hb3, hr3, hg3⟩
          go_wp2
          go_roundg 0
          case measure => have := (Z1.out trivial).2; omega
          case rel =>
            refine ⟨vr3, r, _, _, hb3, hr3, HBS.out.trans (below_of_only hg3 (Nat.le_refl _) HBS.out.size), Lib.hid fun h => absurd rfl h, Lib.hid fun _ => ⟨?_, v * 256 + x, w2, rfl, rfl, ?_⟩⟩
            · have := HW2.out
              have := HWL.out trivial
              have := Z5.out
              omega
            · rw [HDE2.out]
              have := HW2.out
              have := Z5.out
              rw [show bd * 256 = w2 by omega]
  · have HDB : Hid (¬ W - bd < 16777216 → dec ⟨rest, v, W, od, er⟩ bd = (⟨rest, v - bd, W - bd, od, er⟩, 1)) := Lib.hid fun h => by simp [dec, hv, h]
    have HDE : Hid (W - bd < 16777216 → rest = [] → dec ⟨rest, v, W, od, er⟩ bd = (⟨rest, v, W, od, 3⟩, 0)) := Lib.hid fun h e => by subst e; simp [dec, hv, h]
    have HDC : Hid (W - bd < 16777216 → ∀ x r, rest = x :: r → dec ⟨rest, v, W, od, er⟩ bd = (⟨r, (v - bd) * 256 + x, (W - bd) * 256, od, er⟩, 1)) := Lib.hid fun h x r e => by subst e; simp [dec, hv, h]
    have HVA : Hid (True → v - bd < 4294967296) := Lib.hid fun _ => (by omega)
    have HWL : Hid (True → 65536 ≤ W - bd) := Lib.hid fun _ => (by omega)
    obtain ⟨va, hva⟩ : ∃ va, v - bd = va := ⟨_, rfl⟩
    obtain ⟨wa, hwa⟩ : ∃ wa, W - bd = wa := ⟨_, rfl⟩
    rw [hva] at HDB HDC HVA
    rw [hwa] at HDB HDE HDC HWL
    obtain ⟨ya, hya⟩ : ∃ ya : Int, (va : Int) = ya := ⟨_, rfl⟩
    obtain ⟨Ya, hYa⟩ : ∃ Ya : Int, (wa : Int) = Ya := ⟨_, rfl⟩
    have HYA := Lib.hid hya; have HWA := Lib.hid hYa
    obtain ⟨y, hy⟩ : ∃ y : Int, (v : Int) = y := ⟨_, rfl⟩
    obtain ⟨Y, hY⟩ : ∃ Y : Int, (W : Int) = Y := ⟨_, rfl⟩
    obtain ⟨B, hBd⟩ : ∃ B : Int, (bd : Int) = B := ⟨_, rfl⟩
    have hyB : y - B = ya := by omega
    have hYB : Y - B = Ya := by omega
    have hvI : B ≤ y := by omega
    have hB0 : 0 ≤ B := by omega
    have hyl : y < 4294967296 := by omega
    have hYl : Y < 4294967296 := by omega
    have hBY : B ≤ Y := by omega
    rw [hy] at c1
    rw [hY] at c2
    rw [hBd]
    clear hv k3 k4 k5 h1 h2 hya hYa hva hwa hy hY hBd
    go_enter Try.func48, Try.ntmps48
    go_wp2
    go_loopg [] (if wa < 16777216 then 1 else 0) (fun d wr => ∃ (vr1 : Value) (rest1 : List Nat) (v1 w1 : Int), wr.heap[w.heap.size]? = some (.cells #[vr1, .int .u64 v1, .int .u64 w1, .slice A2 n2 k2', .int .i64 er] 75 (0, 0)) ∧ Row wr b vr1 rest1 ∧ Below w.heap.size w wr ∧ Hid (d ≠ 0 → wa < 16777216 ∧ d = 1 ∧ rest1 = rest ∧ v1 = va ∧ w1 = wa) ∧ Hid (d = 0 → ¬ w1 < 16777216 ∧ ∃ vn wn : Nat, v1 = vn ∧ w1 = wn ∧ dec ⟨rest, v, W, od, er⟩ bd = (⟨rest1, vn, wn, od, er⟩, 1)))
    case atStart =>
      have hbw : Below w.heap.size w (w.alloc (.cells #[.slice (some ⟨b, o, none⟩) rest.length c, .int .u64 ya, .int .u64 Ya, .slice A2 n2 k2', .int .i64 er] 75)) := (Below.refl _ _).alloc (Nat.le_refl _) _
      refine ⟨_, rest, ya, Ya, heap_alloc_new w _, HB.out.row.keep (hbw.block b HB.out.lt), hbw, Lib.hid fun h => ?_, Lib.hid fun h => ?_⟩
      · by_cases hh : wa < 16777216
        · exact ⟨hh, by simp [hh], rfl, HYA.out.symm, HWA.out.symm⟩
        · simp [hh] at h
      · by_cases hh : wa < 16777216
        · simp [hh] at h
        · exact ⟨by have := HWA.out; omega, va, wa, HYA.out.symm, HWA.out.symm, HDB.out hh⟩
    case round =>
      obtain ⟨vr1, rest1, v1, w1, a1, ⟨o1, q1, rfl, hq1, hq2, hcell1⟩, a3, HP, HZ⟩ := hrel
      have HCE := Lib.hid hcell1
      clear hcell1
      have hgG : g ≠ w.heap.size := fun e => by have := HB.out.glt; omega
      have hbG : b ≠ w.heap.size := fun e => by have := HB.out.lt; omega
      have hbg := (a3.block g HB.out.glt).trans HB.out.blk
      obtain ⟨c0, c1, c2, c3, c4, hf⟩ := blk5 hbg
      obtain ⟨d0, d1, d2, d3, d4, hf2⟩ := blk5 a1
      have HBG := Lib.hid hbg; have HA1 := Lib.hid a1
      clear hbg a1
      by_cases hd : gk = 0
      · obtain ⟨z1, vn, wn, z2, z3, z4⟩ := HZ.out hd
        have Z4 := Lib.hid z4; have Z2 := Lib.hid z2; have Z3 := Lib.hid z3
        have hvg : (Value.slice A2 n2 k2').ownBlock ≠ some g := HB.out.own.ne HB.out.blk (by decide)
        clear HP HZ z2 z3 z4
        go_wp2
        go_ret
        rw [Z4.out]
        obtain ⟨hs5, hg5⟩ := set5 HBG.out (.slice (some ⟨b, o1, none⟩) rest1.length q1) (.int .u64 v1) (.int .u64 w1) (.slice A2 n2 k2') (.int .i64 er)
        rw [Z2.out, Z3.out] at hs5 hg5 ⊢
        exact ⟨rfl, HB.out.done (t := ⟨rest1, vn, wn, od, er⟩) a3 hg5 hs5 ⟨o1, q1, rfl, hq1, hq2, HCE.out⟩ rfl⟩
      · obtain ⟨z1, z2, z3, z4, z5⟩ := HP.out hd
        subst z3
        have Z4 := Lib.hid z4; have Z5 := Lib.hid z5
        have hw0 : 0 ≤ w1 := by omega
        have hw1 : w1 < 16777216 := by omega
        have Z1 := Lib.hid (fun _ : True => (⟨z1, z2⟩ : wa < 16777216 ∧ gk = 1))
        cases rest1 with
        | nil =>
          have hde := HDE.out z1 rfl
          have HDE2 := Lib.hid hde
          clear HP HZ hde z1 z2 z4 z5
          go_wp2
          go_ret
          rw [HDE2.out]
          exact ⟨rfl, HB.out.done (t := ⟨[], v, W, od, 3⟩) a3 (grown_set wr g 4 (.int .i64 3)) (heap_setCell_same wr g 4 _ _ (.int .i64 3) HBG.out) (HB.out.row.keep (a3.block b HB.out.lt)) rfl⟩
        | cons x r =>
          have hx : x < 256 := HK6.out x (by simp)
          have hde := HDC.out z1 x r rfl
          have HDE2 := Lib.hid hde
          obtain ⟨w2, hw2⟩ : ∃ w2 : Nat, w1 * 256 = (w2 : Nat) := ⟨wa * 256, by omega⟩
          have HW2 := Lib.hid hw2
          have hS1 := heap_setCell_same wr w.heap.size 2 _ _ (.int .u64 (w2 : Nat)) HA1.out
          have hR1 : Row (wr.setCell ⟨w.heap.size, 2, none⟩ (.int .u64 (w2 : Nat))) b _ (x :: r) := Row.keep (w := wr) ⟨o1, q1, rfl, hq1, hq2, HCE.out⟩ (heap_setCell_other wr ⟨w.heap.size, 2, none⟩ b _ hbG)
          rw [z4] at hS1
          have hSh := dshift_any hS1 hR1 hbG (HVA.out trivial) hx
          have HSH := Lib.hid hSh
          have hBs := a3.trans (below_of_only (grown_set wr w.heap.size 2 (.int .u64 (w2 : Nat))) (Nat.le_refl _) a3.size)
          have HBS := Lib.hid hBs
          clear HP HZ hde z1 z2 z5 hS1 hR1 hSh a3 hBs
          go_wp2_with fail
          refine HSH.out.mono ?_
          rintro e w3 ⟨rfl, vr3, hb3, hr3, hg3⟩
          go_wp2
          go_roundg 0
          case measure => have := (Z1.out trivial).2; omega
          case rel =>
            refine ⟨vr3, r, _, _, hb3, hr3, HBS.out.trans (below_of_only hg3 (Nat.le_refl _) HBS.out.size), Lib.hid fun h => absurd rfl h, Lib.hid fun _ => ⟨?_, va * 256 + x, w2, rfl, rfl, ?_⟩⟩
            · have := HW2.out
              have := HWL.out trivial
              have := Z5.out
              omega
            · rw [HDE2.out]
              have := HW2.out
              have := Z5.out
              rw [show wa * 256 = w2 by omega]
end Go.Proofs.Ytghbjlmbehljdaa
