/- block: the law BlockOwn. -/
import Derived.Test.YtfbhiaoodompdaaBloBa
import Derived.Test.YtfbhiaoodompdaaBloQ
import Derived.Test.YtfbhiaoodompdaaBloC
import Derived.Deep.RegionLaw
import Derived.Deep.RegionHeld3
namespace Go.Proofs.Ytfbhiaoodompdaa
open Go.RowKit
set_option maxRecDepth 100000
set_option maxHeartbeats 8000000
set_option linter.unusedSimpArgs false

/-- From world W to w only blocks from lo up to hi have changed, and new ones. -/
structure Fr (W w : World) (lo hi : Nat) : Prop where
  os : w.os = W.os
  tape : w.tape = W.tape
  output : w.output = W.output
  size : W.heap.size ≤ w.heap.size
  block : ∀ k, k < W.heap.size → k < lo ∨ hi ≤ k → w.heap[k]? = W.heap[k]?
theorem Fr.refl (W : World) (lo hi : Nat) : Fr W W lo hi := ⟨rfl, rfl, rfl, Nat.le_refl _, fun _ _ _ => rfl⟩
theorem Fr.drew {W w : World} {lo hi : Nat} (h : Fr W w lo hi) : Fr W w.drew lo hi := ⟨h.os, h.tape, h.output, h.size, h.block⟩
theorem Fr.set {W w : World} {lo hi : Nat} (h : Fr W w lo hi) (g j : Nat) (u : Value) (hg : (lo ≤ g ∧ g < hi) ∨ W.heap.size ≤ g) : Fr W (w.setCell ⟨g, j, none⟩ u) lo hi :=
  ⟨h.os, h.tape, h.output, by simpa using h.size, fun k hk hc => (heap_setCell_other w ⟨g, j, none⟩ k u (fun e => by have e : k = g := e; omega)).trans (h.block k hk hc)⟩
theorem Fr.mov {W w w' : World} {lo hi : Nat} {v v' : Value} (h : Fr W w lo hi) (hm : ∀ g, Mov w w' g v v') (hv : ∀ k, v.ownBlock = some k → (lo ≤ k ∧ k < hi) ∨ W.heap.size ≤ k) : Fr W w' lo hi :=
  ⟨(hm 0).os.trans h.os, (hm 0).tape.trans h.tape, (hm 0).output.trans h.output, Nat.le_trans h.size (hm 0).size, fun k hk hc => ((hm (k + 1)).block k (Nat.lt_of_lt_of_le hk h.size) (by omega) (fun e => by have := hv k e; omega)).trans (h.block k hk hc)⟩
theorem Fr.below {W w : World} {lo hi B : Nat} (h : Fr W w lo hi) (hB : B ≤ lo) (hW : B ≤ W.heap.size) : Below B W w := ⟨h.os, h.tape, h.output, h.size, fun k hk => h.block k (by omega) (.inl (by omega))⟩
/-- A row of one's own stays where the blocks from its base on stay. -/
theorem Own.stays {w w' : World} {base : Nat} {e : TypeId} {v : Value} {xs : List Value} (h : Own w base e v xs) (hk : ∀ k, base ≤ k → k < w.heap.size → w'.heap[k]? = w.heap[k]?) : Own w' base e v xs := by
  rcases h.2 with ⟨rfl, h0⟩ | ⟨k, cap, cur, rfl, hb, hg, r⟩
  · exact ⟨h.1, .inl ⟨rfl, h0⟩⟩
  · exact ⟨h.1, .inr ⟨k, cap, cur, rfl, hb, (hk k hb (Array.getElem?_eq_some_iff.1 hg).1).trans hg, r⟩⟩
theorem RwG.stays {w w' : World} {base : Nat} {v : Value} {vs : List Value} {rs : List (List Int)} (h : RwG w base v vs rs) (hk : ∀ k, base ≤ k → k < w.heap.size → w'.heap[k]? = w.heap[k]?) : RwG w' base v vs rs :=
  ⟨h.top.stays hk, h.len, fun j x l hx hl => (h.row j x l hx hl).stays hk, h.ap⟩
/-- 'v[i][k] = z'. -/
theorem RwG.cell {w : World} {base g n c i k : Nat} {v : Value} {vs : List Value} {rs : List (List Int)} {row : List Int} (h : RwG w base v vs rs) (hx : vs[i]? = some (.slice (some ⟨g, 0, none⟩) n c)) (hr : rs[i]? = some row) (z : Int) :
    RwG (w.setCell ⟨g, k, none⟩ (.int .i64 z)) base v vs (rs.set i (row.set k z)) := by
  have hi := (List.getElem?_eq_some_iff.1 hr).1
  have ho := h.row i _ _ hx hr
  obtain ⟨cs, hblk⟩ := ho.blk (k := g) rfl
  have hgr := grown_set w g k (.int .i64 z)
  refine ⟨h.top.far hblk (by decide) hgr, by simp [h.len], fun j x l hy hl => ?_, h.ap⟩
  by_cases hij : i = j
  · subst hij
    rw [hx] at hy
    injection hy with hy
    subst hy
    rw [List.getElem?_set_self hi] at hl
    injection hl with hl
    subst hl
    have := ho.put k (.int .i64 z)
    rw [ci_set] at this
    exact this
  · rw [List.getElem?_set_ne hij] at hl
    have hy1 := h.row j x l hy hl
    refine World.ownsRow.kept (row := some g) hy1 hgr ?_
    right
    have := h.ap i j _ x hij hx hy g rfl
    exact this

/-- Row i of rows of one's own: where it lies. -/
theorem RwG.row_at {w : World} {base gS m c i n : Nat} {vs : List Value} {rows : List (List Int)} {row : List Int} (h : RwG w base (.slice (some ⟨gS, 0, none⟩) m c) vs rows) (hr : rows[i]? = some row) (hn : row.length = n) (hp : 0 < n) :
    ∃ gi ki, vs[i]? = some (.slice (some ⟨gi, 0, none⟩) n ki) ∧ n ≤ ki ∧ ki ≤ maxLen ∧ i < vs.length ∧ base ≤ gi := by
  have hvil : i < vs.length := by rw [h.len]; exact (List.getElem?_eq_some_iff.1 hr).1
  have hrow := h.row i vs[i] row (List.getElem?_eq_getElem hvil) hr
  obtain ⟨g, k, e, h1, h2, h3, _⟩ := hrow.at_ (by rw [ci_len, hn]; exact hp)
  rw [ci_len, hn] at e h2
  exact ⟨g, k, by rw [List.getElem?_eq_getElem hvil, e], h2, h3, hvil, h1⟩
theorem RwG.row_cells {w : World} {base gS m c i n gi ki : Nat} {vs : List Value} {rows : List (List Int)} {row : List Int} (h : RwG w base (.slice (some ⟨gS, 0, none⟩) m c) vs rows) (hv : vs[i]? = some (.slice (some ⟨gi, 0, none⟩) n ki)) (hr : rows[i]? = some row) (hn : row.length = n) (hp : 0 < n) :
    w.cell? ⟨gS, i, none⟩ = some (.slice (some ⟨gi, 0, none⟩) n ki) ∧ w.frozen? ⟨gS, i, none⟩ = false ∧ Own w base 3 (.slice (some ⟨gi, 0, none⟩) n ki) (ci row) ∧ (∀ j, w.frozen? ⟨gi, j, none⟩ = false) ∧ ∀ k, k < n → ∃ z, w.cell? ⟨gi, k, none⟩ = some (.int .i64 z) := by
  have hvil := (List.getElem?_eq_some_iff.1 hv).1
  obtain ⟨g, k, e, _, _, _, hc, hf, _⟩ := h.top.at_ (by omega)
  injection e with e1 e2 e3
  injection e1 with e1
  injection e1 with e1
  subst e1
  have hrow := h.row i _ row hv hr
  obtain ⟨g', k', e', _, _, _, hc', hf', _⟩ := hrow.at_ (by rw [ci_len, hn]; exact hp)
  injection e' with e1 e2 e3
  injection e1 with e1
  injection e1 with e1
  subst e1
  refine ⟨(hc i hvil).trans hv, hf i, hrow, hf', fun k hk => ?_⟩
  have hkr : k < row.length := by omega
  exact ⟨row[k], by rw [hc' k (by rw [ci_len]; exact hkr)]; simp [ci, hkr]⟩

theorem cutR_all {b : Int} {rs : List (List Int)} {n : Nat} (M : MayBk b rs n) : cutR b rs 0 (n : Nat) = (b, rs, 0) := by
  have h := cutR_ok M (F := 0) (T := n) (by have := M.size; omega) (Nat.le_refl _)
  rw [Nat.sub_zero, show ((0 : Nat) : Int) = 0 from rfl] at h
  rw [h]
  congr 1
  congr 1
  apply List.ext_getElem
  · simp [cutB]
  · intro i h1 h2
    simp only [cutB, List.getElem_map, List.drop_zero]
    rw [List.take_of_length_le (by rw [M.rows _ (List.getElem_mem h2)]; exact Nat.le_refl _)]
theorem blockOwn_walk (bo : Int) (bv : Value) (rs : List (List Int)) (w : World) (hR : Rws w w.heap.size bv rs) :
    Calls Try.prog 10 #[.agg #[.int .i64 bo, bv]] w fun e w' => e = .returned (.bool true) ∧ Below w.heap.size w w' := by
  obtain ⟨A, c, rfl, hlc, hcm⟩ := hR.form
  have hX0 := Bxd.new (b := bo) hR
  have hb0 := below_new w #[.int .i64 bo, .slice A rs.length c] 26
  have st0 := (stab_be w).and (stab_bxd w.heap.size w.heap.size bo (.slice A rs.length c) rs)
  have hsm := fun (w1 : World) (h : Rws w1 w.heap.size (.slice A rs.length c) rs) (h2 : w.heap.size ≤ w1.heap.size) => smallBk_any bo _ rs 200 w1 _ h h2
  have hmy := fun (w1 : World) (h : Rws w1 w.heap.size (.slice A rs.length c) rs) (h2 : w.heap.size ≤ w1.heap.size) => qmayBk_any bo _ rs w1 _ h h2
  have HSM0 := Lib.hid hsm; have HMY0 := Lib.hid hmy
  clear hsm hmy
  have hP0 := And.intro hb0 hX0
  obtain ⟨wA, hwA⟩ : ∃ wA, w.alloc (.cells #[.int .i64 bo, .slice A rs.length c] 26) = wA := ⟨_, rfl⟩
  rw [hwA] at hP0
  have HWA := Lib.hid hwA
  clear hwA hX0 hb0
  by_cases hs : smallB rs 200 = true ∧ mayBk bo rs = true
  · obtain ⟨hs1, hs2⟩ := hs
    rw [hs1] at HSM0
    rw [hs2] at HMY0
    have M := mayBk_of hs2
    obtain ⟨n, hn⟩ : ∃ n, lenB rs = n := ⟨_, rfl⟩
    rw [hn] at M
    obtain ⟨m, hm⟩ : ∃ m, rs.length = m := ⟨_, rfl⟩
    have hln := fun (w1 : World) (h : Rws w1 w.heap.size (.slice A rs.length c) rs) (h2 : w.heap.size ≤ w1.heap.size) => lenBk_any bo _ rs w1 _ h h2
    have hct := fun (w1 : World) (h : Rws w1 w.heap.size (.slice A rs.length c) rs) (h2 : w.heap.size ≤ w1.heap.size) => cutBk_any bo _ rs 0 (n : Nat) w1 _ h h2
    have hm2 := fun (w1 : World) (h : Rws w1 w.heap.size (.slice A rs.length c) rs) (h2 : w.heap.size ≤ w1.heap.size) => mayBk_any bo _ rs w1 _ h h2
    rw [hn] at hln
    rw [cutR_all M] at hct
    rw [hs2] at hm2
    have hsb := M.smb
    have hm8 := M.chans
    have hn8 := M.size
    rw [hm] at hln hct hm2 HSM0 HMY0 HWA hP0 st0 hlc hR hm8 ⊢
    have HLN := Lib.hid hln; have HCT := Lib.hid hct; have HM2 := Lib.hid hm2; have HSB := Lib.hid hsb; have HM := Lib.hid M; have HML := Lib.hid hm
    clear hln hct hm2 hsb hs1 hs2 M hn hm hR
    go_enter Try.func10, Try.ntmps10
    go_wp2_with fail
    rw [HWA.out]
    refine (knownBk_any wA).mono ?_
    rintro e w1 ⟨rfl, hb1⟩
    have hP1 := st0 _ _ hb1 hP0
    obtain ⟨x0, x1⟩ := hP1.2.cs
    go_wp2_with fail
    refine (HSM0.out w1 hP1.2.2.2 hP1.2.2.1).mono ?_
    rintro e w2 ⟨rfl, hb2⟩
    have hP2 := st0 _ _ hb2 hP1
    clear x0 x1
    obtain ⟨x0, x1⟩ := hP2.2.cs
    go_wp2_with fail
    refine (HMY0.out w2 hP2.2.2.2 hP2.2.2.1).mono ?_
    rintro e w3 ⟨rfl, hb3⟩
    have hP3 := st0 _ _ hb3 hP2
    clear x0 x1
    obtain ⟨x0, x1⟩ := hP3.2.cs
    go_wp2_with fail
    refine (HLN.out w3 hP3.2.2.2 hP3.2.2.1).mono ?_
    rintro e w4 ⟨rfl, hb4⟩
    have hP4 := st0 _ _ hb4 hP3
    have hP5 := st0 _ _ (below_new w4 #[.int .i64 0, .int .i64 (n : Nat)] 48) hP4
    have hS5 := boxed w4 #[.int .i64 0, .int .i64 (n : Nat)] 48
    obtain ⟨w5, hw5⟩ : ∃ w5, w4.alloc (.cells #[.int .i64 0, .int .i64 (n : Nat)] 48) = w5 := ⟨_, rfl⟩
    rw [hw5] at hP5 hS5
    have st1 := st0.and (stab_box w4.heap.size (.cells #[.int .i64 0, .int .i64 (n : Nat)] 48 (0, 0)))
    have hQ5 := And.intro hP5 hS5
    have hz45 : w4.heap.size < w5.heap.size := (Array.getElem?_eq_some_iff.1 hS5).1
    have hz05 : w.heap.size < w5.heap.size := (Array.getElem?_eq_some_iff.1 hP5.2.1).1
    clear x0 x1 hP1 hP2 hP3 hP4 hP5 hS5
    obtain ⟨x0, x1⟩ := hQ5.1.2.cs
    obtain ⟨y0, y1, yf⟩ := two_in hQ5.2
    go_wp2_with fail
    refine (HCT.out w5 hQ5.1.2.2.2 hQ5.1.2.2.1).mono ?_
    rintro e w6 ⟨A6, n6, c6, vs6, rfl, hR6, hb6⟩
    have hQ6 := st1 _ _ hb6 hQ5
    have hl6 := hR6.len
    obtain ⟨gS, cS, hv6, hgS1, _, _, _, _, _⟩ := hR6.top.at_ (by dsimp only at hl6; rw [hl6, HML.out]; omega)
    have hgS2 : gS < w6.heap.size := (hR6.top.lt gS (by rw [hv6]; rfl)).2
    dsimp only at hl6
    rw [hl6, HML.out] at hv6
    injection hv6 with e1 e2 e3
    subst e1; subst e2; subst e3
    have hin6 : ∀ (j : Nat) (x : Value), vs6[j]? = some x → ∀ q, x.ownBlock = some q → q < w6.heap.size := by
      intro j x hx q hq
      have hj : j < rs.length := by rw [← hl6]; exact (List.getElem?_eq_some_iff.1 hx).1
      exact ((hR6.row j x rs[j] hx (List.getElem?_eq_getElem hj)).lt q hq).2
    have hQ7 := st1 _ _ (below_new w6 #[.int .i64 bo, .slice (some ⟨gS, 0, none⟩) n6 c6] 26) hQ6
    have hC7 := boxed w6 #[.int .i64 bo, .slice (some ⟨gS, 0, none⟩) n6 c6] 26
    have hR7 := hR6.kept (below_new w6 #[.int .i64 bo, .slice (some ⟨gS, 0, none⟩) n6 c6] 26)
    have hs7 := (below_new w6 #[.int .i64 bo, .slice (some ⟨gS, 0, none⟩) n6 c6] 26).size
    obtain ⟨w7, hw7⟩ : ∃ w7, w6.alloc (.cells #[.int .i64 bo, .slice (some ⟨gS, 0, none⟩) n6 c6] 26) = w7 := ⟨_, rfl⟩
    rw [hw7] at hQ7 hC7 hR7 hs7
    clear x0 x1 y0 y1 yf hQ5 hQ6
    obtain ⟨x0, x1⟩ := hQ7.1.2.cs
    obtain ⟨y0, y1, yf⟩ := two_in hQ7.2
    have hzC : w6.heap.size < w7.heap.size := (Array.getElem?_eq_some_iff.1 hC7).1
    go_wp2_with fail
    refine (HCT.out w7 hQ7.1.2.2.2 hQ7.1.2.2.1).mono ?_
    rintro e w8 ⟨A8, n8, c8, vs8, rfl, hR8, hb8⟩
    have hQ8 := st1 _ _ hb8 hQ7
    have hC8 := (hb8.block _ hzC).trans hC7
    have hRc8 := hR7.kept hb8
    have hs8 := hb8.size
    have hQ9 := st1 _ _ (below_new w8 #[.int .i64 bo, .slice A8 n8 c8] 26) hQ8
    have hD9 := boxed w8 #[.int .i64 bo, .slice A8 n8 c8] 26
    have hRd9 := hR8.kept (below_new w8 #[.int .i64 bo, .slice A8 n8 c8] 26)
    have hRc9 := hRc8.kept (below_new w8 #[.int .i64 bo, .slice A8 n8 c8] 26)
    have hC9 := ((below_new w8 #[.int .i64 bo, .slice A8 n8 c8] 26).block _ (Array.getElem?_eq_some_iff.1 hC8).1).trans hC8
    have hs9 := (below_new w8 #[.int .i64 bo, .slice A8 n8 c8] 26).size
    obtain ⟨w9, hw9⟩ : ∃ w9, w8.alloc (.cells #[.int .i64 bo, .slice A8 n8 c8] 26) = w9 := ⟨_, rfl⟩
    rw [hw9] at hQ9 hD9 hRd9 hRc9 hC9 hs9
    clear x0 x1 y0 y1 yf hQ7 hQ8 hR6 hR7 hRc8 hC7 hC8 hR8
    have hlo5 : w5.heap.size ≤ w6.heap.size := hb6.size
    have HZ4 := Lib.hid hz45; have HZ0 := Lib.hid hz05
    clear hz45 hz05
    go_wp2
    go_loopw [8, 9] (fun ii _ wo => ∃ i : Nat, i ≤ n6 ∧ ii = .int .i64 i ∧ Fr w9 wo w5.heap.size w6.heap.size ∧ ∃ vs rows, RwG wo w5.heap.size (.slice (some ⟨gS, 0, none⟩) n6 c6) vs rows ∧ (∀ j, i ≤ j → rows[j]? = rs[j]?) ∧ (∀ (j : Nat) (x : Value), vs[j]? = some x → ∀ q, x.ownBlock = some q → q < w6.heap.size ∨ w9.heap.size ≤ q)) (fun ii _ _ => n6 - (intOf ii).toNat)
    case atStart => exact ⟨0, Nat.zero_le _, rfl, Fr.refl _ _ _, vs6, rs, hRc9, fun _ _ => rfl, fun j x hx q hq => .inl (hin6 j x hx q hq)⟩
    case round =>
      clear hRc9
      obtain ⟨i, hi, rfl, hF, vs, rows, hRw, hrest, hin⟩ := hrel
      have hbx := (hF.block w6.heap.size (by omega) (.inr (Nat.le_refl _))).trans hC9
      obtain ⟨c0, c1, cf⟩ := two_in hbx
      by_cases him : i < n6
      · have hil : i < rs.length := by rw [HML.out]; exact him
        have hri := (hrest i (Nat.le_refl _)).trans (List.getElem?_eq_getElem hil)
        have hrn := HM.out.rows _ (List.getElem_mem hil)
        obtain ⟨gi, ki, hvi, hk1, hk2, hvil, hg1⟩ := hRw.row_at hri hrn (by omega)
        have himI : (i : Int) < (n6 : Int) := by omega
        have hrest1 : ∀ j, i + 1 ≤ j → rows[j]? = rs[j]? := fun j hj => hrest j (by omega)
        have hR1 := Lib.hid hRw; have hF1 := Lib.hid hF; have hri1 := Lib.hid hri; have hrn1 := Lib.hid hrn; have hrest2 := Lib.hid hrest1; have hvi1 := Lib.hid hvi; have hin1 := Lib.hid hin
        have hgi2 := hin i _ hvi gi rfl
        clear hrest hrest1 hRw hF hri hrn hvi hin
        go_wp2
        go_loopw [9] (fun kk wr => ∃ k : Nat, k ≤ n ∧ kk = .int .i64 k ∧ Fr w9 wr w5.heap.size w6.heap.size ∧ ∃ rows row, RwG wr w5.heap.size (.slice (some ⟨gS, 0, none⟩) n6 c6) vs rows ∧ (∀ j, i + 1 ≤ j → rows[j]? = rs[j]?) ∧ rows[i]? = some row ∧ row.length = n) (fun kk _ => n - (intOf kk).toNat)
        case atStart => exact ⟨0, Nat.zero_le _, rfl, hF1.out, rows, _, hR1.out, hrest2.out, hri1.out, hrn1.out⟩
        case round =>
          clear hF1 hR1 hrest2 hri1 hrn1 hbx c0 c1 cf
          obtain ⟨k, hk, rfl, hF, rows, row, hRw, hrest, hri, hrn⟩ := hrel
          have hbx := (hF.block w6.heap.size (by omega) (.inr (Nat.le_refl _))).trans hC9
          obtain ⟨c0, c1, cf⟩ := two_in hbx
          obtain ⟨hck, hfi, hrow, hrf, hrc⟩ := hRw.row_cells hvi1.out hri hrn (by omega)
          by_cases hkn : k < n
          · obtain ⟨z, hrck⟩ := hrc k hkn
            have hrfk := hrf k
            have hkI : (k : Int) < (n : Int) := by omega
            have HF := Lib.hid hF; have HRW := Lib.hid hRw; have HRE := Lib.hid hrest; have HRI := Lib.hid hri; have HRN := Lib.hid hrn
            clear hF hRw hrest hri hrn hrc hrf hrow hbx
            go_wp2
            exact ⟨⟨k + 1, by omega, by simp, HF.out.set gi k _ (by omega), _, _, HRW.out.cell hvi1.out HRI.out _, fun j hj => by rw [List.getElem?_set_ne (by omega)]; exact HRE.out j hj, List.getElem?_set_self (List.getElem?_eq_some_iff.1 HRI.out).1, by rw [List.length_set]; exact HRN.out⟩, by simp [intOf]; omega⟩
          · have hlo : w5.heap.size ≤ wr.drew.heap.size := by have := hF.size; show _ ≤ wr.heap.size; omega
            have hrm : (ci row).length + 1 ≤ 8796093022208 := by rw [ci_len, hrn]; omega
            have hxin : ∀ q, (Value.slice (some ⟨gi, 0, none⟩) n ki).ownBlock = some q → (w5.heap.size ≤ q ∧ q < w6.heap.size) ∨ w9.heap.size ≤ q := by
              intro q hq
              have hq' : gi = q := by simpa [Value.ownBlock] using hq
              rw [← hq']
              rcases hgi2 with e | e
              · exact .inl ⟨hg1, e⟩
              · exact .inr e
            have hz6 : w6.heap.size < wr.heap.size := (Array.getElem?_eq_some_iff.1 hbx).1
            have hgS3 : gS < wr.heap.size := by omega
            have HA' : Hid ((wr.drew.alloc (.cells #[.int .i64 7] 3)).cell? ⟨w6.heap.size, 1, none⟩ = some (.slice (some ⟨gS, 0, none⟩) n6 c6)) := Lib.hid ((World.cell?_alloc_lt wr.drew _ _ hz6).trans c1)
            have hck2 : (wr.drew.alloc (.cells #[.int .i64 7] 3)).cell? ⟨gS, i, none⟩ = some (.slice (some ⟨gi, 0, none⟩) n ki) := (World.cell?_alloc_lt wr.drew _ _ hgS3).trans hck
            have HFR := Lib.hid hF; have HRW := Lib.hid hRw
            have hvi := hvi1.out
            have hin := hin1.out
            clear hF hRw hrf hrc
            go_wp2_with fail
            refine wp_region_held_drew (S := fun w' => w'.cell? ⟨w6.heap.size, 1, none⟩ = some (.slice (some ⟨gS, 0, none⟩) n6 c6)) (by kernel_rfl) c1 (fun hHeld => ?_)
            refine wpAnyH_take (i := 0) (v := ?_) rfl (by kernel_rfl) (by kernel_rfl) (by kernel_rfl) (fun _ _ _ h => h) (Or.inl ⟨by rfl, ?_⟩) hHeld ?_
            rotate_left 1
            · (intro w' s1; go_simp; try with_reducible rfl)
            try simp only [Act.put, List.setIfInBounds_toArray, List.set_cons_zero, List.set_cons_succ]
            refine wpAnyH_take (i := 1) (v := ?_) rfl (by kernel_rfl) (by kernel_rfl) (by kernel_rfl) (fun _ _ _ h => h) (Or.inl ⟨by rfl, ?_⟩) hHeld ?_
            rotate_left 1
            · (intro w' s1; go_simp; try with_reducible rfl)
            try simp only [Act.put, List.setIfInBounds_toArray, List.set_cons_zero, List.set_cons_succ]
            refine wpAnyH_take (i := 2) (v := ?_) rfl (by kernel_rfl) (by kernel_rfl) (by kernel_rfl) (fun _ _ _ h => h) (Or.inl ⟨by rfl, ?_⟩) hHeld ?_
            rotate_left 1
            · (intro w' s1; go_simp; try with_reducible rfl)
            try simp only [Act.put, List.setIfInBounds_toArray, List.set_cons_zero, List.set_cons_succ]
            refine wpAnyH_take (i := 3) (v := ?_) rfl (by kernel_rfl) (by kernel_rfl) (by kernel_rfl) (fun _ _ _ h => h) (Or.inl ⟨by rfl, ?_⟩) hHeld ?_
            rotate_left 1
            · (intro w' s1; go_simp; try with_reducible rfl)
            try simp only [Act.put, List.setIfInBounds_toArray, List.set_cons_zero, List.set_cons_succ]
            refine wpAnyH_take (i := 4) (v := ?_) rfl (by kernel_rfl) (by kernel_rfl) (by kernel_rfl) (fun _ _ _ h => h) (Or.inl ⟨by rfl, ?_⟩) hHeld ?_
            rotate_left 1
            · (intro w' s1; go_simp; try with_reducible rfl)
            try simp only [Act.put, List.setIfInBounds_toArray, List.set_cons_zero, List.set_cons_succ]
            refine wpAnyH_take (i := 5) (v := ?_) rfl (by kernel_rfl) (by kernel_rfl) (by kernel_rfl) (fun _ _ _ h => h) (Or.inl ⟨by rfl, ?_⟩) hHeld ?_
            rotate_left 1
            · (intro w' s1; go_simp; try with_reducible rfl)
            try simp only [Act.put, List.setIfInBounds_toArray, List.set_cons_zero, List.set_cons_succ]
            refine wpAnyH_take (i := 6) (v := ?_) rfl (by kernel_rfl) (by kernel_rfl) (by kernel_rfl) (fun _ _ _ h => h) (Or.inl ⟨by rfl, ?_⟩) hHeld ?_
            rotate_left 1
            · (intro w' s1; go_simp; try with_reducible rfl)
            try simp only [Act.put, List.setIfInBounds_toArray, List.set_cons_zero, List.set_cons_succ]
            refine wpAnyH_ready (rs := [7, 8]) (by kernel_rfl) (by simp) ?_
            refine AllReadyH.cons rfl (fun K hK => ?way1) (AllReadyH.cons rfl (fun K hK => ?way2) AllReadyH.nil)
            case' way1 =>
              go_simp
              refine hK.out _ _ hHeld (fun hHeld => ?_)
              clear hK K
              try simp only [Act.put, List.setIfInBounds_toArray, List.set_cons_zero, List.set_cons_succ]
              refine wpAnyH_ready (rs := [8]) (by kernel_rfl) (by simp) ?_
              refine AllReadyH.cons rfl (fun K hK => ?_) AllReadyH.nil
              go_simp
              refine hK.out _ _ HA'.out (fun hHeld => ?_)
              clear hK K
              try simp only [Act.put, List.setIfInBounds_toArray, List.set_cons_zero, List.set_cons_succ]
            case' way2 =>
              go_simp
              refine hK.out _ _ HA'.out (fun hHeld => ?_)
              clear hK K
              try simp only [Act.put, List.setIfInBounds_toArray, List.set_cons_zero, List.set_cons_succ]
              refine wpAnyH_ready (rs := [7]) (by kernel_rfl) (by simp) ?_
              refine AllReadyH.cons rfl (fun K hK => ?_) AllReadyH.nil
              go_simp
              refine hK.out _ _ hHeld (fun hHeld => ?_)
              clear hK K
              try simp only [Act.put, List.setIfInBounds_toArray, List.set_cons_zero, List.set_cons_succ]
            all_goals
              refine wpAnyH_ready (rs := [9]) (by kernel_rfl) (by simp) ?_
              refine AllReadyH.cons rfl (fun K hK => ?_) AllReadyH.nil
              refine step_pushB (w := wr.drew) (u := .int .i64 7) (show Own wr.drew w5.heap.size 3 (.slice (some ⟨gi, 0, none⟩) n ki) (ci row) from hrow) hlo hrm Try.underlying37 info_int rfl (by decide) rfl rfl rfl rfl rfl (h := ?_)
              intro v7 w7 ho7 hm7
              obtain ⟨A7, n7, k7, rfl⟩ := ho7.shape
              have hF7 := HFR.out.drew.mov hm7 hxin
              have hbx7 : w7.heap[w6.heap.size]? = some (.cells #[.int .i64 bo, .slice (some ⟨gS, 0, none⟩) n6 c6] 26 (0, 0)) := ((hm7 (w6.heap.size + 1)).block w6.heap.size hz6 (by omega) (hrow.ne hbx (by decide))).trans hbx
              obtain ⟨d0, d1, df⟩ := two_in hbx7
              obtain ⟨hR7, hsame⟩ := HRW.out.drew.grow (l := row ++ [7]) hvi hm7 (by rw [ci_app]; exact ho7)
              have hk7 : w7.cell? ⟨gS, i, none⟩ = some (.slice (some ⟨gi, 0, none⟩) n ki) := (World.cell?_of_block hsame).trans hck
              have hf7 : w7.frozen? ⟨gS, i, none⟩ = false := (World.frozen?_of_block hsame).trans hfi
              have hF8 := hF7.set gS i (.slice A7 n7 k7) (.inl ⟨hgS1, hgS2⟩)
              have hin8 : ∀ (j : Nat) (x : Value), (vs.set i (.slice A7 n7 k7))[j]? = some x → ∀ q, x.ownBlock = some q → q < w6.heap.size ∨ w9.heap.size ≤ q := by
                intro j x hx q hq
                by_cases hij : i = j
                · subst hij
                  rw [List.getElem?_set_self hvil] at hx
                  injection hx with hx
                  subst hx
                  rcases (hm7 0).own q hq with e | e
                  · exact hin i _ hvi q e
                  · exact .inr (Nat.le_trans HFR.out.size e)
                · rw [List.getElem?_set_ne hij] at hx
                  exact hin j x hx q hq
              have hrows8 : ∀ j, i + 1 ≤ j → (rows.set i (row ++ [7]))[j]? = rs[j]? := by
                intro j hj
                rw [List.getElem?_set_ne (by omega)]
                exact hrest j (by omega)
              have c1' := (World.cell?_setCell_other w7 ⟨gS, i, none⟩ ⟨w6.heap.size, 1, none⟩ (.slice A7 n7 k7) (fun e => by injection e with e; omega)).trans d1
              have HF8 := Lib.hid hF8; have HR7 := Lib.hid hR7; have HI8 := Lib.hid hin8; have HR8 := Lib.hid hrows8
              clear hF7 hR7 hsame hF8 hin8 hrows8
              refine hK.out _ _ d1 (fun hHeld => ?_)
              clear hK K
              try simp only [Act.put, List.setIfInBounds_toArray, List.set_cons_zero, List.set_cons_succ]
              refine wpAnyH_take (i := 10) (v := ?_) rfl (by kernel_rfl) (by kernel_rfl) (by kernel_rfl) (fun _ _ _ h => h) (Or.inl ⟨by rfl, ?_⟩) hHeld ?_
              rotate_left 1
              · (intro w' s1; go_simp; try with_reducible rfl)
              try simp only [Act.put, List.setIfInBounds_toArray, List.set_cons_zero, List.set_cons_succ]
              refine wpAnyH_ready (rs := [11]) (by kernel_rfl) (by simp) ?_
              refine AllReadyH.cons rfl (fun K hK => ?_) AllReadyH.nil
              go_simp
              refine hK.out _ _ c1' (fun hHeld => ?_)
              clear hK K hHeld
              try simp only [Act.put, List.setIfInBounds_toArray, List.set_cons_zero, List.set_cons_succ]
              refine wpAnyH_done (by kernel_rfl) ?_ _
              clear hk7 hf7 d0 d1 df c1' hbx7 c0 c1 cf hck hfi hbx hin hrest
              go_wp2_with fail
              exact ⟨⟨i + 1, by omega, by simp, HF8.out, _, _, HR7.out, HR8.out, HI8.out⟩, by simp [intOf]; omega⟩
      · have hie : i = n6 := by omega
        subst hie
        have hzw : w.heap.size < w9.heap.size := (Array.getElem?_eq_some_iff.1 hQ9.1.2.1).1
        have hzS : w4.heap.size < w9.heap.size := (Array.getElem?_eq_some_iff.1 hQ9.2).1
        have hzD : w8.heap.size < w9.heap.size := (Array.getElem?_eq_some_iff.1 hD9).1
        have hlo4 : w4.heap.size < w5.heap.size := HZ4.out
        have hlow : w.heap.size < w5.heap.size := HZ0.out
        have hb9 := hF.below (B := w5.heap.size) (Nat.le_refl _) (by omega)
        have hQo : (Below w.heap.size w wr ∧ Bxd w.heap.size w.heap.size bo (.slice A i c) rs wr) ∧ wr.heap[w4.heap.size]? = some (.cells #[.int .i64 0, .int .i64 (n : Nat)] 48 (0, 0)) :=
          ⟨⟨hQ9.1.1.trans (hb9.mono (by omega)), (hb9.block _ hlow).trans hQ9.1.2.1, Nat.le_trans hQ9.1.2.2.1 hb9.size, hQ9.1.2.2.2.below (hb9.mono (by omega))⟩, (hb9.block _ hlo4).trans hQ9.2⟩
        have hDo := (hF.block w8.heap.size hzD (.inr (by omega))).trans hD9
        have hRdo : RwG wr w7.heap.size (.slice A8 n8 c8) vs8 rs := hRd9.stays fun k hk1 hk2 => hF.block k hk2 (.inr (by omega))
        clear hb9 hF hRw hrest hin hbx cf hC9 hRd9 hD9 hQ9
        have hBD : Bxd w8.heap.size wr.heap.size bo (.slice A8 n8 c8) rs wr := ⟨hDo, Nat.le_refl _, hRdo.rws⟩
        have st2 := st1.and (stab_bxd w8.heap.size wr.heap.size bo (.slice A8 n8 c8) rs)
        have hS := And.intro hQo hBD
        clear hDo hRdo hQo hBD
        obtain ⟨x0, x1⟩ := hS.1.1.2.cs
        obtain ⟨y0, y1, yf⟩ := two_in hS.1.2
        go_wp2_with fail
        refine (HCT.out wr hS.1.1.2.2.2 hS.1.1.2.2.1).mono ?_
        rintro e w10 ⟨A10, n10, c10, vs10, rfl, hR10, hb10⟩
        have hS10 := st2 _ _ hb10 hS
        have hS11 := st2 _ _ (below_new w10 #[.int .i64 bo, .slice A10 n10 c10] 26) hS10
        have hG11 := Bxd.new (b := bo) hR10.rws
        obtain ⟨w11, hw11⟩ : ∃ w11, w10.alloc (.cells #[.int .i64 bo, .slice A10 n10 c10] 26) = w11 := ⟨_, rfl⟩
        rw [hw11] at hS11 hG11
        have st3 := st2.and (stab_bxd w10.heap.size w10.heap.size bo (.slice A10 n10 c10) rs)
        have hT11 := And.intro hS11 hG11
        clear x0 x1 y0 y1 yf c0 c1 hS hS10 hS11 hG11 hR10
        obtain ⟨x0, x1⟩ := hT11.1.1.1.2.cs
        obtain ⟨y0, y1⟩ := hT11.1.2.cs
        obtain ⟨z0, z1⟩ := hT11.2.cs
        go_wp2_with fail
        refine (same_two hT11.1.2.2.2 hT11.1.1.1.2.2.2 hT11.1.2.2.1 hT11.1.1.1.2.2.1 HSB.out).mono ?_
        rintro e w12 ⟨rfl, hb12⟩
        have hT12 := st3 _ _ hb12 hT11
        clear x0 x1 y0 y1 z0 z1 hT11
        obtain ⟨x0, x1⟩ := hT12.1.1.1.2.cs
        obtain ⟨y0, y1⟩ := hT12.1.2.cs
        obtain ⟨z0, z1⟩ := hT12.2.cs
        go_wp2_with fail
        refine (same_two hT12.2.2.2 hT12.1.1.1.2.2.2 hT12.2.2.1 hT12.1.1.1.2.2.1 HSB.out).mono ?_
        rintro e w13 ⟨rfl, hb13⟩
        have hT13 := st3 _ _ hb13 hT12
        clear x0 x1 y0 y1 z0 z1 hT12
        obtain ⟨x0, x1⟩ := hT13.1.1.1.2.cs
        go_wp2_with fail
        refine (HM2.out w13 hT13.1.1.1.2.2.2 hT13.1.1.1.2.2.1).mono ?_
        rintro e w14 ⟨rfl, hb14⟩
        have hT14 := st3 _ _ hb14 hT13
        go_wp2
        go_ret
        exact ⟨rfl, hT14.1.1.1.1⟩
  · by_cases hs1 : smallB rs 200 = true
    · have hs2 : ¬ mayBk bo rs = true := fun h => hs ⟨hs1, h⟩
      rw [hs1] at HSM0
      rw [Bool.eq_false_iff.2 hs2] at HMY0
      clear hs hs1 hs2 hR
      go_enter Try.func10, Try.ntmps10
      go_wp2_with fail
      rw [HWA.out]
      refine (knownBk_any wA).mono ?_
      rintro e w1 ⟨rfl, hb1⟩
      have hP1 := st0 _ _ hb1 hP0
      obtain ⟨x0, x1⟩ := hP1.2.cs
      go_wp2_with fail
      refine (HSM0.out w1 hP1.2.2.2 hP1.2.2.1).mono ?_
      rintro e w2 ⟨rfl, hb2⟩
      have hP2 := st0 _ _ hb2 hP1
      clear x0 x1
      obtain ⟨x0, x1⟩ := hP2.2.cs
      go_wp2_with fail
      refine (HMY0.out w2 hP2.2.2.2 hP2.2.2.1).mono ?_
      rintro e w3 ⟨rfl, hb3⟩
      have hP3 := st0 _ _ hb3 hP2
      go_wp2
      go_ret
      exact ⟨rfl, hP3.1⟩
    · rw [Bool.eq_false_iff.2 hs1] at HSM0
      clear hs hs1 hR
      go_enter Try.func10, Try.ntmps10
      go_wp2_with fail
      rw [HWA.out]
      refine (knownBk_any wA).mono ?_
      rintro e w1 ⟨rfl, hb1⟩
      have hP1 := st0 _ _ hb1 hP0
      obtain ⟨x0, x1⟩ := hP1.2.cs
      go_wp2_with fail
      refine (HSM0.out w1 hP1.2.2.2 hP1.2.2.1).mono ?_
      rintro e w2 ⟨rfl, hb2⟩
      have hP2 := st0 _ _ hb2 hP1
      go_wp2
      go_ret
      exact ⟨rfl, hP2.1⟩
end Go.Proofs.Ytfbhiaoodompdaa
