/- parts: what the reference reads. -/
import Derived.Test.YtohbpjehphmedaaParJ
import Derived.Test.YtohbpjehphmedaaParI
namespace Go.Proofs.Ytohbpjehphmedaa
open Go.RowKit
set_option maxRecDepth 100000
set_option maxHeartbeats 1600000

/-- The reference's reader, three rows of ints, a plan in its block, a result's block. -/
structure RowingQ (w0 w : World) (B g P R : Nat) (l : List Nat) (a1 : Nat) (o : Int) (kv lv sv : Value) (ks0 l0 ss : List Int) : Prop where
  rd : OcB w B g l a1 0
  kown : Own w w0.heap.size 3 kv (ci ks0)
  lown : Own w w0.heap.size 3 lv (ci l0)
  sown : Own w w0.heap.size 3 sv (ci ss)
  kl : Apart kv lv
  ks : Apart kv sv
  ls : Apart lv sv
  box : w.heap[P]? = some (.cells #[.int .i64 o, kv] 24 (0, 0))
  res : w.heap[R]? = some (.cells #[.int .i64 0, .slice none 0 0] 24 (0, 0))
  gr : w0.grownBy w (some g)
  pr : P ≠ R
  p0 : w0.heap.size ≤ P
  r0 : w0.heap.size ≤ R
  g0 : g < w0.heap.size
  b0 : B ≤ w0.heap.size
theorem RowingQ.read {w0 w w' : World} {B g P R : Nat} {l : List Nat} {a1 a2 : Nat} {o : Int} {kv lv sv : Value} {ks0 l0 ss : List Int} (h : RowingQ w0 w B g P R l a1 o kv lv sv ks0 l0 ss) (hR : OcB w' B g l a2 0) (hg : w.grownBy w' (some g)) : RowingQ w0 w' B g P R l a2 o kv lv sv ks0 l0 ss := by
  obtain ⟨cs, hb⟩ := h.rd.blk
  have hP := (Array.getElem?_eq_some_iff.1 h.box).1
  have hRr := (Array.getElem?_eq_some_iff.1 h.res).1
  have := h.g0; have := h.p0; have := h.r0
  exact ⟨hR, h.kown.far hb (by decide) hg, h.lown.far hb (by decide) hg, h.sown.far hb (by decide) hg, h.kl, h.ks, h.ls, (hg.block P hP (by simp; omega)).trans h.box, (hg.block R hRr (by simp; omega)).trans h.res, grown_trans h.gr hg, h.pr, h.p0, h.r0, h.g0, h.b0⟩
theorem RowingQ.boxK {w0 w w' : World} {B g P R : Nat} {l : List Nat} {a1 : Nat} {o : Int} {kv kv' lv sv : Value} {ks0 l0 ss : List Int} (h : RowingQ w0 w B g P R l a1 o kv lv sv ks0 l0 ss) (hm : ∀ g, Mov w w' g kv kv') : w'.heap[P]? = some (.cells #[.int .i64 o, kv] 24 (0, 0)) :=
  ((hm (P + 1)).block P (Array.getElem?_eq_some_iff.1 h.box).1 (by omega) (h.kown.ne h.box (by decide))).trans h.box
theorem RowingQ.pushK {w0 w w' : World} {B g P R : Nat} {l : List Nat} {a1 : Nat} {o k : Int} {kv kv' lv sv : Value} {ks0 l0 ss : List Int} (h : RowingQ w0 w B g P R l a1 o kv lv sv ks0 l0 ss) (ho : Own w' w0.heap.size 3 kv' (ci ks0 ++ [.int .i64 k])) (hm : ∀ g, Mov w w' g kv kv') : RowingQ w0 (w'.setCell ⟨P, 1, none⟩ kv') B g P R l a1 o kv' lv sv (ks0 ++ [k]) l0 ss := by
  have hRr := (Array.getElem?_eq_some_iff.1 h.res).1
  have hrd' := h.rd.push h.kown h.b0 hm
  have hbox' := h.boxK hm
  have hres' : w'.heap[R]? = some (.cells #[.int .i64 0, .slice none 0 0] 24 (0, 0)) := ((hm (R + 1)).block R hRr (by omega) (h.kown.ne h.res (by decide))).trans h.res
  obtain ⟨cs, hb⟩ := h.rd.blk
  have hl' := h.lown.moved (hm g) hb (by decide) h.kl
  have hs' := h.sown.moved (hm g) hb (by decide) h.ks
  have hset := grown_set w' P 1 kv'
  have hgP : g ≠ P := by have := h.g0; have := h.p0; omega
  refine ⟨hrd'.only hset hgP (Nat.le_trans h.b0 h.p0), by rw [ci_app]; exact ho.far hbox' (by decide) hset, hl'.far hbox' (by decide) hset, hs'.far hbox' (by decide) hset, (hm g).apart h.kl fun k hk => (h.lown.lt k hk).2, (hm g).apart h.ks fun k hk => (h.sown.lt k hk).2, h.ls, heap_setCell_same w' P 1 _ _ _ hbox', (hset.block R (Array.getElem?_eq_some_iff.1 hres').1 (by simp; exact fun e => h.pr e.symm)).trans hres', ?_, h.pr, h.p0, h.r0, h.g0, h.b0⟩
  exact grown_fresh (Mov.fresh h.gr hm fun k hk => (h.kown.lt k hk).1) hset h.p0
theorem RowingQ.pushL {w0 w w' : World} {B g P R : Nat} {l : List Nat} {a1 : Nat} {o : Int} {kv lv lv' sv : Value} {ks0 l0 l1 ss : List Int} (h : RowingQ w0 w B g P R l a1 o kv lv sv ks0 l0 ss) (ho : Own w' w0.heap.size 3 lv' (ci l0 ++ ci l1)) (hm : ∀ g, Mov w w' g lv lv') : RowingQ w0 w' B g P R l a1 o kv lv' sv ks0 (l0 ++ l1) ss := by
  have hP := (Array.getElem?_eq_some_iff.1 h.box).1
  have hRr := (Array.getElem?_eq_some_iff.1 h.res).1
  obtain ⟨cs, hb⟩ := h.rd.blk
  refine ⟨h.rd.push h.lown h.b0 hm, h.kown.moved (hm g) hb (by decide) h.kl.symm, by rw [ci_app]; exact ho, h.sown.moved (hm g) hb (by decide) h.ls, ((hm g).apart h.kl.symm fun k hk => (h.kown.lt k hk).2).symm, h.ks, (hm g).apart h.ls fun k hk => (h.sown.lt k hk).2, ((hm (P + 1)).block P hP (by omega) (h.lown.ne h.box (by decide))).trans h.box, ((hm (R + 1)).block R hRr (by omega) (h.lown.ne h.res (by decide))).trans h.res, Mov.fresh h.gr hm fun k hk => (h.lown.lt k hk).1, h.pr, h.p0, h.r0, h.g0, h.b0⟩
/-- The result is laid, and the row is read no more. -/
def QGPost2 (r : Int × List Int × List Int × Nat × Int) (B g : Nat) (l : List Nat) (w : World) (e : Ending) (w' : World) : Prop :=
  ∃ (kv vl : Value) (a2 : Nat) (e2 : Int), e = .returned (.tuple #[.agg #[.int .i64 r.1, kv], vl, .int .i64 r.2.2.2.2]) ∧ Own w' w.heap.size 3 kv (ci r.2.1) ∧ Own w' w.heap.size 3 vl (ci r.2.2.1) ∧ OcB w' B g l a2 e2 ∧ w.grownBy w' (some g) ∧ (r.2.2.2.2 = 0 → a2 = r.2.2.2.1 ∧ e2 = 0)

theorem qgetP_any {w : World} {B g at_ : Nat} {l : List Nat} {er : Int} (hR : OcB w B g l at_ er) (n warm : Int) (hBw : B ≤ w.heap.size) :
    Calls Try.prog 33 #[.pointer (some ⟨g, 0, none⟩), .int .i64 n, .int .i64 warm] w (QGPost2 (getP (bitAt l) (8 * l.length) at_ er n warm) B g l w) := by
  have hi := fun w => qrow_any n warm w
  have hb0 := below_box w (.int .i64 0) (.slice none 0 0) 24
  have hbx0 := box_new w (.int .i64 0) (.slice none 0 0) 24
  have hR0 := hR.below hb0
  have hglt := hR.lt
  obtain ⟨q0, q1, hq⟩ := blk2 hbx0
  obtain ⟨wA, hwA⟩ : ∃ wA, w.alloc (.cells #[.int .i64 0, .slice none 0 0] 24) = wA := ⟨_, rfl⟩
  have HWA := Lib.hid hwA
  rw [hwA] at hb0 hbx0 hR0 q0 q1 hq
  clear hwA
  have hsA := hb0.size
  by_cases hrow : rowB n warm = true
  · rw [getP_row hrow]
    unfold rowR
    rw [hrow] at hi
    have h4 := oget_any hR0 4
    have hlt : (gGet (bitAt l) (8 * l.length) at_ er ((4 : Nat) : Int)).1 < 2 ^ 4 := gGet_lt
    rw [show ((4 : Nat) : Int) = 4 from rfl] at hlt
    generalize gGet (bitAt l) (8 * l.length) at_ er 4 = r at *
    obtain ⟨x, a1, e1⟩ := r
    simp only at hlt h4 ⊢
    have hx64 : IntKind.i64.wrap ((x : Nat) : Int) = (x : Nat) := IntWalk.i64_in _ (by omega)
    obtain ⟨r1, r2, r3, r4⟩ := rowB_iff.1 hrow
    by_cases he : e1 = 0
    · subst he
      rw [if_pos rfl]
      have hsz := fun w => qsizes_any (x : Int) n warm w (by omega) (by omega)
      by_cases hp : planB (x : Int) n warm = true
      · rw [if_pos hp]
        have h256 := two_256 hp
        have hsn := sizesN_len hp
        have hsum := sizesN_sum hp
        rw [show SizesP (x : Int) n warm = fun w e w' => ∃ v', e = .returned v' ∧ Own w' w.heap.size 3 v' (ci (ints (sizesN (x : Int) n warm))) ∧ Below w.heap.size w w' from rfl] at hsz
        generalize sizesN (x : Int) n warm = ss at *
        generalize 2 ^ (x : Int).toNat = m at *
        have hgk := fun (w1 : World) (a2 : Nat) (h : OcB w1 B g l a2 0) => oget_any h 5
        have hgp := fun (w1 : World) (a2 s : Nat) (k : Int) (h : OcB w1 B g l a2 0) (hs : s ≤ 4194304) (hB : B ≤ w1.heap.size) => qpart_any h k s hs hB
        have hrk := rParts_cons (bitAt l) (8 * l.length)
        have hgl := (glue2_nil _ (rParts_no (f := bitAt l) (len := 8 * l.length) ss a1)).symm
        obtain ⟨f, hf⟩ : ∃ f, bitAt l = f := ⟨_, rfl⟩
        obtain ⟨len, hlen⟩ : ∃ len, 8 * l.length = len := ⟨_, rfl⟩
        rw [hf, hlen] at hgp hrk hgl hgk ⊢
        obtain ⟨T, hT⟩ : ∃ T, rParts f len ss a1 = T := ⟨_, rfl⟩
        have hgl' : T = glue2 [] [] (rParts f len (ss.drop 0) a1) := by rw [← hT]; exact hgl
        rw [hT]
        obtain ⟨R, hRR⟩ : ∃ R : Int × List Int × List Int × Nat × Int, (if T.2.2.2 = 0 then ((x : Int), T.1, T.2.1, T.2.2.1, 0) else (0, [], [], 0, T.2.2.2)) = R := ⟨_, rfl⟩
        rw [hRR]
        have HI := Lib.hid hi; have H4 := Lib.hid h4; have HSZ := Lib.hid hsz; have HGP := Lib.hid hgp; have HRK := Lib.hid hrk; have HGL := Lib.hid hgl'; have HRR := Lib.hid hRR; have HSN := Lib.hid hsn; have HSUM := Lib.hid (show ss.sum ≤ 4096 by omega); have HGK := Lib.hid hgk
        clear hi h4 hsz hgp hrk hgl hgl' hT hRR hsn hsum hp hf hlen hrow hR hgk
        go_enter Try.func33, Try.ntmps33
        go_wp2_with fail
        rw [HWA.out]
        refine (HI.out _).mono ?_
        rintro e w1 ⟨rfl, rfl⟩
        go_wp2_with fail
        refine H4.out.mono ?_
        rintro e w1 ⟨rfl, hR1, hg1⟩
        have hres1 := (hg1.block w.heap.size (Array.getElem?_eq_some_iff.1 hbx0).1 (by simp; omega)).trans hbx0
        have hg01 := grown_trans (grown_of_below hb0 (some g)) hg1
        have hbA := below_box w1 (.int .i64 (x : Int)) (.slice none 0 0) 24
        have hboxA := box_new w1 (.int .i64 (x : Int)) (.slice none 0 0) 24
        obtain ⟨d0, d1, _⟩ := blk2 hboxA
        have hR2 := hR1.below hbA
        have hg02 := grown_trans hg01 (grown_of_below hbA (some g))
        have hres2 := (hbA.block w.heap.size (Array.getElem?_eq_some_iff.1 hres1).1).trans hres1
        have hlt1 := (Array.getElem?_eq_some_iff.1 hres1).1
        have hE2 := hR2.cells
        clear q0 q1 hq
        have hs1 := hg01.size
        go_wp2_with fail
        obtain ⟨wB, hwB⟩ : ∃ wB, w1.alloc (.cells #[.int .i64 (x : Int), .slice none 0 0] 24) = wB := ⟨_, rfl⟩
        rw [hwB] at hbA hboxA d0 d1 hR2 hg02 hres2 hE2 ⊢
        clear hwB
        refine (HSZ.out _).mono ?_
        rintro e w2 ⟨v2, rfl, hso, hb2⟩
        obtain ⟨A3, c3, rfl, _, _⟩ := hso.formI
        rw [ints_len, HSN.out] at hso ⊢
        have hm0 : ((m : Int) == 0) = false := by simp only [beq_eq_false_iff_ne, ne_eq]; omega
        have hbox2 := (hb2.block w1.heap.size (Array.getElem?_eq_some_iff.1 hboxA).1).trans hboxA
        have hres3 := (hb2.block w.heap.size (Array.getElem?_eq_some_iff.1 hres2).1).trans hres2
        have hso2 := hso.mono hg02.size
        have hRow : RowingQ w w2 B g w1.heap.size w.heap.size l a1 (x : Int) (.slice none 0 0) (.slice none 0 0) (.slice A3 m c3) [] [] (ints ss) :=
          ⟨hR2.below hb2, Own.nil _ _ _, Own.nil _ _ _, hso2, apart_nil _, apart_nil _, apart_nil _, hbox2, hres3, grown_trans hg02 (grown_of_below hb2 (some g)), by omega, hs1, Nat.le_refl _, hglt, hBw⟩
        clear d0 d1 hbox2 hres3 hso2 hso hb2 hboxA hres2 hR2 hg02 hbA hR1 hg1 hres1 hg01 hlt1 hE2
        go_wp2
        go_loopw [11, 12] (fun lv ii wr => ∃ (j a2 : Nat) (kv : Value) (ks0 l0 : List Int), j ≤ m ∧ ii = .int .i64 j ∧ l0.length ≤ (ss.take j).sum ∧ RowingQ w wr B g w1.heap.size w.heap.size l a2 (x : Int) kv lv (.slice A3 m c3) ks0 l0 (ints ss) ∧ ks0.length = j ∧ Hid (T = glue2 ks0 l0 (rParts f len (ss.drop j) a2))) (fun _ ii _ => m - (intOf ii).toNat)
        case atStart => exact ⟨0, a1, _, [], [], by omega, rfl, by simp, hRow, rfl, HGL.out⟩
        case round =>
          clear hRow
          obtain ⟨j, a2, kv, ks0, l0, hj, rfl, hll, hrw, hkl, hglue⟩ := hrel
          obtain ⟨kA, kn, kc, rfl⟩ := hrw.kown.shape
          by_cases hjm : j < m
          · have hjs : j < ss.length := by rw [HSN.out]; exact hjm
            obtain ⟨b1, o1, rfl, hbB1, hcell1⟩ := hrw.sown.sli.atI (l := ints ss) (by rw [ints_len]; exact hjs)
            have hdr : ss.drop j = ss[j] :: ss.drop (j + 1) := List.drop_eq_getElem_cons hjs
            rw [hdr, HRK.out] at hglue
            have hst := sum_take ss j hjs
            have hsle := sum_take_le ss (j + 1)
            have hs46 : ss[j] ≤ 4096 := by have := HSUM.out; omega
            have hgk := HGK.out wr a2 hrw.rd
            have hklt : (gGet f len a2 0 ((5 : Nat) : Int)).1 < 2 ^ 5 := gGet_lt
            rw [show ((5 : Nat) : Int) = 5 from rfl] at hklt
            have hgp := fun (w1 : World) (a3 : Nat) (k : Int) (h : OcB w1 B g l a3 0) (hB : B ≤ w1.heap.size) => HGP.out w1 a3 ss[j] k h (by omega) hB
            generalize gGet f len a2 0 5 = q at *
            obtain ⟨x5, a3, e3⟩ := q
            simp only at hglue hgk hklt
            have hx5 : IntKind.i64.wrap ((x5 : Nat) : Int) = (x5 : Nat) := IntWalk.i64_in _ (by omega)
            have hl46 : l0.length ≤ 4096 := by have := sum_take_le ss j; have := HSUM.out; omega
            have HGP1 := Lib.hid hgp; have HGK1 := Lib.hid hgk
            have hltb := (Array.getElem?_eq_some_iff.1 hrw.box).1
            have hltr := (Array.getElem?_eq_some_iff.1 hrw.res).1
            clear hgp hgk hdr hcell1
            go_wp2_with fail
            refine HGK1.out.mono ?_
            rintro e w3 ⟨rfl, hR3, hg3⟩
            have hE3 := hR3.cells
            by_cases he3 : e3 = 0
            · subst he3
              rw [if_pos rfl] at hglue
              have hrw3 := hrw.read hR3 hg3
              have hkpl := rPart_len (f := f) (len := len) (at_ := a3) (s := ss[j]) (k := ((x5 : Nat) : Int))
              have hgp := fun (w1 : World) => HGP1.out w1 a3 x5
              generalize rPart f len a3 ((x5 : Nat) : Int) ss[j] = KP at *
              obtain ⟨part, a4, e4⟩ := KP
              simp only at hglue hkpl
              have hll2 : (l0 ++ part).length ≤ (ss.take (j + 1)).sum := by rw [List.length_append, hst]; omega
              have HLL := Lib.hid hll2; have HGP2 := Lib.hid hgp
              have hssj : (ints ss).length = ss.length := ints_len ss
              obtain ⟨s, hsj⟩ : ∃ s, ss[j] = s := ⟨_, rfl⟩
              have hcells : ∀ w9 v9 (x9 : RowingQ w w9 B g w1.heap.size w.heap.size l a3 (x : Int) v9 u11 (.slice (some ⟨b1, o1, none⟩) m c3) (ks0 ++ [(x5 : Int)]) l0 (ints ss)), w9.cell? ⟨b1, o1 + j, none⟩ = some (.int .i64 (s : Nat)) := fun w9 v9 x9 => by
                obtain ⟨b, o, hA, _, hc⟩ := x9.sown.sli.atI (l := ints ss) (by rw [ints_len]; exact hjs)
                injection hA with hA; injection hA with h1 h2
                subst h1; subst h2
                rw [ints_at hjs, hsj] at hc; exact hc
              rw [hsj] at HGP2 hs46 hkpl
              have HCELLS := Lib.hid hcells
              clear hgp hll2 hcells HGP1 hst hsle hsj
              obtain ⟨d0, d1, hf⟩ := blk2 hrw3.box
              have hcl : (ci ks0).length + 1 ≤ 8796093022208 := by rw [ci_len]; omega
              have hsz3 : w.heap.size ≤ w3.heap.size := hrw3.gr.size
              go_wp2_with (at_builtin; refine wpl_push hrw3.kown hsz3 hcl Try.underlying22 info_int rfl (by decide) rfl rfl rfl rfl rfl (h := ?_); intro v5 w5 ho5 hm5; refine cut_here ?_)
              unfold CutHere
              obtain ⟨A7, n7, c7, rfl⟩ := ho5.shape
              obtain ⟨d0', d1', hf'⟩ := blk2 (hrw3.boxK hm5)
              have hrw5 := hrw3.pushK ho5 hm5
              have hc5 := HCELLS.out _ _ hrw5
              have hsz5 : w.heap.size ≤ (w5.setCell ⟨w1.heap.size, 1, none⟩ (.slice A7 n7 c7)).heap.size := hrw5.gr.size
              have HGP3 := Lib.hid (HGP2.out _ hrw5.rd (Nat.le_trans hBw hsz5))
              clear d0 d1 hf hE3
              go_wp2_with fail
              refine HGP3.out.mono ?_
              rintro e w6 ⟨v6, a5, e5, rfl, hpo, hR6, hg6, hok⟩
              simp only at hpo hok ⊢
              by_cases he4 : e4 = 0
              · subst he4
                rw [if_pos rfl, glue2_glue2] at hglue
                obtain ⟨rfl, rfl⟩ := hok rfl
                have hrw6 := hrw5.read hR6 hg6
                obtain ⟨A5, c5, rfl, _, _⟩ := hpo.formI
                have hsz6 : w.heap.size ≤ w6.heap.size := hrw6.gr.size
                have hcl2 : (ci l0).length + (ci part).length ≤ 8796093022208 := by rw [ci_len, ci_len]; omega
                go_wp2_with (at_builtin; refine wpl_pushN hrw6.lown hpo.sli hsz6 hcl2 Try.underlying22 info_int rfl (by decide) (ci_one _) rfl rfl rfl rfl (h := ?_); intro v7 w7 ho7 hm7; refine cut_here ?_)
                unfold CutHere
                have hrw7 := hrw6.pushL ho7 hm7
                go_wp2
                exact ⟨⟨j + 1, a5, _, ks0 ++ [(x5 : Int)], l0 ++ part, by omega, by simp, HLL.out, hrw7, by simp [hkl], hglue⟩, by simp [intOf]; omega⟩
              · rw [if_neg he4] at hglue
                have hT : T = ([], [], 0, e4) := by rw [hglue.out]; unfold glue2; rw [if_neg he4]
                have hRR := HRR.out
                rw [hT] at hRR
                simp only [if_neg he4] at hRR
                subst hRR
                have hres6 := (hg6.block w.heap.size (Array.getElem?_eq_some_iff.1 hrw5.res).1 (by simp; omega)).trans hrw5.res
                obtain ⟨c0, c1, hf1⟩ := blk2 hres6
                have hne : (e4 != 0) = true := by simpa using he4
                go_wp2
                try simp only [Exit.inBlock, Exit.then]
                refine bodyPost_ret (results_row3 rfl _ _ w.heap.size 24 #[.int .i64 0, .slice none 0 0] (0, 0) _ rfl (two_blk hres6) Try.underlying24 rfl (by kernel_rfl)) rfl ?_
                have hg4 := two_grown w6 w.heap.size (.int .i64 0) (.slice none 0 0)
                exact ⟨_, _, a5, e5, rfl, Own.nil _ _ _, Own.nil _ _ _, hR6.only hg4 (by omega) hBw, grown_fresh (grown_trans hrw5.gr hg6) hg4 (Nat.le_refl _), fun h => absurd h he4⟩
            · rw [if_neg he3] at hglue
              have hT : T = ([], [], 0, e3) := by rw [hglue.out]; unfold glue2; rw [if_neg he3]
              have hRR := HRR.out
              rw [hT] at hRR
              simp only [if_neg he3] at hRR
              subst hRR
              have hres3 := (hg3.block w.heap.size hltr (by simp; omega)).trans hrw.res
              obtain ⟨c0, c1, hf1⟩ := blk2 hres3
              have hne : (e3 != 0) = true := by simpa using he3
              go_wp2
              go_region
              go_wp2
              try simp only [Exit.inBlock, Exit.then]
              refine bodyPost_ret (results_row3 rfl _ _ w.heap.size 24 #[.int .i64 0, .slice none 0 0] (0, 0) _ rfl (show _ = some _ from two_blk hres3) Try.underlying24 rfl (by kernel_rfl)) rfl ?_
              have hg4 := two_grown w3 w.heap.size (.int .i64 0) (.slice none 0 0)
              exact ⟨_, _, a3, e3, rfl, Own.nil _ _ _, Own.nil _ _ _, (hR3.only hg4 (by omega) hBw).drewN 1, grown_drew (grown_fresh (grown_trans hrw.gr hg3) hg4 (Nat.le_refl _)), fun h => absurd h he3⟩
          · have hjm2 : j = m := by omega
            have hdr : ss.drop j = [] := List.drop_eq_nil_of_le (by rw [HSN.out]; omega)
            rw [hdr] at hglue
            have hT : T = (ks0, l0, a2, 0) := by rw [hglue.out]; simp [rParts, glue2]
            have hRR := HRR.out
            rw [hT] at hRR
            simp only [if_true] at hRR
            subst hRR
            obtain ⟨d0, d1, hf⟩ := blk2 hrw.box
            obtain ⟨c0, c1, hf1⟩ := blk2 hrw.res
            go_wp2
            try simp only [Exit.inBlock, Exit.then]
            refine bodyPost_ret (results_row3 rfl _ _ w.heap.size 24 #[.int .i64 (x : Int), .slice kA kn kc] (0, 0) _ rfl (two_blk hrw.res) Try.underlying24 rfl (by kernel_rfl)) rfl ?_
            have hg4 := two_grown wr w.heap.size (.int .i64 (x : Int)) (.slice kA kn kc)
            exact ⟨_, _, a2, 0, rfl, hrw.kown.far hrw.res (by decide) hg4, hrw.lown.far hrw.res (by decide) hg4, hrw.rd.only hg4 (by omega) hBw, grown_fresh hrw.gr hg4 (Nat.le_refl _), fun _ => ⟨rfl, rfl⟩⟩
      · rw [if_neg hp]
        have hno := sizesI_no (o := (x : Int)) (n := n) (warm := warm) hp
        have HI := Lib.hid hi; have H4 := Lib.hid h4; have HSZ := Lib.hid hsz; have HNO := Lib.hid hno
        clear hi h4 hsz hno hp hrow hR
        go_enter Try.func33, Try.ntmps33
        go_wp2_with fail
        rw [HWA.out]
        refine (HI.out _).mono ?_
        rintro e w1 ⟨rfl, rfl⟩
        go_wp2_with fail
        refine H4.out.mono ?_
        rintro e w1 ⟨rfl, hR1, hg1⟩
        have hres1 := (hg1.block w.heap.size (Array.getElem?_eq_some_iff.1 hbx0).1 (by simp; omega)).trans hbx0
        have hg01 := grown_trans (grown_of_below hb0 (some g)) hg1
        have hbA := below_box w1 (.int .i64 (x : Int)) (.slice none 0 0) 24
        have hboxA := box_new w1 (.int .i64 (x : Int)) (.slice none 0 0) 24
        obtain ⟨d0, d1, _⟩ := blk2 hboxA
        have hR2 := hR1.below hbA
        have hg02 := grown_trans hg01 (grown_of_below hbA (some g))
        have hres2 := (hbA.block w.heap.size (Array.getElem?_eq_some_iff.1 hres1).1).trans hres1
        have hE2 := hR2.cells
        clear q0 q1 hq
        go_wp2_with fail
        obtain ⟨wB, hwB⟩ : ∃ wB, w1.alloc (.cells #[.int .i64 (x : Int), .slice none 0 0] 24) = wB := ⟨_, rfl⟩
        rw [hwB] at hbA hboxA d0 d1 hR2 hg02 hres2 hE2 ⊢
        clear hwB
        refine (HSZ.out _).mono ?_
        rintro e w2 ⟨v2, rfl, hso, hb2⟩
        rw [HNO.out] at hso
        obtain ⟨A3, c3, rfl, _, _⟩ := hso.formI
        have hres3 := (hb2.block w.heap.size (Array.getElem?_eq_some_iff.1 hres2).1).trans hres2
        have hR3 := hR2.below hb2
        have hg03 := grown_trans hg02 (grown_of_below hb2 (some g))
        obtain ⟨c0, c1, hf1⟩ := blk2 hres3
        go_wp2
        try simp only [Exit.inBlock, Exit.then]
        refine bodyPost_ret (results_row3 rfl _ _ w.heap.size 24 #[.int .i64 0, .slice none 0 0] (0, 0) _ rfl (two_blk hres3) Try.underlying24 rfl (by kernel_rfl)) rfl ?_
        have hg4 := two_grown w2 w.heap.size (.int .i64 0) (.slice none 0 0)
        exact ⟨_, _, a1, 0, rfl, Own.nil _ _ _, Own.nil _ _ _, hR3.only hg4 (by omega) hBw, grown_fresh hg03 hg4 (Nat.le_refl _), fun h => by simp at h⟩
    · rw [if_neg he]
      have hne : (e1 != 0) = true := by simpa using he
      have HI := Lib.hid hi; have H4 := Lib.hid h4
      clear hi h4 hrow hR
      go_enter Try.func33, Try.ntmps33
      go_wp2_with fail
      rw [HWA.out]
      refine (HI.out _).mono ?_
      rintro e w1 ⟨rfl, rfl⟩
      go_wp2_with fail
      refine H4.out.mono ?_
      rintro e w1 ⟨rfl, hR1, hg1⟩
      have hres1 := (hg1.block w.heap.size (Array.getElem?_eq_some_iff.1 hbx0).1 (by simp; omega)).trans hbx0
      have hg01 := grown_trans (grown_of_below hb0 (some g)) hg1
      have hbA := below_box w1 (.int .i64 (x : Int)) (.slice none 0 0) 24
      have hR2 := hR1.below hbA
      have hg02 := grown_trans hg01 (grown_of_below hbA (some g))
      have hres2 := (hbA.block w.heap.size (Array.getElem?_eq_some_iff.1 hres1).1).trans hres1
      have hE2 := hR2.cells
      obtain ⟨c0, c1, hf1⟩ := blk2 hres2
      clear q0 q1 hq
      go_wp2
      go_region
      go_wp2
      try simp only [Exit.inBlock, Exit.then]
      refine bodyPost_ret (results_row3 rfl _ _ w.heap.size 24 #[.int .i64 0, .slice none 0 0] (0, 0) _ rfl (show _ = some _ from two_blk hres2) Try.underlying24 rfl (by kernel_rfl)) rfl ?_
      have hg4 := two_grown (w1.alloc (.cells #[.int .i64 (x : Int), .slice none 0 0] 24)) w.heap.size (.int .i64 0) (.slice none 0 0)
      exact ⟨_, _, a1, e1, rfl, Own.nil _ _ _, Own.nil _ _ _, (hR2.only hg4 (by omega) hBw).drewN 1, grown_drew (grown_fresh hg02 hg4 (Nat.le_refl _)), fun h => absurd h he⟩
  · rw [getP_norow hrow]
    rw [Bool.eq_false_iff.2 hrow] at hi
    have HI := Lib.hid hi; have HR0 := Lib.hid hR0
    clear hi hR hR0 hrow
    go_enter Try.func33, Try.ntmps33
    go_wp2_with fail
    rw [HWA.out]
    refine (HI.out _).mono ?_
    rintro e w1 ⟨rfl, rfl⟩
    go_wp2
    try simp only [Exit.inBlock, Exit.then]
    refine bodyPost_ret (results_row3 rfl _ _ w.heap.size 24 #[.int .i64 0, .slice none 0 0] (0, 0) _ rfl (two_blk hbx0) Try.underlying24 rfl (by kernel_rfl)) rfl ?_
    have hg4 := two_grown wA w.heap.size (.int .i64 0) (.slice none 0 0)
    exact ⟨_, _, at_, er, rfl, Own.nil _ _ _, Own.nil _ _ _, HR0.out.only hg4 (by omega) hBw, grown_fresh (grown_of_below hb0 (some g)) hg4 (Nat.le_refl _), fun h => by simp at h⟩
end Go.Proofs.Ytohbpjehphmedaa
