/- block: the law BlockTells. -/
import Derived.Test.YtfbhiaoodompdaaBloO
import Derived.Test.YtfbhiaoodompdaaSam
import Derived.Deep.RegionHeld3
namespace Go.Proofs.Ytfbhiaoodompdaa
open Go.RowKit
set_option maxRecDepth 100000
set_option maxHeartbeats 8000000

/-- A law's format and block in their boxes. -/
structure Te (w0 w : World) (r c b bo : Int) (v : Value) (rs : List (List Int)) : Prop where
  be : Below w0.heap.size w0 w
  rw : Rws w w0.heap.size v rs
  fb : w.heap[w0.heap.size]? = some (.cells #[.int .i64 r, .int .i64 c, .int .i64 b] 23 (0, 0))
  bb : w.heap[w0.heap.size + 1]? = some (.cells #[.int .i64 bo, v] 26 (0, 0))
theorem Te.start {w : World} {r c b bo : Int} {v : Value} {rs : List (List Int)} (h : Rws w w.heap.size v rs) : Te w ((w.alloc (.cells #[.int .i64 r, .int .i64 c, .int .i64 b] 23)).alloc (.cells #[.int .i64 bo, v] 26)) r c b bo v rs := by
  have h1 := below_new w #[.int .i64 r, .int .i64 c, .int .i64 b] 23
  have h2 := h1.trans ((below_new (w.alloc (.cells #[.int .i64 r, .int .i64 c, .int .i64 b] 23)) #[.int .i64 bo, v] 26).mono h1.size)
  refine ⟨h2, h.below h2, boxed_on (below_new _ _ _), ?_⟩
  have := boxed (w.alloc (.cells #[.int .i64 r, .int .i64 c, .int .i64 b] 23)) #[.int .i64 bo, v] 26
  simpa using this
theorem Te.on {w0 w w' : World} {r c b bo : Int} {v : Value} {rs : List (List Int)} (h : Te w0 w r c b bo v rs) (hb : Below w.heap.size w w') : Te w0 w' r c b bo v rs :=
  ⟨bthen h.be hb h.be.size, h.rw.below (hb.mono h.be.size), (hb.block _ (Array.getElem?_eq_some_iff.1 h.fb).1).trans h.fb, (hb.block _ (Array.getElem?_eq_some_iff.1 h.bb).1).trans h.bb⟩
theorem Te.drew {w0 w : World} {r c b bo : Int} {v : Value} {rs : List (List Int)} (h : Te w0 w r c b bo v rs) : Te w0 w.drew r c b bo v rs := ⟨h.be.drew, h.rw.keep fun _ _ => rfl, h.fb, h.bb⟩
theorem Te.drewN {w0 w : World} {r c b bo : Int} {v : Value} {rs : List (List Int)} (h : Te w0 w r c b bo v rs) (n : Nat) : Te w0 (w.drewN n) r c b bo v rs := ⟨below_drewN h.be n, h.rw.drewN n, h.fb, h.bb⟩
theorem Te.cs {w0 w : World} {r c b bo : Int} {v : Value} {rs : List (List Int)} (h : Te w0 w r c b bo v rs) : w.cell? ⟨w0.heap.size, 0, none⟩ = some (.int .i64 r) ∧ w.cell? ⟨w0.heap.size, 1, none⟩ = some (.int .i64 c) ∧ w.cell? ⟨w0.heap.size, 2, none⟩ = some (.int .i64 b) ∧ w.cell? ⟨w0.heap.size + 1, 0, none⟩ = some (.int .i64 bo) ∧ w.cell? ⟨w0.heap.size + 1, 1, none⟩ = some v :=
  ⟨(three_in h.fb).1, (three_in h.fb).2.1, (three_in h.fb).2.2.1, (two_in h.bb).1, (two_in h.bb).2.1⟩

theorem blockTells_walk (f0 f1 f2 bo : Int) (bv : Value) (b : List (List Int)) (w : World) (hR : Rws w w.heap.size bv b) :
    Calls Try.prog 3 #[.agg #[.int .i64 f0, .int .i64 f1, .int .i64 f2], .agg #[.int .i64 bo, bv]] w fun e w' => e = .returned (.bool true) ∧ Below w.heap.size w w' := by
  obtain ⟨A, c, rfl, hlc, hcm⟩ := hR.form
  have hX0 := Te.start (r := f0) (c := f1) (b := f2) (bo := bo) hR
  obtain ⟨wA, hwA⟩ : ∃ wA, (w.alloc (.cells #[.int .i64 f0, .int .i64 f1, .int .i64 f2] 23)).alloc (.cells #[.int .i64 bo, .slice A b.length c] 26) = wA := ⟨_, rfl⟩
  rw [hwA] at hX0
  have HWA := Lib.hid hwA
  have hsm := fun (w1 : World) (h : Te w w1 f0 f1 f2 bo (.slice A b.length c) b) => smallBk_any bo _ b 200 w1 _ h.rw h.be.size
  by_cases hs : smallB b 200 = true
  · rw [hs] at hsm
    have h1 := fun w1 => right_any f0 f1 f2 w1
    have h2 := fun w1 => qright_any f0 f1 f2 w1
    have h3 := fun (w1 : World) (h : Te w w1 f0 f1 f2 bo (.slice A b.length c) b) => mayBk_any bo _ b w1 _ h.rw h.be.size
    have h4 := fun (w1 : World) (h : Te w w1 f0 f1 f2 bo (.slice A b.length c) b) => qmayBk_any bo _ b w1 _ h.rw h.be.size
    have h5 := fun (w1 : World) (h : Te w w1 f0 f1 f2 bo (.slice A b.length c) b) => lenBk_any bo _ b w1 _ h.rw h.be.size
    have h6 := fun (w1 : World) (h : Te w w1 f0 f1 f2 bo (.slice A b.length c) b) => qlenBk_any bo _ b w1 _ h.rw h.be.size
    have h7 := fun (w1 : World) (h : Te w w1 f0 f1 f2 bo (.slice A b.length c) b) => weaveBk_any bo _ b w1 _ h.rw h.be.size
    have h8 := fun (w1 : World) (h : Te w w1 f0 f1 f2 bo (.slice A b.length c) b) => qweaveBk_any bo _ b w1 _ h.rw h.be.size
    have h9 := fun (w1 : World) (h : Te w w1 f0 f1 f2 bo (.slice A b.length c) b) => packBk_any bo _ b w1 _ h.rw h.be.size
    have h10 := fun (w1 : World) (h : Te w w1 f0 f1 f2 bo (.slice A b.length c) b) => qpackBk_any bo _ b w1 _ h.rw h.be.size
    have h11 := fun (w1 : World) (h : Te w w1 f0 f1 f2 bo (.slice A b.length c) b) => printBk_any bo _ b w1 _ h.rw h.be.size
    have h12 := fun (w1 : World) (h : Te w w1 f0 f1 f2 bo (.slice A b.length c) b) => qprintBk_any bo _ b w1 _ h.rw h.be.size
    have hwl := weaveR_len bo b
    have hby := packBl_byte bo b
    generalize rightB f0 f1 f2 = rb at *
    generalize mayBk bo b = mb at *
    generalize lenB b = lb at *
    generalize weaveR bo b = wb at *
    generalize packBl bo b = pb at *
    generalize printB bo b = qb at *
    have H1 := Lib.hid h1; have H2 := Lib.hid h2; have H3 := Lib.hid h3; have H4 := Lib.hid h4; have H5 := Lib.hid h5; have H6 := Lib.hid h6; have H7 := Lib.hid h7; have H8 := Lib.hid h8; have H9 := Lib.hid h9; have H10 := Lib.hid h10; have H11 := Lib.hid h11; have H12 := Lib.hid h12; have HSM := Lib.hid hsm
    clear h1 h2 h3 h4 h5 h6 h7 h8 h9 h10 h11 h12 hsm hR hs hwA
    obtain ⟨pl, pe⟩ := pb
    simp only at hby
    have hee : (pe == pe) = true := by simp
    have hll : (((lb : Nat) : Int) == ((lb : Nat) : Int)) = true := by simp
    have hqq : (((qb : Nat) : Int) == ((qb : Nat) : Int)) = true := by simp
    cases mb <;> cases rb
    all_goals
      go_enter Try.func3, Try.ntmps3
      go_wp2_with fail
      rw [HWA.out]
      refine (knownBk_any wA).mono ?_
      rintro e w1 ⟨rfl, hb1⟩
      have hX1 := hX0.on hb1
      obtain ⟨x0, x1, x2, x3, x4⟩ := hX1.cs
      go_wp2_with fail
      refine (HSM.out w1 hX1).mono ?_
      rintro e w2 ⟨rfl, hb2⟩
      have hX2 := hX1.on hb2
      clear x0 x1 x2 x3 x4
      obtain ⟨x0, x1, x2, x3, x4⟩ := hX2.cs
      go_wp2_with fail
      refine (H9.out w2 hX2).mono ?_
      rintro e w3 ⟨v3, rfl, ho3, hb3⟩
      have hX3 := hX2.on hb3
      clear x0 x1 x2 x3 x4
      obtain ⟨x0, x1, x2, x3, x4⟩ := hX3.cs
      go_wp2_with fail
      refine (H10.out w3 hX3).mono ?_
      rintro e w4 ⟨v4, rfl, ho4, hb4⟩
      have hX4 := hX3.on hb4
      have ho34 := (ho3.kept hb4).sli
      have ho44 := ho4.sli
      clear x0 x1 x2 x3 x4
      obtain ⟨x0, x1, x2, x3, x4⟩ := hX4.cs
      have hX4d := hX4.drew
      dsimp only at ho34 ho44
      go_wp2
      go_region_held3 (fun w' => w'.cell? ⟨w.heap.size, 0, none⟩ = some (.int .i64 f0) ∧ w'.cell? ⟨w.heap.size, 1, none⟩ = some (.int .i64 f1) ∧ w'.cell? ⟨w.heap.size, 2, none⟩ = some (.int .i64 f2) ∧ w'.cell? ⟨w.heap.size + 1, 0, none⟩ = some (.int .i64 bo) ∧ w'.cell? ⟨w.heap.size + 1, 1, none⟩ = some (.slice A b.length c))
        (first | go_keep | exact hX5.cs | exact hX6.cs | exact hX7.cs | exact hX8.cs | exact hX9.cs | exact hX10.cs | exact hX11.cs | exact hX12.cs | exact hX13.cs | exact hX14.cs | exact hX15.cs)
        (first
          | (go_at_call 16; refine (H1.out _).mono ?_; rintro e w5 ⟨rfl, hb5⟩; have hX5 := hX4d.on hb5; have z5 : Below w4.heap.size w4 w5 := (Below.refl w4.heap.size w4).drew.trans hb5)
          | (go_at_call 17; refine (H2.out _).mono ?_; rintro e w6 ⟨rfl, hb6⟩; have hX6 := hX5.on hb6; have z6 := bthen z5 hb6 z5.size)
          | (go_at_call 18; refine (H3.out _ hX6).mono ?_; rintro e w7 ⟨rfl, hb7⟩; have hX7 := hX6.on hb7; have z7 := bthen z6 hb7 z6.size)
          | (go_at_call 19; refine (H4.out _ hX7).mono ?_; rintro e w8 ⟨rfl, hb8⟩; have hX8 := hX7.on hb8; have z8 := bthen z7 hb8 z7.size)
          | (go_at_call 20; refine (H5.out _ hX8).mono ?_; rintro e w9 ⟨rfl, hb9⟩; have hX9 := hX8.on hb9; have z9 := bthen z8 hb9 z8.size)
          | (go_at_call 21; refine (H6.out _ hX9).mono ?_; rintro e w10 ⟨rfl, hb10⟩; have hX10 := hX9.on hb10; have z10 := bthen z9 hb10 z9.size)
          | (go_at_call 23; refine (H7.out _ hX10).mono ?_; rintro e w11 ⟨v11, rfl, ho11, hb11⟩; have hX11 := hX10.on hb11; have z11 := bthen z10 hb11 z10.size)
          | (go_at_call 24; refine (H8.out _ hX11).mono ?_; rintro e w12 ⟨v12, rfl, ho12, hb12⟩; have hX12 := hX11.on hb12; have z12 := bthen z11 hb12 z11.size)
          | (go_at_call 22; refine (sameInts_self _ _ wb w12 _ _ (ho11.kept hb12).sli ho12.sli hwl).mono ?_; rintro e w13 ⟨rfl, q13, rfl⟩; have hX13 := hX12.drewN q13; have z13 := below_drewN z12 q13)
          | (go_at_call 25; refine (same_self _ _ pl _ _ _ (ho34.below z13) (ho44.below z13) hby).mono ?_; rintro e w14 ⟨rfl, rfl⟩)
          | (go_at_call 26; refine (H11.out _ hX13).mono ?_; rintro e w14 ⟨rfl, hb14⟩; have hX14 := hX13.on hb14)
          | (go_at_call 27; refine (H12.out _ hX14).mono ?_; rintro e w15 ⟨rfl, hb15⟩; have hX15 := hX14.on hb15))
      all_goals
        go_wp2
        go_ret
        exact ⟨rfl, hX15.be⟩
  · rw [Bool.eq_false_iff.2 hs] at hsm
    have HSM := Lib.hid hsm
    clear hsm hR hs hwA
    go_enter Try.func3, Try.ntmps3
    go_wp2_with fail
    rw [HWA.out]
    refine (knownBk_any wA).mono ?_
    rintro e w1 ⟨rfl, hb1⟩
    have hX1 := hX0.on hb1
    obtain ⟨x0, x1, x2, x3, x4⟩ := hX1.cs
    go_wp2_with fail
    refine (HSM.out w1 hX1).mono ?_
    rintro e w2 ⟨rfl, hb2⟩
    have hX2 := hX1.on hb2
    go_wp2
    go_ret
    exact ⟨rfl, hX2.be⟩
end Go.Proofs.Ytfbhiaoodompdaa
