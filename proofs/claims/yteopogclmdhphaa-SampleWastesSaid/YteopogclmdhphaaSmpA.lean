/- sample: the laws SampleTells, SampleShifts. -/
import Derived.Test.YteopogclmdhphaaSmpZ
import Derived.Test.YteopogclmdhphaaLawKit
namespace Go.Proofs.Yteopogclmdhphaa
open Go.RowKit
set_option maxRecDepth 100000
set_option maxHeartbeats 800000

theorem ints_of_wf (zs : List Int) (h : ∀ n ∈ zs, (Lit.int .i64 n).wf = true) : ∃ l : List Int, zs.map (Value.int .i64) = ci l ∧ i64s l := ⟨zs, rfl, fun x hx => wf_i64_rng (h x hx)⟩

theorem sampleTells_walk (x b : Int) (v : Value) (l : List Int) (w : World) (hS : Sli w w.heap.size v (ci l)) :
    Calls Try.prog 3 #[.int .i64 x, .int .i64 b, v] w fun e w' => e = .returned (.bool true) ∧ Below w.heap.size w w' := by
  obtain ⟨A, c, rfl, hlc, hcm⟩ := hS.formI
  have hcm' : l.length ≤ 9223372036854775807 := by unfold maxLen at hcm; omega
  by_cases hlen : l.length ≤ 300
  · obtain ⟨k, hk⟩ := IsW.ex l
    have h32 := hk.1
    have HK := Lib.hid hk
    have h1 := fun w => low_any b w
    have h2 := fun w => rlow_any b w
    have h3 := fun w => high_any b w
    have h4 := fun w => rhigh_any b w
    have h5 := fun w => fits_any x b w
    have h6 := fun w => rfits_any x b w
    generalize lowI b = lo at *
    generalize highI b = hi at *
    generalize fitsB x b = f at *
    have H1 := Lib.hid h1; have H2 := Lib.hid h2; have H3 := Lib.hid h3; have H4 := Lib.hid h4; have H5 := Lib.hid h5; have H6 := Lib.hid h6
    clear h1 h2 h3 h4 h5 h6 hk
    have hl40 : l.length ≤ 1099511627776 := by omega
    go_enter Try.func3, Try.ntmps3
    go_wp2_with (first
      | (go_at_call 9; refine (known_any w).mono ?_; rintro e w1 ⟨rfl, hb1⟩; have hS1 := hS.below hb1)
      | (go_at_call 10; refine (H1.out _).mono ?_; rintro e w2 ⟨rfl, rfl⟩)
      | (go_at_call 11; refine (H2.out _).mono ?_; rintro e w2 ⟨rfl, rfl⟩)
      | (go_at_call 12; refine (H3.out _).mono ?_; rintro e w2 ⟨rfl, rfl⟩)
      | (go_at_call 13; refine (H4.out _).mono ?_; rintro e w2 ⟨rfl, rfl⟩)
      | (go_at_call 14; refine (H5.out _).mono ?_; rintro e w2 ⟨rfl, rfl⟩)
      | (go_at_call 15; refine (H6.out _).mono ?_; rintro e w2 ⟨rfl, rfl⟩)
      | (go_at_call 16; refine (width_is hS1 hl40 HK.out).mono ?_; rintro e w2 ⟨rfl, rfl⟩)
      | (go_at_call 17; refine (rwidth_is hS1 hl40 HK.out).mono ?_; rintro e w2 ⟨rfl, rfl⟩))
    go_ret
    exact ⟨rfl, hb1⟩
  · go_enter Try.func3, Try.ntmps3
    go_wp2_with (go_at_call 9; refine (known_any w).mono ?_; rintro e w1 ⟨rfl, hb1⟩)
    go_ret
    exact ⟨rfl, hb1⟩

theorem sameInts_self (va vb : Value) (a : List Int) (w : World) (B1 B2 : Nat) (ha : Sli w B1 va (ci a)) (hb : Sli w B2 vb (ci a)) (hna : a.length ≤ 1099511627776) :
    Calls Try.prog 24 #[va, vb] w fun e w' => e = .returned (.bool true) ∧ ∃ q, w' = w.drewN q :=
  (sameInts_any va vb a a w B1 B2 ha hb hna hna).mono fun _ _ ⟨he, h⟩ => ⟨by rw [he, decide_eq_true rfl], h⟩
def RowP (d : List Int) (de : Int) (w : World) (e : Ending) (w' : World) : Prop := ∃ v', e = .returned (.tuple #[v', .int .i64 de]) ∧ Own w' w.heap.size 3 v' (ci d) ∧ Below w.heap.size w w'
theorem downR_len (l : List Int) (n : Int) : (downR l n).1.length ≤ l.length := by
  unfold downR; split
  · split <;> simp
  · simp
theorem upR_len (l : List Int) (n : Int) : (upR l n).1.length ≤ l.length := by
  unfold upR; split
  · split <;> simp
  · simp
theorem sampleShifts_walk (v : Value) (l : List Int) (n : Int) (w : World) (hS : Sli w w.heap.size v (ci l)) :
    Calls Try.prog 4 #[v, .int .i64 n] w fun e w' => e = .returned (.bool true) ∧ Below w.heap.size w w' := by
  obtain ⟨A, c, rfl, hlc, hcm⟩ := hS.formI
  have hcm' : l.length ≤ 9223372036854775807 := by unfold maxLen at hcm; omega
  by_cases hlen : l.length ≤ 300
  · obtain ⟨k, hk⟩ := IsZ.ex (orAll l)
    have h30 := hk.1
    have HK := Lib.hid hk
    have hl40 : l.length ≤ 1099511627776 := by omega
    have hd := fun w (hS : Sli w w.heap.size (.slice A l.length c) (ci l)) => down_any _ l n w _ hS (Nat.le_refl _) hl40
    have hrd := fun w (hS : Sli w w.heap.size (.slice A l.length c) (ci l)) => rdown_any _ l n w _ hS (Nat.le_refl _) hl40
    have hu := fun w (hS : Sli w w.heap.size (.slice A l.length c) (ci l)) => up_any _ l n w _ hS (Nat.le_refl _) hl40
    have hru := fun w (hS : Sli w w.heap.size (.slice A l.length c) (ci l)) => rup_any _ l n w _ hS (Nat.le_refl _) hl40
    have hdl := downR_len l n
    have hul := upR_len l n
    generalize downR l n = d at *
    generalize upR l n = u at *
    obtain ⟨d, de⟩ := d
    obtain ⟨u, ue⟩ := u
    have hd' : ∀ w, Sli w w.heap.size (.slice A l.length c) (ci l) → Calls Try.prog 18 #[.slice A l.length c, .int .i64 n] w (RowP d de w) := hd
    have hrd' : ∀ w, Sli w w.heap.size (.slice A l.length c) (ci l) → Calls Try.prog 19 #[.slice A l.length c, .int .i64 n] w (RowP d de w) := hrd
    have hu' : ∀ w, Sli w w.heap.size (.slice A l.length c) (ci l) → Calls Try.prog 20 #[.slice A l.length c, .int .i64 n] w (RowP u ue w) := hu
    have hru' : ∀ w, Sli w w.heap.size (.slice A l.length c) (ci l) → Calls Try.prog 21 #[.slice A l.length c, .int .i64 n] w (RowP u ue w) := hru
    have HD := Lib.hid hd'; have HRD := Lib.hid hrd'; have HU := Lib.hid hu'; have HRU := Lib.hid hru'
    have hd40 : d.length ≤ 1099511627776 := by simp only at hdl; omega
    have hu40 : u.length ≤ 1099511627776 := by simp only at hul; omega
    clear hd hrd hu hru hd' hrd' hu' hru' hk hdl hul
    go_enter Try.func4, Try.ntmps4
    go_wp2_with (first
      | (go_at_call 9; refine (known_any w).mono ?_; rintro e w1 ⟨rfl, hb1⟩; have hS1 := (hS.below hb1).more hb1.size)
      | (go_at_call 18; refine (HD.out w1 hS1).mono ?_; rintro e w2 ⟨v2, rfl, ho2, hb2⟩; obtain ⟨A2, c2, rfl, _, _⟩ := ho2.formI; have hS2 := (hS1.below hb2).more hb2.size)
      | (go_at_call 19; refine (HRD.out w2 hS2).mono ?_; rintro e w3 ⟨v3, rfl, ho3, hb3⟩; obtain ⟨A3, c3, rfl, _, _⟩ := ho3.formI; have hS3 := (hS2.below hb3).more hb3.size)
      | (go_at_call 20; refine (HU.out w3 hS3).mono ?_; rintro e w4 ⟨v4, rfl, ho4, hb4⟩; obtain ⟨A4, c4, rfl, _, _⟩ := ho4.formI; have hS4 := (hS3.below hb4).more hb4.size)
      | (go_at_call 21; refine (HRU.out w4 hS4).mono ?_; rintro e w5 ⟨v5, rfl, ho5, hb5⟩; obtain ⟨A5, c5, rfl, _, _⟩ := ho5.formI; have hS5 := (hS4.below hb5).more hb5.size; refine cut_here ?_))
    unfold CutHere
    have s2 := (ho2.sli.below (hb3.mono (Nat.le_refl _)))
    have s2' := ((s2.more hb3.size).below hb4).more hb4.size
    have s2'' := s2'.below hb5
    have s3 := ((ho3.sli.below hb4).more hb4.size).below hb5
    have s4 := ho4.sli.below hb5
    have hbb : Below w.heap.size w w5 := bthen (bthen (bthen (bthen hb1 hb2 hb1.size) hb3 (Nat.le_trans hb1.size hb2.size)) hb4 (Nat.le_trans (Nat.le_trans hb1.size hb2.size) hb3.size)) hb5 (Nat.le_trans (Nat.le_trans (Nat.le_trans hb1.size hb2.size) hb3.size) hb4.size)
    have Q1 := Lib.hid (sameInts_self _ _ d w5 _ _ s2'' s3 hd40)
    have Q2 := Lib.hid (fun q => sameInts_self _ _ u (w5.drewN q) _ _ s4 ho5.sli hu40)
    clear s2 s2' s2'' s3 s4
    go_wp2_with (first
      | (go_at_call 22; refine (wasted_is hS5 hl40 HK.out).mono ?_; rintro e w6 ⟨rfl, rfl⟩)
      | (go_at_call 23; refine (rwasted_is hS5 hl40 HK.out).mono ?_; rintro e w6 ⟨rfl, rfl⟩)
      | (go_at_call_of 24 (Value.slice A2 d.length c2); refine Q1.out.mono ?_; rintro e w6 ⟨rfl, q, rfl⟩)
      | (go_at_call_of 24 (Value.slice A4 u.length c4); refine (Q2.out q).mono ?_; rintro e w7 ⟨rfl, q2, rfl⟩))
    go_ret
    exact ⟨rfl, below_drewN hbb _⟩
  · go_enter Try.func4, Try.ntmps4
    go_wp2_with (go_at_call 9; refine (known_any w).mono ?_; rintro e w1 ⟨rfl, hb1⟩)
    go_ret
    exact ⟨rfl, hb1⟩
end Go.Proofs.Yteopogclmdhphaa
