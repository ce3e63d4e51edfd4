/- parts: the law PartsGets. -/
import Derived.Test.YtohbpjehphmedaaParZ
import Derived.Test.YtohbpjehphmedaaParK
import Derived.Deep.RegionHeld3
namespace Go.Proofs.Ytohbpjehphmedaa
open Go.RowKit
set_option maxRecDepth 100000
set_option maxHeartbeats 3200000

theorem rParts_size {f : Nat → Bool} {len : Nat} : ∀ ss at_, (rParts f len ss at_).1.length ≤ ss.length ∧ (rParts f len ss at_).2.1.length ≤ ss.sum
  | [], _ => by simp [rParts]
  | s :: ss, at_ => by
    rw [rParts_k]
    by_cases h : (kPart f len at_ s).2.2.2 = 0
    · rw [if_pos h]
      obtain ⟨i1, i2⟩ := rParts_size (f := f) (len := len) ss (kPart f len at_ s).2.2.1
      have hk := kPart_len (f := f) (len := len) (at_ := at_) (s := s)
      unfold glue2
      split
      · simp only [List.length_append, List.length_cons, List.length_nil, List.sum_cons]; omega
      · simp
    · rw [if_neg h]; simp
theorem getP_size {f : Nat → Bool} {len at_ : Nat} {er n warm : Int} : (getP f len at_ er n warm).2.1.length ≤ 4096 ∧ (getP f len at_ er n warm).2.2.1.length ≤ 4096 := by
  by_cases hrow : rowB n warm = true
  · rw [getP_row hrow]
    unfold rowR
    split
    · split
      · rename_i hp
        have h1 := sizesN_len hp
        have h2 := two_256 hp
        have h3 := sizesN_sum hp
        have h4 := rowB_iff.1 hrow
        have h5 := rParts_size (f := f) (len := len) (sizesN ((gGet f len at_ er 4).1 : Nat) n warm) (gGet f len at_ er 4).2.1
        split
        · simp only; omega
        · simp
      · simp
    · simp
  · rw [getP_norow hrow]; simp
theorem sameParts_self3 (o : Int) (v1 v2 : Value) (k : List Int) (w : World) (B1 B2 : Nat) (h1 : Sli w B1 v1 (ci k)) (h2 : Sli w B2 v2 (ci k)) (hB1 : B1 ≤ w.heap.size) (hB2 : B2 ≤ w.heap.size) (hn : k.length ≤ 1099511627776) :
    Calls Try.prog 34 #[.agg #[.int .i64 o, v1], .agg #[.int .i64 o, v2]] w fun e w' => e = .returned (.bool true) ∧ Below w.heap.size w w' :=
  (sameParts_any o o v1 v2 k k w B1 B2 h1 h2 hB1 hB2 hn hn).mono fun _ _ ⟨he, h⟩ => ⟨by rw [he, decide_eq_true rfl, decide_eq_true rfl, Bool.and_self], h⟩
set_option maxHeartbeats 20000000 in
theorem partsGets_walk (vb : Value) (l : List Nat) (n warm skip : Int) (w : World) (hA : Sli w w.heap.size vb (cu8 l)) (hx : ∀ x ∈ l, x < 256) :
    Calls Try.prog 5 #[vb, .int .i64 n, .int .i64 warm, .int .i64 skip] w fun e w' => e = .returned (.bool true) ∧ Below w.heap.size w w' := by
  obtain ⟨A1, c1, rfl, hlc1, hcm1⟩ := hA.form8
  by_cases h300 : 300 < l.length
  · go_enter Try.func5, Try.ntmps5
    go_wp2_with (go_at_call 12; refine (knownP_any w).mono ?_; rintro e w1 ⟨rfl, hb1⟩)
    go_ret
    exact ⟨rfl, hb1⟩
  by_cases hn : 500 < n ∧ n ≤ 4096
  · obtain ⟨hn1, hn2⟩ := hn
    go_enter Try.func5, Try.ntmps5
    go_wp2_with (go_at_call 12; refine (knownP_any w).mono ?_; rintro e w1 ⟨rfl, hb1⟩)
    go_ret
    exact ⟨rfl, hb1⟩
  have hl40 : l.length ≤ 1099511627776 := by omega
  obtain ⟨⟨x, a1, e1⟩, hGd⟩ : ∃ r, gGet (bitAt l) (8 * l.length) 0 0 skip = r := ⟨_, rfl⟩
  have hsz := getP_size (f := bitAt l) (len := 8 * l.length) (at_ := a1) (er := e1) (n := n) (warm := warm)
  obtain ⟨⟨o, ks, r, a2, e2⟩, hRd⟩ : ∃ R, getP (bitAt l) (8 * l.length) a1 e1 n warm = R := ⟨_, rfl⟩
  rw [hRd] at hsz
  simp only at hsz
  obtain ⟨hks, hr46⟩ := hsz
  have hk1 := fun w1 g (h : RdB w1 g l 0 0) => bget_any h skip
  have hk2 := fun w1 g (h : OcB w1 w.heap.size g l 0 0) => oget_any h skip
  have hk3 := fun w1 g (h : RdB w1 g l a1 e1) => getP_any h n warm
  have hk4 := fun w1 g (h : OcB w1 w.heap.size g l a1 e1) (hB : w.heap.size ≤ w1.heap.size) => qgetP_any h n warm hB
  rw [hGd] at hk1 hk2
  rw [hRd] at hk3 hk4
  simp only at hk1 hk2
  have HK1 := Lib.hid hk1; have HK2 := Lib.hid hk2; have HK3 := Lib.hid hk3; have HK4 := Lib.hid hk4; have HA := Lib.hid hA; have HX := Lib.hid hx
  have hks40 : ks.length ≤ 1099511627776 := by omega
  have hr40 : r.length ≤ 1099511627776 := by omega
  have HKS := Lib.hid hks40; have HRL := Lib.hid hr40
  clear hk1 hk2 hk3 hk4 hGd hRd hA hx hks hr46 hks40 hr40
  have hnor : (n ≤ 500) ∨ (500 < n ∧ 4096 < n) := by omega
  rcases hnor with hn1 | ⟨hn1, hn2⟩
  all_goals
    clear hn
    go_enter Try.func5, Try.ntmps5
    go_wp2_with fail
    refine (knownP_any w).mono ?_
    rintro e w1 ⟨rfl, hb1⟩
    go_wp2_with fail
    refine (bnew_any _ l w1 ((HA.out.below hb1).more hb1.size) HX.out (by omega)).mono ?_
    rintro e w2 ⟨g1, rfl, hR2, hg1, hb2⟩
    have hb02 := bthen hb1 hb2 hb1.size
    go_wp2_with fail
    refine (onew_any _ l w2 w.heap.size (HA.out.below hb02) hb02.size HX.out (by omega)).mono ?_
    rintro e w3 ⟨g2, rfl, hO3, hg2, hb3⟩
    have hR3 := hR2.below hb3
    have hgg : g1 < g2 := Nat.lt_of_lt_of_le hR2.lt hg2
    have hgw : w.heap.size ≤ g1 := Nat.le_trans hb1.size hg1
    have hb03 := bthen hb02 hb3 hb02.size
    go_wp2_with fail
    refine (HK1.out w3 g1 hR3).mono ?_
    rintro e w4 ⟨rfl, hR4, hg4⟩
    have hO4 := hO3.only hg4 (by omega) hgw
    have hb04 := bonly hb03 hg4 (Nat.le_refl _) hgw
    go_wp2_with fail
    refine (HK2.out w4 g2 hO4).mono ?_
    rintro e w5 ⟨rfl, hO5, hg5⟩
    obtain ⟨cs4, hblk4⟩ := hO4.blk
    have hR5 := hR4.only hblk4 (by decide) hg5 (by omega)
    have hb05 := bonly hb04 hg5 (Nat.le_refl _) (by omega)
    go_wp2_with fail
    refine (HK3.out w5 g1 hR5).mono ?_
    rintro e w6 ⟨kv, vl, a6, e6, rfl, hko, hlo, hR6, hg6, hok6⟩
    simp only at hko hlo hok6 ⊢
    obtain ⟨kA, kn, kc, rfl⟩ := hko.shape
    obtain ⟨lA, ln, lc, rfl⟩ := hlo.shape
    have hO6 := hO5.only hg6 (by omega) hgw
    have hb06 := bonly hb05 hg6 (Nat.le_refl _) hgw
    have hg2lt : g2 < w6.heap.size := hO6.lt
    have hbx := below_box w6 (.int .i64 o) (.slice kA kn kc) 24
    have hp7 := box_new w6 (.int .i64 o) (.slice kA kn kc) 24
    have hko7 := hko.kept hbx
    have hlo7 := hlo.kept hbx
    have hR7 := hR6.below hbx
    have hO7 := hO6.below hbx
    have hb07 := bthen hb06 hbx hb06.size
    go_wp2_with fail
    obtain ⟨w7, hw7⟩ : ∃ w7, w6.alloc (.cells #[.int .i64 o, .slice kA kn kc] 24) = w7 := ⟨_, rfl⟩
    rw [hw7] at hp7 hko7 hlo7 hR7 hO7 hb07 ⊢
    clear hw7 hbx
    refine (HK4.out w7 g2 hO7 hb07.size).mono ?_
    rintro e w8 ⟨kv2, vl2, a8, e8, rfl, hqo, hmo, hO8, hg8, hok8⟩
    simp only at hqo hmo hok8 ⊢
    obtain ⟨qA, qn, qc, rfl⟩ := hqo.shape
    obtain ⟨mA, mn, mc, rfl⟩ := hmo.shape
    obtain ⟨cs7, hblk7⟩ := hO7.blk
    have hR8 := hR7.only hblk7 (by decide) hg8 (by omega)
    have hb08 := bonly hb07 hg8 (Nat.le_refl _) (by omega)
    have hko8 := hko7.far hblk7 (by decide) hg8
    have hlo8 := hlo7.far hblk7 (by decide) hg8
    have hp8 := (hg8.block w6.heap.size (Array.getElem?_eq_some_iff.1 hp7).1 (by simp; omega)).trans hp7
    have hbx := below_box w8 (.int .i64 o) (.slice qA qn qc) 24
    have hq9 := box_new w8 (.int .i64 o) (.slice qA qn qc) 24
    have hp9 := (hbx.block w6.heap.size (Array.getElem?_eq_some_iff.1 hp8).1).trans hp8
    have hko9 := hko8.kept hbx
    have hlo9 := hlo8.kept hbx
    have hqo9 := hqo.kept hbx
    have hmo9 := hmo.kept hbx
    have hR9 := hR8.below hbx
    have hO9 := hO8.below hbx
    have hb09 := bthen hb08 hbx hb08.size
    go_upto_region 12 with (fail)
    obtain ⟨w9, hw9⟩ : ∃ w9, w8.alloc (.cells #[.int .i64 o, .slice qA qn qc] 24) = w9 := ⟨_, rfl⟩
    rw [hw9] at hp9 hq9 hko9 hlo9 hqo9 hmo9 hR9 hO9 hb09 ⊢
    clear hw9 hbx hp8 hp7 hko7 hlo7 hko8 hlo8 hqo hmo
    obtain ⟨x0, x1, hxf⟩ := blk2 hp9
    obtain ⟨y0, y1, hyf⟩ := blk2 hq9
    obtain ⟨rv9, hblk9, _⟩ := id hO9
    obtain ⟨c0, d1, d2, hf9⟩ := blk3 hblk9
    have hltp := (Array.getElem?_eq_some_iff.1 hp9).1
    have hltq := (Array.getElem?_eq_some_iff.1 hq9).1
    have hltg := hO9.lt
    have HSP := Lib.hid (sameParts_self3 o _ _ ks w9.drew w9.heap.size w9.heap.size (show Sli w9.drew w9.heap.size (.slice kA kn kc) (ci ks) from hko9.sli) (show Sli w9.drew w9.heap.size (.slice qA qn qc) (ci ks) from hqo9.sli) (Nat.le_refl _) (Nat.le_refl _) HKS.out)
    clear hblk9 c0 d2 hf9 hxf hyf
    by_cases he : e2 = 0
    · subst he
      obtain ⟨rfl, rfl⟩ := hok6 (by trivial)
      obtain ⟨rfl, rfl⟩ := hok8 (by trivial)
      go_region_held3 (fun w' => w'.cell? ⟨w6.heap.size, 0, none⟩ = some (.int .i64 o) ∧ w'.cell? ⟨w6.heap.size, 1, none⟩ = some (.slice kA kn kc) ∧ w'.cell? ⟨w8.heap.size, 0, none⟩ = some (.int .i64 o) ∧ w'.cell? ⟨w8.heap.size, 1, none⟩ = some (.slice qA qn qc) ∧ w'.cell? ⟨g2, 1, none⟩ = some (.int .i64 a8))
        (first | go_keep | exact ⟨(hb10.cell (p := ⟨w6.heap.size, 0, none⟩) hltp).trans x0, (hb10.cell (p := ⟨w6.heap.size, 1, none⟩) hltp).trans x1, (hb10.cell (p := ⟨w8.heap.size, 0, none⟩) hltq).trans y0, (hb10.cell (p := ⟨w8.heap.size, 1, none⟩) hltq).trans y1, (hb10.cell (p := ⟨g2, 1, none⟩) hltg).trans d1⟩)
        (first
          | (go_at_call 34; refine HSP.out.mono ?_; rintro e w10 ⟨rfl, hb10⟩; have hb010 := bthen hb09.drew hb10 hb09.size; have hR10 := (show RdB w9.drew g1 l a8 0 from hR9).below hb10; have HSI := Lib.hid (sameInts_self _ _ r w10 _ _ ((show Own w9.drew _ _ _ (ci r) from hlo9).kept hb10).sli ((show Own w9.drew _ _ _ (ci r) from hmo9).kept hb10).sli HRL.out))
          | (go_at_call 14; refine HSI.out.mono ?_; rintro e w11 ⟨rfl, q11, rfl⟩)
          | (go_at_call 35; refine (bat_any (hR10.drewN q11)).mono ?_; rintro e w12 ⟨rfl, rfl⟩))
      all_goals
        go_wp2
        go_ret
        exact ⟨rfl, below_drewN hb010 q11⟩
    · have hne : (e2 != 0) = true := by simpa using he
      (first | (go_region_with (first
           | (go_at_call 34; refine HSP.out.mono ?_; rintro e w10 ⟨rfl, hb10⟩; have hb010 := bthen hb09.drew hb10 hb09.size; have HSI := Lib.hid (sameInts_self _ _ r w10 _ _ ((show Own w9.drew _ _ _ (ci r) from hlo9).kept hb10).sli ((show Own w9.drew _ _ _ (ci r) from hmo9).kept hb10).sli HRL.out))
           | (go_at_call 14; refine HSI.out.mono ?_; rintro e w11 ⟨rfl, q11, rfl⟩))) | fail)
      all_goals
        go_wp2
        go_ret
        exact ⟨rfl, below_drewN hb010 q11⟩
end Go.Proofs.Ytohbpjehphmedaa
