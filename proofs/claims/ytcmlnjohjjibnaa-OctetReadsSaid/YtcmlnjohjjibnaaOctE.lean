/- octet: whatever is read of any bytes, in whatever order. -/
import Derived.Test.YtcmlnjohjjibnaaOctQb
import Derived.Deep.CutBlock
namespace Go.Proofs.Ytcmlnjohjjibnaa
open Go.RowKit
set_option maxRecDepth 100000
set_option maxHeartbeats 800000

/-- A slice of acts, three cells each. -/
def Acts (w : World) (B : Nat) (v : Value) (acts : List (Int × Nat × Int)) : Prop :=
  ∃ A c, v = .slice A acts.length c ∧ acts.length ≤ c ∧ c ≤ maxLen ∧ (acts.length = 0 ∨ ∃ b o, A = some ⟨b, o, none⟩ ∧ b < B ∧ ∀ j x, acts[j]? = some x →
    w.cell? ⟨b, o + j * 3, none⟩ = some (.int .i64 x.1) ∧ w.cell? ⟨b, o + j * 3 + 1, none⟩ = some (.int .u64 (x.2.1 : Nat)) ∧ w.cell? ⟨b, o + j * 3 + 2, none⟩ = some (.int .i64 x.2.2))
theorem Acts.below {w w' : World} {B : Nat} {v : Value} {acts : List (Int × Nat × Int)} (h : Acts w B v acts) (hb : Below B w w') : Acts w' B v acts := by
  obtain ⟨A, c, e, h1, h2, h3⟩ := h
  refine ⟨A, c, e, h1, h2, ?_⟩
  rcases h3 with h0 | ⟨b, o, hA, hlt, hc⟩
  · exact .inl h0
  · refine .inr ⟨b, o, hA, hlt, fun j x hx => ?_⟩
    obtain ⟨c0, c1, c2⟩ := hc j x hx
    exact ⟨(hb.cell (p := ⟨b, _, none⟩) hlt).trans c0, (hb.cell (p := ⟨b, _, none⟩) hlt).trans c1, (hb.cell (p := ⟨b, _, none⟩) hlt).trans c2⟩

theorem rdLump_byte (l : List Nat) (at_ : Nat) (er : Int) (n : Nat) (h : ∀ x ∈ l, x < 256) : ∀ x ∈ (rdLump l at_ er n).1, x < 256 := by
  unfold rdLump
  simp only
  split
  · exact rdTake_byte _ _ _ _ h
  · simp
theorem reads_walk (vb : Value) (l : List Nat) (va : Value) (acts : List (Int × Nat × Int)) (w : World) (hl : Sli w w.heap.size vb (cu8 l)) (hx : ∀ x ∈ l, x < 256) (ha : Acts w w.heap.size va acts)
    (hr : ∀ x ∈ acts, x.2.1 < 18446744073709551616 ∧ -9223372036854775808 ≤ x.2.2 ∧ x.2.2 ≤ 9223372036854775807) :
    Calls Try.prog 3 #[vb, va] w fun e w' => e = .returned (.bool true) ∧ Below w.heap.size w w' := by
  obtain ⟨A1, c1, rfl, hlc1, hcm1⟩ := hl.form8
  obtain ⟨A2, c2, rfl, hlc2, hcm2, _⟩ := id ha
  by_cases h400 : 400 < l.length
  · go_enter Try.func3, Try.ntmps3
    go_wp2_with (go_at_call 10; refine (known_any _).mono ?_; rintro e w1 ⟨rfl, hb1⟩)
    go_ret
    exact ⟨rfl, hb1⟩
  by_cases h60 : 60 < acts.length
  · go_enter Try.func3, Try.ntmps3
    go_wp2_with (go_at_call 10; refine (known_any _).mono ?_; rintro e w1 ⟨rfl, hb1⟩)
    go_ret
    exact ⟨rfl, hb1⟩
  go_enter Try.func3, Try.ntmps3
  go_wp2_with (first
    | (go_at_call 10; refine (known_any _).mono ?_; rintro e w1 ⟨rfl, hb1⟩)
    | (go_at_call 11; refine (new_any _ l w1 ((hl.below hb1).more hb1.size) hx (by omega)).mono ?_; rintro e w2 ⟨g1, rfl, hR2, hg1, hb2⟩)
    | (go_at_call 12; refine (qnew_any _ l w2 w.heap.size ((hl.below hb1).below (hb2.mono hb1.size)) (Nat.le_trans hb1.size hb2.size) hx (by omega)).mono ?_; rintro e w3 ⟨g2, rfl, hO3, hg2, hb3⟩))
  have hR3 := hR2.below hb3
  have hgg : g1 < g2 := Nat.lt_of_lt_of_le hR2.lt hg2
  have hgw : w.heap.size ≤ g1 := Nat.le_trans hb1.size hg1
  have hb03 := bthen (bthen hb1 hb2 hb1.size) hb3 (Nat.le_trans hb1.size hb2.size)
  go_loopw [7] (fun i wr => ∃ (k at_ : Nat) (er : Int), k ≤ acts.length ∧ i = .int .i64 k ∧ RdO wr g1 l at_ er ∧ OcO wr w.heap.size g2 l at_ er ∧ Below w.heap.size w wr) (fun i _ => acts.length - (intOf i).toNat)
  case atStart => exact ⟨0, 0, 0, Nat.zero_le _, rfl, hR3, hO3, hb03⟩
  case round =>
    obtain ⟨k, at_, er, hk, rfl, hR, hO, hbw⟩ := hrel
    by_cases hlt : k < acts.length
    · obtain ⟨x, hxk⟩ : ∃ x, acts[k]? = some x := ⟨_, List.getElem?_eq_getElem hlt⟩
      obtain ⟨A, c, e, _, _, h3⟩ := ha.below hbw
      injection e with e1 _ e3
      subst e1; subst e3
      rcases h3 with h0 | ⟨b, o, rfl, hbl, hc⟩
      · omega
      obtain ⟨d0, d1, d2⟩ := hc k x hxk
      obtain ⟨wh, mo, nn⟩ := x
      obtain ⟨hmo, hn1, hn2⟩ := hr _ (List.mem_of_getElem? hxk)
      simp only at d0 d1 d2 hmo hn1 hn2
      clear hc hxk
      have E1 : (wr.alloc (.cells #[.int .i64 wh, .int .u64 (mo : Nat), .int .i64 nn] 31)).cell? ⟨wr.heap.size, 1, none⟩ = some (.int .u64 (mo : Nat)) := by rw [cell_of_row _ _ _ _ _ _ (heap_alloc_new wr _)]; rfl
      have E2 : (wr.alloc (.cells #[.int .i64 wh, .int .u64 (mo : Nat), .int .i64 nn] 31)).cell? ⟨wr.heap.size, 2, none⟩ = some (.int .i64 nn) := by rw [cell_of_row _ _ _ _ _ _ (heap_alloc_new wr _)]; rfl
      have hb0 : Below wr.heap.size wr (wr.alloc (.cells #[.int .i64 wh, .int .u64 (mo : Nat), .int .i64 nn] 31)) := (Below.refl _ _).alloc (Nat.le_refl _) _
      have hRx := hR.below hb0
      have hOx := hO.below hb0
      have hbx := bthen hbw hb0 hbw.size
      have hg1s := hR.lt
      have hg2s := hO.lt
      go_upto_block 2 with (fail)
      generalize hwx : wr.alloc (.cells #[.int .i64 wh, .int .u64 (mo : Nat), .int .i64 nn] 31) = wx at E1 E2 hb0 hRx hOx hbx ⊢
      have hc0 : wx.cell? ⟨wr.heap.size, 0, none⟩ = some (.int .i64 wh) := by rw [← hwx, cell_of_row _ _ _ _ _ _ (heap_alloc_new wr _)]; rfl
      clear hwx d0 d1 d2 hR hO
      go_cut [9] (fun v wy => v = .bool true ∧ ∃ (at2 : Nat) (er2 : Int), RdO wy g1 l at2 er2 ∧ OcO wy w.heap.size g2 l at2 er2 ∧ Below w.heap.size w wy)
      case first =>
        by_cases h0 : wh = 0
        · subst h0
          go_wp2
          go_region_held3 (fun w' => w'.cell? ⟨wr.heap.size, 1, none⟩ = some (.int .u64 (mo : Nat)) ∧ w'.cell? ⟨wr.heap.size, 2, none⟩ = some (.int .i64 nn))
            (first | go_keep | exact ⟨a1, a2⟩ | exact ⟨b1, b2⟩)
            (first
              | (go_at_call 13; refine (num_any (show RdO (wx.drew) _ _ _ _ from hRx) mo).mono ?_; rintro e wa ⟨rfl, hRa, hga⟩; have a1 := (World.grownBy.cell hga (a := ⟨wr.heap.size, 1, none⟩) E1 (by simp; omega)); have a2 := (World.grownBy.cell hga (a := ⟨wr.heap.size, 2, none⟩) E2 (by simp; omega)); have hOa := (show OcO (wx.drew) _ _ _ _ _ from hOx).only hga (by omega) hgw)
              | (go_at_call 14; refine (qnum_any hOa mo).mono ?_; rintro e wb ⟨rfl, hOb, hgb⟩; have b1 := (World.grownBy.cell hgb (a := ⟨wr.heap.size, 1, none⟩) a1 (by simp; omega)); have b2 := (World.grownBy.cell hgb (a := ⟨wr.heap.size, 2, none⟩) a2 (by simp; omega))))
          all_goals
            obtain ⟨cs2, hblk⟩ := hOa.blk
            have hRb := hRa.only hblk (by decide) hgb (by omega)
            have hbb : Below w.heap.size w wb := bonly (bonly hbx.drew hga (Nat.le_refl _) hgw) hgb (Nat.le_refl _) (by omega)
            go_wp2_with fail
            go_meet
            case rel => exact ⟨by simp, _, _, hRb, hOb, hbb⟩
        have q0 : (wh == 0) = false := by simpa using h0
        clear h0
        by_cases h1 : wh = 1
        · subst h1
          go_wp2
          go_region_held3 (fun w' => w'.cell? ⟨wr.heap.size, 1, none⟩ = some (.int .u64 (mo : Nat)) ∧ w'.cell? ⟨wr.heap.size, 2, none⟩ = some (.int .i64 nn))
            (first | go_keep | exact ⟨a1, a2⟩ | exact ⟨b1, b2⟩)
            (first
              | (go_at_call 15; refine (rbig_any (show RdO (wx.drew) _ _ _ _ from hRx) nn).mono ?_; rintro e wa ⟨rfl, hRa, hga⟩; have a1 := (World.grownBy.cell hga (a := ⟨wr.heap.size, 1, none⟩) E1 (by simp; omega)); have a2 := (World.grownBy.cell hga (a := ⟨wr.heap.size, 2, none⟩) E2 (by simp; omega)); have hOa := (show OcO (wx.drew) _ _ _ _ _ from hOx).only hga (by omega) hgw)
              | (go_at_call 16; refine (qbig_any hOa nn hn1 hn2).mono ?_; rintro e wb ⟨rfl, hOb, hgb⟩; have b1 := (World.grownBy.cell hgb (a := ⟨wr.heap.size, 1, none⟩) a1 (by simp; omega)); have b2 := (World.grownBy.cell hgb (a := ⟨wr.heap.size, 2, none⟩) a2 (by simp; omega))))
          all_goals
            obtain ⟨cs2, hblk⟩ := hOa.blk
            have hRb := hRa.only hblk (by decide) hgb (by omega)
            have hbb : Below w.heap.size w wb := bonly (bonly hbx.drew hga (Nat.le_refl _) hgw) hgb (Nat.le_refl _) (by omega)
            go_wp2_with fail
            go_meet
            case rel => exact ⟨by simp, _, _, hRb, hOb, hbb⟩
        have q1 : (wh == 1) = false := by simpa using h1
        clear h1
        by_cases h2 : wh = 2
        · subst h2
          go_wp2
          go_region_held3 (fun w' => w'.cell? ⟨wr.heap.size, 1, none⟩ = some (.int .u64 (mo : Nat)) ∧ w'.cell? ⟨wr.heap.size, 2, none⟩ = some (.int .i64 nn))
            (first | go_keep | exact ⟨a1, a2⟩ | exact ⟨b1, b2⟩)
            (first
              | (go_at_call 17; refine (rsmall_any (show RdO (wx.drew) _ _ _ _ from hRx) nn).mono ?_; rintro e wa ⟨rfl, hRa, hga⟩; have a1 := (World.grownBy.cell hga (a := ⟨wr.heap.size, 1, none⟩) E1 (by simp; omega)); have a2 := (World.grownBy.cell hga (a := ⟨wr.heap.size, 2, none⟩) E2 (by simp; omega)); have hOa := (show OcO (wx.drew) _ _ _ _ _ from hOx).only hga (by omega) hgw)
              | (go_at_call 18; refine (qsmall_any hOa nn hn1 hn2).mono ?_; rintro e wb ⟨rfl, hOb, hgb⟩; have b1 := (World.grownBy.cell hgb (a := ⟨wr.heap.size, 1, none⟩) a1 (by simp; omega)); have b2 := (World.grownBy.cell hgb (a := ⟨wr.heap.size, 2, none⟩) a2 (by simp; omega))))
          all_goals
            obtain ⟨cs2, hblk⟩ := hOa.blk
            have hRb := hRa.only hblk (by decide) hgb (by omega)
            have hbb : Below w.heap.size w wb := bonly (bonly hbx.drew hga (Nat.le_refl _) hgw) hgb (Nat.le_refl _) (by omega)
            go_wp2_with fail
            go_meet
            case rel => exact ⟨by simp, _, _, hRb, hOb, hbb⟩
        have q2 : (wh == 2) = false := by simpa using h2
        clear h2
        by_cases h3 : wh = 3
        · subst h3
          go_wp2
          go_region_held3 (fun w' => w'.cell? ⟨wr.heap.size, 1, none⟩ = some (.int .u64 (mo : Nat)) ∧ w'.cell? ⟨wr.heap.size, 2, none⟩ = some (.int .i64 nn))
            (first | go_keep | exact ⟨a1, a2⟩ | exact ⟨b1, b2⟩)
            (first
              | (go_at_call 20; refine (take_any (show RdO (wx.drew) _ _ _ _ from hRx) nn hn2).mono ?_; rintro e wa ⟨v1, rfl, hoa, hRa, hga⟩; have a1 := (World.grownBy.cell hga (a := ⟨wr.heap.size, 1, none⟩) E1 (by simp; omega)); have a2 := (World.grownBy.cell hga (a := ⟨wr.heap.size, 2, none⟩) E2 (by simp; omega)); have hOa := (show OcO (wx.drew) _ _ _ _ _ from hOx).only hga (by omega) hgw)
              | (go_at_call 21; refine (qtake_any hOa nn hn2).mono ?_; rintro e wb ⟨v2, rfl, hob, hOb, hgb⟩; have b1 := (World.grownBy.cell hgb (a := ⟨wr.heap.size, 1, none⟩) a1 (by simp; omega)); have b2 := (World.grownBy.cell hgb (a := ⟨wr.heap.size, 2, none⟩) a2 (by simp; omega)))
              | (go_at_call 19; refine (same_any _ _ _ _ wb _ _ (Own.keptAt hoa hgb (Nat.lt_of_lt_of_le hg2s hb0.size)).sli hob.sli (rdTake_byte _ _ _ _ hx) (rdTake_byte _ _ _ _ hx)).mono ?_; rw [decide_eq_true rfl]; rintro e wz ⟨rfl, rfl⟩))
          all_goals
            obtain ⟨cs2, hblk⟩ := hOa.blk
            have hRb := hRa.only hblk (by decide) hgb (by omega)
            have hbb : Below w.heap.size w wb := bonly (bonly hbx.drew hga (Nat.le_refl _) hgw) hgb (Nat.le_refl _) (by omega)
            go_wp2_with fail
            go_meet
            case rel => exact ⟨by simp, _, _, hRb, hOb, hbb⟩
        have q3 : (wh == 3) = false := by simpa using h3
        clear h3
        · go_wp2
          go_region_held3 (fun w' => w'.cell? ⟨wr.heap.size, 1, none⟩ = some (.int .u64 (mo : Nat)) ∧ w'.cell? ⟨wr.heap.size, 2, none⟩ = some (.int .i64 nn))
            (first | go_keep | exact ⟨a1, a2⟩ | exact ⟨b1, b2⟩)
            (first
              | (go_at_call 22; refine (rlump_any (show RdO (wx.drew) _ _ _ _ from hRx) nn hn2 hn1).mono ?_; rintro e wa ⟨v1, rfl, hoa, hRa, hga⟩; have a1 := (World.grownBy.cell hga (a := ⟨wr.heap.size, 1, none⟩) E1 (by simp; omega)); have a2 := (World.grownBy.cell hga (a := ⟨wr.heap.size, 2, none⟩) E2 (by simp; omega)); have hOa := (show OcO (wx.drew) _ _ _ _ _ from hOx).only hga (by omega) hgw)
              | (go_at_call 23; refine (qlump_any hOa nn hn2 hn1).mono ?_; rintro e wb ⟨v2, rfl, hob, hOb, hgb⟩; have b1 := (World.grownBy.cell hgb (a := ⟨wr.heap.size, 1, none⟩) a1 (by simp; omega)); have b2 := (World.grownBy.cell hgb (a := ⟨wr.heap.size, 2, none⟩) a2 (by simp; omega)))
              | (go_at_call 19; refine (same_any _ _ _ _ wb _ _ (Own.keptAt hoa hgb (Nat.lt_of_lt_of_le hg2s hb0.size)).sli hob.sli (rdLump_byte _ _ _ _ hx) (rdLump_byte _ _ _ _ hx)).mono ?_; rw [decide_eq_true rfl]; rintro e wz ⟨rfl, rfl⟩))
          all_goals
            obtain ⟨cs2, hblk⟩ := hOa.blk
            have hRb := hRa.only hblk (by decide) hgb (by omega)
            have hbb : Below w.heap.size w wb := bonly (bonly hbx.drew hga (Nat.le_refl _) hgw) hgb (Nat.le_refl _) (by omega)
            go_wp2_with fail
            go_meet
            case rel => exact ⟨by simp, _, _, hRb, hOb, hbb⟩
      case rest =>
        obtain ⟨rfl, at2, er2, hRy, hOy, hby⟩ := hcut
        obtain ⟨vq, hq, _⟩ := id hOy
        obtain ⟨f0, f1, f2, hff⟩ := blk3 hq
        clear hq
        have C1 := Lib.hid (fun (n : Nat) => at_any (hRy.drewN n))
        have C2 := Lib.hid (fun (n : Nat) => left_any (hRy.drewN n))
        have C3 := Lib.hid (fun (n : Nat) => err_any (hRy.drewN n))
        have C4 := Lib.hid (fun (n : Nat) => qleft_any (hOy.drewN n))
        go_wp2_with fail
        go_quiet ((first
          | (go_at_call 24; exact quietLN (C1.out _))
          | (go_at_call 25; exact quietNN (C2.out _))
          | (go_at_call 27; exact quietLN (C3.out _))
          | (go_at_call 26; exact quietNN (C4.out _))))
        go_wp2
        exact ⟨⟨k + 1, _, _, by omega, by simp, hRy.drewN _, hOy.drewN _, below_drewN hby _⟩, by simp [intOf]; omega⟩
    · go_wp2
      go_ret
      exact ⟨rfl, hbw⟩

theorem acts_of_recs {w : World} {B : Nat} {v : Value} {rows : List (List Int)} (h : Recs w B v [.i64, .u64, .i64] rows) :
    ∃ acts, Acts w B v acts ∧ ∀ x ∈ acts, x.2.1 < 18446744073709551616 ∧ -9223372036854775808 ≤ x.2.2 ∧ x.2.2 ≤ 9223372036854775807 := by
  obtain ⟨A, c, rfl, h1, h2, hlen, hwf, h3⟩ := h
  have get : ∀ (i : Nat) (r : List Int), rows[i]? = some r → ∃ a b d : Int, r = [a, b, d] := by
    intro i r hr
    have := hlen r (List.mem_of_getElem? hr)
    match r, this with
    | [a, b, d], _ => exact ⟨a, b, d, rfl⟩
  let f : List Int → Int × Nat × Int := fun r => (r.getD 0 0, (r.getD 1 0).toNat, r.getD 2 0)
  refine ⟨rows.map f, ⟨A, c, by simp, by simpa using h1, h2, ?_⟩, ?_⟩
  · rcases h3 with h0 | ⟨b, o, hA, hb, hc⟩
    · left; simpa using h0
    · refine .inr ⟨b, o, hA, hb, fun j x hx => ?_⟩
      rw [List.getElem?_map] at hx
      obtain ⟨r, hr, rfl⟩ := Option.map_eq_some_iff.1 hx
      obtain ⟨a, m, d, rfl⟩ := get j r hr
      have wm := wf_u64_rng (hwf j _ 1 .u64 m hr rfl rfl)
      have e0 := hc j _ 0 .i64 a hr rfl rfl
      have e1 := hc j _ 1 .u64 m hr rfl rfl
      have e2 := hc j _ 2 .i64 d hr rfl rfl
      refine ⟨e0, ?_, e2⟩
      show w.cell? ⟨b, o + j * 3 + 1, none⟩ = some (.int .u64 ((m.toNat : Nat) : Int))
      rw [Int.toNat_of_nonneg wm.1]
      exact e1
  · intro x hx
    obtain ⟨r, hr, rfl⟩ := List.mem_map.1 hx
    obtain ⟨i, hi, e⟩ := List.mem_iff_getElem.1 hr
    have hri : rows[i]? = some r := by rw [List.getElem?_eq_getElem hi, e]
    obtain ⟨a, m, d, rfl⟩ := get i r hri
    have wm := wf_u64_rng (hwf i _ 1 .u64 m hri rfl rfl)
    have wd := wf_i64_rng (hwf i _ 2 .i64 d hri rfl rfl)
    show m.toNat < _ ∧ _ ≤ d ∧ d ≤ _
    omega
theorem octetReads_walk (vb : Value) (l : List Nat) (va : Value) (rows : List (List Int)) (w : World) (hl : Sli w w.heap.size vb (cu8 l)) (hx : ∀ x ∈ l, x < 256) (ha : Recs w w.heap.size va [.i64, .u64, .i64] rows) :
    Calls Try.prog 3 #[vb, va] w fun e w' => e = .returned (.bool true) ∧ Below w.heap.size w w' := by
  obtain ⟨acts, h1, h2⟩ := acts_of_recs ha
  exact reads_walk vb l va acts w hl hx h1 h2

end Go.Proofs.Ytcmlnjohjjibnaa
