/- bits: BitsReads. -/
import Derived.Test.YtnlclbocbbcafaaBitM
import Derived.Test.YtnlclbocbbcafaaBitU
import Derived.Test.YtnlclbocbbcafaaActs
import Derived.Deep.CutBlock
import Derived.Deep.RegionWith
import Derived.Deep.RegionHeld3
namespace Go.Proofs.Ytnlclbocbbcafaa
open Go.RowKit
set_option maxRecDepth 100000
set_option maxHeartbeats 800000

theorem reads_walk (vb : Value) (l : List Nat) (va : Value) (acts : List (Int × Nat × Int)) (w : World) (hl : Sli w w.heap.size vb (cu8 l)) (hx : ∀ x ∈ l, x < 256) (ha : Acts w w.heap.size va acts)
    (hr : ∀ x ∈ acts, x.2.1 < 18446744073709551616 ∧ -9223372036854775808 ≤ x.2.2 ∧ x.2.2 ≤ 9223372036854775807) :
    Calls Try.prog 4 #[vb, va] w fun e w' => e = .returned (.bool true) ∧ Below w.heap.size w w' := by
  obtain ⟨A1, c1, rfl, hlc1, hcm1⟩ := hl.form8
  obtain ⟨A2, c2, rfl, hlc2, hcm2, _⟩ := id ha
  by_cases h300 : 300 < l.length
  · go_enter Try.func4, Try.ntmps4
    go_wp2_with (go_at_call 10; refine (known_any _).mono ?_; rintro e w1 ⟨rfl, hb1⟩)
    go_ret
    exact ⟨rfl, hb1⟩
  by_cases h60 : 60 < acts.length
  · go_enter Try.func4, Try.ntmps4
    go_wp2_with (go_at_call 10; refine (known_any _).mono ?_; rintro e w1 ⟨rfl, hb1⟩)
    go_ret
    exact ⟨rfl, hb1⟩
  go_enter Try.func4, Try.ntmps4
  go_wp2_with (first
    | (go_at_call 10; refine (known_any _).mono ?_; rintro e w1 ⟨rfl, hb1⟩)
    | (go_at_call 22; refine (bnew_any _ l w1 ((hl.below hb1).more hb1.size) hx (by omega)).mono ?_; rintro e w2 ⟨g1, rfl, hR2, hg1, hb2⟩)
    | (go_at_call 23; refine (onew_any _ l w2 w.heap.size ((hl.below hb1).below (hb2.mono hb1.size)) (Nat.le_trans hb1.size hb2.size) hx (by omega)).mono ?_; rintro e w3 ⟨g2, rfl, hO3, hg2, hb3⟩))
  have hR3 := hR2.below hb3
  have hgg : g1 < g2 := Nat.lt_of_lt_of_le hR2.lt hg2
  have hgw : w.heap.size ≤ g1 := Nat.le_trans hb1.size hg1
  have hb03 := bthen (bthen hb1 hb2 hb1.size) hb3 (Nat.le_trans hb1.size hb2.size)
  go_loopw [7] (fun i wr => ∃ (k at_ : Nat) (er : Int), k ≤ acts.length ∧ i = .int .i64 k ∧ RdB wr g1 l at_ er ∧ OcB wr w.heap.size g2 l at_ er ∧ Below w.heap.size w wr) (fun i _ => acts.length - (intOf i).toNat)
  case atStart => exact ⟨0, 0, 0, Nat.zero_le _, rfl, hR3, hO3, hb03⟩
  case round =>
    obtain ⟨k, at_, er, hk, rfl, hR, hO, hbw⟩ := hrel
    by_cases hlt : k < acts.length
    · obtain ⟨x, hxk⟩ : ∃ x, acts[k]? = some x := ⟨_, List.getElem?_eq_getElem hlt⟩
      obtain ⟨wh, mo, nn⟩ := x
      obtain ⟨b, o, c, hv, d0, d1, d2, hbB⟩ := (ha.below hbw).get hlt hxk
      injection hv with e1 _ e3
      subst e1; subst e3
      obtain ⟨hmo, hn1, hn2⟩ := hr _ (List.mem_of_getElem? hxk)
      simp only at hmo hn1 hn2
      clear hxk
      have E2 : (wr.alloc (.cells #[.int .i64 wh, .int .u64 (mo : Nat), .int .i64 nn] 33)).cell? ⟨wr.heap.size, 2, none⟩ = some (.int .i64 nn) := by rw [cell_of_row _ _ _ _ _ _ (heap_alloc_new wr _)]; rfl
      have hb0 : Below wr.heap.size wr (wr.alloc (.cells #[.int .i64 wh, .int .u64 (mo : Nat), .int .i64 nn] 33)) := (Below.refl _ _).alloc (Nat.le_refl _) _
      have hRx := hR.below hb0
      have hOx := hO.below hb0
      have hbx := bthen hbw hb0 hbw.size
      have hg1s := hR.lt
      have hg2s := hO.lt
      go_upto_block 2 with (fail)
      generalize hwx : wr.alloc (.cells #[.int .i64 wh, .int .u64 (mo : Nat), .int .i64 nn] 33) = wx at E2 hb0 hRx hOx hbx ⊢
      have hc0 : wx.cell? ⟨wr.heap.size, 0, none⟩ = some (.int .i64 wh) := by rw [← hwx, cell_of_row _ _ _ _ _ _ (heap_alloc_new wr _)]; rfl
      clear hwx d0 d1 d2 hR hO
      have hRd : RdB wx.drew g1 l at_ er := hRx
      have hOd : OcB wx.drew w.heap.size g2 l at_ er := hOx
      go_cut [9] (fun v wy => v = .bool true ∧ ∃ (at2 : Nat) (er2 : Int), RdB wy g1 l at2 er2 ∧ OcB wy w.heap.size g2 l at2 er2 ∧ Below w.heap.size w wy)
      case first =>
        by_cases h0 : wh = 0
        · subst h0
          have hpA := bget_any hRd nn
          have hpB := fun (wa : World) (h : OcB wa w.heap.size g2 l at_ er) => oget_any h nn
          generalize gGet (bitAt l) (8 * l.length) at_ er nn = R at hpA hpB
          have HPA := Lib.hid hpA; have HPB := Lib.hid hpB; clear hpA hpB
          go_wp2
          go_region_held3 (fun w' => w'.cell? ⟨wr.heap.size, 2, none⟩ = some (.int .i64 nn))
            (first | go_keep | exact a2 | exact b2)
            (first
              | (go_at_call 24; refine (HPA.out).mono ?_; rintro e wa ⟨rfl, hRa, hga⟩; have a2 := (World.grownBy.cell hga (a := ⟨wr.heap.size, 2, none⟩) E2 (by simp; omega)); have hOa := hOd.only hga (by omega) hgw)
              | (go_at_call 25; refine (HPB.out wa hOa).mono ?_; rintro e wb ⟨rfl, hOb, hgb⟩; have b2 := (World.grownBy.cell hgb (a := ⟨wr.heap.size, 2, none⟩) a2 (by simp; omega))))
          all_goals
            obtain ⟨cs2, hblk⟩ := hOa.blk
            have hRb := hRa.only hblk (by decide) hgb (by omega)
            have hbb : Below w.heap.size w wb := bonly (bonly hbx.drew hga (Nat.le_refl _) hgw) hgb (Nat.le_refl _) (by omega)
            go_wp2_with fail
            go_meet
            case rel => exact ⟨by simp, _, _, hRb, hOb, hbb⟩
        have q0 : (wh == 0) = false := by simpa using h0
        clear h0
        by_cases h1 : wh = 1
        · subst h1
          have hpA := bunary_any hRd nn hn2
          have hpB := fun (wa : World) (h : OcB wa w.heap.size g2 l at_ er) => ounary_any h nn hn2
          generalize gUnary (bitAt l) (8 * l.length) at_ er nn = R at hpA hpB
          have HPA := Lib.hid hpA; have HPB := Lib.hid hpB; clear hpA hpB
          go_wp2
          go_region_held3 (fun w' => w'.cell? ⟨wr.heap.size, 2, none⟩ = some (.int .i64 nn))
            (first | go_keep | exact a2 | exact b2)
            (first
              | (go_at_call 26; refine (HPA.out).mono ?_; rintro e wa ⟨rfl, hRa, hga⟩; have a2 := (World.grownBy.cell hga (a := ⟨wr.heap.size, 2, none⟩) E2 (by simp; omega)); have hOa := hOd.only hga (by omega) hgw)
              | (go_at_call 27; refine (HPB.out wa hOa).mono ?_; rintro e wb ⟨rfl, hOb, hgb⟩; have b2 := (World.grownBy.cell hgb (a := ⟨wr.heap.size, 2, none⟩) a2 (by simp; omega))))
          all_goals
            obtain ⟨cs2, hblk⟩ := hOa.blk
            have hRb := hRa.only hblk (by decide) hgb (by omega)
            have hbb : Below w.heap.size w wb := bonly (bonly hbx.drew hga (Nat.le_refl _) hgw) hgb (Nat.le_refl _) (by omega)
            go_wp2_with fail
            go_meet
            case rel => exact ⟨by simp, _, _, hRb, hOb, hbb⟩
        have q1 : (wh == 1) = false := by simpa using h1
        clear h1
        by_cases h2 : wh = 2
        · subst h2
          have hpA := balign_any hRx
          have hpB := fun (wa : World) (h : OcB wa w.heap.size g2 l at_ er) => oalign_any h
          generalize gAlign (bitAt l) (8 * l.length) at_ er = R at hpA hpB
          have HPA := Lib.hid hpA; have HPB := Lib.hid hpB; clear hpA hpB
          go_wp2_with (first
            | (go_at_call 28; refine (HPA.out).mono ?_; rintro e wa ⟨rfl, hRa, hga⟩; have hOa := hOx.only hga (by omega) hgw)
            | (go_at_call 29; refine (HPB.out wa hOa).mono ?_; rintro e wb ⟨rfl, hOb, hgb⟩))
          obtain ⟨cs2, hblk⟩ := hOa.blk
          have hRb := hRa.only hblk (by decide) hgb (by omega)
          have hbb : Below w.heap.size w wb := bonly (bonly hbx hga (Nat.le_refl _) hgw) hgb (Nat.le_refl _) (by omega)
          go_meet
          case rel => exact ⟨rfl, _, _, hRb, hOb, hbb⟩
        have q2 : (wh == 2) = false := by simpa using h2
        clear h2
        have hpA := bsigned_any hRd nn
        have hpB := fun (wa : World) (h : OcB wa w.heap.size g2 l at_ er) => osigned_any h nn
        generalize gSigned (bitAt l) (8 * l.length) at_ er nn = S at hpA hpB
        generalize gGet (bitAt l) (8 * l.length) at_ er nn = R at hpA hpB
        have HPA := Lib.hid hpA; have HPB := Lib.hid hpB; clear hpA hpB
        go_wp2
        go_region_held3 (fun w' => w'.cell? ⟨wr.heap.size, 2, none⟩ = some (.int .i64 nn))
          (first | go_keep | exact a2 | exact b2)
          (first
            | (go_at_call 30; refine (HPA.out).mono ?_; rintro e wa ⟨rfl, hRa, hga⟩; have a2 := (World.grownBy.cell hga (a := ⟨wr.heap.size, 2, none⟩) E2 (by simp; omega)); have hOa := hOd.only hga (by omega) hgw)
            | (go_at_call 31; refine (HPB.out wa hOa).mono ?_; rintro e wb ⟨rfl, hOb, hgb⟩; have b2 := (World.grownBy.cell hgb (a := ⟨wr.heap.size, 2, none⟩) a2 (by simp; omega))))
        all_goals
          obtain ⟨cs2, hblk⟩ := hOa.blk
          have hRb := hRa.only hblk (by decide) hgb (by omega)
          have hbb : Below w.heap.size w wb := bonly (bonly hbx.drew hga (Nat.le_refl _) hgw) hgb (Nat.le_refl _) (by omega)
          go_wp2_with fail
          go_meet
          case rel => exact ⟨by simp, _, _, hRb, hOb, hbb⟩
      case rest =>
        obtain ⟨rfl, at2, er2, hRy, hOy, hby⟩ := hcut
        obtain ⟨vq, hq, _⟩ := id hOy
        obtain ⟨f0, f1, f2, hff⟩ := blk3 hq
        clear hq
        have C1 := Lib.hid (fun (n : Nat) => bat_any (hRy.drewN n))
        have C2 := Lib.hid (fun (n : Nat) => bleft_any (hRy.drewN n))
        have C3 := Lib.hid (fun (n : Nat) => berr_any (hRy.drewN n))
        have C4 := Lib.hid (fun (n : Nat) => oleft_any (hOy.drewN n))
        go_wp2_with fail
        go_quiet ((first
          | (go_at_call 32; exact quietLN (C1.out _))
          | (go_at_call 33; exact quietNN (C2.out _))
          | (go_at_call 35; exact quietLN (C3.out _))
          | (go_at_call 34; exact quietNN (C4.out _))))
        go_wp2
        exact ⟨⟨k + 1, _, _, by omega, by simp, hRy.drewN _, hOy.drewN _, below_drewN hby _⟩, by simp [intOf]; omega⟩
    · go_wp2
      go_ret
      exact ⟨rfl, hbw⟩

theorem bitsReads_walk (vb : Value) (l : List Nat) (va : Value) (rows : List (List Int)) (w : World) (hl : Sli w w.heap.size vb (cu8 l)) (hx : ∀ x ∈ l, x < 256) (ha : Recs w w.heap.size va [.i64, .u64, .i64] rows) :
    Calls Try.prog 4 #[vb, va] w fun e w' => e = .returned (.bool true) ∧ Below w.heap.size w w' := by
  obtain ⟨acts, h1, h2⟩ := acts_of_recs ha
  exact reads_walk vb l va acts w hl hx h1 h2

end Go.Proofs.Ytnlclbocbbcafaa
