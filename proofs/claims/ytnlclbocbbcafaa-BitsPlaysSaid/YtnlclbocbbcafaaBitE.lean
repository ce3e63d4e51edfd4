/- bits: BitsPlays. -/
import Derived.Test.YtnlclbocbbcafaaBitM
import Derived.Test.YtnlclbocbbcafaaActs
import Derived.Deep.CutBlock
import Derived.Deep.RegionWith
import Derived.Deep.RegionHeld3
namespace Go.Proofs.Ytnlclbocbbcafaa
open Go.RowKit
set_option maxRecDepth 100000
set_option maxHeartbeats 800000

theorem wPut_len (L : List Bool) (x : Nat) (n : Int) : (wPut L x n).1.length ≤ L.length + 64 := by
  unfold wPut
  split
  · simp
  · simp [msb_len]; omega
theorem wUnary_len (L : List Bool) (n : Int) : (wUnary L n).1.length ≤ L.length + 4097 := by
  unfold wUnary
  split
  · simp
  · simp [msb_len]; omega
theorem wAlign_len (L : List Bool) : (wAlign L).length ≤ L.length + 7 := by
  unfold wAlign; simp; omega

theorem plays_walk (va : Value) (acts : List (Int × Nat × Int)) (w : World) (ha : Acts w w.heap.size va acts)
    (hr : ∀ x ∈ acts, x.2.1 < 18446744073709551616 ∧ -9223372036854775808 ≤ x.2.2 ∧ x.2.2 ≤ 9223372036854775807) :
    Calls Try.prog 3 #[va] w fun e w' => e = .returned (.bool true) ∧ Below w.heap.size w w' := by
  obtain ⟨A2, c2, rfl, hlc2, hcm2, _⟩ := id ha
  by_cases h40 : 40 < acts.length
  · go_enter Try.func3, Try.ntmps3
    go_wp2_with (go_at_call 10; refine (known_any _).mono ?_; rintro e w1 ⟨rfl, hb1⟩)
    go_ret
    exact ⟨rfl, hb1⟩
  have hn40 : acts.length ≤ 40 := by omega
  clear h40
  go_enter Try.func3, Try.ntmps3
  go_upto_region 5 with (go_at_call 10; refine (known_any _).mono ?_; rintro e w1 ⟨rfl, hb1⟩)
  obtain ⟨wa, hwa⟩ : ∃ wa, w1.alloc (.cells #[.slice none 0 0, .int .i64 0] 27) = wa := ⟨_, rfl⟩
  have hA0 := WrO.start w1 (base := w.heap.size) hb1.size
  rw [hwa] at hA0
  have hsz : wa.heap.size = w1.heap.size + 1 := by rw [← hwa]; simp
  have hB0 := WqO.start wa (base := w.heap.size) (by have := hb1.size; omega)
  rw [hsz] at hB0
  have hba : Below w1.heap.size w1 wa := by rw [← hwa]; exact (Below.refl _ _).alloc (Nat.le_refl _) _
  have hbb := hba.alloc hba.size (.cells #[.slice none 0 0] 30)
  have hA1 := hA0.below ((Below.refl _ wa).alloc (Nat.le_refl _) (.cells #[.slice none 0 0] 30))
  rw [← hwa] at hA1 hB0 hbb
  have hb0b := bthen hb1 hbb hb1.size
  clear hA0 hba hwa hsz hbb
  go_wp2_with fail
  go_loopw [5] (fun i wr => ∃ (k : Nat) (va vb : Value) (L : List Bool), i = .int .i64 k ∧ k ≤ acts.length ∧ L.length ≤ 8192 * k ∧ WrO wr w.heap.size w1.heap.size va L ∧ WqO wr w.heap.size (w1.heap.size + 1) vb L ∧ Apart va vb ∧ Below w.heap.size w wr) (fun i _ => acts.length - (intOf i).toNat)
  case atStart => exact ⟨0, _, _, [], rfl, Nat.zero_le _, by simp, hA1, hB0, apart_nil _, hb0b⟩
  case round =>
    obtain ⟨k, va, vb, L, rfl, hk, hL, hA, hB, hap, hbw⟩ := hrel
    by_cases hlt : k < acts.length
    · obtain ⟨x, hxk⟩ : ∃ x, acts[k]? = some x := ⟨_, List.getElem?_eq_getElem hlt⟩
      obtain ⟨wh, mo, nn⟩ := x
      obtain ⟨b, o, c, hv, d0, d1, d2, hbB⟩ := (ha.below hbw).get hlt hxk
      injection hv with e1 _ e3
      subst e1; subst e3
      obtain ⟨hmo, hn1, hn2⟩ := hr _ (List.mem_of_getElem? hxk)
      simp only at hmo hn1 hn2
      clear hxk
      have E1 : (wr.alloc (.cells #[.int .i64 wh, .int .u64 (mo : Nat), .int .i64 nn] 33)).cell? ⟨wr.heap.size, 1, none⟩ = some (.int .u64 (mo : Nat)) := by rw [cell_of_row _ _ _ _ _ _ (heap_alloc_new wr _)]; rfl
      have E2 : (wr.alloc (.cells #[.int .i64 wh, .int .u64 (mo : Nat), .int .i64 nn] 33)).cell? ⟨wr.heap.size, 2, none⟩ = some (.int .i64 nn) := by rw [cell_of_row _ _ _ _ _ _ (heap_alloc_new wr _)]; rfl
      have hb0 : Below wr.heap.size wr (wr.alloc (.cells #[.int .i64 wh, .int .u64 (mo : Nat), .int .i64 nn] 33)) := (Below.refl _ _).alloc (Nat.le_refl _) _
      have hAx := hA.below hb0
      have hBx := hB.below hb0
      have hbx := bthen hbw hb0 hbw.size
      have hg1s := hA.lt
      have hg2s := hB.lt
      have hva : va.ownBlock ≠ some wr.heap.size := fun e => by have := hA.ltv _ e; omega
      have hvb : vb.ownBlock ≠ some wr.heap.size := fun e => by have := hB.ltv _ e; omega
      have hLb : L.length ≤ 327680 := by omega
      have hLb2 : L.length ≤ 1099511627776 - 8192 := by omega
      have hLb3 : L.length ≤ 1099511627776 := by omega
      go_upto_block 2 with (fail)
      generalize hwx : wr.alloc (.cells #[.int .i64 wh, .int .u64 (mo : Nat), .int .i64 nn] 33) = wx at E1 E2 hb0 hAx hBx hbx ⊢
      have hc0 : wx.cell? ⟨wr.heap.size, 0, none⟩ = some (.int .i64 wh) := by rw [← hwx, cell_of_row _ _ _ _ _ _ (heap_alloc_new wr _)]; rfl
      clear hwx d0 d1 d2 hA hB ha hA1 hB0 hb0b
      have hbs := hbx.size
      have hAd : WrO wx.drew w.heap.size w1.heap.size va L := hAx
      have hBd : WqO wx.drew w.heap.size (w1.heap.size + 1) vb L := hBx
      go_cut [5] (fun i wy => i = .int .i64 k ∧ ∃ (va2 vb2 : Value) (L2 : List Bool), L2.length ≤ 8192 * (k + 1) ∧ WrO wy w.heap.size w1.heap.size va2 L2 ∧ WqO wy w.heap.size (w1.heap.size + 1) vb2 L2 ∧ Apart va2 vb2 ∧ Below w.heap.size w wy)
      case first =>
        by_cases h0 : wh = 0
        · subst h0
          have hpA := wput_any hAd hLb3 hbs mo nn hmo hn1 hn2
          have hpB := fun (wa : World) (h : WqO wa w.heap.size (w1.heap.size + 1) vb L) (hs : w.heap.size ≤ wa.heap.size) => qput_any h hLb3 hs mo nn hmo hn1 hn2
          have hL2 := wPut_len L mo nn
          generalize wPut L mo nn = R at hpA hpB hL2
          have HPA := Lib.hid hpA; have HPB := Lib.hid hpB; clear hpA hpB
          go_wp2
          go_region_held3 (fun w' => w'.cell? ⟨wr.heap.size, 1, none⟩ = some (.int .u64 (mo : Nat)) ∧ w'.cell? ⟨wr.heap.size, 2, none⟩ = some (.int .i64 nn))
            (first | go_keep | exact ⟨a1, a2⟩ | exact ⟨b1, b2⟩)
            (first
              | (go_at_call 11; refine (HPA.out).mono ?_; rintro e wa ⟨rfl, va2, hAa, hma⟩; have a1 := hma.cell (p := ⟨wr.heap.size, 1, none⟩) E1 (by simp; omega) hva; have a2 := hma.cell (p := ⟨wr.heap.size, 2, none⟩) E2 (by simp; omega) hva; obtain ⟨hBa, hapa⟩ := hAd.otherQ hBd (by omega) hap hma)
              | (go_at_call 12; refine (HPB.out wa hBa (Nat.le_trans hbs hma.size)).mono ?_; rintro e wb ⟨rfl, vb2, hBb, hmb⟩; have b1 := hmb.cell (p := ⟨wr.heap.size, 1, none⟩) a1 (by simp; omega) hvb; have b2 := hmb.cell (p := ⟨wr.heap.size, 2, none⟩) a2 (by simp; omega) hvb; obtain ⟨hAb, hapb⟩ := hBa.otherW hAa (by omega) hapa.symm hmb))
          all_goals
            have hba2 : Below w.heap.size w wa := hbx.drew.trans (hma.below hAd.1 hAd.rows hbs)
            have hbb2 : Below w.heap.size w wb := hba2.trans (hmb.below hBa.1 hBa.rows hba2.size)
            go_wp2_with fail
            go_meet
            case rel => exact ⟨rfl, _, _, _, by omega, hAb, hBb, hapb.symm, hbb2⟩
        have q0 : (wh == 0) = false := by simpa using h0
        clear h0
        by_cases h1 : wh = 1
        · subst h1
          have hpA := wunary_any hAd hLb2 hbs nn hn1 hn2
          have hpB := fun (wa : World) (h : WqO wa w.heap.size (w1.heap.size + 1) vb L) (hs : w.heap.size ≤ wa.heap.size) => qunary_any h hLb3 hs nn hn1 hn2
          have hL2 := wUnary_len L nn
          generalize wUnary L nn = R at hpA hpB hL2
          have HPA := Lib.hid hpA; have HPB := Lib.hid hpB; clear hpA hpB
          go_wp2
          go_region_held3 (fun w' => w'.cell? ⟨wr.heap.size, 1, none⟩ = some (.int .u64 (mo : Nat)) ∧ w'.cell? ⟨wr.heap.size, 2, none⟩ = some (.int .i64 nn))
            (first | go_keep | exact ⟨a1, a2⟩ | exact ⟨b1, b2⟩)
            (first
              | (go_at_call 13; refine (HPA.out).mono ?_; rintro e wa ⟨rfl, va2, hAa, hma⟩; have a1 := hma.cell (p := ⟨wr.heap.size, 1, none⟩) E1 (by simp; omega) hva; have a2 := hma.cell (p := ⟨wr.heap.size, 2, none⟩) E2 (by simp; omega) hva; obtain ⟨hBa, hapa⟩ := hAd.otherQ hBd (by omega) hap hma)
              | (go_at_call 14; refine (HPB.out wa hBa (Nat.le_trans hbs hma.size)).mono ?_; rintro e wb ⟨rfl, vb2, hBb, hmb⟩; have b1 := hmb.cell (p := ⟨wr.heap.size, 1, none⟩) a1 (by simp; omega) hvb; have b2 := hmb.cell (p := ⟨wr.heap.size, 2, none⟩) a2 (by simp; omega) hvb; obtain ⟨hAb, hapb⟩ := hBa.otherW hAa (by omega) hapa.symm hmb))
          all_goals
            have hba2 : Below w.heap.size w wa := hbx.drew.trans (hma.below hAd.1 hAd.rows hbs)
            have hbb2 : Below w.heap.size w wb := hba2.trans (hmb.below hBa.1 hBa.rows hba2.size)
            go_wp2_with fail
            go_meet
            case rel => exact ⟨rfl, _, _, _, by omega, hAb, hBb, hapb.symm, hbb2⟩
        have q1 : (wh == 1) = false := by simpa using h1
        clear h1
        have hL2 := wAlign_len L
        have hpA := walign_any hAx hLb3
        have hpB := fun (wa : World) (h : WqO wa w.heap.size (w1.heap.size + 1) vb L) (hs : w.heap.size ≤ wa.heap.size) => qalign_any h hLb3 hs
        generalize wAlign L = R at hpA hpB hL2
        have HPA := Lib.hid hpA; have HPB := Lib.hid hpB; clear hpA hpB
        go_wp2_with (first
          | (go_at_call 15; refine (HPA.out).mono ?_; rintro e wa ⟨rfl, hAa, hma⟩; obtain ⟨hBa, hapa⟩ := hAx.otherQ hBx (by omega) hap hma)
          | (go_at_call 16; refine (HPB.out wa hBa (Nat.le_trans hbs hma.size)).mono ?_; rintro e wb ⟨rfl, vb2, hBb, hmb⟩; obtain ⟨hAb, hapb⟩ := hBa.otherW hAa (by omega) hapa.symm hmb))
        have hba2 : Below w.heap.size w wa := hbx.trans (hma.below hAx.1 hAx.rows hbs)
        have hbb2 : Below w.heap.size w wb := hba2.trans (hmb.below hBa.1 hBa.rows hba2.size)
        go_meet
        case rel => exact ⟨rfl, _, _, _, by omega, hAb, hBb, hapb.symm, hbb2⟩
      case rest =>
        obtain ⟨rfl, va2, vb2, L2, hL2, hA2, hB2, hap2, hb2⟩ := hcut
        have C1 := Lib.hid (wlen_any hA2)
        have C2 := Lib.hid (qlen_any hB2)
        go_wp2_with (first
          | (go_at_call 17; refine (C1.out).mono ?_; rintro e w7 ⟨rfl, rfl⟩)
          | (go_at_call 18; refine (C2.out).mono ?_; rintro e w7 ⟨rfl, rfl⟩))
        exact ⟨⟨k + 1, va2, vb2, L2, by simp, by omega, hL2, hA2, hB2, hap2, hb2⟩, by simp [intOf]; omega⟩
    · have hLb3 : L.length ≤ 1099511627776 := by omega
      have C1 := Lib.hid (wbytes_any hA hLb3)
      go_wp2_with (first
        | (go_at_call 20; refine (C1.out).mono ?_; rintro e w5 ⟨v5, l5, rfl, hP5, ho5, hb45⟩; have hB5 := hB.below hb45)
        | (go_at_call 21; refine (qbytes_any hB5 hLb3).mono ?_; rintro e w6 ⟨v6, l6, rfl, hP6, ho6, hb56⟩; obtain rfl := hP5.uniq hP6)
        | (go_at_call 19; refine (same_any _ _ l5 l5 w6 _ _ (ho5.sli.below hb56) ho6.sli hP5.byte hP5.byte).mono ?_; rw [decide_eq_true rfl]; rintro e w7 ⟨rfl, rfl⟩))
      go_ret
      exact ⟨rfl, bthen (bthen hbw hb45 hbw.size) hb56 (Nat.le_trans hbw.size hb45.size)⟩

theorem bitsPlays_walk (va : Value) (rows : List (List Int)) (w : World) (ha : Recs w w.heap.size va [.i64, .u64, .i64] rows) :
    Calls Try.prog 3 #[va] w fun e w' => e = .returned (.bool true) ∧ Below w.heap.size w w' := by
  obtain ⟨acts, h1, h2⟩ := acts_of_recs ha
  exact plays_walk va acts w h1 h2

end Go.Proofs.Ytnlclbocbbcafaa
