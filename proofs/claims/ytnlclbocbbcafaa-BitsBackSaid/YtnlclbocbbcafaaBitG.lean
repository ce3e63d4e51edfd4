/- bits: BitsBack. -/
import Derived.Test.YtnlclbocbbcafaaBitM
import Derived.Test.YtnlclbocbbcafaaActs
import Derived.Deep.CutBlock
import Derived.Deep.RegionWith
import Derived.Deep.RegionHeld3
namespace Go.Proofs.Ytnlclbocbbcafaa
open Go.RowKit
set_option maxRecDepth 100000
set_option maxHeartbeats 800000

def wid (nn : Int) : Nat := (nn % 64).toNat
def piece (x : Int × Nat × Int) : List Bool := if x.1 = 1 then msb 1 (wid x.2.2 + 1) else msb (x.2.1 % 2 ^ wid x.2.2) (wid x.2.2)
def stream (l : List (Int × Nat × Int)) : List Bool := l.flatMap piece
theorem wid_le (nn : Int) : wid nn ≤ 63 := by unfold wid; omega
theorem piece_len (x : Int × Nat × Int) : (piece x).length ≤ 64 := by
  have := wid_le x.2.2
  unfold piece; split <;> simp [msb_len] <;> omega
theorem stream_len (l : List (Int × Nat × Int)) : (stream l).length ≤ 64 * l.length := by
  induction l with
  | nil => simp [stream]
  | cons x r ih =>
    have := piece_len x
    simp only [stream, List.flatMap_cons, List.length_append, List.length_cons] at ih ⊢
    omega
theorem stream_snoc {l : List (Int × Nat × Int)} {k : Nat} {x : Int × Nat × Int} (h : l[k]? = some x) : stream (l.take (k + 1)) = stream (l.take k) ++ piece x := by
  rw [List.take_add_one, h]; simp [stream]
theorem stream_at {l : List (Int × Nat × Int)} {k : Nat} {x : Int × Nat × Int} (h : l[k]? = some x) (j : Nat) (hj : j < (piece x).length) : gb (stream l) ((stream (l.take k)).length + j) = gb (piece x) j := by
  have hk := (List.getElem?_eq_some_iff.1 h).1
  have e : stream l = stream (l.take k) ++ (piece x ++ stream (l.drop (k + 1))) := by
    have e1 : l = l.take k ++ (x :: l.drop (k + 1)) := by
      have e2 : l[k] = x := (List.getElem?_eq_some_iff.1 h).2
      have := List.take_append_drop k l
      rw [List.drop_eq_getElem_cons hk, e2] at this
      exact this.symm
    conv => lhs; rw [e1]
    simp [stream]
  rw [e, gb_app, if_neg (by omega), gb_app, Nat.add_sub_cancel_left, if_pos hj]
theorem stream_le {l : List (Int × Nat × Int)} {k : Nat} {x : Int × Nat × Int} (h : l[k]? = some x) : (stream (l.take k)).length + (piece x).length ≤ (stream l).length := by
  have hk := (List.getElem?_eq_some_iff.1 h).1
  have := stream_snoc h
  have e : stream l = stream (l.take (k + 1)) ++ stream (l.drop (k + 1)) := by
    conv => lhs; rw [← List.take_append_drop (k + 1) l]
    rw [stream, List.flatMap_append]; rfl
  rw [e, this]; simp

theorem read_unary {b : List Nat} {l : List (Int × Nat × Int)} (hP : Packed b (stream l)) {k : Nat} {v : Nat} {nn : Int} (h : l[k]? = some (1, v, nn)) :
    gUnary (bitAt b) (8 * b.length) (stream (l.take k)).length 0 63 = (wid nn, (stream (l.take (k + 1))).length, 0) := by
  have hp : piece (1, v, nn) = msb 1 (wid nn + 1) := by simp [piece]
  have hle := stream_le h
  rw [hp, msb_len] at hle
  have hl := hP.len
  have hw := wid_le nn
  have hat := stream_at h
  rw [hp, msb_len] at hat
  have hz := zer_at (f := bitAt b) (most := 63) (p := (stream (l.take k)).length) (k := wid nn) (8 * b.length - (stream (l.take k)).length) 0 (Nat.zero_le _) (by omega) (Nat.zero_le _)
    (fun j _ hj => by
      rw [hP.bit, hat j (by omega), gb_msb, show wid nn + 1 - 1 - j = (wid nn - 1 - j) + 1 by omega, Nat.testBit_succ]
      simp)
    (by rw [hP.bit, hat _ (by omega), gb_msb, show wid nn + 1 - 1 - wid nn = 0 by omega]; simp)
  rw [if_pos hw] at hz
  unfold gUnary
  rw [if_pos rfl, show (63 : Int).toNat = 63 from rfl, hz, if_pos rfl, stream_snoc h, List.length_append, hp, msb_len, Nat.add_assoc]
theorem read_get {b : List Nat} {l : List (Int × Nat × Int)} (hP : Packed b (stream l)) {k : Nat} {wh : Int} {v : Nat} {nn : Int} (h : l[k]? = some (wh, v, nn)) (hwh : wh ≠ 1) :
    gGet (bitAt b) (8 * b.length) (stream (l.take k)).length 0 (wid nn : Nat) = (v % 2 ^ wid nn, (stream (l.take (k + 1))).length, 0) := by
  have hp : piece (wh, v, nn) = msb (v % 2 ^ wid nn) (wid nn) := by simp [piece, hwh]
  have hle := stream_le h
  rw [hp, msb_len] at hle
  have hl := hP.len
  have hw := wid_le nn
  have hat := stream_at h
  rw [hp, msb_len] at hat
  have hb : bnum (bitAt b) (stream (l.take k)).length (wid nn) = v % 2 ^ wid nn := by
    rw [bnum_msb (v := v % 2 ^ wid nn) fun i hi => by rw [hP.bit, hat i hi, gb_msb]; simp [hi], Nat.mod_mod]
  unfold gGet
  rw [if_pos rfl, if_neg (by omega), if_neg (by omega), Int.toNat_natCast, hb, stream_snoc h, List.length_append, hp, msb_len]
theorem read_end {b : List Nat} {L : List Bool} (hP : Packed b L) : gAlign (bitAt b) (8 * b.length) L.length 0 = (8 * b.length, 0) := by
  have hl := hP.len
  have e : (8 * b.length - L.length) % 8 = 8 * b.length - L.length := by omega
  unfold gAlign
  rw [if_pos rfl, e, if_pos (bnum_zero.2 fun i hi => by rw [hP.bit]; exact gb_out (by omega)), show L.length + (8 * b.length - L.length) = 8 * b.length by omega]
theorem put_unary (L : List Bool) (v : Nat) (nn : Int) : wUnary L (wid nn : Nat) = (L ++ piece (1, v, nn), 0) := by
  have := wid_le nn
  rw [wUnary, if_neg (by omega)]; simp [piece]
theorem put_num (L : List Bool) {wh : Int} (v : Nat) (nn : Int) (h : wh ≠ 1) : wPut L (v % 2 ^ wid nn) (wid nn : Nat) = (L ++ piece (wh, v, nn), 0) := by
  have := wid_le nn
  have h2 := Nat.mod_lt v (Nat.pow_pos (n := wid nn) (show 0 < 2 by omega))
  rw [wPut, Int.toNat_natCast, if_neg (by omega)]; simp [piece, h]

theorem back_walk (va : Value) (acts : List (Int × Nat × Int)) (w : World) (ha : Acts w w.heap.size va acts)
    (hr : ∀ x ∈ acts, x.2.1 < 18446744073709551616 ∧ -9223372036854775808 ≤ x.2.2 ∧ x.2.2 ≤ 9223372036854775807) :
    Calls Try.prog 5 #[va] w fun e w' => e = .returned (.bool true) ∧ Below w.heap.size w w' := by
  obtain ⟨A2, c2, rfl, hlc2, hcm2, _⟩ := id ha
  by_cases h40 : 40 < acts.length
  · go_enter Try.func5, Try.ntmps5
    go_wp2_with (go_at_call 10; refine (known_any _).mono ?_; rintro e w1 ⟨rfl, hb1⟩)
    go_ret
    exact ⟨rfl, hb1⟩
  have hn40 : acts.length ≤ 40 := by omega
  clear h40
  go_enter Try.func5, Try.ntmps5
  go_wp2_with (go_at_call 10; refine (known_any _).mono ?_; rintro e w1 ⟨rfl, hb1⟩)
  have hA0 := WrO.start w1 (base := w.heap.size) hb1.size
  have hb0 := hb1.alloc hb1.size (.cells #[.slice none 0 0, .int .i64 0] 27)
  go_loopw [4, 5] (fun n i wr => ∃ (k : Nat) (va : Value), i = .int .i64 k ∧ k ≤ acts.length ∧ n = .int .i64 ((stream (acts.take k)).length : Nat) ∧ WrO wr w.heap.size w1.heap.size va (stream (acts.take k)) ∧ Below w.heap.size w wr) (fun _ i _ => acts.length - (intOf i).toNat)
  case atStart => exact ⟨0, _, rfl, Nat.zero_le _, rfl, hA0, hb0⟩
  case round =>
    obtain ⟨k, va, rfl, hk, rfl, hA, hbw⟩ := hrel
    have hsl := stream_len (acts.take k)
    rw [List.length_take] at hsl
    have hsl2 : (stream (acts.take k)).length ≤ 2560 := by omega
    clear hsl
    by_cases hlt : k < acts.length
    · obtain ⟨x, hxk⟩ : ∃ x, acts[k]? = some x := ⟨_, List.getElem?_eq_getElem hlt⟩
      obtain ⟨wh, mo, nn⟩ := x
      obtain ⟨b, o, c, hv, d0, d1, d2, hbB⟩ := (ha.below hbw).get hlt hxk
      injection hv with e1 _ e3
      subst e1; subst e3
      obtain ⟨hmo, hn1, hn2⟩ := hr _ (List.mem_of_getElem? hxk)
      simp only at hmo hn1 hn2
      have hsn := stream_snoc hxk
      have hpl := piece_len (wh, mo, nn)
      have hw := wid_le nn
      have hand : bits .and .i64 nn 63 = (wid nn : Nat) := by
        have := i64_mask 6 (by omega) nn
        rw [show ((wid nn : Nat) : Int) = nn % 64 by unfold wid; omega]; exact this
      have hlow := fun W => low_any mo (wid nn) W hmo (by omega)
      by_cases h1 : wh = 1
      · subst h1
        have hpu := wunary_any hA (by omega) hbw.size (wid nn : Nat) (by omega) (by omega)
        rw [put_unary _ mo nn, ← hsn] at hpu
        have hlen : ((stream (acts.take (k + 1))).length : Int) = ((stream (acts.take k)).length : Int) + (wid nn : Int) + 1 := by
          rw [hsn, List.length_append]; simp [piece, msb_len]; omega
        have HPU := Lib.hid hpu; have HLEN := Lib.hid hlen
        clear hpu hlow hsn hpl hxk hlen
        generalize wid nn = kk at *
        generalize (stream (acts.take k)).length = m at *
        go_wp2_with (go_at_call 13; refine (HPU.out).mono ?_; rintro e w2 ⟨rfl, v2, hW2, hm2⟩)
        have hb2 := hbw.trans (hm2.below hA.1 hA.rows hbw.size)
        exact ⟨⟨k + 1, v2, by simp, by omega, by rw [HLEN.out], hW2, hb2⟩, by simp [intOf]; omega⟩
      · have hpu := wput_any hA (by omega) hbw.size (mo % 2 ^ wid nn) (wid nn : Nat) (Nat.lt_of_le_of_lt (Nat.mod_le _ _) hmo) (by omega) (by omega)
        rw [put_num _ mo nn h1, ← hsn] at hpu
        have hlen : ((stream (acts.take (k + 1))).length : Int) = ((stream (acts.take k)).length : Int) + (wid nn : Int) := by
          rw [hsn, List.length_append]; simp [piece, h1, msb_len]
        have q1 : (wh == 1) = false := by simpa using h1
        have HPU := Lib.hid hpu; have HLEN := Lib.hid hlen; have HLO := Lib.hid hlow
        clear hpu hlow hsn hpl hxk hlen h1
        generalize wid nn = kk at *
        generalize mo % 2 ^ kk = V at *
        generalize (stream (acts.take k)).length = m at *
        go_wp2_with (first
          | (go_at_call 36; refine (HLO.out _).mono ?_; rintro e w0 ⟨rfl, rfl⟩)
          | (go_at_call 11; refine (HPU.out).mono ?_; rintro e w2 ⟨rfl, v2, hW2, hm2⟩))
        have hb2 := hbw.trans (hm2.below hA.1 hA.rows hbw.size)
        exact ⟨⟨k + 1, v2, by simp, by omega, by rw [HLEN.out], hW2, hb2⟩, by simp [intOf]; omega⟩
    · obtain rfl : k = acts.length := by omega
      rw [List.take_length] at hA hsl2 ⊢
      have C1 := Lib.hid (wlen_any hA)
      have hend := fun (b : List Nat) (hP : Packed b (stream acts)) => read_end hP
      have hdv := fun (b : List Nat) (hP : Packed b (stream acts)) => hP.len
      obtain ⟨m, hm⟩ : ∃ m, (stream acts).length = m := ⟨_, rfl⟩
      rw [hm] at hend hdv hsl2 C1 ⊢
      have HEND := Lib.hid hend; have HDV := Lib.hid hdv; have HM := Lib.hid hm; clear hend hdv hm
      go_wp2_with (go_at_call 17; refine (C1.out).mono ?_; rintro e w2 ⟨rfl, rfl⟩)
      refine (wbytes_any hA (by rw [HM.out]; omega)).mono ?_
      rintro e w3 ⟨v3, l3, rfl, hP3, ho3, hbw3⟩
      obtain ⟨A3, c3, rfl, _, _⟩ := ho3.form8
      have hl3 := HDV.out l3 hP3
      have hdiv : ((m : Int) + 7) / 8 = (l3.length : Nat) := by omega
      have hb3 := bthen hbw hbw3 hbw.size
      have hA3 := hA.below hbw3
      clear hl3
      go_wp2_with fail
      refine (wbytes_any hA3 (by rw [HM.out]; omega)).mono ?_
      rintro e w4 ⟨v4, l4, rfl, hP4, ho4, hb34⟩
      obtain ⟨A4, n4, c4, rfl⟩ := ho4.shape
      have hb4 := bthen hb3 hb34 hb3.size
      have hl4 := HDV.out l4 hP4
      have hl4' : l4.length ≤ 1099511627776 := by omega
      clear hl4
      go_wp2_with (go_at_call 22; refine (bnew_any _ l4 _ ho4.sli hP4.byte hl4').mono ?_; rintro e w5 ⟨g5, rfl, hR5, hg5, hb45⟩; have hb5 := bthen hb4 hb45 hb4.size)
      have hgw : w.heap.size ≤ g5 := Nat.le_trans hb4.size hg5
      go_loopw [8] (fun i wr => ∃ (k : Nat), i = .int .i64 k ∧ k ≤ acts.length ∧ RdB wr g5 l4 (stream (acts.take k)).length 0 ∧ Below w.heap.size w wr) (fun i _ => acts.length - (intOf i).toNat)
      case atStart => exact ⟨0, rfl, Nat.zero_le _, hR5, hb5⟩
      case round =>
        obtain ⟨k, rfl, hk, hR, hbr⟩ := hrel
        by_cases hlt : k < acts.length
        · obtain ⟨x, hxk⟩ : ∃ x, acts[k]? = some x := ⟨_, List.getElem?_eq_getElem hlt⟩
          obtain ⟨wh, mo, nn⟩ := x
          obtain ⟨b, o, c, hv, d0, d1, d2, hbB⟩ := (ha.below hbr).get hlt hxk
          injection hv with e1 _ e3
          subst e1; subst e3
          obtain ⟨hmo, hn1, hn2⟩ := hr _ (List.mem_of_getElem? hxk)
          simp only at hmo hn1 hn2
          have hw := wid_le nn
          have hand : bits .and .i64 nn 63 = (wid nn : Nat) := by
            have := i64_mask 6 (by omega) nn
            rw [show ((wid nn : Nat) : Int) = nn % 64 by unfold wid; omega]; exact this
          have hlow := fun W => low_any mo (wid nn) W hmo (by omega)
          by_cases h1 : wh = 1
          · subst h1
            have hpu := bunary_any hR 63 (by omega)
            rw [read_unary hP4 hxk] at hpu
            have HPU := Lib.hid hpu
            clear hpu hlow hxk
            generalize wid nn = kk at *
            go_wp2_with (go_at_call 26; refine (HPU.out).mono ?_; rintro e w6 ⟨rfl, hR6, hgr6⟩)
            exact ⟨⟨k + 1, by simp, by omega, hR6, bonly hbr hgr6 (Nat.le_refl _) hgw⟩, by simp [intOf]; omega⟩
          · have hpu := bget_any (show RdB wr.drew g5 l4 _ 0 from hR) (wid nn : Nat)
            rw [read_get hP4 hxk h1] at hpu
            have q1 : (wh == 1) = false := by simpa using h1
            have HPU := Lib.hid hpu; have HLO := Lib.hid hlow
            clear hpu hlow hxk h1
            generalize wid nn = kk at *
            generalize mo % 2 ^ kk = V at *
            go_wp2
            go_region_held3 (fun w' => w'.cell? ⟨b, o + k * 3 + 1, none⟩ = some (.int .u64 (mo : Nat)))
              (first | go_keep | exact a1)
              (first
                | (go_at_call 24; refine (HPU.out).mono ?_; rintro e w6 ⟨rfl, hR6, hgr6⟩; have a1 := World.grownBy.cell hgr6 (a := ⟨b, o + k * 3 + 1, none⟩) d1 (by simp; omega))
                | (go_at_call 36; refine (HLO.out _).mono ?_; rintro e w7 ⟨rfl, rfl⟩))
            all_goals
              go_wp2
              exact ⟨⟨k + 1, by simp, by omega, hR6, bonly hbr.drew hgr6 (Nat.le_refl _) hgw⟩, by simp [intOf]; omega⟩
        · obtain rfl : k = acts.length := by omega
          rw [List.take_length] at hR
          have hal := balign_any hR
          have hend := HEND.out l4 hP4
          rw [← HM.out] at hend
          rw [hend] at hal
          have HAL := Lib.hid hal; clear hal hend
          go_wp2_with (first
            | (go_at_call 28; refine (HAL.out).mono ?_; rintro e w6 ⟨rfl, hR6, hgr6⟩; have C6 := bleft_any hR6; rw [show 8 * l4.length - 8 * l4.length = 0 by omega] at C6; have C6 := Lib.hid C6)
            | (go_at_call 35; refine (berr_any hR6).mono ?_; rintro e w7 ⟨rfl, rfl⟩)
            | (go_at_call 33; refine (C6.out).mono ?_; rintro e w7 ⟨rfl, nd, rfl⟩))
          go_ret
          exact ⟨by simp, below_drewN (bonly hbr hgr6 (Nat.le_refl _) hgw) nd⟩

theorem bitsBack_walk (va : Value) (rows : List (List Int)) (w : World) (ha : Recs w w.heap.size va [.i64, .u64, .i64] rows) :
    Calls Try.prog 5 #[va] w fun e w' => e = .returned (.bool true) ∧ Below w.heap.size w w' := by
  obtain ⟨acts, h1, h2⟩ := acts_of_recs ha
  exact back_walk va acts w h1 h2

end Go.Proofs.Ytnlclbocbbcafaa
