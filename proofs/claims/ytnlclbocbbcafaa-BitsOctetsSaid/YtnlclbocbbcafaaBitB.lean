/- bits: BitsOctets. -/
import Derived.Test.YtnlclbocbbcafaaBitM
namespace Go.Proofs.Ytnlclbocbbcafaa
open Go.RowKit
set_option maxRecDepth 100000
set_option maxHeartbeats 400000

/-- The bits of bytes. -/
def unp (l : List Nat) : List Bool := l.flatMap fun x => msb x 8
theorem unp_len (l : List Nat) : (unp l).length = 8 * l.length := by
  induction l with
  | nil => rfl
  | cons x r ih => simp only [unp, List.flatMap_cons, List.length_append, msb_len, List.length_cons] at ih ⊢; omega
theorem unp_snoc (l : List Nat) (x : Nat) : unp (l ++ [x]) = unp l ++ msb x 8 := by simp [unp]
theorem unp_rev : ∀ r : List Nat, (∀ x ∈ r, x < 256) → Packed r.reverse (unp r.reverse) := by
  intro r
  induction r with
  | nil => intro _; exact Packed.nil
  | cons x r ih =>
    intro h
    have hl := ih fun y hy => h y (by simp [hy])
    have hx : x < 256 := h x (by simp)
    have hln := unp_len r.reverse
    have := Packed.put (l := r.reverse ++ [0]) (L := unp r.reverse) (c := x) (s := 8) (x := 0) (by rw [List.length_append, hln]; simp) (fun y hy => by
        rcases List.mem_append.1 hy with h' | h'
        · exact hl.byte y h'
        · have : y = 0 := by simpa using h'
          omega) (fun i => (bitAt_zero r.reverse i).trans (hl.bit i)) (by omega) (by omega) hx (by rw [show (unp r.reverse).length / 8 = r.reverse.length by omega]; simp)
    rw [hln, show 8 * r.reverse.length / 8 = r.reverse.length by omega, show 8 - 8 * r.reverse.length % 8 - 8 = 0 by omega] at this
    rw [List.reverse_cons, unp_snoc]
    simpa using this
theorem unp_packed (l : List Nat) (h : ∀ x ∈ l, x < 256) : Packed l (unp l) := by
  have := unp_rev l.reverse fun x hx => h x (by simpa using hx)
  simpa using this

theorem bitsOctets_walk (vb : Value) (l : List Nat) (skip : Int) (w : World) (hl : Sli w w.heap.size vb (cu8 l)) (hx : ∀ x ∈ l, x < 256) (_ : -9223372036854775808 ≤ skip) (_ : skip ≤ 9223372036854775807) :
    Calls Try.prog 7 #[vb, .int .i64 skip] w fun e w' => e = .returned (.bool true) ∧ Below w.heap.size w w' := by
  obtain ⟨A, c, rfl, hlc, hcm⟩ := hl.form8
  by_cases h200 : 200 < l.length
  · go_enter Try.func7, Try.ntmps7
    go_wp2_with (go_at_call 10; refine (known_any _).mono ?_; rintro e w1 ⟨rfl, hb1⟩)
    go_ret
    exact ⟨rfl, hb1⟩
  have hn200 : l.length ≤ 200 := by omega
  clear h200
  obtain ⟨s, hs⟩ : ∃ s : Nat, skip % 4096 = (s : Nat) := ⟨(skip % 4096).toNat, by omega⟩
  have hand : bits .and .i64 skip 4095 = (s : Nat) := by rw [← hs]; exact i64_mask 12 (by omega) skip
  have hs12 : s ≤ 4095 := by omega
  obtain ⟨kk, hkk⟩ : ∃ kk, s % (8 * l.length + 1) = kk := ⟨_, rfl⟩
  have hkl : kk ≤ 8 * l.length := by have := Nat.mod_lt s (show 0 < 8 * l.length + 1 by omega); omega
  have hki : (s : Int) % (8 * (l.length : Int) + 1) = (kk : Nat) := by rw [← hkk]; simp
  clear hs hkk
  have hun := unp_packed l hx
  have HUN := Lib.hid hun; clear hun
  have HX := Lib.hid hx; clear hx
  go_enter Try.func7, Try.ntmps7
  go_wp2_with (go_at_call 10; refine (known_any _).mono ?_; rintro e w1 ⟨rfl, hb1⟩)
  have hW0 := WrO.start w1 (Nat.le_refl _)
  have hbw0 : Below w1.heap.size w1 (w1.alloc (.cells #[.slice none 0 0, .int .i64 0] 27)) := (Below.refl _ _).alloc (Nat.le_refl _) _
  go_loopw [6] (fun i wr => ∃ (k : Nat) (v1 : Value), i = .int .i64 k ∧ k ≤ l.length ∧ WrO wr w1.heap.size w1.heap.size v1 (unp (l.take k)) ∧ Below w1.heap.size w1 wr) (fun i _ => l.length - (intOf i).toNat)
  case atStart => exact ⟨0, _, rfl, Nat.zero_le _, hW0, hbw0⟩
  case round =>
    obtain ⟨k, v1, rfl, hk, hW, hbw⟩ := hrel
    have hb0w := bthen hb1 hbw hb1.size
    have hlw := hl.below hb0w
    by_cases hlt : k < l.length
    · obtain ⟨b, o, u, rfl, hb, hcell, hu⟩ := hlw.hasn.get hlt
      obtain ⟨x, hxk⟩ : ∃ x, l[k]? = some x := ⟨_, List.getElem?_eq_getElem hlt⟩
      have hx' : x < 256 := HX.out x (List.mem_of_getElem? hxk)
      have hu' : u = .int .u8 (x : Nat) := by simpa [cu8, hxk] using hu.symm
      subst hu'
      have hun2 : (unp (l.take k)).length ≤ 1099511627776 := by rw [unp_len, List.length_take]; omega
      have hp : wPut (unp (l.take k)) x 8 = (unp (l.take (k + 1)), 0) := by
        rw [wPut, if_neg (by simp; omega), List.take_add_one, hxk, Option.toList_some, unp_snoc]; rfl
      have hpu := wput_any hW hun2 hbw.size x 8 (by omega) (by omega) (by omega)
      rw [hp] at hpu
      have HPU := Lib.hid hpu; clear hpu hp hu hxk
      go_wp2_with (go_at_call 11; refine (HPU.out).mono ?_; rintro e w2 ⟨rfl, v2, hW2, hm2⟩; have hb2 := hbw.trans (hm2.below hW.1 hW.rows hbw.size))
      exact ⟨⟨k + 1, v2, by simp, by omega, hW2, hb2⟩, by simp [intOf]; omega⟩
    · obtain rfl : k = l.length := by omega
      rw [List.take_length] at hW
      have hnew := bnew_any _ l wr (hlw.more hb0w.size) HX.out (by omega)
      have HNEW := Lib.hid hnew; clear hnew
      have hun2 : (unp l).length ≤ 1099511627776 := by rw [unp_len]; omega
      go_wp2_with (first
        | (go_at_call 22; refine (HNEW.out).mono ?_; rintro e w4 ⟨g4, rfl, hR4, hg4, hb34⟩; have hb4 := bthen hb0w hb34 hb0w.size; have hW4 := hW.below hb34)
        | (go_at_call 20; refine (wbytes_any hW4 hun2).mono ?_; rintro e w5 ⟨v5, l5, rfl, hP5, ho5, hb45⟩; obtain rfl := hP5.uniq HUN.out; have hb5 := bthen hb4 hb45 hb4.size; have hR5 := hR4.below hb45)
        | (go_at_call 19; refine (same_any _ _ l5 l5 w5 _ _ ho5.sli ((hl.below hb5)) hP5.byte hP5.byte).mono ?_; rw [decide_eq_true rfl]; rintro e w6 ⟨rfl, rfl⟩))
      rw [hki]
      go_loopw [9] (fun i wr => ∃ (j : Nat), i = .int .i64 j ∧ j ≤ kk ∧ RdB wr g4 l5 j 0 ∧ Below w.heap.size w wr) (fun i _ => kk - (intOf i).toNat)
      case atStart => exact ⟨0, rfl, Nat.zero_le _, hR5, hb5⟩
      case round =>
        obtain ⟨j, rfl, hj, hR, hbr⟩ := hrel
        have hg4w : w.heap.size ≤ g4 := Nat.le_trans hb0w.size hg4
        by_cases hjk : j < kk
        · have hg := bget_any hR 1
          rw [show gGet (bitAt l5) (8 * l5.length) j 0 1 = (bnum (bitAt l5) j 1, j + 1, 0) by unfold gGet; rw [if_pos rfl, if_neg (by omega), if_neg (by omega)]; rfl] at hg
          have HG := Lib.hid hg; clear hg
          go_wp2_with (go_at_call 24; refine (HG.out).mono ?_; rintro e w6 ⟨rfl, hR6, hgr6⟩)
          exact ⟨⟨j + 1, by simp, by omega, hR6, bonly hbr hgr6 (Nat.le_refl _) hg4w⟩, by simp [intOf]; omega⟩
        · obtain rfl : j = kk := by omega
          have hg := fun q => bget_any (hR.drewN q) 64
          have hle : ((8 * l5.length - j : Nat) : Int) = 8 * (l5.length : Int) - (j : Int) := by omega
          have hleft := bleft_any hR
          rw [hle] at hleft
          have HLE := Lib.hid hleft; clear hleft hle
          by_cases h64 : 8 * l5.length - j < 64
          · rw [show gGet (bitAt l5) (8 * l5.length) j 0 64 = (0, j, 3) by unfold gGet; rw [if_pos rfl, if_neg (by omega), if_pos (by exact h64)]] at hg
            have HGD := Lib.hid hg; clear hg
            have hgt : 8 * (l5.length : Int) - 64 < (j : Int) := by omega
            clear h64
            go_wp2_with (first
              | (go_at_call 35; refine (berr_any hR7).mono ?_; rintro e w9 ⟨rfl, rfl⟩)
              | (go_at_call 32; refine (bat_any hR7).mono ?_; rintro e w9 ⟨rfl, rfl⟩)
              | (go_at_call 32; refine (bat_any hR).mono ?_; rintro e w6 ⟨rfl, rfl⟩)
              | (go_at_call 33; refine (HLE.out).mono ?_; rintro e w6 ⟨rfl, nd, rfl⟩)
              | (go_at_call 24; refine (HGD.out nd).mono ?_; rintro e w7 ⟨rfl, hR7, hgr7⟩))
            go_ret
            exact ⟨by simp, bonly (below_drewN hbr nd) hgr7 (Nat.le_refl _) hg4w⟩
          · rw [show gGet (bitAt l5) (8 * l5.length) j 0 64 = (bnum (bitAt l5) j 64, j + 64, 0) by unfold gGet; rw [if_pos rfl, if_neg (by omega), if_neg (by exact h64)]; rfl] at hg
            generalize bnum (bitAt l5) j 64 = V at hg
            have HGD := Lib.hid hg; clear hg
            have hgt : ¬ 8 * (l5.length : Int) - 64 < (j : Int) := by omega
            clear h64
            go_wp2_with (first
              | (go_at_call 35; refine (berr_any hR7).mono ?_; rintro e w9 ⟨rfl, rfl⟩)
              | (go_at_call 32; refine (bat_any hR7).mono ?_; rintro e w9 ⟨rfl, rfl⟩)
              | (go_at_call 32; refine (bat_any hR).mono ?_; rintro e w6 ⟨rfl, rfl⟩)
              | (go_at_call 33; refine (HLE.out).mono ?_; rintro e w6 ⟨rfl, nd, rfl⟩)
              | (go_at_call 24; refine (HGD.out nd).mono ?_; rintro e w7 ⟨rfl, hR7, hgr7⟩))
            go_ret
            exact ⟨by simp, bonly (below_drewN hbr nd) hgr7 (Nat.le_refl _) hg4w⟩

end Go.Proofs.Ytnlclbocbbcafaa
