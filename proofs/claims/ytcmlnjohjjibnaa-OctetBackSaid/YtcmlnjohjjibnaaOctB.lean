/- octet: numbers and lumps, one behind the other, are read as they were put. -/
import Derived.Test.YtcmlnjohjjibnaaOctV
namespace Go.Proofs.Ytcmlnjohjjibnaa
open Go.RowKit
set_option maxRecDepth 100000
set_option maxHeartbeats 800000

def lumps (bs : List (List Nat)) : List Nat := bs.flatMap lump
theorem lumps_take (bs : List (List Nat)) {k : Nat} {b : List Nat} (h : bs[k]? = some b) : lumps (bs.take (k + 1)) = lumps (bs.take k) ++ lump b := by
  rw [List.take_add_one, h]; simp [lumps]
theorem vputs_take (l : List Nat) {k x : Nat} (h : l[k]? = some x) : vputs (l.take (k + 1)) = vputs (l.take k) ++ vput x := by
  rw [List.take_add_one, h]; simp [vputs]
theorem lumps_byte (bs : List (List Nat)) (h : ∀ b ∈ bs, ∀ x ∈ b, x < 256) : ∀ x ∈ lumps bs, x < 256 := by
  intro x hx
  obtain ⟨b, hb, hx⟩ := List.mem_flatMap.1 hx
  rcases List.mem_append.1 hx with h1 | h1
  · exact vput_byte _ x h1
  · exact h b hb x h1
theorem lumps_len (bs : List (List Nat)) : ∀ k, (∀ j b, j < k → bs[j]? = some b → b.length ≤ 200) → k ≤ bs.length → (lumps (bs.take k)).length ≤ 210 * k := by
  intro k
  induction k with
  | zero => intro _ _; simp [lumps]
  | succ k ih =>
    intro h hk
    obtain ⟨b, hb⟩ : ∃ b, bs[k]? = some b := ⟨_, List.getElem?_eq_getElem (by omega)⟩
    rw [lumps_take bs hb, List.length_append]
    have h1 := ih (fun j b hj => h j b (by omega)) (by omega)
    have h2 := h k b (by omega) hb
    have h3 := vput_len10 (n := b.length) (by omega)
    simp only [lump, List.length_append]
    omega
/-- What is left behind the first k numbers, and behind the first k lumps. -/
theorem num_step {l m : List Nat} {k x : Nat} (h : l[k]? = some x) (hx : x < 18446744073709551616) :
    rdNum (vputs l ++ m) (vputs (l.take k)).length 0 18446744073709551615 = (x, (vputs (l.take (k + 1))).length, 0) := by
  have e : (vputs l ++ m).drop (vputs (l.take k)).length = vput x ++ (vputs (l.drop (k + 1)) ++ m) := by
    have : l = l.take k ++ x :: l.drop (k + 1) := by
      obtain ⟨hk, e⟩ := List.getElem?_eq_some_iff.1 h
      conv => lhs; rw [← List.take_append_drop k l, List.drop_eq_getElem_cons hk, e]
    conv => lhs; rw [show vputs l = vputs (l.take k) ++ (vput x ++ vputs (l.drop (k + 1))) by conv => lhs; rw [this, vputs_append, vputs_cons]]
    rw [List.append_assoc, List.drop_left, List.append_assoc]
  unfold rdNum
  rw [if_pos rfl, e, vrd_put _ hx]
  simp only [if_true]
  rw [if_neg (by omega), vputs_take l h, List.length_append]
theorem lump_step {a : List Nat} {bs : List (List Nat)} {k : Nat} {b : List Nat} (h : bs[k]? = some b) (hb : b.length ≤ 200) :
    rdLump (a ++ lumps bs) (a.length + (lumps (bs.take k)).length) 0 200 = (b, a.length + (lumps (bs.take (k + 1))).length, 0) := by
  have e : (a ++ lumps bs).drop (a.length + (lumps (bs.take k)).length) = vput b.length ++ (b ++ lumps (bs.drop (k + 1))) := by
    have : bs = bs.take k ++ b :: bs.drop (k + 1) := by
      obtain ⟨hk, e⟩ := List.getElem?_eq_some_iff.1 h
      conv => lhs; rw [← List.take_append_drop k bs, List.drop_eq_getElem_cons hk, e]
    conv => lhs; rw [show lumps bs = lumps (bs.take k) ++ (lump b ++ lumps (bs.drop (k + 1))) from (congrArg lumps this).trans (by simp [lumps])]
    rw [← List.append_assoc, ← List.length_append, List.drop_left, lump, List.append_assoc]
  have hn : rdNum (a ++ lumps bs) (a.length + (lumps (bs.take k)).length) 0 200 = (b.length, a.length + (lumps (bs.take k)).length + (vput b.length).length, 0) := by
    unfold rdNum
    rw [if_pos rfl, e, vrd_put _ (by omega)]
    simp only [if_true]
    rw [if_neg (by omega)]
  have e2 : (a ++ lumps bs).drop (a.length + (lumps (bs.take k)).length + (vput b.length).length) = b ++ lumps (bs.drop (k + 1)) := by
    rw [← List.drop_drop, e, List.drop_left]
  have hl : (a ++ lumps bs).length - (a.length + (lumps (bs.take k)).length + (vput b.length).length) = b.length + (lumps (bs.drop (k + 1))).length := by
    have := congrArg List.length e2
    simpa using this
  have ht : rdTake (a ++ lumps bs) (a.length + (lumps (bs.take k)).length + (vput b.length).length) 0 b.length = (b, a.length + (lumps (bs.take (k + 1))).length, 0) := by
    unfold rdTake
    rw [if_pos rfl, if_neg (by omega), e2, List.take_left, lumps_take bs h]
    simp only [lump, List.length_append, Prod.mk.injEq, true_and, and_true]; omega
  unfold rdLump
  simp only [hn, ht, if_true]

theorem octetBack_walk (vl : Value) (l : List Nat) (vb : Value) (bs : List (List Nat)) (w : World) (hl : Sli w w.heap.size vl (cu64 l)) (hx : ∀ x ∈ l, x < 18446744073709551616) (hb : Sls w w.heap.size vb bs) (hbx : ∀ b ∈ bs, ∀ x ∈ b, x < 256) :
    Calls Try.prog 4 #[vl, vb] w fun e w' => e = .returned (.bool true) ∧ Below w.heap.size w w' := by
  obtain ⟨A1, c1, rfl, hlc1, hcm1⟩ := hl.form64
  obtain ⟨A2, c2, rfl, hlc2, hcm2⟩ := hb.form
  by_cases h40 : 40 < l.length
  · go_enter Try.func4, Try.ntmps4
    go_wp2_with (go_at_call 10; refine (known_any _).mono ?_; rintro e w1 ⟨rfl, hb1⟩)
    go_ret
    exact ⟨rfl, hb1⟩
  by_cases h10 : 10 < bs.length
  · go_enter Try.func4, Try.ntmps4
    go_wp2_with (go_at_call 10; refine (known_any _).mono ?_; rintro e w1 ⟨rfl, hb1⟩)
    go_ret
    exact ⟨rfl, hb1⟩
  have hvl := vputs_len10 l hx l.length (Nat.le_refl _)
  rw [List.take_length] at hvl
  go_enter Try.func4, Try.ntmps4
  go_wp2_with (first
    | (go_at_call 10; refine (known_any _).mono ?_; rintro e w1 ⟨rfl, hb1⟩)
    | (go_at_call 28; refine (put_any _ l w1 ((hl.below hb1).more hb1.size) hx (by omega)).mono ?_; rintro e w2 ⟨v2, rfl, ho2, hb2⟩))
  have hb12 := bthen hb1 hb2 hb1.size
  go_loopw [5, 6] (fun v i wr => ∃ k : Nat, k ≤ bs.length ∧ i = .int .i64 k ∧ Own wr w.heap.size 5 v (cu8 (vputs l ++ lumps (bs.take k))) ∧ Below w.heap.size w wr ∧ Hid (∀ j b, j < k → bs[j]? = some b → b.length ≤ 200)) (fun _ i _ => bs.length - (intOf i).toNat)
  case atStart => exact ⟨0, Nat.zero_le _, rfl, by simpa [lumps] using ho2.mono hb1.size, hb12, fun j b hj => absurd hj (by omega)⟩
  case round =>
    obtain ⟨k, hk, rfl, ho, hbw, h200⟩ := hrel
    have hlk := lumps_len bs k h200.out hk
    by_cases hlt : k < bs.length
    · obtain ⟨b, hbk⟩ : ∃ b, bs[k]? = some b := ⟨_, List.getElem?_eq_getElem hlt⟩
      obtain ⟨bb, oo, x, rfl, hbl, hcell, hSx⟩ := (hb.below hbw).get hbk
      obtain ⟨A3, c3, rfl, hlc3, hcm3⟩ := hSx.form8
      have htk := lumps_take bs hbk
      have HTK := Lib.hid htk; have HBK := Lib.hid hbk
      clear htk hbk
      by_cases hbig : 200 < b.length
      · go_wp2
        go_ret
        exact ⟨rfl, hbw⟩
      · have hroom : (cu8 (vputs l ++ lumps (bs.take k))).length + (cu8 (lump b)).length ≤ 8796093022208 := by
          have := vput_len10 (n := b.length) (by omega)
          simp only [cu8_len, lump, List.length_append]; omega
        go_wp2_with (first
          | (go_at_call 29; refine (olump_any _ b wr (hSx.more hbw.size) (by omega)).mono ?_; rintro e w4 ⟨v4, rfl, ho4, hb4⟩; have ho' := ho.kept hb4)
          | (at_builtin; refine wpl_appN ho' ho4.sli (Nat.le_trans hbw.size hb4.size) hroom Try.underlying22 info_u8 rfl (by decide) (cu8_one _) rfl rfl rfl rfl ?_; intro v5 w5 ho5 hb5; rw [← cu8_app, List.append_assoc, ← HTK.out] at ho5))
        refine ⟨⟨k + 1, by omega, by simp, ho5, (bthen hbw hb4 hbw.size).trans hb5, fun j b' hj hj2 => ?_⟩, by simp [intOf]; omega⟩
        rcases Nat.lt_or_ge j k with h | h
        · exact h200.out j b' h hj2
        · obtain rfl : j = k := by omega
          rw [HBK.out] at hj2
          injection hj2 with hj2
          subst hj2; omega
    · have hkb : k = bs.length := by omega
      subst hkb
      rw [List.take_length] at ho hlk
      have hby : ∀ x ∈ vputs l ++ lumps bs, x < 256 := by
        intro x hx'; rcases List.mem_append.1 hx' with h | h
        · exact vputs_byte l x h
        · exact lumps_byte bs hbx x h
      obtain ⟨A5, c5, rfl, hlc5, hcm5⟩ := ho.form8
      have hlen : (vputs l ++ lumps bs).length = (vputs l).length + (lumps bs).length := by simp
      rw [hlen] at ho hlc5 ⊢
      go_wp2_with (go_at_call 11; refine (new_any _ _ _ (ho.sli) hby (by rw [hlen]; omega)).mono ?_; rintro e w6 ⟨g, rfl, hR6, hg6, hb6⟩)
      go_loopw [8] (fun i wr => ∃ k : Nat, k ≤ l.length ∧ i = .int .i64 k ∧ RdO wr g (vputs l ++ lumps bs) (vputs (l.take k)).length 0 ∧ Below w.heap.size w wr) (fun i _ => l.length - (intOf i).toNat)
      case atStart => exact ⟨0, Nat.zero_le _, rfl, hR6, bthen hbw hb6 hbw.size⟩
      case round =>
        obtain ⟨k, hk, rfl, hR, hbw7⟩ := hrel
        by_cases hlt2 : k < l.length
        · obtain ⟨b, o, u, rfl, hbl, hcell, hu⟩ := (Sli.hasn (hl.below hbw7)).get hlt2
          obtain ⟨x, hxk⟩ : ∃ x, l[k]? = some x := ⟨_, List.getElem?_eq_getElem hlt2⟩
          have hx' := hx x (List.mem_of_getElem? hxk)
          have hu' : u = .int .u64 (x : Nat) := by simpa [cu64, hxk] using hu.symm
          subst hu'
          have hst := num_step (m := lumps bs) hxk hx'
          have HST := Lib.hid hst; clear hst hxk hu
          have hbg : b ≠ g := by have := hbw.size; omega
          go_wp2
          go_region_with (go_at_call 13; refine (num_any (show RdO wr.drew _ _ _ _ from hR) 18446744073709551615).mono ?_; rw [HST.out]; rintro e w8 ⟨rfl, hR8, hg8⟩; have hc8 := World.grownBy.cell hg8 (a := ⟨b, o + k, none⟩) hcell (by simpa using hbg); have hb8 : Below w.heap.size w w8 := bonly hbw7.drew hg8 (Nat.le_refl _) (by have := hbw.size; omega))
          all_goals go_wp2
          all_goals exact ⟨⟨k + 1, by omega, by simp, hR8, hb8⟩, by simp [intOf]; omega⟩
        · have hkl : k = l.length := by omega
          subst hkl
          rw [List.take_length] at hR
          clear hlt2
          go_wp2
          go_loopw [9] (fun i wr => ∃ k : Nat, k ≤ bs.length ∧ i = .int .i64 k ∧ RdO wr g (vputs l ++ lumps bs) ((vputs l).length + (lumps (bs.take k)).length) 0 ∧ Below w.heap.size w wr) (fun i _ => bs.length - (intOf i).toNat)
          case atStart => exact ⟨0, Nat.zero_le _, rfl, by simpa [lumps] using hR, hbw7⟩
          case round =>
            obtain ⟨k, hk, rfl, hRk, hbw9⟩ := hrel
            by_cases hlt2 : k < bs.length
            · obtain ⟨b, hbk⟩ : ∃ b, bs[k]? = some b := ⟨_, List.getElem?_eq_getElem hlt2⟩
              obtain ⟨bb, oo, x, rfl, hbl, hcell, hSx⟩ := (hb.below hbw9).get hbk
              have hb200 := h200.out k b hlt2 hbk
              have hbyte := hbx b (List.mem_of_getElem? hbk)
              have hst := lump_step (a := vputs l) hbk hb200
              have HST := Lib.hid hst; clear hst hbk
              have hbg : bb ≠ g := by have := hbw.size; omega
              go_wp2
              go_region_with (first
                | (go_at_call 22; refine (rlump_any (show RdO wr.drew _ _ _ _ from hRk) 200 (by omega) (by omega)).mono ?_; rw [show (200 : Int).toNat = 200 from rfl, HST.out]; rintro e w10 ⟨v10, rfl, ho10, hR10, hg10⟩; have hc10 := World.grownBy.cell hg10 (a := ⟨bb, oo + k, none⟩) hcell (by simpa using hbg); have hb10 : Below w.heap.size w w10 := bonly hbw9.drew hg10 (Nat.le_refl _) (by have := hbw.size; omega); have hS10 : Sli w10 w.heap.size x (cu8 b) := (show Sli wr.drew w.heap.size x (cu8 b) from hSx).below (below_of_only hg10 (by have := hbw.size; omega) hbw9.size))
                | (go_at_call 19; refine (same_any _ _ b b _ _ _ ho10.sli hS10 hbyte hbyte).mono ?_; rw [decide_eq_true rfl]; rintro e w11 ⟨rfl, rfl⟩))
              all_goals go_wp2
              all_goals exact ⟨⟨k + 1, by omega, by simp, hR10, hb10⟩, by simp [intOf]; omega⟩
            · have hkb : k = bs.length := by omega
              subst hkb
              rw [List.take_length, ← hlen] at hRk
              go_wp2_with (first
                | (go_at_call 27; refine (err_any hRk).mono ?_; rintro e w12 ⟨rfl, rfl⟩)
                | (go_at_call 25; refine (left_any hRk).mono ?_; rw [Nat.sub_self]; rintro e w12 ⟨rfl, n12, rfl⟩)
                | (go_at_call 24; refine (at_any (hRk.drewN n12)).mono ?_; rw [hlen]; rintro e w12 ⟨rfl, rfl⟩))
              go_ret
              exact ⟨rfl, below_drewN hbw9 _⟩

end Go.Proofs.Ytcmlnjohjjibnaa
