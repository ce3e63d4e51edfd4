/- sample: Down, Up; the reference's. -/
import Derived.Test.YteopogclmdhphaaSmpW
import Derived.Deep.RegionWith
namespace Go.Proofs.Yteopogclmdhphaa
open Go.RowKit
set_option maxRecDepth 100000
set_option maxHeartbeats 400000

theorem IsZ.ex (A : Int) : ∃ k, IsZ A k := by
  by_cases h0 : A = 0
  · exact ⟨0, by rw [h0]; exact IsZ.zero⟩
  · have : ∀ m : Nat, ∃ n, n ≤ m ∧ A % ((2 ^ n : Nat) : Int) = 0 ∧ (n < m → A % ((2 ^ (n + 1) : Nat) : Int) ≠ 0) := by
      intro m
      induction m with
      | zero => exact ⟨0, by omega, by simp, by omega⟩
      | succ m ih =>
        obtain ⟨n, h1, h2, h3⟩ := ih
        by_cases hn : n < m
        · exact ⟨n, by omega, h2, fun _ => h3 hn⟩
        · obtain rfl : n = m := by omega
          by_cases hz : A % ((2 ^ (n + 1) : Nat) : Int) = 0
          · exact ⟨n + 1, by omega, hz, by omega⟩
          · exact ⟨n, by omega, h2, fun _ => hz⟩
    obtain ⟨n, h1, h2, h3⟩ := this 30
    exact ⟨n, h1, fun h => absurd h h0, fun _ => ⟨h2, h3⟩⟩
theorem MidW.ex {l : List Int} {x : Int} : ∀ (f w : Nat), MidW l x w → 32 - w ≤ f → ∃ k, IsW (l ++ [x]) k
  | 0, w, h, hf => ⟨w, h.done (.inr (.inl (by omega)))⟩
  | f + 1, w, h, hf => by
    rcases Classical.em (okW x w) with hk | hk
    · exact ⟨w, h.done hk⟩
    · have h31 : w ≤ 31 := by
        rcases Nat.lt_or_ge 31 w with h1 | h1
        · exact absurd (.inr (.inl h1)) hk
        · exact h1
      exact MidW.ex f (w + 1) (h.more hk) (by omega)
theorem IsW.ex (l : List Int) : ∃ k, IsW l k := by
  have : ∀ n, n ≤ l.length → ∃ k, IsW (l.take n) k := by
    intro n
    induction n with
    | zero => intro _; exact ⟨0, IsW.nil⟩
    | succ n ih =>
      intro hn
      obtain ⟨k, hk⟩ := ih (by omega)
      rw [List.take_succ_eq_append_getElem (by omega)]
      exact MidW.ex 32 k (hk.mid _) (by omega)
  simpa using this l.length (Nat.le_refl _)
theorem width_is {v : Value} {l : List Int} {w : World} {B k : Nat} (hS : Sli w B v (ci l)) (hn : l.length ≤ 1099511627776) (hk : IsW l k) :
    Calls Try.prog 16 #[v] w fun e w' => e = .returned (.int .i64 k) ∧ w = w' :=
  (width_any v l w B hS hn).mono fun _ _ ⟨m, he, hm, hw⟩ => ⟨by rw [he, hm.uniq hk], hw⟩
theorem rwidth_is {v : Value} {l : List Int} {w : World} {B k : Nat} (hS : Sli w B v (ci l)) (hn : l.length ≤ 1099511627776) (hk : IsW l k) :
    Calls Try.prog 17 #[v] w fun e w' => e = .returned (.int .i64 k) ∧ w = w' :=
  (rwidth_any v l w B hS hn).mono fun _ _ ⟨m, he, hm, hw⟩ => ⟨by rw [he, hm.uniq hk], hw⟩
theorem wasted_is {v : Value} {l : List Int} {w : World} {B k : Nat} (hS : Sli w B v (ci l)) (hn : l.length ≤ 1099511627776) (hk : IsZ (orAll l) k) :
    Calls Try.prog 22 #[v] w fun e w' => e = .returned (.int .i64 k) ∧ w = w' :=
  (wasted_any v l w B hS hn).mono fun _ _ ⟨m, he, hm, hw⟩ => ⟨by rw [he, hm.uniq hk], hw⟩
theorem rwasted_is {v : Value} {l : List Int} {w : World} {B k : Nat} (hS : Sli w B v (ci l)) (hn : l.length ≤ 1099511627776) (hk : IsZ (orAll l) k) :
    Calls Try.prog 23 #[v] w fun e w' => e = .returned (.int .i64 k) ∧ w = w' :=
  (rwasted_any v l w B hS hn).mono fun _ _ ⟨m, he, hm, hw⟩ => ⟨by rw [he, hm.uniq hk], hw⟩

/-- A row of ints of the call's own and an error. -/
def RowPost (r : List Int × Int) (w : World) (e : Ending) (w' : World) : Prop := ∃ v', e = .returned (.tuple #[v', .int .i64 r.2]) ∧ Own w' w.heap.size 3 v' (ci r.1) ∧ Below w.heap.size w w'
def dOk (p : Int) (x : Int) : Bool := wideB x && x % p == 0
def uOk (p : Int) (x : Int) : Bool := wideB x && wideB (x * p)
def downR (l : List Int) (n : Int) : List Int × Int :=
  if shiftB n = true then (if l.all (dOk ((2 : Int) ^ n.toNat)) = true then (l.map (· / ((2 : Int) ^ n.toNat)), 0) else ([], 6)) else ([], 1)
def upR (l : List Int) (n : Int) : List Int × Int :=
  if shiftB n = true then (if l.all (uOk ((2 : Int) ^ n.toNat)) = true then (l.map (· * ((2 : Int) ^ n.toNat)), 0) else ([], 6)) else ([], 1)
theorem fillI_get {L : List Int} {m k : Nat} (hL : L.length = m) (hk : k < m) : (ci (L.take k ++ List.replicate (m - k) 0))[k]? = some (.int .i64 0) := by
  unfold ci
  rw [List.getElem?_map, List.getElem?_append_right (by simp; omega), List.length_take, Nat.min_eq_left (by omega), Nat.sub_self, List.getElem?_replicate, if_pos (by omega)]; rfl
theorem fillI_len {L : List Int} {m k : Nat} (hL : L.length = m) (hk : k ≤ m) : (ci (L.take k ++ List.replicate (m - k) 0)).length = m := by
  simp [ci]; omega
theorem fillI_set {L : List Int} {m k : Nat} {x : Int} (hL : L.length = m) (hk : k < m) (hx : L[k]? = some x) : (ci (L.take k ++ List.replicate (m - k) 0)).set k (.int .i64 x) = ci (L.take (k + 1) ++ List.replicate (m - (k + 1)) 0) := by
  rw [ci_set, List.take_add_one, hx, show m - k = (m - (k + 1)) + 1 by omega, List.replicate_succ, List.set_append_right _ _ (by simp; omega)]
  simp [hL, Nat.min_eq_left (Nat.le_of_lt hk)]
theorem wide_mul {x : Int} {k : Nat} (hx : wideB x = true) (hk : k ≤ 30) : -9223372036854775808 ≤ x * ((2 ^ k : Nat) : Int) ∧ x * ((2 ^ k : Nat) : Int) ≤ 9223372036854775807 := by
  rw [wide_iff] at hx
  have hp : 2 ^ k ≤ 1073741824 := Nat.pow_le_pow_right (n := 2) (by omega) hk
  have h0 : 0 < 2 ^ k := Nat.two_pow_pos k
  generalize 2 ^ k = p at hp h0
  have h1 : x * (p : Int) ≤ 1073741824 * p := Int.mul_le_mul_of_nonneg_right (by omega) (by omega)
  have h2 : -1073741824 * (p : Int) ≤ x * p := Int.mul_le_mul_of_nonneg_right (by omega) (by omega)
  omega

theorem dback {x : Int} {k : Nat} (hw : wideB x = true) (hd : x % (2 : Int) ^ k = 0) : (wrap64 (x / 2 ^ k * 2 ^ k) != x) = false := by
  rw [Int.ediv_mul_cancel (Int.dvd_of_emod_eq_zero hd)]
  rw [wide_iff] at hw
  rw [wrap_in (by omega) (by omega)]; simp
theorem dnot {x : Int} {k : Nat} (hw : wideB x = true) (hk : k ≤ 30) (hd : ¬ x % (2 : Int) ^ k = 0) : (wrap64 (x / 2 ^ k * 2 ^ k) != x) = true := by
  rw [wide_iff] at hw
  have hp : 2 ^ k ≤ 1073741824 := Nat.pow_le_pow_right (n := 2) (by omega) hk
  have h0 : 0 < 2 ^ k := Nat.two_pow_pos k
  rw [← pow_cast] at hd ⊢
  generalize 2 ^ k = p at *
  have h1 := Int.emod_nonneg x (b := (p : Int)) (by omega)
  have h2 := Int.emod_lt_of_pos x (b := (p : Int)) (by omega)
  have h3 := Int.mul_ediv_add_emod x p
  rw [Int.mul_comm] at h3
  generalize x / (p : Int) * (p : Int) = z at *
  rw [wrap_in (by omega) (by omega)]
  simp only [bne_iff_ne, ne_eq]; omega
theorem down_any (v : Value) (l : List Int) (n : Int) (w : World) (B : Nat) (hS : Sli w B v (ci l)) (hB : B ≤ w.heap.size) (hn : l.length ≤ 1099511627776) :
    Calls Try.prog 18 #[v, .int .i64 n] w (RowPost (downR l n) w) := by
  obtain ⟨A, c, rfl, hlc, hcm⟩ := hS.formI
  have hs := fun w => isShift_any n w
  by_cases hsn : shiftB n = true
  · rw [hsn] at hs
    have HS := Lib.hid hs; clear hs
    have hbad : l.all (dOk ((2 : Int) ^ n.toNat)) = false → downR l n = ([], 6) := fun h => by unfold downR; rw [if_pos hsn, if_neg (by rw [h]; simp)]
    have hgood : l.all (dOk ((2 : Int) ^ n.toNat)) = true → downR l n = (l.map (· / ((2 : Int) ^ n.toNat)), 0) := fun h => by unfold downR; rw [if_pos hsn, if_pos h]
    obtain ⟨k, rfl⟩ := Int.eq_ofNat_of_zero_le (shiftB_iff.1 hsn).1
    have hk : k ≤ 30 := by have := (shiftB_iff.1 hsn).2; omega
    rw [Int.toNat_natCast] at hbad hgood
    have HBAD := Lib.hid hbad; have HGOOD := Lib.hid hgood
    clear hbad hgood hsn
    generalize downR l k = r at *
    obtain ⟨m, hml⟩ : ∃ m, l.length = m := ⟨_, rfl⟩
    rw [hml] at hS hlc hn ⊢
    have HML := Lib.hid hml
    have HLL := Lib.hid (show (l.map (· / ((2 : Int) ^ k))).length = m by rw [List.length_map, hml])
    clear hml
    go_enter Try.func18, Try.ntmps18
    go_wp2_with (first
      | (go_at_call 30; refine (HS.out _).mono ?_; rintro e w1 ⟨rfl, rfl⟩)
      | (at_make; refine wpl_make Try.underlying22 info_int rfl (by decide) (by omega) rfl rfl rfl rfl (h := ?_); intro w2 ho2 hb2; refine cut_here ?_))
    unfold CutHere
    obtain ⟨G, hG⟩ : ∃ G, w.heap.size = G := ⟨_, rfl⟩
    have HG := Lib.hid hG
    rw [hG] at ho2 hb2 hB ⊢
    clear hG
    go_wp2
    go_loopw [17] (fun ii wr => ∃ i : Nat, i ≤ m ∧ ii = .int .i64 i ∧ Own wr G 3 (.slice (some ⟨G, 0, none⟩) m m) (ci ((l.map (· / ((2 : Int) ^ k))).take i ++ List.replicate (m - i) 0)) ∧ Below G w wr ∧ Hid ((l.take i).all (dOk ((2 : Int) ^ k)) = true)) (fun ii _ => m - (intOf ii).toNat)
    case atStart => exact ⟨0, by omega, rfl, by simpa [ci] using ho2, hb2, rfl⟩
    case round =>
      obtain ⟨i, hi, rfl, ho, hb, hall⟩ := hrel
      by_cases him : i < m
      · have hil : i < l.length := by rw [HML.out]; exact him
        obtain ⟨b, o, rfl, hb1, hcell⟩ := (hS.below (hb.mono hB)).atI hil
        have htk : (l.take (i + 1)).all (dOk ((2 : Int) ^ k)) = ((l.take i).all (dOk ((2 : Int) ^ k)) && dOk ((2 : Int) ^ k) l[i]) := by rw [List.take_succ_eq_append_getElem hil, List.all_append]; simp only [List.all_cons, List.all_nil, Bool.and_true]
        have hno : dOk ((2 : Int) ^ k) l[i] = false → l.all (dOk ((2 : Int) ^ k)) = false := fun h => List.all_eq_false.2 ⟨l[i], List.getElem_mem _, by rw [h]; simp⟩
        have hget : (l.map (· / ((2 : Int) ^ k)))[i]? = some (l[i] / ((2 : Int) ^ k)) := by simp [hil]
        have HT := Lib.hid htk; have HNO := Lib.hid hno; have HGET := Lib.hid hget; clear htk hno hget
        generalize l[i] = x at *
        clear hil
        have hx := fun w => isWide_any x w
        have hdok : dOk ((2 : Int) ^ k) x = (wideB x && x % ((2 : Int) ^ k) == 0) := rfl
        cases hwx : wideB x
        · rw [hwx] at hx hdok
          have hf := Lib.hid (HNO.out (by rw [hdok]; rfl))
          have HX := Lib.hid hx
          clear hx hwx hdok
          go_wp2_with (go_at_call 31; refine (HX.out _).mono ?_; rintro e w1 ⟨rfl, rfl⟩)
          go_ret2
          rw [HBAD.out hf.out]
          exact ⟨_, rfl, Own.nil _ _ _, by rw [HG.out]; exact hb⟩
        · rw [hwx] at hx hdok
          have HX := Lib.hid hx
          clear hx
          by_cases hd : x % ((2 : Int) ^ k) = 0
          · have ht := Lib.hid (HT.out.trans (by rw [hall.out, hdok, hd, Bool.true_and, Bool.true_and, beq_self_eq_true]))
            have hne := dback hwx hd
            obtain ⟨g2, cc, hv, hg2, _, _, hcells, hfro, hset⟩ := ho.at_ (by rw [fillI_len HLL.out hi]; omega)
            injection hv with e1 e2 e3
            injection e1 with e1; injection e1 with e1
            subst e1; subst e3
            have hck := hcells i (by rw [fillI_len HLL.out hi]; exact him)
            rw [fillI_get HLL.out him] at hck
            have hst := hset i (.int .i64 (x / ((2 : Int) ^ k)))
            rw [fillI_set HLL.out him HGET.out] at hst
            have HST := Lib.hid hst
            have hfi := hfro i
            clear hcells hfro hset hst e2 hwx hdok hd
            go_wp2_with (go_at_call 31; refine (HX.out _).mono ?_; rintro e w1 ⟨rfl, rfl⟩)
            exact ⟨⟨i + 1, by omega, by simp, HST.out, hb.setCell (p := ⟨G, i, none⟩) (Nat.le_refl _) _, ht⟩, by simp [intOf]; omega⟩
          · have hf := Lib.hid (HNO.out (by rw [hdok]; simpa using hd))
            have hne := dnot hwx hk hd
            clear hwx hdok hd
            go_wp2_with (go_at_call 31; refine (HX.out _).mono ?_; rintro e w1 ⟨rfl, rfl⟩)
            go_ret2
            rw [HBAD.out hf.out]
            exact ⟨_, rfl, Own.nil _ _ _, by rw [HG.out]; exact hb⟩
      · go_wp2
        go_ret2
        have h1 : i = l.length := by rw [HML.out]; omega
        have h2 : l.take i = l := by rw [h1, List.take_length]
        rw [h2] at hall
        have h3 : (l.map (· / ((2 : Int) ^ k))).take i ++ List.replicate (m - i) 0 = l.map (· / ((2 : Int) ^ k)) := by
          rw [show m - i = 0 by omega, List.replicate_zero, List.append_nil, List.take_of_length_le (by rw [HLL.out]; omega)]
        rw [h3] at ho
        rw [HGOOD.out hall.out]
        exact ⟨_, rfl, by rw [HG.out]; exact ho, by rw [HG.out]; exact hb⟩
  · have hr : downR l n = ([], 1) := by unfold downR; rw [if_neg hsn]
    rw [Bool.eq_false_iff.2 hsn] at hs
    have HS := Lib.hid hs
    rw [hr]
    clear hs hr hsn
    go_enter Try.func18, Try.ntmps18
    go_wp2_with (go_at_call 30; refine (HS.out _).mono ?_; rintro e w1 ⟨rfl, rfl⟩)
    go_ret2
    exact ⟨_, rfl, Own.nil _ _ _, Below.refl _ _⟩
theorem up_any (v : Value) (l : List Int) (n : Int) (w : World) (B : Nat) (hS : Sli w B v (ci l)) (hB : B ≤ w.heap.size) (hn : l.length ≤ 1099511627776) :
    Calls Try.prog 20 #[v, .int .i64 n] w (RowPost (upR l n) w) := by
  obtain ⟨A, c, rfl, hlc, hcm⟩ := hS.formI
  have hs := fun w => isShift_any n w
  by_cases hsn : shiftB n = true
  · rw [hsn] at hs
    have HS := Lib.hid hs; clear hs
    have hbad : l.all (uOk ((2 : Int) ^ n.toNat)) = false → upR l n = ([], 6) := fun h => by unfold upR; rw [if_pos hsn, if_neg (by rw [h]; simp)]
    have hgood : l.all (uOk ((2 : Int) ^ n.toNat)) = true → upR l n = (l.map (· * ((2 : Int) ^ n.toNat)), 0) := fun h => by unfold upR; rw [if_pos hsn, if_pos h]
    obtain ⟨k, rfl⟩ := Int.eq_ofNat_of_zero_le (shiftB_iff.1 hsn).1
    have hk : k ≤ 30 := by have := (shiftB_iff.1 hsn).2; omega
    rw [Int.toNat_natCast] at hbad hgood
    have HBAD := Lib.hid hbad; have HGOOD := Lib.hid hgood
    clear hbad hgood hsn
    generalize upR l k = r at *
    obtain ⟨m, hml⟩ : ∃ m, l.length = m := ⟨_, rfl⟩
    rw [hml] at hS hlc hn ⊢
    have HML := Lib.hid hml
    have HLL := Lib.hid (show (l.map (· * ((2 : Int) ^ k))).length = m by rw [List.length_map, hml])
    clear hml
    go_enter Try.func20, Try.ntmps20
    go_wp2_with (first
      | (go_at_call 30; refine (HS.out _).mono ?_; rintro e w1 ⟨rfl, rfl⟩)
      | (at_make; refine wpl_make Try.underlying22 info_int rfl (by decide) (by omega) rfl rfl rfl rfl (h := ?_); intro w2 ho2 hb2; refine cut_here ?_))
    unfold CutHere
    obtain ⟨G, hG⟩ : ∃ G, w.heap.size = G := ⟨_, rfl⟩
    have HG := Lib.hid hG
    rw [hG] at ho2 hb2 hB ⊢
    clear hG
    go_wp2
    go_loopw [17] (fun ii wr => ∃ i : Nat, i ≤ m ∧ ii = .int .i64 i ∧ Own wr G 3 (.slice (some ⟨G, 0, none⟩) m m) (ci ((l.map (· * ((2 : Int) ^ k))).take i ++ List.replicate (m - i) 0)) ∧ Below G w wr ∧ Hid ((l.take i).all (uOk ((2 : Int) ^ k)) = true)) (fun ii _ => m - (intOf ii).toNat)
    case atStart => exact ⟨0, by omega, rfl, by simpa [ci] using ho2, hb2, rfl⟩
    case round =>
      obtain ⟨i, hi, rfl, ho, hb, hall⟩ := hrel
      by_cases him : i < m
      · have hil : i < l.length := by rw [HML.out]; exact him
        obtain ⟨b, o, rfl, hb1, hcell⟩ := (hS.below (hb.mono hB)).atI hil
        have htk : (l.take (i + 1)).all (uOk ((2 : Int) ^ k)) = ((l.take i).all (uOk ((2 : Int) ^ k)) && uOk ((2 : Int) ^ k) l[i]) := by rw [List.take_succ_eq_append_getElem hil, List.all_append]; simp only [List.all_cons, List.all_nil, Bool.and_true]
        have hno : uOk ((2 : Int) ^ k) l[i] = false → l.all (uOk ((2 : Int) ^ k)) = false := fun h => List.all_eq_false.2 ⟨l[i], List.getElem_mem _, by rw [h]; simp⟩
        have hget : (l.map (· * ((2 : Int) ^ k)))[i]? = some (l[i] * ((2 : Int) ^ k)) := by simp [hil]
        have HT := Lib.hid htk; have HNO := Lib.hid hno; have HGET := Lib.hid hget; clear htk hno hget
        generalize l[i] = x at *
        clear hil
        have hx := fun w => isWide_any x w
        have huok : uOk ((2 : Int) ^ k) x = (wideB x && wideB (x * (2 : Int) ^ k)) := rfl
        cases hwx : wideB x
        · rw [hwx] at hx huok
          have hf := Lib.hid (HNO.out (by rw [huok]; rfl))
          have HX := Lib.hid hx
          clear hx hwx huok
          go_wp2_with (go_at_call 31; refine (HX.out _).mono ?_; rintro e w1 ⟨rfl, rfl⟩)
          go_ret2
          rw [HBAD.out hf.out]
          exact ⟨_, rfl, Own.nil _ _ _, by rw [HG.out]; exact hb⟩
        · rw [hwx] at hx huok
          have HX := Lib.hid hx
          clear hx
          obtain ⟨y, hy⟩ : ∃ y, x * 2 ^ k = y := ⟨_, rfl⟩
          have hmul : wrap64 (x * 2 ^ k) = y := by
            have := wide_mul hwx hk
            rw [pow_cast, hy] at this
            rw [hy, wrap_in this.1 this.2]
          have hy1 := fun w => isWide_any y w
          have huok2 : uOk (2 ^ k) x = wideB y := by unfold uOk; rw [hwx, hy]; rfl
          have hget := HGET.out
          rw [hy] at hget
          have HG2 := Lib.hid hget
          clear hget huok hwx hy
          cases hwy : wideB y
          · rw [hwy] at hy1
            have hf := Lib.hid (HNO.out (huok2.trans hwy))
            have HY := Lib.hid hy1
            clear hy1 hwy huok2
            go_wp2_with (first
              | (go_at_call_of 31 (Value.int .i64 x); refine (HX.out _).mono ?_; rintro e w1 ⟨rfl, rfl⟩)
              | (go_at_call 31; refine (HY.out _).mono ?_; rintro e w1 ⟨rfl, rfl⟩))
            go_ret2
            rw [HBAD.out hf.out]
            exact ⟨_, rfl, Own.nil _ _ _, by rw [HG.out]; exact hb⟩
          · rw [hwy] at hy1
            have ht := Lib.hid (HT.out.trans (by rw [hall.out, huok2, hwy, Bool.true_and]))
            have HY := Lib.hid hy1
            obtain ⟨g2, cc, hv, hg2, _, _, hcells, hfro, hset⟩ := ho.at_ (by rw [fillI_len HLL.out hi]; omega)
            injection hv with e1 e2 e3
            injection e1 with e1; injection e1 with e1
            subst e1; subst e3
            have hck := hcells i (by rw [fillI_len HLL.out hi]; exact him)
            rw [fillI_get HLL.out him] at hck
            have hst := hset i (.int .i64 y)
            rw [fillI_set HLL.out him HG2.out] at hst
            have HST := Lib.hid hst
            have hfi := hfro i
            clear hcells hfro hset hst e2 hy1 hwy huok2
            go_wp2_with (first
              | (go_at_call_of 31 (Value.int .i64 x); refine (HX.out _).mono ?_; rintro e w1 ⟨rfl, rfl⟩)
              | (go_at_call 31; refine (HY.out _).mono ?_; rintro e w1 ⟨rfl, rfl⟩))
            exact ⟨⟨i + 1, by omega, by simp, HST.out, hb.setCell (p := ⟨G, i, none⟩) (Nat.le_refl _) _, ht⟩, by simp [intOf]; omega⟩
      · go_wp2
        go_ret2
        have h1 : i = l.length := by rw [HML.out]; omega
        have h2 : l.take i = l := by rw [h1, List.take_length]
        rw [h2] at hall
        have h3 : (l.map (· * ((2 : Int) ^ k))).take i ++ List.replicate (m - i) 0 = l.map (· * ((2 : Int) ^ k)) := by
          rw [show m - i = 0 by omega, List.replicate_zero, List.append_nil, List.take_of_length_le (by rw [HLL.out]; omega)]
        rw [h3] at ho
        rw [HGOOD.out hall.out]
        exact ⟨_, rfl, by rw [HG.out]; exact ho, by rw [HG.out]; exact hb⟩
  · have hr : upR l n = ([], 1) := by unfold upR; rw [if_neg hsn]
    rw [Bool.eq_false_iff.2 hsn] at hs
    have HS := Lib.hid hs
    rw [hr]
    clear hs hr hsn
    go_enter Try.func20, Try.ntmps20
    go_wp2_with (go_at_call 30; refine (HS.out _).mono ?_; rintro e w1 ⟨rfl, rfl⟩)
    go_ret2
    exact ⟨_, rfl, Own.nil _ _ _, Below.refl _ _⟩
theorem dOk_all {l : List Int} {k m : Nat} (hz : IsZ (orAll l) k) (hm : m ≤ 30) : l.all (dOk ((2 : Int) ^ m)) = (l.all wideB && !(decide (k < m) && !(l.all (· == 0)))) := by
  cases hw : l.all wideB
  · rw [Bool.false_and]
    obtain ⟨x, hx, hn⟩ := List.all_eq_false.1 hw
    refine List.all_eq_false.2 ⟨x, hx, ?_⟩
    unfold dOk
    simp only [Bool.not_eq_true] at hn
    rw [hn]; simp
  · have hl : i64s l := fun x hx => by
      have := wide_iff.1 (List.all_eq_true.1 hw x hx)
      omega
    have h := hz.lt hl hm
    rw [Bool.true_and, Bool.eq_iff_iff]
    have h1 : l.all (dOk ((2 : Int) ^ m)) = true ↔ ∀ x ∈ l, x % ((2 ^ m : Nat) : Int) = 0 := by
      rw [List.all_eq_true]
      constructor
      · intro h x hx
        have := h x hx
        unfold dOk at this
        rw [pow_cast]
        simpa using (Bool.and_eq_true_iff.1 this).2
      · intro h x hx
        have h2 := h x hx
        rw [pow_cast] at h2
        unfold dOk
        rw [List.all_eq_true.1 hw x hx, h2]; rfl
    have h2 : l.all (· == 0) = true ↔ ∀ x ∈ l, x = 0 := by simp
    rw [h1]
    constructor
    · intro ha
      by_cases hc : k < m ∧ ¬ ∀ x ∈ l, x = 0
      · exact absurd ha (h.1 hc)
      · simp only [Bool.not_eq_true', Bool.and_eq_false_iff, decide_eq_false_iff_not, Bool.not_eq_false']
        by_cases hkm : k < m
        · right; exact h2.2 (Classical.byContradiction fun hne => hc ⟨hkm, hne⟩)
        · left; exact hkm
    · intro hb
      refine Classical.byContradiction fun hne => ?_
      obtain ⟨h3, h4⟩ := h.2 hne
      simp only [Bool.not_eq_true', Bool.and_eq_false_iff, decide_eq_false_iff_not, Bool.not_eq_false'] at hb
      rcases hb with hb | hb
      · exact hb h3
      · exact h4 (h2.1 hb)

theorem rdown_any (v : Value) (l : List Int) (n : Int) (w : World) (B : Nat) (hS : Sli w B v (ci l)) (hB : B ≤ w.heap.size) (hn : l.length ≤ 1099511627776) :
    Calls Try.prog 19 #[v, .int .i64 n] w (RowPost (downR l n) w) := by
  obtain ⟨A, c, rfl, hlc, hcm⟩ := hS.formI
  by_cases hsn : shiftB n = true
  · have hbad : l.all (dOk ((2 : Int) ^ n.toNat)) = false → downR l n = ([], 6) := fun h => by unfold downR; rw [if_pos hsn, if_neg (by rw [h]; simp)]
    have hgood : l.all (dOk ((2 : Int) ^ n.toNat)) = true → downR l n = (l.map (· / ((2 : Int) ^ n.toNat)), 0) := fun h => by unfold downR; rw [if_pos hsn, if_pos h]
    obtain ⟨k, rfl⟩ := Int.eq_ofNat_of_zero_le (shiftB_iff.1 hsn).1
    have hk : k ≤ 30 := by have := (shiftB_iff.1 hsn).2; omega
    rw [Int.toNat_natCast] at hbad hgood
    obtain ⟨q, hq⟩ := IsZ.ex (orAll l)
    have hq30 := hq.1
    have hall := dOk_all hq hk
    have haw := allWide_any _ l w B hS hn
    have hze := zero_any _ l w B hS hn
    have hwa := rwasted_is hS hn hq
    generalize l.all wideB = aw at *
    generalize l.all (· == 0) = ze at *
    have HBAD := Lib.hid hbad; have HGOOD := Lib.hid hgood; have HALL := Lib.hid hall
    clear hbad hgood hsn hall hq
    generalize downR l k = r at *
    obtain ⟨m, hml⟩ : ∃ m, l.length = m := ⟨_, rfl⟩
    rw [hml] at hS hlc hn haw hze hwa ⊢
    have HML := Lib.hid hml
    clear hml
    by_cases hgd : (aw && !(decide (q < k) && !ze)) = true
    · have HG := Lib.hid (HGOOD.out (HALL.out.trans hgd))
      have haw1 : aw = true := (Bool.and_eq_true_iff.1 hgd).1
      subst haw1
      have hor : ¬ q < k ∨ ze = true := by
        have h2 := (Bool.and_eq_true_iff.1 hgd).2
        simp only [Bool.not_eq_true', Bool.and_eq_false_iff, decide_eq_false_iff_not, Bool.not_eq_false'] at h2
        exact h2
      have HAW := Lib.hid haw; have HZE := Lib.hid hze; have HWA := Lib.hid hwa
      have HOR := Lib.hid hor
      clear haw hze hwa hgd hor
      have hloop : True := trivial
      rcases (show (¬ q < k) ∨ (q < k ∧ ze = true) by have := HOR.out; by_cases h : q < k <;> simp_all) with hqk | ⟨hqk, rfl⟩
      all_goals
        go_enter Try.func19, Try.ntmps19
        go_wp2_with (first
          | (go_at_call 28; refine HAW.out.mono ?_; rintro e w1 ⟨rfl, rfl⟩)
          | (go_at_call 23; refine HWA.out.mono ?_; rintro e w1 ⟨rfl, rfl⟩)
          | (go_at_call 32; refine HZE.out.mono ?_; rintro e w1 ⟨rfl, rfl⟩))
        go_loopw [6, 7] (fun v i wr => ∃ j : Nat, j ≤ m ∧ i = .int .i64 j ∧ Own wr w.heap.size 3 v (ci ((l.take j).map (· / ((2 : Int) ^ k)))) ∧ Below w.heap.size w wr) (fun _ i _ => m - (intOf i).toNat)
        case atStart => exact ⟨0, by omega, rfl, Own.nil _ _ _, Below.refl _ _⟩
        case round =>
          obtain ⟨j, hj, rfl, ho, hb⟩ := hrel
          by_cases hjm : j < m
          · have hjl : j < l.length := by rw [HML.out]; exact hjm
            obtain ⟨b, o, rfl, hb1, hcell⟩ := (hS.below (hb.mono hB)).atI hjl
            have htk : ci ((l.take j).map (· / ((2 : Int) ^ k))) ++ [.int .i64 (l[j] / 2 ^ k)] = ci ((l.take (j + 1)).map (· / ((2 : Int) ^ k))) := by
              rw [List.take_succ_eq_append_getElem hjl, List.map_append, ci_app]; rfl
            have HT := Lib.hid htk
            have hlen : (ci ((l.take j).map (· / ((2 : Int) ^ k)))).length + 1 ≤ 8796093022208 := by rw [ci_len, List.length_map, List.length_take]; omega
            clear htk
            generalize l[j] = x at *
            clear hjl
            go_wp2_with (at_builtin; refine wpl_app1 ho hb.size hlen Try.underlying22 info_int rfl (by decide) rfl rfl rfl rfl rfl (h := ?_); intro v2 w2 ho2 hb2)
            rw [HT.out] at ho2
            exact ⟨⟨j + 1, by omega, by simp, ho2, hb.trans hb2⟩, by simp [intOf]; omega⟩
          · go_wp2
            go_ret2
            have h1 : j = l.length := by rw [HML.out]; omega
            rw [h1, List.take_length] at ho
            rw [HG.out]
            exact ⟨_, rfl, ho, hb⟩
    · have hgf : (aw && !(decide (q < k) && !ze)) = false := Bool.eq_false_iff.2 hgd
      have HB := Lib.hid (HBAD.out (HALL.out.trans hgf))
      have hor : aw = false ∨ (aw = true ∧ q < k ∧ ze = false) := by
        cases aw
        · exact .inl rfl
        · refine .inr ⟨rfl, ?_⟩
          simpa using hgf
      have HAW := Lib.hid haw; have HZE := Lib.hid hze; have HWA := Lib.hid hwa
      clear haw hze hwa hgd hgf
      rcases hor with rfl | ⟨rfl, hqk, rfl⟩
      all_goals
        go_enter Try.func19, Try.ntmps19
        go_wp2_with (first
          | (go_at_call 28; refine HAW.out.mono ?_; rintro e w1 ⟨rfl, rfl⟩)
          | (go_at_call 23; refine HWA.out.mono ?_; rintro e w1 ⟨rfl, rfl⟩)
          | (go_at_call 32; refine HZE.out.mono ?_; rintro e w1 ⟨rfl, rfl⟩))
        go_ret2
        rw [HB.out]
        exact ⟨_, rfl, Own.nil _ _ _, Below.refl _ _⟩
  · have hr : downR l n = ([], 1) := by unfold downR; rw [if_neg hsn]
    have hor : n < 0 ∨ (¬ n < 0 ∧ 30 < n) := by rw [shiftB_iff] at hsn; omega
    rw [hr]
    clear hr hsn
    rcases hor with h | ⟨h, h'⟩
    all_goals
      go_enter Try.func19, Try.ntmps19
      go_wp2
      go_ret2
      exact ⟨_, rfl, Own.nil _ _ _, Below.refl _ _⟩

theorem rup_any (v : Value) (l : List Int) (n : Int) (w : World) (B : Nat) (hS : Sli w B v (ci l)) (hB : B ≤ w.heap.size) (hn : l.length ≤ 1099511627776) :
    Calls Try.prog 21 #[v, .int .i64 n] w (RowPost (upR l n) w) := by
  obtain ⟨A, c, rfl, hlc, hcm⟩ := hS.formI
  by_cases hsn : shiftB n = true
  · have hbad : l.all (uOk ((2 : Int) ^ n.toNat)) = false → upR l n = ([], 6) := fun h => by unfold upR; rw [if_pos hsn, if_neg (by rw [h]; simp)]
    have hgood : l.all (uOk ((2 : Int) ^ n.toNat)) = true → upR l n = (l.map (· * ((2 : Int) ^ n.toNat)), 0) := fun h => by unfold upR; rw [if_pos hsn, if_pos h]
    obtain ⟨k, rfl⟩ := Int.eq_ofNat_of_zero_le (shiftB_iff.1 hsn).1
    have hk : k ≤ 30 := by have := (shiftB_iff.1 hsn).2; omega
    rw [Int.toNat_natCast] at hbad hgood
    have HBAD := Lib.hid hbad; have HGOOD := Lib.hid hgood
    clear hbad hgood hsn
    generalize upR l k = r at *
    obtain ⟨m, hml⟩ : ∃ m, l.length = m := ⟨_, rfl⟩
    rw [hml] at hS hlc hn ⊢
    have HML := Lib.hid hml
    clear hml
    go_enter Try.func21, Try.ntmps21
    go_wp2
    go_loopw [6, 7] (fun v i wr => ∃ j : Nat, j ≤ m ∧ i = .int .i64 j ∧ Own wr w.heap.size 3 v (ci ((l.take j).map (· * ((2 : Int) ^ k)))) ∧ Below w.heap.size w wr ∧ Hid ((l.take j).all (uOk ((2 : Int) ^ k)) = true)) (fun _ i _ => m - (intOf i).toNat)
    case atStart => exact ⟨0, by omega, rfl, Own.nil _ _ _, Below.refl _ _, rfl⟩
    case round =>
      obtain ⟨j, hj, rfl, ho, hb, hall⟩ := hrel
      by_cases hjm : j < m
      · have hjl : j < l.length := by rw [HML.out]; exact hjm
        obtain ⟨b, o, rfl, hb1, hcell⟩ := (hS.below (hb.mono hB)).atI hjl
        have htk : (l.take (j + 1)).all (uOk ((2 : Int) ^ k)) = ((l.take j).all (uOk ((2 : Int) ^ k)) && uOk ((2 : Int) ^ k) l[j]) := by rw [List.take_succ_eq_append_getElem hjl, List.all_append]; simp only [List.all_cons, List.all_nil, Bool.and_true]
        have hno : uOk ((2 : Int) ^ k) l[j] = false → l.all (uOk ((2 : Int) ^ k)) = false := fun h => List.all_eq_false.2 ⟨l[j], List.getElem_mem _, by rw [h]; simp⟩
        have hmp : ci ((l.take j).map (· * ((2 : Int) ^ k))) ++ [.int .i64 (l[j] * 2 ^ k)] = ci ((l.take (j + 1)).map (· * ((2 : Int) ^ k))) := by
          rw [List.take_succ_eq_append_getElem hjl, List.map_append, ci_app]; rfl
        have hlen : (ci ((l.take j).map (· * ((2 : Int) ^ k)))).length + 1 ≤ 8796093022208 := by rw [ci_len, List.length_map, List.length_take]; omega
        have HT := Lib.hid htk; have HNO := Lib.hid hno; have HMP := Lib.hid hmp; clear htk hno hmp
        generalize l[j] = x at *
        clear hjl
        have hx := fun w => rWide_any x w
        cases hwx : wideB x
        · rw [hwx] at hx
          have hf := Lib.hid (HNO.out (by unfold uOk; rw [hwx]; rfl))
          have HX := Lib.hid hx
          clear hx hwx
          go_wp2_with (go_at_call 33; refine (HX.out _).mono ?_; rintro e w1 ⟨rfl, rfl⟩)
          go_ret2
          rw [HBAD.out hf.out]
          exact ⟨_, rfl, Own.nil _ _ _, hb⟩
        · rw [hwx] at hx
          have HX := Lib.hid hx
          clear hx
          obtain ⟨y, hy⟩ : ∃ y, x * 2 ^ k = y := ⟨_, rfl⟩
          have hmul : wrap64 (x * 2 ^ k) = y := by
            have := wide_mul hwx hk
            rw [pow_cast, hy] at this
            rw [hy, wrap_in this.1 this.2]
          have hy1 := fun w => rWide_any y w
          have huok2 : uOk (2 ^ k) x = wideB y := by unfold uOk; rw [hwx, hy]; rfl
          have hmp := HMP.out
          rw [hy] at hmp
          have HM2 := Lib.hid hmp
          clear hmp hwx hy
          cases hwy : wideB y
          · rw [hwy] at hy1
            have hf := Lib.hid (HNO.out (huok2.trans hwy))
            have HY := Lib.hid hy1
            clear hy1 hwy huok2
            go_wp2_with (first
              | (go_at_call_of 33 (Value.int .i64 x); refine (HX.out _).mono ?_; rintro e w1 ⟨rfl, rfl⟩)
              | (go_at_call 33; refine (HY.out _).mono ?_; rintro e w1 ⟨rfl, rfl⟩))
            go_ret2
            rw [HBAD.out hf.out]
            exact ⟨_, rfl, Own.nil _ _ _, hb⟩
          · rw [hwy] at hy1
            have ht := Lib.hid (HT.out.trans (by rw [hall.out, huok2, hwy, Bool.true_and]))
            have HY := Lib.hid hy1
            clear hy1 hwy huok2
            go_wp2_with (first
              | (go_at_call_of 33 (Value.int .i64 x); refine (HX.out _).mono ?_; rintro e w1 ⟨rfl, rfl⟩)
              | (go_at_call 33; refine (HY.out _).mono ?_; rintro e w1 ⟨rfl, rfl⟩)
              | (at_builtin; refine wpl_app1 ho hb.size hlen Try.underlying22 info_int rfl (by decide) rfl rfl rfl rfl rfl (h := ?_); intro v2 w2 ho2 hb2))
            rw [HM2.out] at ho2
            exact ⟨⟨j + 1, by omega, by simp, ho2, hb.trans hb2, ht⟩, by simp [intOf]; omega⟩
      · go_wp2
        go_ret2
        have h1 : j = l.length := by rw [HML.out]; omega
        rw [h1, List.take_length] at ho hall
        rw [HGOOD.out hall.out]
        exact ⟨_, rfl, ho, hb⟩
  · have hr : upR l n = ([], 1) := by unfold upR; rw [if_neg hsn]
    have hor : n < 0 ∨ (¬ n < 0 ∧ 30 < n) := by rw [shiftB_iff] at hsn; omega
    rw [hr]
    clear hr hsn
    rcases hor with h | ⟨h, h'⟩
    all_goals
      go_enter Try.func21, Try.ntmps21
      go_wp2
      go_ret2
      exact ⟨_, rfl, Own.nil _ _ _, Below.refl _ _⟩
end Go.Proofs.Yteopogclmdhphaa
