/- rice: the best parameter, the reference's beside it. -/
import Derived.Test.YtohbpjehphmedaaRicS
namespace Go.Proofs.Ytohbpjehphmedaa
open Go.RowKit
set_option maxRecDepth 100000
set_option maxHeartbeats 400000

def orF (l : List Int) : Nat := l.foldl (fun a x => a ||| foldN x) 0
theorem orF_snoc {l : List Int} {j : Nat} (h : j < l.length) : orF (l.take (j + 1)) = orF (l.take j) ||| foldN l[j] := by
  unfold orF
  rw [List.take_succ_eq_append_getElem h, List.foldl_append]; rfl
theorem orF_go (l : List Int) : ∀ a : Nat, a < 2147483648 → l.foldl (fun a x => a ||| foldN x) a < 2147483648 ∧ a ≤ l.foldl (fun a x => a ||| foldN x) a ∧ ∀ x ∈ l, foldN x ≤ l.foldl (fun a x => a ||| foldN x) a := by
  induction l with
  | nil => intro a h; exact ⟨h, Nat.le_refl _, fun x hx => by simp at hx⟩
  | cons y l ih =>
    intro a h
    have h1 : a ||| foldN y < 2147483648 := Nat.or_lt_two_pow (n := 31) h (foldN_lt y)
    obtain ⟨i1, i2, i3⟩ := ih (a ||| foldN y) h1
    rw [List.foldl_cons]
    have h2 : a ≤ a ||| foldN y := Nat.left_le_or
    have h3 : foldN y ≤ a ||| foldN y := Nat.right_le_or
    refine ⟨i1, Nat.le_trans h2 i2, fun x hx => ?_⟩
    rcases List.mem_cons.1 hx with rfl | hx
    · exact Nat.le_trans h3 i2
    · exact i3 x hx
theorem orF_lt (l : List Int) : orF l < 2147483648 := (orF_go l 0 (by omega)).1
theorem orF_ge {l : List Int} {x : Int} (h : x ∈ l) : foldN x ≤ orF l := (orF_go l 0 (by omega)).2.2 x h
/-- The parameter behind which sums only rise. -/
def lastN (l : List Int) : Nat := min (Lib.bitLen (orF l)) 25
theorem cost_rise {k : Nat} {x : Int} (hk : k + 1 ≤ 25) (hx : foldN x < 2 ^ k) : costI (k : Int) x ≤ costI ((k + 1 : Nat) : Int) x := by
  have p1 : paramB (k : Int) = true := by rw [paramB_iff]; omega
  have p2 : paramB ((k + 1 : Nat) : Int) = true := by rw [paramB_iff]; omega
  unfold costI
  by_cases hw : wideB x = true
  · rw [if_pos ⟨p1, hw⟩, if_pos ⟨p2, hw⟩, Int.toNat_natCast, Int.toNat_natCast]
    have h1 : foldN x / 2 ^ k = 0 := Nat.div_eq_of_lt hx
    have h2 : foldN x / 2 ^ (k + 1) = 0 := Nat.div_eq_of_lt (by rw [Nat.pow_succ]; omega)
    unfold codeN
    rw [h1, h2]
    simp
  · rw [if_neg fun h => hw h.2, if_neg fun h => hw h.2]; omega
theorem sum_rise {k : Nat} {l : List Int} (hk : k + 1 ≤ 25) (hx : ∀ x ∈ l, foldN x < 2 ^ k) : sumI (k : Int) l ≤ sumI ((k + 1 : Nat) : Int) l := by
  unfold sumI
  induction l with
  | nil => simp
  | cons x l ih =>
    rw [List.map_cons, List.map_cons, List.sum_cons, List.sum_cons]
    have h1 := cost_rise hk (hx x (by simp))
    have h2 := ih fun y hy => hx y (by simp [hy])
    omega
theorem last_lt {l : List Int} {x : Int} (h : x ∈ l) (h25 : Lib.bitLen (orF l) ≤ 25) : foldN x < 2 ^ lastN l := by
  have h1 := orF_ge h
  have h2 := orF_lt l
  have h3 : lastN l = Lib.bitLen (orF l) := by unfold lastN; omega
  rw [h3]
  rcases Nat.lt_or_ge (foldN x) (2 ^ Lib.bitLen (orF l)) with h4 | h4
  · exact h4
  · have := (bitLen_iff (n := Lib.bitLen (orF l)) (v := orF l) (by omega)).2 (by omega)
    omega
theorem best_stay (l : List Int) : ∀ d, lastN l + d ≤ 25 → bestFrom l (lastN l + d) = bestFrom l (lastN l)
  | 0, _ => rfl
  | d + 1, h => by
    have ih := best_stay l d (by omega)
    have hb : Lib.bitLen (orF l) ≤ 25 := by unfold lastN at h; omega
    have hr : sumI ((lastN l + d : Nat) : Int) l ≤ sumI ((lastN l + d + 1 : Nat) : Int) l := sum_rise (by omega) fun x hx => Nat.lt_of_lt_of_le (last_lt hx hb) (Nat.pow_le_pow_right (by omega) (by omega))
    have hl := (bestFrom_least l (lastN l + d) (lastN l + d) (Nat.le_refl _)).1
    rw [← Nat.add_assoc, bestFrom, if_neg (by omega), ih]
theorem best_last (l : List Int) : bestFrom l (lastN l) = bestN l := by
  have h : lastN l ≤ 25 := by unfold lastN; omega
  have := best_stay l (25 - lastN l) (by omega)
  rw [show lastN l + (25 - lastN l) = 25 by omega] at this
  exact this.symm

theorem last_any (v : Value) (l : List Int) (w : World) (B : Nat) (hS : Sli w B v (ci l)) (hn : l.length ≤ 1099511627776) :
    Calls Try.prog 95 #[v] w fun e w' => e = .returned (.int .i64 (lastN l : Nat)) ∧ w = w' := by
  obtain ⟨A, c, rfl, hlc, hcm⟩ := hS.formI
  have h64 := orF_lt l
  have hlen := fun w => len64_any (orF l) w (by omega)
  have hlast : min ((Lib.bitLen (orF l) : Nat) : Int) 25 = (lastN l : Nat) := by unfold lastN; omega
  have hb64 := bitLen_64 (v := orF l) (by omega)
  have hl25 : lastN l ≤ 25 := by unfold lastN; omega
  generalize lastN l = r at *
  obtain ⟨n, hnl⟩ : ∃ n, l.length = n := ⟨_, rfl⟩
  rw [hnl] at hS hlc hn ⊢
  obtain ⟨o, ho⟩ : ∃ o, orF l = o := ⟨_, rfl⟩
  rw [ho] at hlen hlast hb64 h64
  generalize Lib.bitLen o = bl at *
  have HNL := Lib.hid hnl; have HO := Lib.hid ho; have HL := Lib.hid hlen; have HM := Lib.hid hlast; clear hnl ho hlen hlast
  go_enter Try.func95, Try.ntmps95
  go_wp2
  go_loop [3, 8] (fun s i => ∃ j : Nat, j ≤ n ∧ i = .int .i64 j ∧ s = .int .u64 (orF (l.take j) : Nat)) (fun _ i => n - (intOf i).toNat)
  case atStart => exact ⟨0, Nat.zero_le _, rfl, rfl⟩
  case round =>
    obtain ⟨j, hj, rfl, rfl⟩ := hrel
    by_cases hlt : j < n
    · have hjl : j < l.length := by rw [HNL.out]; exact hlt
      obtain ⟨b, o, rfl, hb, hcell⟩ := hS.atI hjl
      have htk := orF_snoc hjl
      have ha := orF_lt (l.take j)
      have hd := foldN_lt l[j]
      have hx := fun w => fold_any l[j] w
      have hor := u64_or_nat (orF (l.take j)) (foldN l[j]) (by omega) (by omega)
      rw [← htk] at hor
      have hor2 := orF_lt (l.take (j + 1))
      generalize l[j] = x at *
      generalize foldN x = d at *
      generalize orF (l.take j) = a at *
      generalize ha2 : orF (l.take (j + 1)) = a2 at *
      have HA2 := Lib.hid ha2; clear ha2
      have HX := Lib.hid hx
      clear hx hjl htk
      go_wp2_with (go_at_call 82; refine (HX.out _).mono ?_; rintro e w1 ⟨rfl, rfl⟩)
      exact ⟨⟨j + 1, by omega, by simp, by rw [HA2.out]⟩, by simp [intOf]; omega⟩
    · have : j = l.length := by rw [HNL.out]; omega
      subst this
      rw [List.take_length, HO.out]
      have hmm := HM.out
      go_wp2_with (go_at_call 65; refine (HL.out _).mono ?_; rintro e w1 ⟨rfl, rfl⟩)
      go_ret
      exact ⟨rfl, rfl⟩

theorem best_step {l : List Int} {k : Nat} (h : 1 ≤ k) : bestFrom l k = if sumI (k : Int) l < sumI ((bestFrom l (k - 1) : Nat) : Int) l then k else bestFrom l (k - 1) := by
  obtain ⟨j, rfl⟩ : ∃ j, k = j + 1 := ⟨k - 1, by omega⟩
  rw [bestFrom]; rfl
theorem best_any (v : Value) (l : List Int) (w : World) (B : Nat) (hS : Sli w B v (ci l)) (hn : l.length ≤ 1099511627776) :
    Calls Try.prog 78 #[v] w fun e w' => e = .returned (.int .i64 (bestN l : Nat)) ∧ w = w' := by
  have hsum := fun k => sum_any k v l w B hS hn
  have hlast := last_any v l w B hS hn
  obtain ⟨A, c, rfl, hlc, hcm⟩ := hS.formI
  have hbl := best_last l
  have hl25 : lastN l ≤ 25 := by unfold lastN; omega
  have hsl := fun k => sumI_le k l
  generalize lastN l = r at *
  have HS := Lib.hid hsum; have HL := Lib.hid hlast; have HB := Lib.hid hbl; have HSL := Lib.hid hsl
  have H0 := Lib.hid (hsum 0)
  have hs0 := hsl 0
  clear hsum hlast hbl hS hsl
  generalize hz : sumI 0 l = z at *
  have HZ := Lib.hid hz
  clear hz
  go_enter Try.func78, Try.ntmps78
  go_wp2_with (first
    | (go_at_call 40; refine (H0.out).mono ?_; rintro e w1 ⟨rfl, rfl⟩)
    | (go_at_call 95; refine (HL.out).mono ?_; rintro e w1 ⟨rfl, rfl⟩))
  go_loop [3, 4, 6] (fun b s i => ∃ k : Nat, 1 ≤ k ∧ k ≤ r + 1 ∧ i = .int .i64 k ∧ b = .int .i64 (bestFrom l (k - 1) : Nat) ∧ s = .int .i64 (sumI ((bestFrom l (k - 1) : Nat) : Int) l : Nat)) (fun _ _ i => r + 1 - (intOf i).toNat)
  case atStart => exact ⟨1, by omega, by omega, rfl, rfl, by rw [show bestFrom l (1 - 1) = 0 from rfl, ← HZ.out]; rfl⟩
  case round =>
    obtain ⟨k, hk1, hkr, rfl, rfl, rfl⟩ := hrel
    by_cases hlt : k ≤ r
    · have hst := best_step (l := l) hk1
      have hs1 := HSL.out k
      have hs2 := HSL.out ((bestFrom l (k - 1) : Nat) : Int)
      have hb1 := bestFrom_le l (k - 1)
      have hck := HS.out k
      generalize bestFrom l (k - 1) = b at *
      obtain ⟨s, hs⟩ : ∃ s, sumI (k : Int) l = s := ⟨_, rfl⟩
      obtain ⟨t, ht⟩ : ∃ t, sumI (b : Int) l = t := ⟨_, rfl⟩
      rw [hs, ht] at hst
      rw [hs] at hs1 hck
      rw [ht] at hs2 ⊢
      have HSK := Lib.hid hs; have HTK := Lib.hid ht; have HCK := Lib.hid hck
      clear hs ht hck
      by_cases hst2 : s < t
      · rw [if_pos hst2] at hst
        have HST := Lib.hid hst
        clear hst
        go_wp2_with (go_at_call 40; refine (HCK.out).mono ?_; rintro e w1 ⟨rfl, rfl⟩)
        exact ⟨⟨k + 1, by omega, by omega, by simp, by rw [show k + 1 - 1 = k from rfl, HST.out], by rw [show k + 1 - 1 = k from rfl, HST.out, HSK.out]⟩, by simp [intOf]; omega⟩
      · rw [if_neg hst2] at hst
        have HST := Lib.hid hst
        clear hst
        go_wp2_with (go_at_call 40; refine (HCK.out).mono ?_; rintro e w1 ⟨rfl, rfl⟩)
        exact ⟨⟨k + 1, by omega, by omega, by simp, by rw [show k + 1 - 1 = k from rfl, HST.out], by rw [show k + 1 - 1 = k from rfl, HST.out, HTK.out]⟩, by simp [intOf]; omega⟩
    · have hkk : k - 1 = r := by omega
      rw [hkk, HB.out]
      go_wp2
      go_ret
      exact ⟨rfl, rfl⟩
theorem qbest_any (v : Value) (l : List Int) (w : World) (B : Nat) (hS : Sli w B v (ci l)) (hn : l.length ≤ 1099511627776) :
    Calls Try.prog 79 #[v] w fun e w' => e = .returned (.int .i64 (bestN l : Nat)) ∧ w = w' := by
  have hsum := fun k => qsum_any k v l w B hS hn
  obtain ⟨A, c, rfl, hlc, hcm⟩ := hS.formI
  have hsl := fun k => sumI_le k l
  have HS := Lib.hid hsum; have HSL := Lib.hid hsl
  clear hsum hS hsl
  go_enter Try.func79, Try.ntmps79
  go_wp2
  go_loop [3, 4] (fun b i => ∃ k : Nat, 1 ≤ k ∧ k ≤ 26 ∧ i = .int .i64 k ∧ b = .int .i64 (bestFrom l (k - 1) : Nat)) (fun _ i => 26 - (intOf i).toNat)
  case atStart => exact ⟨1, by omega, by omega, rfl, rfl⟩
  case round =>
    obtain ⟨k, hk1, hkr, rfl, rfl⟩ := hrel
    by_cases hlt : k ≤ 25
    · have hst := best_step (l := l) hk1
      have hs1 := HSL.out k
      have hs2 := HSL.out ((bestFrom l (k - 1) : Nat) : Int)
      have hb1 := bestFrom_le l (k - 1)
      have hck := HS.out k
      have hcb := HS.out ((bestFrom l (k - 1) : Nat) : Int)
      generalize bestFrom l (k - 1) = b at *
      obtain ⟨s, hs⟩ : ∃ s, sumI (k : Int) l = s := ⟨_, rfl⟩
      obtain ⟨t, ht⟩ : ∃ t, sumI (b : Int) l = t := ⟨_, rfl⟩
      rw [hs, ht] at hst
      rw [hs] at hs1 hck
      rw [ht] at hs2 hcb
      have HCK := Lib.hid hck; have HCB := Lib.hid hcb
      clear hs ht hck hcb
      by_cases hst2 : s < t
      · rw [if_pos hst2] at hst
        have HST := Lib.hid hst
        clear hst
        go_wp2_with fail
        refine (HCK.out).mono ?_; rintro e w1 ⟨rfl, rfl⟩
        go_wp2_with fail
        refine (HCB.out).mono ?_; rintro e w1 ⟨rfl, rfl⟩
        go_wp2
        exact ⟨⟨k + 1, by omega, by omega, by simp, by rw [show k + 1 - 1 = k from rfl, HST.out]⟩, by simp [intOf]; omega⟩
      · rw [if_neg hst2] at hst
        have HST := Lib.hid hst
        clear hst
        go_wp2_with fail
        refine (HCK.out).mono ?_; rintro e w1 ⟨rfl, rfl⟩
        go_wp2_with fail
        refine (HCB.out).mono ?_; rintro e w1 ⟨rfl, rfl⟩
        go_wp2
        exact ⟨⟨k + 1, by omega, by omega, by simp, by rw [show k + 1 - 1 = k from rfl, HST.out]⟩, by simp [intOf]; omega⟩
    · have hkk : k - 1 = 25 := by omega
      rw [hkk]
      go_wp2
      go_ret
      exact ⟨rfl, rfl⟩
end Go.Proofs.Ytohbpjehphmedaa
