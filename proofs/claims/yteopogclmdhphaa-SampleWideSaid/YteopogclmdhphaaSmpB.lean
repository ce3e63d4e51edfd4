/- sample: the law SampleWide. -/
import Derived.Test.YteopogclmdhphaaSmpA
namespace Go.Proofs.Yteopogclmdhphaa
open Go.RowKit
set_option maxRecDepth 100000
set_option maxHeartbeats 1600000

/-- x fits in one digit less than K. -/
def pL (K : Nat) (x : Int) : Bool := fitsB x ((K : Int) - 1) || (decide (K = 1) && decide (x = 0))
theorem IsW.less {l : List Int} {K : Nat} (h : IsW l K) (hK : 0 < K) : l.all (pL K) = false := by
  rcases h.2.2 with h0 | ⟨x, hx, hn⟩
  · omega
  · refine List.all_eq_false.2 ⟨x, hx, ?_⟩
    have h1 : ¬ x = 0 := fun h => hn (.inl h)
    have h2 : ¬ fitsB x ((K - 1 : Nat) : Int) = true := fun h => hn (.inr (.inr h))
    rw [show ((K - 1 : Nat) : Int) = (K : Int) - 1 by omega] at h2
    unfold pL
    rw [Bool.eq_false_iff.2 h2, decide_eq_false h1]; simp
theorem less_cases (b f : Bool) (K : Nat) (x : Int) :
    (b = false ∧ (b && (f || (decide (K = 1) && decide (x = 0)))) = false) ∨ (b = true ∧ f = true ∧ (b && (f || (decide (K = 1) && decide (x = 0)))) = true) ∨
    (b = true ∧ f = false ∧ ((K : Int) == 1) = false ∧ (b && (f || (decide (K = 1) && decide (x = 0)))) = false) ∨
    (b = true ∧ f = false ∧ ((K : Int) == 1) = true ∧ (x == 0) = true ∧ (b && (f || (decide (K = 1) && decide (x = 0)))) = true) ∨
    (b = true ∧ f = false ∧ ((K : Int) == 1) = true ∧ (x == 0) = false ∧ (b && (f || (decide (K = 1) && decide (x = 0)))) = false) := by
  have e1 : ((K : Int) == 1) = decide (K = 1) := by
    rw [Bool.eq_iff_iff]; simp; omega
  have e2 : (x == 0) = decide (x = 0) := by
    rw [Bool.eq_iff_iff]; simp
  rw [e1, e2]
  cases b <;> cases f <;> cases decide (K = 1) <;> cases decide (x = 0) <;> simp

theorem sampleWide_walk (v : Value) (l : List Int) (w : World) (hS : Sli w w.heap.size v (ci l)) :
    Calls Try.prog 6 #[v] w fun e w' => e = .returned (.bool true) ∧ Below w.heap.size w w' := by
  obtain ⟨A, c, rfl, hlc, hcm⟩ := hS.formI
  have hcm' : l.length ≤ 9223372036854775807 := by unfold maxLen at hcm; omega
  by_cases hlen : l.length ≤ 200
  · obtain ⟨K, hk⟩ := IsW.ex l
    have h32 := hk.1
    have HK := Lib.hid hk
    have hl40 : l.length ≤ 1099511627776 := by omega
    obtain ⟨m, hml⟩ : ∃ m, l.length = m := ⟨_, rfl⟩
    rw [hml] at hS hlc hlen hcm' hl40 ⊢
    have HML := Lib.hid hml
    have hl40' := Lib.hid (show l.length ≤ 1099511627776 by omega)
    obtain ⟨u, hu⟩ : ∃ u : Int, (K : Int) - 1 = u := ⟨_, rfl⟩
    clear hk hml
    have hstep : ∀ i (hil : i < l.length), (l.take (i + 1)).all (pL K) = ((l.take i).all (pL K) && (fitsB l[i] u || (decide (K = 1) && decide (l[i] = 0)))) := fun i hil => by
      rw [List.take_succ_eq_append_getElem hil, List.all_append, ← hu]; simp only [List.all_cons, List.all_nil, Bool.and_true, pL]
    have HSTEP := Lib.hid hstep
    clear hstep
    rcases (show K = 0 ∨ (0 < K ∧ K < 32) ∨ K = 32 by omega) with hK0 | ⟨hKp, hK32⟩ | hK32
    · -- all are 0
      have hz : ∀ x ∈ l, x = 0 := fun x hx => by
        rcases HK.out.fit (by omega) hx with h | h
        · rw [fits_nat] at h; omega
        · exact h.2
      have HZ := Lib.hid hz
      have hf1 := Lib.hid (fun w => fits_any 0 K w)
      rw [show fitsB 0 (K : Int) = false by subst hK0; decide +kernel] at hf1
      have hf2 := Lib.hid (fun w => fits_any 0 u w)
      rw [show fitsB 0 u = false by subst hK0; subst hu; decide +kernel] at hf2
      have h0b : ((K : Int) == 0) = true := by subst hK0; rfl
      have h1b : ((K : Int) == 1) = false := by subst hK0; rfl
      have hK32 : K < 32 := by omega
      have HK0 := Lib.hid hK0
      clear hK0
      clear hz
      go_enter Try.func6, Try.ntmps6
      go_wp2_with (first
        | (go_at_call 9; refine (known_any w).mono ?_; rintro e w1 ⟨rfl, hb1⟩; have hS1 := hS.below hb1)
        | (go_at_call 16; refine (width_is hS1 hl40'.out HK.out).mono ?_; rintro e w2 ⟨rfl, rfl⟩))
      go_loop [4, 5, 6] (fun va vb vi => va = .bool true ∧ (∃ b : Bool, vb = .bool b) ∧ ∃ i : Nat, i ≤ m ∧ vi = .int .i64 i) (fun _ _ vi => m - (intOf vi).toNat)
      case atStart => exact ⟨rfl, ⟨true, rfl⟩, 0, by omega, rfl⟩
      case round =>
        obtain ⟨rfl, ⟨b, rfl⟩, i, hi, rfl⟩ := hrel
        by_cases him : i < m
        · have hil : i < l.length := by rw [HML.out]; exact him
          obtain ⟨bb, o, rfl, hb2, hcell⟩ := hS1.atI hil
          rw [HZ.out l[i] (List.getElem_mem _)] at hcell
          clear hil
          cases b
          all_goals
            go_wp2_with (first
              | (go_at_call_of 14 (Value.int .i64 u); refine (hf2.out _).mono ?_; rintro e w2 ⟨rfl, rfl⟩)
              | (go_at_call 14; refine (hf1.out _).mono ?_; rintro e w2 ⟨rfl, rfl⟩))
            exact ⟨⟨rfl, ⟨_, rfl⟩, i + 1, by omega, by simp⟩, by simp [intOf]; omega⟩
        · go_wp2
          go_ret
          exact ⟨rfl, hb1⟩
    · -- K digits
      have hless := Lib.hid (HK.out.less hKp)
      have hf1 := Lib.hid (fun x (hx : x ∈ l) => HK.out.fit hK32 hx)
      have h01 : ((K : Int) == 0) = false := by simp; omega
      go_enter Try.func6, Try.ntmps6
      go_wp2_with (first
        | (go_at_call 9; refine (known_any w).mono ?_; rintro e w1 ⟨rfl, hb1⟩; have hS1 := hS.below hb1)
        | (go_at_call 16; refine (width_is hS1 hl40'.out HK.out).mono ?_; rintro e w2 ⟨rfl, rfl⟩))
      go_loop [4, 5, 6] (fun va vb vi => va = .bool true ∧ ∃ i : Nat, i ≤ m ∧ vi = .int .i64 i ∧ vb = .bool ((l.take i).all (pL K))) (fun _ _ vi => m - (intOf vi).toNat)
      case atStart => exact ⟨rfl, 0, by omega, rfl, rfl⟩
      case round =>
        obtain ⟨rfl, i, hi, rfl, rfl⟩ := hrel
        by_cases him : i < m
        · have hil : i < l.length := by rw [HML.out]; exact him
          obtain ⟨bb, o, rfl, hb2, hcell⟩ := hS1.atI hil
          have hst := HSTEP.out i hil
          have hfx : fitsB l[i] K = true := by
            rcases hf1.out l[i] (List.getElem_mem _) with h | h
            · exact h
            · omega
          have hc1 := fun w => fits_any l[i] K w
          rw [hfx] at hc1
          have hc2 := fun w => fits_any l[i] u w
          have HC1 := Lib.hid hc1
          clear hfx hc1
          have hcs := less_cases ((l.take i).all (pL K)) (fitsB l[i] u) K l[i]
          rw [← hst] at hcs
          obtain ⟨nb, hnb⟩ : ∃ nb, (l.take (i + 1)).all (pL K) = nb := ⟨_, rfl⟩
          rw [hnb] at hcs
          have HNB := Lib.hid hnb
          clear hst hnb
          generalize (l.take i).all (pL K) = b at *
          generalize fitsB l[i] u = f at *
          generalize l[i] = x at *
          have HC2 := Lib.hid hc2
          clear hc2 hil
          rcases hcs with ⟨rfl, rfl⟩ | ⟨rfl, rfl, rfl⟩ | ⟨rfl, rfl, hk1, rfl⟩ | ⟨rfl, rfl, hk1, hx0, rfl⟩ | ⟨rfl, rfl, hk1, hx0, rfl⟩
          all_goals
            go_wp2_with (first
              | (go_at_call_of 14 (Value.int .i64 u); refine (HC2.out _).mono ?_; rintro e w2 ⟨rfl, rfl⟩)
              | (go_at_call 14; refine (HC1.out _).mono ?_; rintro e w2 ⟨rfl, rfl⟩))
            exact ⟨⟨rfl, i + 1, by omega, by simp, by rw [HNB.out]⟩, by simp [intOf]; omega⟩
        · have h1 : i = l.length := by rw [HML.out]; omega
          have h2 : l.take i = l := by rw [h1, List.take_length]
          rw [h2, hless.out]
          clear h1 h2
          go_wp2
          go_ret
          exact ⟨rfl, hb1⟩
    · -- 32: some do not fit in 31
      have hless := Lib.hid (HK.out.less (by omega))
      have hne : 0 < l.length := by
        rcases HK.out.2.2 with h | ⟨x, hx, _⟩
        · omega
        · exact List.length_pos_of_mem hx
      rw [HML.out] at hne
      have h01 : ((K : Int) == 0) = false := by simp; omega
      have h11 : ((K : Int) == 1) = false := by simp; omega
      have hK32' : 32 ≤ K := by omega
      clear hK32
      go_enter Try.func6, Try.ntmps6
      go_wp2_with (first
        | (go_at_call 9; refine (known_any w).mono ?_; rintro e w1 ⟨rfl, hb1⟩; have hS1 := hS.below hb1)
        | (go_at_call 16; refine (width_is hS1 hl40'.out HK.out).mono ?_; rintro e w2 ⟨rfl, rfl⟩))
      go_loop [4, 5, 6] (fun va vb vi => ∃ (a : Bool) (i : Nat), va = .bool a ∧ i ≤ m ∧ vi = .int .i64 i ∧ vb = .bool ((l.take i).all (pL K)) ∧ (a = false ∨ i = 0)) (fun _ _ vi => m - (intOf vi).toNat)
      case atStart => exact ⟨true, 0, rfl, by omega, rfl, rfl, .inr rfl⟩
      case round =>
        obtain ⟨a, i, rfl, hi, rfl, rfl, hai⟩ := hrel
        by_cases him : i < m
        · have hil : i < l.length := by rw [HML.out]; exact him
          obtain ⟨bb, o, rfl, hb2, hcell⟩ := hS1.atI hil
          have hst := HSTEP.out i hil
          have hfx : fitsB l[i] K = false := by
            rw [Bool.eq_false_iff]
            intro h
            rw [fits_nat] at h; omega
          clear hai
          have hc1 := fun w => fits_any l[i] K w
          rw [hfx] at hc1
          have hc2 := fun w => fits_any l[i] u w
          have HC1 := Lib.hid hc1
          clear hfx hc1
          have hcs := less_cases ((l.take i).all (pL K)) (fitsB l[i] u) K l[i]
          rw [← hst] at hcs
          obtain ⟨nb, hnb⟩ : ∃ nb, (l.take (i + 1)).all (pL K) = nb := ⟨_, rfl⟩
          rw [hnb] at hcs
          have HNB := Lib.hid hnb
          clear hst hnb
          generalize (l.take i).all (pL K) = b at *
          generalize fitsB l[i] u = f at *
          generalize l[i] = x at *
          have HC2 := Lib.hid hc2
          clear hc2 hil
          rcases hcs with ⟨rfl, rfl⟩ | ⟨rfl, rfl, rfl⟩ | ⟨rfl, rfl, hk1, rfl⟩ | ⟨rfl, rfl, hk1, hx0, rfl⟩ | ⟨rfl, rfl, hk1, hx0, rfl⟩
          all_goals try (rw [h11] at hk1; cases hk1)
          all_goals cases a
          all_goals
            go_wp2_with (first
              | (go_at_call_of 14 (Value.int .i64 u); refine (HC2.out _).mono ?_; rintro e w2 ⟨rfl, rfl⟩)
              | (go_at_call 14; refine (HC1.out _).mono ?_; rintro e w2 ⟨rfl, rfl⟩))
            exact ⟨⟨false, i + 1, rfl, by omega, by simp, by rw [HNB.out], .inl rfl⟩, by simp [intOf]; omega⟩
        · have h1 : i = l.length := by rw [HML.out]; omega
          have h2 : l.take i = l := by rw [h1, List.take_length]
          have h3 : a = false := by
            rcases hai with h | h
            · exact h
            · omega
          rw [h2, hless.out, h3]
          clear h1 h2 h3 hai
          go_wp2
          go_ret
          refine ⟨?_, hb1⟩
          show Ending.returned (.bool (!decide ((K : Int) < 32))) = _
          rw [decide_eq_false (by omega)]; rfl
  · go_enter Try.func6, Try.ntmps6
    go_wp2_with (go_at_call 9; refine (known_any w).mono ?_; rintro e w1 ⟨rfl, hb1⟩)
    go_ret
    exact ⟨rfl, hb1⟩
end Go.Proofs.Yteopogclmdhphaa
