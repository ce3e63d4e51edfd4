/- sample: Width, Wasted; the reference's; AllWide, zero, SameInts. -/
import Derived.Test.YtohbpjehphmedaaSmpF
import Derived.Deep.QuietTactic
import Derived.BigQuiet
namespace Go.Proofs.Ytohbpjehphmedaa
open Go.RowKit
set_option maxRecDepth 100000
set_option maxHeartbeats 400000

theorem okW_not {x : Int} {k : Nat} (hx : ¬ x = 0) (h31 : k ≤ 31) (hf : ¬ fitsB x k = true) : ¬ okW x k := by
  rintro (h | h | h)
  · exact hx h
  · omega
  · exact hf h
theorem width_any (v : Value) (l : List Int) (w : World) (B : Nat) (hS : Sli w B v (ci l)) (hn : l.length ≤ 1099511627776) :
    Calls Try.prog 69 #[v] w fun e w' => ∃ k : Nat, e = .returned (.int .i64 k) ∧ IsW l k ∧ w = w' := by
  obtain ⟨A, c, rfl, hlc, hcm⟩ := hS.formI
  obtain ⟨n, hnl⟩ : ∃ n, l.length = n := ⟨_, rfl⟩
  rw [hnl] at hS hlc hn ⊢
  have HNL := Lib.hid hnl; clear hnl
  go_enter Try.func69, Try.ntmps69
  go_wp2
  go_loop [3, 8] (fun v i => ∃ j k : Nat, j ≤ n ∧ i = .int .i64 j ∧ v = .int .i64 k ∧ Hid (IsW (l.take j) k)) (fun _ i => n - (intOf i).toNat)
  case atStart => exact ⟨0, 0, Nat.zero_le _, rfl, rfl, IsW.nil⟩
  case round =>
    obtain ⟨j, k, hj, rfl, rfl, hk⟩ := hrel
    by_cases hlt : j < n
    · have hjl : j < l.length := by rw [HNL.out]; exact hlt
      obtain ⟨b, o, rfl, hb, hcell⟩ := hS.atI hjl
      have htk : l.take (j + 1) = l.take j ++ [l[j]] := List.take_succ_eq_append_getElem hjl
      have hm := Lib.hid (hk.out.mid l[j])
      have HT := Lib.hid htk; clear htk hk
      generalize l[j] = x at *
      clear hjl
      go_wp2
      go_loop [3] (fun v => ∃ k : Nat, v = .int .i64 k ∧ k ≤ 32 ∧ Hid (MidW (l.take j) x k)) (fun v => 32 - (intOf v).toNat)
      case atStart => exact ⟨k, rfl, hm.out.1, hm⟩
      case round =>
        obtain ⟨k, rfl, hk32, hk⟩ := hrel
        have hdone : okW x k → IsW (l.take (j + 1)) k := fun h => by rw [HT.out]; exact hk.out.done h
        have HD := Lib.hid hdone; clear hdone
        by_cases hx : x = 0
        · subst hx
          go_wp2
          exact ⟨⟨j + 1, k, by omega, by simp, rfl, HD.out (.inl rfl)⟩, by simp [intOf]; omega⟩
        · by_cases h31 : k ≤ 31
          · by_cases hf : fitsB x k = true
            · have HF := Lib.hid (fun w => fits_any x k w)
              rw [hf] at HF
              have HF0 := Lib.hid hf; clear hf
              go_wp2_with (go_at_call 85; refine (HF.out _).mono ?_; rintro e w1 ⟨rfl, rfl⟩)
              exact ⟨⟨j + 1, k, by omega, by simp, rfl, HD.out (.inr (.inr HF0.out))⟩, by simp [intOf]; omega⟩
            · have HF := Lib.hid (fun w => fits_any x k w)
              rw [Bool.eq_false_iff.2 hf] at HF
              have HN := Lib.hid (hk.out.more (okW_not hx h31 hf)); clear hf
              go_wp2_with (go_at_call 85; refine (HF.out _).mono ?_; rintro e w1 ⟨rfl, rfl⟩)
              exact ⟨⟨k + 1, by simp, by omega, HN⟩, by simp [intOf]; omega⟩
          · go_wp2
            exact ⟨⟨j + 1, k, by omega, by simp, rfl, HD.out (.inr (.inl (by omega)))⟩, by simp [intOf]; omega⟩
    · go_wp2
      go_ret
      have : j = l.length := by rw [HNL.out]; omega
      subst this
      rw [List.take_length] at hk
      exact ⟨k, rfl, hk.out, rfl⟩
theorem rwidth_any (v : Value) (l : List Int) (w : World) (B : Nat) (hS : Sli w B v (ci l)) (hn : l.length ≤ 1099511627776) :
    Calls Try.prog 41 #[v] w fun e w' => ∃ k : Nat, e = .returned (.int .i64 k) ∧ IsW l k ∧ w = w' := by
  obtain ⟨A, c, rfl, hlc, hcm⟩ := hS.formI
  obtain ⟨n, hnl⟩ : ∃ n, l.length = n := ⟨_, rfl⟩
  rw [hnl] at hS hlc hn ⊢
  have HNL := Lib.hid hnl; clear hnl
  go_enter Try.func41, Try.ntmps41
  go_wp2
  go_loop [3, 4] (fun v i => ∃ j k : Nat, j ≤ n ∧ i = .int .i64 j ∧ v = .int .i64 k ∧ Hid (IsW (l.take j) k)) (fun _ i => n - (intOf i).toNat)
  case atStart => exact ⟨0, 0, Nat.zero_le _, rfl, rfl, IsW.nil⟩
  case round =>
    obtain ⟨j, k, hj, rfl, rfl, hk⟩ := hrel
    by_cases hlt : j < n
    · have hjl : j < l.length := by rw [HNL.out]; exact hlt
      obtain ⟨b, o, rfl, hb, hcell⟩ := hS.atI hjl
      have htk : l.take (j + 1) = l.take j ++ [l[j]] := List.take_succ_eq_append_getElem hjl
      have hm := Lib.hid (hk.out.mid l[j])
      have HT := Lib.hid htk; clear htk hk
      generalize l[j] = x at *
      clear hjl
      go_wp2
      go_loop [3] (fun v => ∃ k : Nat, v = .int .i64 k ∧ k ≤ 32 ∧ Hid (MidW (l.take j) x k)) (fun v => 32 - (intOf v).toNat)
      case atStart => exact ⟨k, rfl, hm.out.1, hm⟩
      case round =>
        obtain ⟨k, rfl, hk32, hk⟩ := hrel
        have hdone : okW x k → IsW (l.take (j + 1)) k := fun h => by rw [HT.out]; exact hk.out.done h
        have HD := Lib.hid hdone; clear hdone
        by_cases h31 : k ≤ 31
        · by_cases hx : x = 0
          · subst hx
            go_wp2
            exact ⟨⟨j + 1, k, by omega, by simp, rfl, HD.out (.inl rfl)⟩, by simp [intOf]; omega⟩
          · have hxb : (x != 0) = true := by simpa using hx
            by_cases hf : fitsB x k = true
            · have HF := Lib.hid (fun w => rfits_any x k w)
              rw [hf] at HF
              have HF0 := Lib.hid hf; clear hf
              go_wp2_with (go_at_call 68; refine (HF.out _).mono ?_; rintro e w1 ⟨rfl, rfl⟩)
              exact ⟨⟨j + 1, k, by omega, by simp, rfl, HD.out (.inr (.inr HF0.out))⟩, by simp [intOf]; omega⟩
            · have HF := Lib.hid (fun w => rfits_any x k w)
              rw [Bool.eq_false_iff.2 hf] at HF
              have HN := Lib.hid (hk.out.more (okW_not hx h31 hf)); clear hf
              go_wp2_with (go_at_call 68; refine (HF.out _).mono ?_; rintro e w1 ⟨rfl, rfl⟩)
              exact ⟨⟨k + 1, by simp, by omega, HN⟩, by simp [intOf]; omega⟩
        · go_wp2
          exact ⟨⟨j + 1, k, by omega, by simp, rfl, HD.out (.inr (.inl (by omega)))⟩, by simp [intOf]; omega⟩
    · go_wp2
      go_ret
      have : j = l.length := by rw [HNL.out]; omega
      subst this
      rw [List.take_length] at hk
      exact ⟨k, rfl, hk.out, rfl⟩

theorem IsZ.zero : IsZ 0 0 := ⟨by omega, fun _ => rfl, fun h => absurd rfl h⟩
theorem IsZ.of_mid {A : Int} {n : Nat} (hA : A ≠ 0) (hn : n ≤ 30) (h : A % ((2 ^ n : Nat) : Int) = 0) (hd : n = 30 ∨ A / ((2 ^ n : Nat) : Int) % 2 ≠ 0) : IsZ A n :=
  ⟨hn, fun h => absurd h hA, fun _ => ⟨h, fun hl he => by rcases hd with hd | hd; · omega
                                                          · exact hd ((half_mod h).1 he)⟩⟩
end Go.Proofs.Ytohbpjehphmedaa
