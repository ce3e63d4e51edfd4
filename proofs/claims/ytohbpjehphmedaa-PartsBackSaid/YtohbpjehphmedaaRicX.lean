/- rice: what the reference writes. -/
import Derived.Test.YtohbpjehphmedaaRicW
namespace Go.Proofs.Ytohbpjehphmedaa
open Go.RowKit
set_option maxRecDepth 100000
set_option maxHeartbeats 800000

theorem qrput_any {w : World} {base g : Nat} {v : Value} {L : List Bool} (hR : WqO w base g v L) (k : Int) (va : Value) (l : List Int) (hS : Stays w g v va (ci l)) (hlen : L.length + 65 * l.length ≤ 1099511600000) (hb : base ≤ w.heap.size) :
    Calls Try.prog 53 #[.pointer (some ⟨g, 0, none⟩), .int .i64 k, va] w fun e w' => e = .returned (.int .i64 (putR k l L).2) ∧ ∃ v', WqO w' base g v' (putR k l L).1 ∧ Mov w w' g v v' := by
  have hp := fun w => qpar_any k w
  obtain ⟨B0, hS0⟩ := hS.now
  have hA := allWide_any va l w B0 hS0 (by omega)
  obtain ⟨A, c, rfl, hlc, hcm⟩ := hS0.formI
  clear hS0
  by_cases hk : paramB k = true
  · rw [hk] at hp
    cases hall : l.all wideB
    · have hr : putR k l L = (L, 1) := by unfold putR; rw [if_neg (by simp [hall])]
      rw [hr]; rw [hall] at hA
      have HP := Lib.hid hp; have HA := Lib.hid hA; have HR := Lib.hid hR
      clear hp hA hk hall hr hS hR
      go_enter Try.func53, Try.ntmps53
      go_wp2_with (first
        | (go_at_call 45; refine (HP.out _).mono ?_; rintro e w1 ⟨rfl, rfl⟩)
        | (go_at_call 38; refine (HA.out).mono ?_; rintro e w1 ⟨rfl, rfl⟩))
      go_ret
      exact ⟨rfl, v, HR.out, Mov.refl _ _ _⟩
    · obtain ⟨hk0, hk25⟩ := paramB_iff.1 hk
      obtain ⟨m, rfl⟩ := Int.eq_ofNat_of_zero_le hk0
      have hm25 : m ≤ 25 := by omega
      have hr : putR m l L = (L ++ codes m l, 0) := by unfold putR; rw [if_pos ⟨hk, hall⟩, Int.toNat_natCast]
      rw [hr]; rw [hall] at hA
      have hum : IntKind.u64.wrap ((m : Nat) : Int) = (m : Nat) := IntWalk.u64_in _ (by omega)
      have hmask := mask_eq (n := m) (by omega)
      have h25 := two_pow_le hm25
      obtain ⟨n, hnl⟩ : ∃ n, l.length = n := ⟨_, rfl⟩
      rw [hnl] at hlen hlc hA hS ⊢
      have HP := Lib.hid hp; have HA := Lib.hid hA; have HR := Lib.hid hR; have HS := Lib.hid hS; have HNL := Lib.hid hnl; have H25 := Lib.hid h25
      clear hp hA hk hall hr hS hR hnl hk0 hk25 h25
      go_enter Try.func53, Try.ntmps53
      go_wp2_with (first
        | (go_at_call 45; refine (HP.out _).mono ?_; rintro e w1 ⟨rfl, rfl⟩)
        | (go_at_call 38; refine (HA.out).mono ?_; rintro e w1 ⟨rfl, rfl⟩))
      go_loopw [7] (fun i wr => ∃ (j : Nat) (v1 : Value), j ≤ n ∧ i = .int .i64 j ∧ WqO wr base g v1 (L ++ codes m (l.take j)) ∧ Mov w wr g v v1) (fun i _ => n - (intOf i).toNat)
      case atStart => exact ⟨0, v, Nat.zero_le _, rfl, by simpa [codes] using HR.out, Mov.refl _ _ _⟩
      case round =>
        obtain ⟨j, v1, hj, rfl, hR1, hm1⟩ := hrel
        by_cases hlt : j < n
        · have hjl : j < l.length := by rw [HNL.out]; exact hlt
          obtain ⟨B1, hS1⟩ := HS.out _ _ hm1
          obtain ⟨b, o, rfl, hbB, hcell⟩ := hS1.atI hjl
          have hcs := codes_snoc (k := m) hjl
          have hle := codes_le hm25 (l.take j)
          have hl2 : (l.take j).length ≤ j := by rw [List.length_take]; omega
          have hF := fun w => qfold_any l[j] w
          have hu := foldN_lt l[j]
          generalize foldN l[j] = u at *
          generalize l[j] = x at *
          have hL1 : (L ++ codes m (l.take j)).length ≤ 1099511600000 := by rw [List.length_append]; omega
          have hbr := Nat.le_trans hb hm1.size
          have hqI := shr_cast u m
          by_cases hq32 : u / 2 ^ m < 32
          · have hc : (L ++ codes m (l.take j)) ++ code m u = ((L ++ codes m (l.take j)) ++ msb 1 (u / 2 ^ m + 1)) ++ msb (u % 2 ^ m) m := by unfold code; rw [if_pos hq32, msb_mod]; simp only [List.append_assoc]
            rw [List.append_assoc, ← hcs] at hc
            have hr : u % 2 ^ m < 2 ^ m := Nat.mod_lt _ (Nat.pow_pos (by omega))
            have hand := u64_mask m (by omega) u
            have hr2 : u % 2 ^ m < 33554432 := by have := H25.out; omega
            generalize u % 2 ^ m = r at *
            generalize u / 2 ^ m = q at *
            generalize L ++ codes m (l.take j) = L1 at *
            have e1 := wUnary_ok L1 (n := q) (by omega)
            have e2 := wPut_ok (L1 ++ msb 1 (q + 1)) (x := r) (n := m) (by omega) hr
            have h1 := qunary_any hR1 (by omega) hbr q (by omega) (by omega)
            rw [e1] at h1
            have h2 : ∀ (w1 : World) (v1 : Value), WqO w1 base g v1 (L1 ++ msb 1 (q + 1)) → base ≤ w1.heap.size → _ := fun w1 v1 h hb1 => qput_any h (by rw [List.length_append, msb_len]; omega) hb1 r m (by omega) (by omega) (by omega)
            rw [e2, ← hc] at h2
            have HF := Lib.hid hF; have H1 := Lib.hid h1; have H2 := Lib.hid h2
            clear h1 h2 e1 e2 hF hc hr hcs hS1 hjl hle hl2 hR1
            go_wp2_with (first
              | (go_at_call 72; refine (HF.out _).mono ?_; rintro e w1 ⟨rfl, rfl⟩)
              | (go_at_call 73; refine (H1.out).mono ?_; rintro e w1 ⟨rfl, v1, hR1, hm2⟩)
              | (go_at_call 51; refine (H2.out w1 v1 hR1 (Nat.le_trans hbr hm2.size)).mono ?_; rintro e w2 ⟨rfl, v2, hR2, hm3⟩))
            exact ⟨⟨j + 1, v2, by omega, by simp, hR2, (hm1.trans hm2).trans hm3⟩, by simp [intOf]; omega⟩
          · have hc : (L ++ codes m (l.take j)) ++ code m u = ((L ++ codes m (l.take j)) ++ msb 1 (32 + 1)) ++ msb u 32 := by unfold code; rw [if_neg hq32]; simp only [List.append_assoc]
            rw [List.append_assoc, ← hcs] at hc
            have hqu : u / 2 ^ m ≤ u := Nat.div_le_self _ _
            generalize u / 2 ^ m = q at *
            generalize L ++ codes m (l.take j) = L1 at *
            have e1 := wUnary_ok L1 (n := 32) (by omega)
            have e2 := wPut_ok (L1 ++ msb 1 (32 + 1)) (x := u) (n := 32) (by omega) (by omega)
            have h1 := qunary_any hR1 (by omega) hbr (32 : Nat) (by omega) (by omega)
            rw [e1] at h1
            have h2 : ∀ (w1 : World) (v1 : Value), WqO w1 base g v1 (L1 ++ msb 1 (32 + 1)) → base ≤ w1.heap.size → _ := fun w1 v1 h hb1 => qput_any h (by rw [List.length_append, msb_len]; omega) hb1 u (32 : Nat) (by omega) (by omega) (by omega)
            rw [e2, ← hc] at h2
            have HF := Lib.hid hF; have H1 := Lib.hid h1; have H2 := Lib.hid h2
            clear h1 h2 e1 e2 hF hc hcs hS1 hjl hle hl2 hR1
            go_wp2_with (first
              | (go_at_call 72; refine (HF.out _).mono ?_; rintro e w1 ⟨rfl, rfl⟩)
              | (go_at_call 73; refine (H1.out).mono ?_; rintro e w1 ⟨rfl, v1, hR1, hm2⟩)
              | (go_at_call 51; refine (H2.out w1 v1 hR1 (Nat.le_trans hbr hm2.size)).mono ?_; rintro e w2 ⟨rfl, v2, hR2, hm3⟩))
            exact ⟨⟨j + 1, v2, by omega, by simp, hR2, (hm1.trans hm2).trans hm3⟩, by simp [intOf]; omega⟩
        · have : j = l.length := by rw [HNL.out]; omega
          subst this
          rw [List.take_length] at hR1
          go_wp2
          go_ret
          exact ⟨rfl, v1, hR1, hm1⟩
  · have hr : putR k l L = (L, 1) := by unfold putR; rw [if_neg (fun h => hk h.1)]
    rw [hr]; rw [Bool.eq_false_iff.2 hk] at hp
    have HP := Lib.hid hp; have HR := Lib.hid hR
    clear hp hA hk hr hS hR
    go_enter Try.func53, Try.ntmps53
    go_wp2_with (go_at_call 45; refine (HP.out _).mono ?_; rintro e w1 ⟨rfl, rfl⟩)
    go_ret
    exact ⟨rfl, v, HR.out, Mov.refl _ _ _⟩
end Go.Proofs.Ytohbpjehphmedaa
