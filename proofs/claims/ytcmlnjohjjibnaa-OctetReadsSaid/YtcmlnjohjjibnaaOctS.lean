/- octet: the reader's methods, on. -/
import Derived.Test.YtcmlnjohjjibnaaOctR
namespace Go.Proofs.Ytcmlnjohjjibnaa
open Go.RowKit
set_option maxRecDepth 100000
set_option maxHeartbeats 400000

theorem take_any {w : World} {g at_ : Nat} {l : List Nat} {er : Int} (hR : RdO w g l at_ er) (n : Int) (hn : n ≤ 9223372036854775807) :
    Calls Try.prog 20 #[.pointer (some ⟨g, 0, none⟩), .int .i64 n] w fun e w' => ∃ v', e = .returned v' ∧ Own w' w.heap.size 5 v' (cu8 (rdTake l at_ er n.toNat).1) ∧ RdO w' g l (rdTake l at_ er n.toNat).2.1 (rdTake l at_ er n.toNat).2.2 ∧ w.grownBy w' (some g) := by
  have hn1 := next_any hR n.toNat (by omega)
  have hlen := rdTake_len l at_ er n.toNat
  have hll : (rdTake l at_ er n.toNat).1.length ≤ 1099511627776 := by
    obtain ⟨v, _, _, _, _, h⟩ := hR
    unfold rdTake; split
    · split <;> simp; omega
    · simp
  generalize rdTake l at_ er n.toNat = r at hn1 hll ⊢
  have H := Lib.hid hn1
  clear hn1 hlen
  by_cases h0 : 0 ≤ n
  · obtain ⟨m, rfl⟩ := Int.eq_ofNat_of_zero_le h0
    simp only [Int.toNat_natCast] at H
    go_enter Try.func20, Try.ntmps20
    go_wp2_with (first
      | (go_at_call 36; refine (H.out).mono ?_; rintro e w1 ⟨v1, rfl, hs1, hR1, hg1⟩)
      | (go_at_call 34; refine (clone_any v1 r.1 _ hs1 hll).mono ?_; rintro e w2 ⟨v2, rfl, ho2, hb2⟩))
    go_ret
    exact ⟨v2, rfl, Own.mono ho2 hg1.size, hR1.below hb2, grown_trans hg1 (grown_below hb2 hg1.size)⟩
  · rw [show n.toNat = 0 by omega] at H
    have h1 : n < 0 := by omega
    go_enter Try.func20, Try.ntmps20
    go_wp2_with (first
      | (go_at_call 36; refine (H.out).mono ?_; rintro e w1 ⟨v1, rfl, hs1, hR1, hg1⟩)
      | (go_at_call 34; refine (clone_any v1 r.1 _ hs1 hll).mono ?_; rintro e w2 ⟨v2, rfl, ho2, hb2⟩))
    go_ret
    exact ⟨v2, rfl, Own.mono ho2 hg1.size, hR1.below hb2, grown_trans hg1 (grown_below hb2 hg1.size)⟩

theorem rbig_any {w : World} {g at_ : Nat} {l : List Nat} {er : Int} (hR : RdO w g l at_ er) (n : Int) :
    Calls Try.prog 15 #[.pointer (some ⟨g, 0, none⟩), .int .i64 n] w fun e w' => e = .returned (.int .u64 (beV (rdTake l at_ er (clampN n)).1 : Nat)) ∧ RdO w' g l (rdTake l at_ er (clampN n)).2.1 (rdTake l at_ er (clampN n)).2.2 ∧ w.grownBy w' (some g) := by
  have hcl := clampN_le n
  have hn1 := next_any hR (clampN n) (by omega)
  have hlen := rdTake_len l at_ er (clampN n)
  have hby := rdTake_byte l at_ er (clampN n) (by obtain ⟨v, _, _, _, h, _⟩ := hR; exact h)
  generalize rdTake l at_ er (clampN n) = r at hn1 hlen hby ⊢
  obtain ⟨t, q⟩ := r
  simp only at hn1 hlen hby ⊢
  have H := Lib.hid hn1
  clear hn1
  go_enter Try.func15, Try.ntmps15
  go_wp2_with (first
      | (go_at_call 37; refine (clamp_any n _).mono ?_; rintro e w0 ⟨rfl, rfl⟩)
      | (go_at_call 36; refine (H.out).mono ?_; rintro e w1 ⟨v1, rfl, ⟨A1, k1, rfl, hh1, _⟩, hR1, hg1⟩; rw [cu8_len] at hh1 ⊢))
  go_loop [5, 13] (fun v i => ∃ k : Nat, k ≤ t.length ∧ i = .int .i64 k ∧ v = .int .u64 (beV (t.take k) : Nat)) (fun _ i => t.length - (intOf i).toNat)
  case atStart => exact ⟨0, Nat.zero_le _, rfl, rfl⟩
  case round =>
    obtain ⟨k, hk, rfl, rfl⟩ := hrel
    by_cases hlt : k < t.length
    · obtain ⟨b, o, u, rfl, hb, hcell, hu⟩ := hh1.get hlt
      obtain ⟨x, hxk⟩ : ∃ x, t[k]? = some x := ⟨_, List.getElem?_eq_getElem hlt⟩
      have hx' : x < 256 := hby x (List.mem_of_getElem? hxk)
      have hu' : u = .int .u8 (x : Nat) := by simpa [cu8, hxk] using hu.symm
      subst hu'
      have htk : t.take (k + 1) = t.take k ++ [x] := by rw [List.take_add_one, hxk]; rfl
      have hs := beV_snoc (t.take k) x
      rw [← htk] at hs
      have hst := be_step (Nat.lt_of_lt_of_le (beV_lt t hby k hk) (pow256_le (by omega))) hx'
      rw [← hs] at hst
      have HS := Lib.hid hst; clear hst hs htk hxk hu
      generalize beV (t.take k) = y at HS ⊢
      go_wp2
      exact ⟨⟨k + 1, by omega, by simp, by rw [HS.out]⟩, by simp [intOf]; omega⟩
    · have hkn : k = t.length := by omega
      subst hkn
      rw [List.take_length]
      go_wp2
      go_ret
      exact ⟨rfl, hR1, hg1⟩

theorem rsmall_any {w : World} {g at_ : Nat} {l : List Nat} {er : Int} (hR : RdO w g l at_ er) (n : Int) :
    Calls Try.prog 17 #[.pointer (some ⟨g, 0, none⟩), .int .i64 n] w fun e w' => e = .returned (.int .u64 (leV (rdTake l at_ er (clampN n)).1 : Nat)) ∧ RdO w' g l (rdTake l at_ er (clampN n)).2.1 (rdTake l at_ er (clampN n)).2.2 ∧ w.grownBy w' (some g) := by
  have hcl := clampN_le n
  have hn1 := next_any hR (clampN n) (by omega)
  have hlen := rdTake_len l at_ er (clampN n)
  have hby := rdTake_byte l at_ er (clampN n) (by obtain ⟨v, _, _, _, h, _⟩ := hR; exact h)
  generalize rdTake l at_ er (clampN n) = r at hn1 hlen hby ⊢
  obtain ⟨t, q⟩ := r
  simp only at hn1 hlen hby ⊢
  have H := Lib.hid hn1
  clear hn1
  go_enter Try.func17, Try.ntmps17
  go_wp2_with (first
      | (go_at_call 37; refine (clamp_any n _).mono ?_; rintro e w0 ⟨rfl, rfl⟩)
      | (go_at_call 36; refine (H.out).mono ?_; rintro e w1 ⟨v1, rfl, ⟨A1, k1, rfl, hh1, _⟩, hR1, hg1⟩; rw [cu8_len] at hh1 ⊢))
  go_loop [5, 13] (fun v i => ∃ k : Nat, k ≤ t.length ∧ i = .int .i64 k ∧ v = .int .u64 (leV (t.take k) : Nat)) (fun _ i => t.length - (intOf i).toNat)
  case atStart => exact ⟨0, Nat.zero_le _, rfl, rfl⟩
  case round =>
    obtain ⟨k, hk, rfl, rfl⟩ := hrel
    by_cases hlt : k < t.length
    · obtain ⟨b, o, u, rfl, hb, hcell, hu⟩ := hh1.get hlt
      obtain ⟨x, hxk⟩ : ∃ x, t[k]? = some x := ⟨_, List.getElem?_eq_getElem hlt⟩
      have hx' : x < 256 := hby x (List.mem_of_getElem? hxk)
      have hu' : u = .int .u8 (x : Nat) := by simpa [cu8, hxk] using hu.symm
      subst hu'
      have htk : t.take (k + 1) = t.take k ++ [x] := by rw [List.take_add_one, hxk]; rfl
      have hs := leV_snoc (t.take k) x
      rw [← htk, List.length_take, Nat.min_eq_left hk] at hs
      have hlt2 := leV_lt (t.take k) (fun x hx => hby x (List.mem_of_mem_take hx))
      rw [List.length_take, Nat.min_eq_left hk] at hlt2
      have hst := le_step (k := k) (by omega) hlt2 hx'
      rw [← hs] at hst
      have HS := Lib.hid hst; clear hst hs htk hxk hu hlt2
      generalize leV (t.take k) = y at HS ⊢
      go_wp2
      exact ⟨⟨k + 1, by omega, by simp, by rw [HS.out]⟩, by simp [intOf]; omega⟩
    · have hkn : k = t.length := by omega
      subst hkn
      rw [List.take_length]
      go_wp2
      go_ret
      exact ⟨rfl, hR1, hg1⟩

end Go.Proofs.Ytcmlnjohjjibnaa
