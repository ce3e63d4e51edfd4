/- prefix: the law PrefixApart. -/
import Derived.Test.YtfganboolaeloaaPfxE
namespace Go.Proofs.Ytfganboolaeloaa
open Go.RowKit
set_option maxRecDepth 100000
set_option maxHeartbeats 1600000

theorem apart_plain {ls ss row : List Nat} (hf : Fulls ls ss) (hc : Cod ls ss row) {i k : Nat} (hi : i < ls.length) (hk : k < ls.length) (hne : i ≠ k) (h0 : 0 < atN ls i) (hle : atN ls i ≤ atN ls k) :
    atN row k / 2 ^ (atN ls k - atN ls i) ≠ atN row i := by
  have hmi : i ∈ ss := hf.asc.1.mem_iff.2 (usedN_mem.2 ⟨hi, h0⟩)
  have hmk : k ∈ ss := hf.asc.1.mem_iff.2 (usedN_mem.2 ⟨hk, by omega⟩)
  obtain ⟨a, ha, rfl⟩ := List.getElem_of_mem hmi
  obtain ⟨b, hb, rfl⟩ := List.getElem_of_mem hmk
  have hab : a ≠ b := fun e => hne (by subst e; rfl)
  have e1 := hc.word a ha
  have e2 := hc.word b hb
  rw [atN_get ha] at e1
  rw [atN_get hb] at e2
  rw [e1, e2]
  have hla : a < (ss.map (atN ls)).length := by rw [List.length_map]; exact ha
  have hlb : b < (ss.map (atN ls)).length := by rw [List.length_map]; exact hb
  have h := code_apart (L := 24) hf.rises hf.most a b hla hlb hab (by simpa using hle)
  simp only [List.getElem_map] at h
  rw [atN_get (l := codesC (ss.map (atN ls))) (k := b) (by rw [codesC_len]; exact hlb), atN_get (l := codesC (ss.map (atN ls))) (k := a) (by rw [codesC_len]; exact hla)]
  exact h
theorem cod_fits {ls ss row : List Nat} (hf : Fulls ls ss) (hc : Cod ls ss row) (i : Nat) (hi : i < ls.length) : atN row i < 2 ^ atN ls i := by
  by_cases h0 : 0 < atN ls i
  · exact hc.fits hf hi h0
  · have : i ∉ ss := fun h => by have := (usedN_mem.1 (hf.asc.1.mem_iff.1 h)).2; omega
    rw [hc.none i this]; exact Nat.two_pow_pos _

theorem prefixApart_walk (va : Value) (l : List Int) (w : World) (hA : Sli w w.heap.size va (ci l)) :
    Calls Try.prog 7 #[va] w fun e w' => e = .returned (.bool true) ∧ Below w.heap.size w w' := by
  have HS := Lib.hid hA
  obtain ⟨A, c, rfl, hlc, hcm⟩ := hA.formI
  obtain ⟨n, hnl⟩ : ∃ n, l.length = n := ⟨_, rfl⟩
  rw [hnl] at hlc HS ⊢
  have HNL := Lib.hid hnl
  clear hA hnl
  by_cases h60 : 60 < n
  · clear HS
    go_enter Try.func7, Try.ntmps7
    go_wp2_with (go_at_call 11; refine (knownX_any w).mono ?_; rintro e w1 ⟨rfl, hb1⟩)
    go_ret
    exact ⟨rfl, hb1⟩
  cases hfb : fullB l with
  | false =>
    have HFB := Lib.hid hfb
    clear hfb
    go_enter Try.func7, Try.ntmps7
    go_wp2_with fail
    refine (knownX_any w).mono ?_
    rintro e w1 ⟨rfl, hb1⟩
    have HB1 := Lib.hid hb1
    clear hb1
    go_wp2_with fail
    refine (codes_bad (HS.out.below HB1.out) HFB.out).mono ?_
    rintro e w2 ⟨rfl, hw2⟩
    subst hw2
    go_wp2_with fail
    have hfa := full_any (HS.out.below HB1.out)
    rw [HFB.out] at hfa
    refine hfa.mono ?_
    rintro e w2 ⟨rfl, hw2⟩
    subst hw2
    clear hfa
    go_wp2
    go_ret
    exact ⟨rfl, HB1.out⟩
  | true =>
    obtain ⟨ls, ss, rfl, hF⟩ := Fulls.of hfb
    have HFB := Lib.hid hfb; have HF := Lib.hid hF
    have hll : ls.length = n := by rw [← HNL.out, ni_len]
    have HLL := Lib.hid hll
    clear hfb hF hll
    go_enter Try.func7, Try.ntmps7
    go_wp2_with fail
    refine (knownX_any w).mono ?_
    rintro e w1 ⟨rfl, hb1⟩
    have HB1 := Lib.hid hb1
    clear hb1
    go_wp2_with fail
    refine (codes_any (HS.out.below HB1.out) HB1.out.size HF.out).mono ?_
    rintro e w2 ⟨v2, row, rfl, ho2, hcod, hb2⟩
    have hrl := hcod.len
    rw [HLL.out] at hrl
    obtain ⟨A2, c2, rfl, hc2, hm2⟩ := ho2.form
    rw [cu64_len, hrl] at hc2 ho2 ⊢
    have HB2 := Lib.hid (bthen HB1.out hb2 HB1.out.size); have HO2 := Lib.hid ho2; have HCOD := Lib.hid hcod; have HRL := Lib.hid hrl
    have HS2 := Lib.hid (HS.out.below HB2.out)
    clear hb2 ho2 hcod hrl
    go_wp2_with fail
    have hfa := full_any HS2.out
    rw [HFB.out] at hfa
    refine hfa.mono ?_
    rintro e w3 ⟨rfl, hw3⟩
    subst hw3
    clear hfa
    go_wp2_with fail
    go_loopw [5] (fun vi wr => ∃ i q : Nat, i ≤ n ∧ vi = .int .i64 i ∧ Hid (wr = w2.drewN q)) (fun vi _ => n - (intOf vi).toNat)
    case atStart => exact ⟨0, 0, Nat.zero_le _, rfl, Lib.hid rfl⟩
    case round =>
      obtain ⟨i, q, hi, rfl, hwr⟩ := hrel
      by_cases hlt : i < n
      · have hS1 : Sli wr w.heap.size (.slice A n c) (ci (ni ls)) := by rw [hwr.out]; exact HS2.out
        obtain ⟨b, o, rfl, hb, r1⟩ := hS1.atI (i := i) (by rw [ni_len, HLL.out]; exact hlt)
        rw [ni_at (by rw [HLL.out]; exact hlt)] at r1
        have hO1 : Own wr w1.heap.size 40 (.slice A2 n c2) (cu64 row) := by rw [hwr.out]; exact HO2.out
        obtain ⟨g2, c2', hv2, _, _, _, hcell, _⟩ := hO1.at_ (by rw [cu64_len, HRL.out]; omega)
        injection hv2 with hv2 hx1 hx2; clear hx1 hx2; subst hv2
        have r2 := hcell i (by rw [cu64_len, HRL.out]; exact hlt)
        have e2 : ∀ j, j < n → (cu64 row)[j]? = some (.int .u64 (atN row j : Nat)) := fun j hj => by
          have hj' : j < row.length := by rw [HRL.out]; exact hj
          rw [atN_get hj']; simp [cu64, hj']
        rw [e2 i hlt] at r2
        have hfit := cod_fits HF.out HCOD.out i (by rw [HLL.out]; exact hlt)
        have hy24 := HF.out.le i
        obtain ⟨x, hx⟩ : ∃ x, atN row i = x := ⟨_, rfl⟩
        obtain ⟨y, hy⟩ : ∃ y, atN ls i = y := ⟨_, rfl⟩
        rw [hx] at r2 hfit
        rw [hy] at r1 hfit hy24
        have hdiv : ((x : Int) / (2 : Int) ^ y != 0) = false := by
          have : (x : Int) / (2 : Int) ^ y = ((x / 2 ^ y : Nat) : Int) := by rw [Int.natCast_ediv, pow_cast]
          rw [this, Nat.div_eq_of_lt hfit]; rfl
        have HX := Lib.hid hx; have HY := Lib.hid hy; have HC := Lib.hid hcell; have HE2 := Lib.hid e2
        have hn1 : ∀ m, Hid (wr.drewN m = w2.drewN (q + m)) := fun m => Lib.hid (by rw [hwr.out, World.drewN_drewN])
        clear hx hy hcell e2 hO1 hS1 hfit
        go_wp2_with fail
        go_quiet (fail)
        go_wp2_with fail
        clear r1 r2 hdiv
        go_loopw [6] (fun vk wr => ∃ k q2 : Nat, k ≤ n ∧ vk = .int .i64 k ∧ Hid (wr = w2.drewN q2)) (fun vk _ => n - (intOf vk).toNat)
        case atStart => exact ⟨0, _, Nat.zero_le _, rfl, hn1 _⟩
        case round =>
          obtain ⟨k, q2, hk, rfl, hwk⟩ := hrel
          by_cases hlt2 : k < n
          · have hS1 : Sli wr w.heap.size (.slice (some ⟨b, o, none⟩) n c) (ci (ni ls)) := by rw [hwk.out]; exact HS2.out
            obtain ⟨b', o', e', _, r1⟩ := hS1.atI (i := i) (by rw [ni_len, HLL.out]; exact hlt)
            injection e' with e'; injection e' with ex1 ex2; subst ex1; subst ex2
            obtain ⟨b', o', e', _, r3⟩ := hS1.atI (i := k) (by rw [ni_len, HLL.out]; exact hlt2)
            injection e' with e'; injection e' with ex1 ex2; subst ex1; subst ex2
            rw [ni_at (by rw [HLL.out]; exact hlt), HY.out] at r1
            rw [ni_at (by rw [HLL.out]; exact hlt2)] at r3
            have hO1 : Own wr w1.heap.size 40 (.slice (some ⟨g2, 0, none⟩) n c2) (cu64 row) := by rw [hwk.out]; exact HO2.out
            obtain ⟨g', c', hv', _, _, _, hcell, _⟩ := hO1.at_ (by rw [cu64_len, HRL.out]; omega)
            injection hv' with hv' hx1 hx2; clear hx1 hx2; injection hv' with hv'; injection hv' with hv' hx3 hx4; clear hx3 hx4; subst hv'
            have r2 := hcell i (by rw [cu64_len, HRL.out]; exact hlt)
            have r4 := hcell k (by rw [cu64_len, HRL.out]; exact hlt2)
            rw [HE2.out i hlt, HX.out] at r2
            rw [HE2.out k hlt2] at r4
            have hap := fun hne h0 hle => apart_plain HF.out HCOD.out (i := i) (k := k) (by rw [HLL.out]; exact hlt) (by rw [HLL.out]; exact hlt2) hne h0 hle
            rw [HX.out, HY.out] at hap
            have hz24 := HF.out.le k
            have hx24 := cod_fits HF.out HCOD.out k (by rw [HLL.out]; exact hlt2)
            obtain ⟨x2, hx2⟩ : ∃ x2, atN row k = x2 := ⟨_, rfl⟩
            obtain ⟨y2, hy2⟩ : ∃ y2, atN ls k = y2 := ⟨_, rfl⟩
            rw [hx2] at r4 hap
            rw [hy2] at r3 hap hz24
            clear hcell hO1 hS1 hx2 hy2 hx24
            have hn : ∀ m, Hid (wr.drewN m = w2.drewN (q2 + m)) := fun m => Lib.hid (by rw [hwk.out, World.drewN_drewN])
            by_cases hik : i = k
            · have hik2 : ((i : Int) != (k : Int)) = false := by rw [hik]; simp
              clear hap hik
              go_wp2_with fail
              go_quiet (fail)
              go_wp2
              exact ⟨⟨k + 1, _, by omega, by simp, hn _⟩, by simp [intOf]; omega⟩
            · have hik2 : ((i : Int) != (k : Int)) = true := by simp; omega
              by_cases h0 : 0 < y
              · by_cases hle : y ≤ y2
                · have ha := hap hik h0 hle
                  obtain ⟨d, hd⟩ : ∃ d : Nat, (y2 : Int) - (y : Int) = (d : Nat) := ⟨y2 - y, by omega⟩
                  have hd' : y2 - y = d := by omega
                  rw [hd'] at ha
                  have hd24 : d ≤ 24 := by omega
                  have hdv : ((x2 : Int) / (2 : Int) ^ d == (x : Int)) = false := by
                    have : (x2 : Int) / (2 : Int) ^ d = ((x2 / 2 ^ d : Nat) : Int) := by rw [Int.natCast_ediv, pow_cast]
                    rw [this]
                    simp only [beq_eq_false_iff_ne, ne_eq, Int.natCast_inj]
                    exact ha
                  clear hap ha hd' hik
                  go_wp2_with fail
                  go_quiet (fail)
                  go_wp2
                  exact ⟨⟨k + 1, _, by omega, by simp, hn _⟩, by simp [intOf]; omega⟩
                · clear hap
                  go_wp2_with fail
                  go_quiet (fail)
                  go_wp2
                  exact ⟨⟨k + 1, _, by omega, by simp, hn _⟩, by simp [intOf]; omega⟩
              · clear hap
                go_wp2_with fail
                go_quiet (fail)
                go_wp2
                exact ⟨⟨k + 1, _, by omega, by simp, hn _⟩, by simp [intOf]; omega⟩
          · go_wp2_with fail
            exact ⟨⟨i + 1, q2, by omega, by simp, hwk⟩, by simp [intOf]; omega⟩
      · go_wp2_with fail
        go_ret
        exact ⟨rfl, by rw [hwr.out]; exact below_drewN HB2.out q⟩
end Go.Proofs.Ytfganboolaeloaa
