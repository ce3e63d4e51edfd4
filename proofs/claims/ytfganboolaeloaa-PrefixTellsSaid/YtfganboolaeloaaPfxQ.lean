/- prefix: the law PrefixOften. -/
import Derived.Test.YtfganboolaeloaaPfxE
namespace Go.Proofs.Ytfganboolaeloaa
open Go.RowKit
set_option maxRecDepth 100000
set_option maxHeartbeats 1600000

/-- Arguments for which Lengths gives lengths. -/
structure Lgd (l : List Int) (most : Int) (fs ss : List Nat) (L : Nat) : Prop where
  eq : l = ni fs
  most : most = (L : Nat)
  len1 : 1 ≤ fs.length
  len2 : fs.length ≤ 1024
  le : ∀ x ∈ fs, x ≤ 1099511627776
  asc : Ascd fs ss
  l1 : 1 ≤ L
  l2 : L ≤ 24
  some : ss ≠ []
  fit : ss.length ≤ 2 ^ L
theorem Lgd.one {l : List Int} {most : Int} {fs ss : List Nat} {L : Nat} (h : Lgd l most fs ss L) : 1 ≤ ss.length := by
  have := h.some
  rcases ss with _ | _
  · exact absurd rfl this
  · simp
/-- The errors of Lengths. -/
def lenErr (l : List Int) (most : Int) (er : Int) : Prop :=
  (er = 1 ∧ (freqsB l = false ∨ most < 1 ∨ 24 < most)) ∨ (er = 7 ∧ ∃ fs L, l = ni fs ∧ most = (L : Nat) ∧ Ascd fs []) ∨ (er = 6 ∧ ∃ fs ss L, l = ni fs ∧ most = (L : Nat) ∧ Ascd fs ss ∧ 2 ^ L < ss.length)
theorem len_cases (l : List Int) (most : Int) {w : World} {B : Nat} {v : Value} (hS : Sli w B v (ci l)) (hB : B ≤ w.heap.size) :
    (∃ er, er ≠ 0 ∧ lenErr l most er ∧ Calls Try.prog 19 #[v, .int .i64 most] w fun e w' => e = .returned (.tuple #[.slice none 0 0, .int .i64 er]) ∧ Below w.heap.size w w') ∨
    ∃ fs ss L, Lgd l most fs ss L := by
  by_cases hbad : freqsB l = false ∨ most < 1 ∨ 24 < most
  · exact .inl ⟨1, by decide, .inl ⟨rfl, hbad⟩, (lengths_bad hS hbad).mono fun e w' ⟨h1, h2⟩ => ⟨h1, by subst h2; exact Below.refl _ _⟩⟩
  · have hf : freqsB l = true := by
      cases h : freqsB l with
      | true => rfl
      | false => exact absurd (.inl h) hbad
    have hm1 : 1 ≤ most ∧ most ≤ 24 := by
      constructor
      · exact Int.not_lt.1 fun h => hbad (.inr (.inl h))
      · exact Int.not_lt.1 fun h => hbad (.inr (.inr h))
    obtain ⟨fs, rfl, h1, h2, h3⟩ := freqs_nat hf
    obtain ⟨ss, hA⟩ := Ascd.is fs
    obtain ⟨L, rfl⟩ := Int.eq_ofNat_of_zero_le (show 0 ≤ most by omega)
    have hL1 : 1 ≤ L := by omega
    have hL2 : L ≤ 24 := by omega
    rcases ss with _ | ⟨s, t⟩
    · exact .inl ⟨7, by decide, .inr (.inl ⟨rfl, fs, L, rfl, rfl, hA⟩), lengths_none hS hB h1 h2 h3 hA hL1 hL2⟩
    · by_cases hu : 2 ^ L < (s :: t).length
      · exact .inl ⟨6, by decide, .inr (.inr ⟨rfl, fs, s :: t, L, rfl, rfl, hA, hu⟩), lengths_over hS hB h1 h2 h3 hA hL1 hL2 hu⟩
      · exact .inr ⟨fs, s :: t, L, rfl, rfl, h1, h2, h3, hA, hL1, hL2, by simp, by omega⟩
theorem Lgd.calls {l : List Int} {most : Int} {fs ss : List Nat} {L : Nat} (h : Lgd l most fs ss L) {w : World} {B : Nat} {v : Value} (hS : Sli w B v (ci l)) (hB : B ≤ w.heap.size) :
    Calls Try.prog 19 #[v, .int .i64 most] w fun e w' => ∃ v', e = .returned (.tuple #[v', .int .i64 0]) ∧ Own w' w.heap.size 3 v' (ci (ni (lensN fs ss L))) ∧ Below w.heap.size w w' := by
  obtain ⟨rfl, rfl, h1, h2, h3, hA, hL1, hL2, h0, hu⟩ := h
  exact lengths_any hS hB h1 h2 h3 hA hL1 hL2 h0 hu

theorem prefixOften_walk (va : Value) (l : List Int) (most : Int) (w : World) (hA : Sli w w.heap.size va (ci l)) :
    Calls Try.prog 9 #[va, .int .i64 most] w fun e w' => e = .returned (.bool true) ∧ Below w.heap.size w w' := by
  have hcs := fun (w1 : World) (hb : Below w.heap.size w w1) => len_cases l most (hA.below hb) hb.size
  have hgd := fun (w1 : World) (hb : Below w.heap.size w w1) (fs ss : List Nat) (L : Nat) (h : Lgd l most fs ss L) => h.calls (hA.below hb) hb.size
  have HA := Lib.hid hA
  obtain ⟨A1, c1, rfl, hlc1, hcm1⟩ := hA.formI
  have HCS := Lib.hid hcs; have HGD := Lib.hid hgd
  clear hA hcs hgd
  by_cases h60 : 60 < l.length
  · go_enter Try.func9, Try.ntmps9
    go_wp2_with (go_at_call 11; refine (knownX_any w).mono ?_; rintro e w1 ⟨rfl, hb1⟩)
    go_ret
    exact ⟨rfl, hb1⟩
  obtain ⟨n, hnl⟩ : ∃ n, l.length = n := ⟨_, rfl⟩
  rw [hnl] at h60 hlc1 HA HCS HGD ⊢
  have HNL := Lib.hid hnl
  clear hnl
  go_enter Try.func9, Try.ntmps9
  go_wp2_with fail
  refine (knownX_any w).mono ?_
  rintro e w1 ⟨rfl, hb1⟩
  rcases HCS.out w1 hb1 with ⟨er, her, _, hc⟩ | ⟨fs, ss, L, hg⟩
  · have her2 : (er != 0) = true := by simp [her]
    have HC := Lib.hid hc; have HB := Lib.hid hb1
    clear hc her hb1
    go_wp2_with fail
    refine HC.out.mono ?_
    rintro e w2 ⟨rfl, hb2⟩
    have HB2 := Lib.hid (bthen HB.out hb2 HB.out.size)
    clear hb2
    go_wp2
    go_ret
    exact ⟨rfl, HB2.out⟩
  · have HC := Lib.hid (HGD.out w1 hb1 fs ss L hg); have HB := Lib.hid hb1
    have hof : ∀ i k, i < n → k < n → ¬ (atN fs k < atN fs i ∧ 0 < atN fs k ∧ atN (lensN fs ss L) k < atN (lensN fs ss L) i) := fun i k hi hk ⟨h1, h2, h3⟩ => by
      have hn : fs.length = n := by rw [← HNL.out, hg.eq, ni_len]
      have := lensN_often hg.asc.coined hg.one hg.l1 hg.fit (a := i) (b := k) (by omega) (by omega) h1 h2
      omega
    have hfl : fs.length = n := by rw [← HNL.out, hg.eq, ni_len]
    have hll : (lensN fs ss L).length = n := by rw [lensN_len, hfl]
    obtain ⟨rfl, rfl, _, _, _, _, _, _, _, _⟩ := hg
    have HOF := Lib.hid hof; have HFL := Lib.hid hfl; have HLL := Lib.hid hll
    clear hof hb1 hfl hll HCS HGD
    go_wp2_with fail
    refine HC.out.mono ?_
    rintro e w2 ⟨v2, rfl, ho2, hb2⟩
    obtain ⟨A2, c2, rfl, hl2, hm2⟩ := ho2.formI
    rw [ni_len, HLL.out] at hl2 ho2 ⊢
    have HB2 := Lib.hid (bthen HB.out hb2 HB.out.size); have HO2 := Lib.hid ho2.sli; have HA2 := Lib.hid (HA.out.below (bthen HB.out hb2 HB.out.size))
    clear hb2 ho2
    go_wp2_with fail
    go_loopw [7] (fun vi wr => ∃ i q : Nat, i ≤ n ∧ vi = .int .i64 i ∧ Hid (wr = w2.drewN q)) (fun vi _ => n - (intOf vi).toNat)
    case atStart => exact ⟨0, 0, Nat.zero_le _, rfl, Lib.hid rfl⟩
    case round =>
      obtain ⟨i, q, hi, rfl, hwr⟩ := hrel
      by_cases hlt : i < n
      · go_wp2_with fail
        go_loopw [8] (fun vk wk => ∃ k q2 : Nat, k ≤ n ∧ vk = .int .i64 k ∧ Hid (wk = w2.drewN q2)) (fun vk _ => n - (intOf vk).toNat)
        case atStart => exact ⟨0, q, Nat.zero_le _, rfl, hwr⟩
        case round =>
          obtain ⟨k, q2, hk, rfl, hwk⟩ := hrel
          by_cases hlt2 : k < n
          · have hS1 : Sli wr w.heap.size (.slice A1 n c1) (ci (ni fs)) := by rw [hwk.out]; exact HA2.out
            have hS2 : Sli wr w2.heap.size (.slice A2 n c2) (ci (ni (lensN fs ss L))) := by rw [hwk.out]; exact HO2.out
            obtain ⟨b, o, rfl, hb, r1⟩ := hS1.atI (i := i) (by rw [ni_len, HFL.out]; exact hlt)
            obtain ⟨b', o', e', _, r2⟩ := hS1.atI (i := k) (by rw [ni_len, HFL.out]; exact hlt2)
            injection e' with e'; injection e' with ex1 ex2; subst ex1; subst ex2
            obtain ⟨b2, o2, rfl, hb2, r3⟩ := hS2.atI (i := i) (by rw [ni_len, HLL.out]; exact hlt)
            obtain ⟨b2', o2', e', _, r4⟩ := hS2.atI (i := k) (by rw [ni_len, HLL.out]; exact hlt2)
            injection e' with e'; injection e' with ex1 ex2; subst ex1; subst ex2
            rw [ni_at (by rw [HFL.out]; exact hlt)] at r1
            rw [ni_at (by rw [HFL.out]; exact hlt2)] at r2
            rw [ni_at (by rw [HLL.out]; exact hlt)] at r3
            rw [ni_at (by rw [HLL.out]; exact hlt2)] at r4
            have hof := HOF.out i k hlt hlt2
            generalize atN fs i = x1 at *
            generalize atN fs k = x2 at *
            generalize atN (lensN fs ss L) i = y1 at *
            generalize atN (lensN fs ss L) k = y2 at *
            clear hS1 hS2
            have hn : ∀ m, Hid (wr.drewN m = w2.drewN (q2 + m)) := fun m => Lib.hid (by rw [hwk.out, World.drewN_drewN])
            by_cases h1 : x2 < x1
            · by_cases h2 : 0 < x2
              · have h3 : y1 ≤ y2 := Nat.not_lt.1 fun h => hof ⟨h1, h2, h⟩
                clear hof
                go_wp2_with fail
                go_quiet (fail)
                go_wp2
                exact ⟨⟨k + 1, _, by omega, by simp, hn _⟩, by simp [intOf]; omega⟩
              · clear hof
                go_wp2_with fail
                go_quiet (fail)
                go_wp2
                exact ⟨⟨k + 1, _, by omega, by simp, hn _⟩, by simp [intOf]; omega⟩
            · clear hof
              go_wp2_with fail
              go_quiet (fail)
              go_wp2
              exact ⟨⟨k + 1, _, by omega, by simp, hn _⟩, by simp [intOf]; omega⟩
          · go_wp2_with fail
            exact ⟨⟨i + 1, q2, by omega, by simp, hwk⟩, by simp [intOf]; omega⟩
      · go_wp2_with fail
        go_ret
        exact ⟨rfl, by rw [hwr.out]; exact below_drewN HB2.out q⟩
end Go.Proofs.Ytfganboolaeloaa
