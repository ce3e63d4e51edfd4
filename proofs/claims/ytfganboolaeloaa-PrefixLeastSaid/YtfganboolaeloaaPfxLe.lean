/- prefix: the law PrefixLeast. -/
import Derived.Test.YtfganboolaeloaaPfxQF
namespace Go.Proofs.Ytfganboolaeloaa
open Go.RowKit
set_option maxRecDepth 100000
set_option maxHeartbeats 1600000

theorem prefixLeast_walk (va : Value) (l : List Int) (most : Int) (vo : Value) (lo : List Int) (w : World) (hA : Sli w w.heap.size va (ci l)) (hO : Sli w w.heap.size vo (ci lo)) :
    Calls Try.prog 8 #[va, .int .i64 most, vo] w fun e w' => e = .returned (.bool true) ∧ Below w.heap.size w w' := by
  have hcs := fun (w1 : World) (hb : Below w.heap.size w w1) => len_cases l most (hA.below hb) hb.size
  have hgd := fun (w1 : World) (hb : Below w.heap.size w w1) (fs ss : List Nat) (L : Nat) (h : Lgd l most fs ss L) => h.calls (hA.below hb) hb.size
  have HA := Lib.hid hA; have HO := Lib.hid hO
  obtain ⟨A1, c1, rfl, hlc1, hcm1⟩ := hA.formI
  obtain ⟨A3, c3, rfl, hlc3, hcm3⟩ := hO.formI
  have HCS := Lib.hid hcs; have HGD := Lib.hid hgd
  clear hA hcs hgd hO
  obtain ⟨n, hnl⟩ : ∃ n, l.length = n := ⟨_, rfl⟩
  obtain ⟨m, hml⟩ : ∃ m, lo.length = m := ⟨_, rfl⟩
  rw [hnl] at hlc1 HA HCS HGD ⊢
  rw [hml] at hlc3 HO ⊢
  have HNL := Lib.hid hnl; have HML := Lib.hid hml
  clear hnl hml
  by_cases h60 : 60 < n
  · go_enter Try.func8, Try.ntmps8
    go_wp2_with (go_at_call 11; refine (knownX_any w).mono ?_; rintro e w1 ⟨rfl, hb1⟩)
    go_ret
    exact ⟨rfl, hb1⟩
  go_enter Try.func8, Try.ntmps8
  go_wp2_with fail
  refine (knownX_any w).mono ?_
  rintro e w1 ⟨rfl, hb1⟩
  rcases HCS.out w1 hb1 with ⟨er, her, _, hc⟩ | ⟨fs, ss, L, hg⟩
  · have her2 : (er != 0) = true := by simp [her]
    have HC := Lib.hid hc; have HB := Lib.hid hb1
    clear hc her hb1
    go_wp2_with fail
    refine HC.out.mono ?_
    rintro e w2 ⟨rfl, hb2⟩
    have HB2 := Lib.hid (bthen HB.out hb2 HB.out.size)
    clear hb2
    go_wp2
    go_ret
    exact ⟨rfl, HB2.out⟩
  have HC := Lib.hid (HGD.out w1 hb1 fs ss L hg); have HB := Lib.hid hb1
  have hfl : fs.length = n := by rw [← HNL.out, hg.eq, ni_len]
  have hll : (lensN fs ss L).length = n := by rw [lensN_len, hfl]
  have hus := lensN_used hg.asc.coined hg.one hg.l1 hg.fit
  rw [hfl] at hus
  have hfull := lensN_full (M := 24) hg.asc.coined hg.one hg.l1 hg.l2 hg.fit
  have hfb : fullB (ni (lensN fs ss L)) = true := full_iff.2 ⟨⟨by rw [hll, ← hfl]; exact hg.len1, by rw [hll, ← hfl]; exact hg.len2⟩, hfull⟩
  have hleast : ∀ os : List Nat, os.length = n → fullN 24 os → (∀ i, i < n → (0 < atN os i ↔ 0 < atN fs i) ∧ atN os i ≤ L) → totalN fs (lensN fs ss L) ≤ totalN fs os := fun os h1 h2 h3 =>
    lensN_least hg.asc.coined hg.one hg.l1 hg.l2 hg.fit (by rw [h1, hfl]) h2 (fun i hi => h3 i (by omega))
  have hf40 := atN_le hg.le
  have he1 := hg.le24
  have hL24 := hg.l2
  obtain ⟨rfl, rfl, _, _, _, _, _, _, _, _⟩ := hg
  have HFL := Lib.hid hfl; have HLL := Lib.hid hll; have HUS := Lib.hid hus; have HFB := Lib.hid hfb; have HLE := Lib.hid hleast; have HF40 := Lib.hid hf40; have HE1 := Lib.hid he1
  clear hb1 hfl hll HCS HGD hus hfull hfb hleast hf40 he1
  go_wp2_with fail
  refine HC.out.mono ?_
  rintro e w2 ⟨v2, rfl, ho2, hb2⟩
  obtain ⟨A2, c2, rfl, hl2, hm2⟩ := ho2.formI
  rw [ni_len, HLL.out] at hl2 ho2 ⊢
  have HB2 := Lib.hid (bthen HB.out hb2 HB.out.size); have HO2 := Lib.hid ho2.sli
  have HA2 := Lib.hid (HA.out.below HB2.out); have HO32 := Lib.hid (HO.out.below HB2.out)
  clear hb2 ho2
  go_wp2_with fail
  have hfa := full_any HO2.out
  rw [HFB.out] at hfa
  refine hfa.mono ?_
  rintro e w3 ⟨rfl, hw3⟩
  subst hw3
  clear hfa
  -- the first loop's tests
  have htest : ∀ i, i < n → (0 < atN fs i ∧ 0 < atN (lensN fs ss L) i ∨ ¬ 0 < atN fs i ∧ ¬ 0 < atN (lensN fs ss L) i) ∧ atN (lensN fs ss L) i ≤ L := fun i hi => by
    have := HUS.out i hi
    omega
  have HTE := Lib.hid htest
  clear htest
  by_cases hF0 : m = n ∧ fullB lo = true
  · obtain ⟨hmn, hfo⟩ := hF0
    subst hmn
    obtain ⟨os, rfl, _, hof⟩ := full_nat hfo
    have hol : os.length = m := by rw [← HML.out, ni_len]
    have ho24 := atN_le hof.1
    have HOF := Lib.hid hof; have HOL := Lib.hid hol; have HO24 := Lib.hid ho24; have HFO := Lib.hid hfo
    clear hof hol ho24 hfo
    go_wp2_with fail
    have hqa := qfull_any HO32.out
    rw [HFO.out] at hqa
    refine hqa.mono ?_
    rintro e w3 ⟨rfl, hw3⟩
    subst hw3
    clear hqa
    go_wp2_with fail
    go_loopw [9, 10] (fun vf vi wr => ∃ (i q : Nat) (F : Bool), i ≤ m ∧ vi = .int .i64 i ∧ vf = .bool F ∧ Hid (F = true → ∀ j, j < i → (0 < atN os j ↔ 0 < atN fs j) ∧ atN os j ≤ L) ∧ Hid (wr = w2.drewN q)) (fun _ vi _ => m - (intOf vi).toNat)
    case atStart => exact ⟨0, 0, true, Nat.zero_le _, rfl, rfl, Lib.hid (fun _ j hj => absurd hj (by omega)), Lib.hid rfl⟩
    case round =>
      obtain ⟨i, q, F, hi, rfl, rfl, hF, hwr⟩ := hrel
      by_cases hlt : i < m
      · have hS1 : Sli wr w.heap.size (.slice A1 m c1) (ci (ni fs)) := by rw [hwr.out]; exact HA2.out
        have hS2 : Sli wr w2.heap.size (.slice A2 m c2) (ci (ni (lensN fs ss L))) := by rw [hwr.out]; exact HO2.out
        have hS3 : Sli wr w.heap.size (.slice A3 m c3) (ci (ni os)) := by rw [hwr.out]; exact HO32.out
        obtain ⟨b1, o1, rfl, _, r1⟩ := hS1.atI (i := i) (by rw [ni_len, HFL.out]; exact hlt)
        obtain ⟨b2, o2, rfl, _, r2⟩ := hS2.atI (i := i) (by rw [ni_len, HLL.out]; exact hlt)
        obtain ⟨b3, o3, rfl, _, r3⟩ := hS3.atI (i := i) (by rw [ni_len, HOL.out]; exact hlt)
        rw [ni_at (by rw [HFL.out]; exact hlt)] at r1
        rw [ni_at (by rw [HLL.out]; exact hlt)] at r2
        rw [ni_at (by rw [HOL.out]; exact hlt)] at r3
        obtain ⟨ht, hyL⟩ := HTE.out i hlt
        have hnext : F = true → ((0 < atN os i ↔ 0 < atN fs i) ∧ atN os i ≤ L) → ∀ j, j < i + 1 → (0 < atN os j ↔ 0 < atN fs j) ∧ atN os j ≤ L := fun h1 h2 j hj => by
          by_cases e : j = i
          · subst e; exact h2
          · exact hF.out h1 j (by omega)
        generalize atN fs i = x at r1 ht hnext
        generalize atN (lensN fs ss L) i = y at r2 ht hyL
        generalize atN os i = z at r3 hnext
        have HNX := Lib.hid hnext
        have hn : ∀ k, Hid (wr.drewN k = w2.drewN (q + k)) := fun k => Lib.hid (by rw [hwr.out, World.drewN_drewN])
        have hno : ∀ i' : Nat, Hid (false = true → ∀ j, j < i' → (0 < atN os j ↔ 0 < atN fs j) ∧ atN os j ≤ L) := fun _ => Lib.hid (fun h => by cases h)
        clear hS1 hS2 hS3 hnext
        rcases ht with ⟨hx, hy⟩ | ⟨hx, hy⟩
        · go_wp2_with fail
          go_quiet (fail)
          go_wp2_with fail
          cases F with
          | false =>
            go_quiet (fail)
            go_wp2
            exact ⟨⟨i + 1, _, false, by omega, by simp, rfl, hno _, hn _⟩, by simp [intOf]; omega⟩
          | true =>
            by_cases hz : 0 < z
            · by_cases hzL : z ≤ L
              · have HN := Lib.hid (fun (_ : true = true) => HNX.out rfl ⟨by omega, hzL⟩)
                go_quiet (fail)
                go_wp2
                exact ⟨⟨i + 1, _, true, by omega, by simp, rfl, HN, hn _⟩, by simp [intOf]; omega⟩
              · go_quiet (fail)
                go_wp2
                exact ⟨⟨i + 1, _, false, by omega, by simp, rfl, hno _, hn _⟩, by simp [intOf]; omega⟩
            · go_quiet (fail)
              go_wp2
              exact ⟨⟨i + 1, _, false, by omega, by simp, rfl, hno _, hn _⟩, by simp [intOf]; omega⟩
        · go_wp2_with fail
          go_quiet (fail)
          go_wp2_with fail
          cases F with
          | false =>
            go_quiet (fail)
            go_wp2
            exact ⟨⟨i + 1, _, false, by omega, by simp, rfl, hno _, hn _⟩, by simp [intOf]; omega⟩
          | true =>
            by_cases hz : 0 < z
            · go_quiet (fail)
              go_wp2
              exact ⟨⟨i + 1, _, false, by omega, by simp, rfl, hno _, hn _⟩, by simp [intOf]; omega⟩
            · have hzL : z ≤ L := by omega
              have HN := Lib.hid (fun (_ : true = true) => HNX.out rfl ⟨by omega, hzL⟩)
              go_quiet (fail)
              go_wp2
              exact ⟨⟨i + 1, _, true, by omega, by simp, rfl, HN, hn _⟩, by simp [intOf]; omega⟩
      · have hie : i = m := by omega
        subst hie
        cases F with
        | false =>
          go_wp2_with fail
          go_ret
          exact ⟨rfl, by rw [hwr.out]; exact below_drewN HB2.out _⟩
        | true =>
          have hle := HLE.out os HOL.out HOF.out (fun j hj => hF.out rfl j hj)
          have hS1 : Sli wr w.heap.size (.slice A1 i c1) (ci (ni fs)) := by rw [hwr.out]; exact HA2.out
          have hS2 : Sli wr w2.heap.size (.slice A2 i c2) (ci (ni (lensN fs ss L))) := by rw [hwr.out]; exact HO2.out
          have hS3 : Sli wr w.heap.size (.slice A3 i c3) (ci (ni os)) := by rw [hwr.out]; exact HO32.out
          have t1 := total_any hS1 hS2 HF40.out HE1.out (by have := HFL.out; omega)
          have t2 := fun q => total_any (w := wr.drewN q) (va := .slice A1 i c1) (vb := .slice A3 i c3) (fs := fs) (ls := os) hS1 hS3 HF40.out (fun j => Nat.le_trans (HO24.out j) (by decide)) (by have := HFL.out; omega)
          generalize totalN fs (lensN fs ss L) = T1 at hle t1
          generalize totalN fs os = T2 at hle t2
          have HT1 := Lib.hid t1; have HT2 := Lib.hid t2
          clear t1 t2 hS1 hS2 hS3
          go_wp2_with fail
          refine HT1.out.mono ?_
          rintro e w5 ⟨rfl, q5, rfl⟩
          go_wp2_with fail
          refine (HT2.out _).mono ?_
          rintro e w6 ⟨rfl, q6, rfl⟩
          go_wp2
          go_ret
          exact ⟨rfl, by rw [hwr.out]; first | exact below_drewN (below_drewN HB2.out _) _ | exact below_drewN (below_drewN (below_drewN HB2.out _) _) _⟩
  · by_cases hmn : m = n
    · subst hmn
      have hfo : fullB lo = false := by
        cases h : fullB lo with
        | false => rfl
        | true => exact absurd ⟨rfl, h⟩ hF0
      have HFO := Lib.hid hfo
      clear hfo hF0
      go_wp2_with fail
      have hqa := qfull_any HO32.out
      rw [HFO.out] at hqa
      refine hqa.mono ?_
      rintro e w3 ⟨rfl, hw3⟩
      subst hw3
      clear hqa
      go_wp2_with fail
      go_loopw [9, 10] (fun vf vi wr => ∃ i q : Nat, i ≤ m ∧ vi = .int .i64 i ∧ vf = .bool false ∧ Hid (wr = w2.drewN q)) (fun _ vi _ => m - (intOf vi).toNat)
      case atStart => exact ⟨0, 0, Nat.zero_le _, rfl, rfl, Lib.hid rfl⟩
      case round =>
        obtain ⟨i, q, hi, rfl, rfl, hwr⟩ := hrel
        by_cases hlt : i < m
        · have hS1 : Sli wr w.heap.size (.slice A1 m c1) (ci (ni fs)) := by rw [hwr.out]; exact HA2.out
          have hS2 : Sli wr w2.heap.size (.slice A2 m c2) (ci (ni (lensN fs ss L))) := by rw [hwr.out]; exact HO2.out
          obtain ⟨b1, o1, rfl, _, r1⟩ := hS1.atI (i := i) (by rw [ni_len, HFL.out]; exact hlt)
          obtain ⟨b2, o2, rfl, _, r2⟩ := hS2.atI (i := i) (by rw [ni_len, HLL.out]; exact hlt)
          rw [ni_at (by rw [HFL.out]; exact hlt)] at r1
          rw [ni_at (by rw [HLL.out]; exact hlt)] at r2
          obtain ⟨ht, hyL⟩ := HTE.out i hlt
          generalize atN fs i = x at r1 ht
          generalize atN (lensN fs ss L) i = y at r2 ht hyL
          have hn : ∀ k, Hid (wr.drewN k = w2.drewN (q + k)) := fun k => Lib.hid (by rw [hwr.out, World.drewN_drewN])
          clear hS1 hS2
          rcases ht with ⟨hx, hy⟩ | ⟨hx, hy⟩
          · go_wp2_with fail
            go_quiet (fail)
            go_wp2_with fail
            go_quiet (fail)
            go_wp2
            exact ⟨⟨i + 1, _, by omega, by simp, rfl, hn _⟩, by simp [intOf]; omega⟩
          · go_wp2_with fail
            go_quiet (fail)
            go_wp2_with fail
            go_quiet (fail)
            go_wp2
            exact ⟨⟨i + 1, _, by omega, by simp, rfl, hn _⟩, by simp [intOf]; omega⟩
        · go_wp2_with fail
          go_ret
          exact ⟨rfl, by rw [hwr.out]; exact below_drewN HB2.out _⟩
    · have hmn2 : ((m : Int) == (n : Int)) = false := by simp; omega
      clear hF0 hmn
      go_wp2_with fail
      go_loopw [9, 10] (fun vf vi wr => ∃ i q : Nat, i ≤ n ∧ vi = .int .i64 i ∧ vf = .bool false ∧ Hid (wr = w2.drewN q)) (fun _ vi _ => n - (intOf vi).toNat)
      case atStart => exact ⟨0, 0, Nat.zero_le _, rfl, rfl, Lib.hid rfl⟩
      case round =>
        obtain ⟨i, q, hi, rfl, rfl, hwr⟩ := hrel
        by_cases hlt : i < n
        · have hS1 : Sli wr w.heap.size (.slice A1 n c1) (ci (ni fs)) := by rw [hwr.out]; exact HA2.out
          have hS2 : Sli wr w2.heap.size (.slice A2 n c2) (ci (ni (lensN fs ss L))) := by rw [hwr.out]; exact HO2.out
          obtain ⟨b1, o1, rfl, _, r1⟩ := hS1.atI (i := i) (by rw [ni_len, HFL.out]; exact hlt)
          obtain ⟨b2, o2, rfl, _, r2⟩ := hS2.atI (i := i) (by rw [ni_len, HLL.out]; exact hlt)
          rw [ni_at (by rw [HFL.out]; exact hlt)] at r1
          rw [ni_at (by rw [HLL.out]; exact hlt)] at r2
          obtain ⟨ht, hyL⟩ := HTE.out i hlt
          generalize atN fs i = x at r1 ht
          generalize atN (lensN fs ss L) i = y at r2 ht hyL
          have hn : ∀ k, Hid (wr.drewN k = w2.drewN (q + k)) := fun k => Lib.hid (by rw [hwr.out, World.drewN_drewN])
          clear hS1 hS2
          rcases ht with ⟨hx, hy⟩ | ⟨hx, hy⟩
          · go_wp2_with fail
            go_quiet (fail)
            go_wp2_with fail
            go_quiet (fail)
            go_wp2
            exact ⟨⟨i + 1, _, by omega, by simp, rfl, hn _⟩, by simp [intOf]; omega⟩
          · go_wp2_with fail
            go_quiet (fail)
            go_wp2_with fail
            go_quiet (fail)
            go_wp2
            exact ⟨⟨i + 1, _, by omega, by simp, rfl, hn _⟩, by simp [intOf]; omega⟩
        · go_wp2_with fail
          go_ret
          exact ⟨rfl, by rw [hwr.out]; exact below_drewN HB2.out _⟩
end Go.Proofs.Ytfganboolaeloaa
