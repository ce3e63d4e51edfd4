/- arith: the reference's coder: Raw, Number. -/
import Derived.Test.YtghbjlmbehljdaaAriQd
namespace Go.Proofs.Ytghbjlmbehljdaa
open Go.RowKit
set_option maxRecDepth 100000
set_option maxHeartbeats 4000000

theorem qraw_bad {w : World} {g : Nat} (v : Nat) (n : Int) (hv : v < 18446744073709551616) (_ : -9223372036854775808 ≤ n) (_ : n ≤ 9223372036854775807) (h : rawB v n = false) : Calls Try.prog 16 #[.pointer (some ⟨g, 0, none⟩), .int .u64 v, .int .i64 n] w fun e w' => e = .returned (.int .i64 1) ∧ w = w' := by
  by_cases h0 : n < 0
  · clear h hv
    go_enter Try.func16, Try.ntmps16
    go_wp2
    go_ret
    exact ⟨rfl, rfl⟩
  by_cases h1 : 32 < n
  · clear h hv
    go_enter Try.func16, Try.ntmps16
    go_wp2
    go_ret
    exact ⟨rfl, rfl⟩
  obtain ⟨k, rfl⟩ := Int.eq_ofNat_of_zero_le (by omega : 0 ≤ n)
  have h2 : 2 ^ k ≤ v := by
    rcases Nat.lt_or_ge v (2 ^ k) with h2 | h2
    · have := raw_iff.2 ⟨Int.natCast_nonneg k, by omega, (by simpa using h2 : v < 2 ^ (k : Int).toNat)⟩
      rw [this] at h; simp at h
    · exact h2
  obtain ⟨q, hq⟩ : ∃ q : Nat, v / 2 ^ k = q := ⟨_, rfl⟩
  have hq1 : 1 ≤ q := by rw [← hq, Nat.le_div_iff_mul_le (Nat.pow_pos (by omega))]; omega
  have hqI : (v : Int) / 2 ^ k = (q : Nat) := by rw [← hq]; simp
  have hq0 : ((q : Int) != 0) = true := by rw [bne_iff_ne]; omega
  have hmin : min k 64 = k := by omega
  have hwk : IntKind.u64.wrap (k : Int) = (k : Int) := by rw [IntKind.wrap_u64]; omega
  clear h h2 hq hv
  go_enter Try.func16, Try.ntmps16
  go_wp2
  go_ret
  exact ⟨rfl, rfl⟩
theorem qraw_any {w : World} {F : Nat → Prop} {g n : Nat} {s : Co} (hC : CoQ w F g s) (hK : Ok s n) (hk : s.k ≤ 1099511627600) (v k : Nat) (hk32 : k ≤ 32) (hv : v < 2 ^ k) :
    Calls Try.prog 16 #[.pointer (some ⟨g, 0, none⟩), .int .u64 v, .int .i64 k] w fun e w' => e = .returned (.int .i64 0) ∧ ∃ F', CoQ w' F' g (run s (rawOps v k)) ∧ Chg w w' F F' := by
  have hq0 : (v : Int) / 2 ^ k = 0 := by
    have : v / 2 ^ k = 0 := Nat.div_eq_of_lt hv
    have e : (v : Int) / 2 ^ k = ((v / 2 ^ k : Nat) : Int) := by simp
    rw [e, this]; rfl
  have hmin : min k 64 = k := by omega
  have hwk : IntKind.u64.wrap (k : Int) = (k : Int) := by rw [IntKind.wrap_u64]; omega
  have HK := Lib.hid hK; have HKK := Lib.hid (fun _ : True => hk)
  clear hK hv hk
  go_enter Try.func16, Try.ntmps16
  go_wp2
  go_loopw [7] (fun nn wr => ∃ (j : Nat) (F' : Nat → Prop), nn = .int .i64 ((j : Int) - 1) ∧ j ≤ k ∧ CoQ wr F' g (run s (rawOps (v / 2 ^ j) (k - j))) ∧ Chg w wr F F') (fun nn _ => (intOf nn + 1).toNat)
  case atStart => exact ⟨k, F, rfl, Nat.le_refl _, by rw [Nat.sub_self]; exact hC, Chg.refl _ _⟩
  case round =>
    obtain ⟨j, F1, rfl, hj, hC1, hc1⟩ := hrel
    by_cases hj0 : j = 0
    · subst hj0
      go_wp2
      go_ret
      exact ⟨rfl, F1, by simpa using hC1, hc1⟩
    obtain ⟨i, hi⟩ : ∃ i, j = i + 1 := ⟨j - 1, by omega⟩
    have hiI : (j : Int) - 1 = (i : Nat) := by omega
    obtain ⟨hok1, m, hm1, hm2, _, _⟩ := runs_in (rawOps (v / 2 ^ j) (k - j)) HK.out (raw_good n _ _)
    rw [raw_len] at hm1
    have hx : run s (rawOps (v / 2 ^ i) (k - i)) = step (run s (rawOps (v / 2 ^ j) (k - j))) (none, v / 2 ^ i % 2) := by
      rw [show k - i = (k - j) + 1 by omega]
      simp only [rawOps, run_app]
      rw [Nat.div_div_eq_div_mul, ← Nat.pow_succ, hi]
      rfl
    generalize run s (rawOps (v / 2 ^ j) (k - j)) = s1 at *
    have hb := bound_in hok1.len hok1.odd hok1.wlo (x := (none, v / 2 ^ i % 2)) ⟨by simp only; omega, fun c hc => by simp at hc⟩
    have hE := qstep_any (w := wr) hC1 (s1.w / 2) (v / 2 ^ i % 2) (by omega) hb.1 hb.2 hok1.whi hok1.top (by have := HKK.out trivial; omega)
    have hbt := and_bit v i
    have hb2 : v / 2 ^ i % 2 < 2 := Nat.mod_lt _ (by omega)
    generalize v / 2 ^ i % 2 = bt at *
    obtain ⟨vl, vo, hblk, ho, hoo, rfl⟩ := hC1
    obtain ⟨c0, c1, c2, hf⟩ := blk3 hblk
    have hwl := hok1.whi
    obtain ⟨Wd, hWd⟩ : ∃ Wd : Int, ((s1.w : Nat) : Int) = Wd := ⟨_, rfl⟩
    obtain ⟨Hd, hHd⟩ : ∃ Hd : Int, ((s1.w / 2 : Nat) : Int) = Hd := ⟨_, rfl⟩
    have hW2 : Wd / 2 = Hd := by omega
    have e1 : 0 ≤ Hd := by omega
    have e2 : Hd ≤ 4294967296 := by omega
    have hwH : IntKind.u64.wrap Hd = Hd := by rw [IntKind.wrap_u64]; omega
    have hwB : IntKind.i64.wrap (bt : Int) = (bt : Int) := by rw [IntKind.wrap_i64]; omega
    have hwi : IntKind.u64.wrap (i : Int) = (i : Int) := by rw [IntKind.wrap_u64]; omega
    rw [hWd] at c1
    rw [hHd] at hE
    have HE := Lib.hid hE; have HX := Lib.hid hx; have HBT := Lib.hid hbt
    have hmin2 : min i 64 = i := by omega
    have hi0 : (0 : Int) ≤ (i : Nat) := by omega
    have hbI : (bt : Int) < 2 := by omega
    clear hE hx hb hok1 hm2 hblk ho hoo hC hi hwl hWd hHd
    go_wp2_with fail
    (try rw [hbt]); (try rw [hwB]); (try rw [hwH])
    refine HE.out.mono ?_
    rintro e w2 ⟨rfl, F2, hC2, hc2⟩
    go_wp2
    refine ⟨⟨i, F2, rfl, by omega, by rw [HX.out, step_none]; exact hC2, hc1.trans hc2⟩, by simp [intOf]; omega⟩

theorem qnum_bad {w : World} {F : Nat → Prop} {g : Nat} {s : Co} (hC : CoQ w F g s) (hl : s.od.length ≤ 1048576) (c : Int) (v : Nat) (hv : v < 18446744073709551616) (h : numB s.od.length v c = false) : Calls Try.prog 18 #[.pointer (some ⟨g, 0, none⟩), .int .i64 c, .int .u64 v] w fun e w' => e = .returned (.int .i64 1) ∧ w = w' := by
  obtain ⟨vl, vo, hblk, ho, hoo, rfl⟩ := hC
  obtain ⟨c0, c1, c2, hf⟩ := blk3 hblk
  obtain ⟨A2, q2, rfl, _, _⟩ := hoo.form
  rw [cn_len] at *
  have hcase : 4294967296 ≤ v ∨ (v < 4294967296 ∧ (c < 0 ∨ (s.od.length : Int) - 33 < c)) := by
    rcases Nat.lt_or_ge v 4294967296 with h1 | h1
    · right
      refine ⟨h1, ?_⟩
      by_cases h2 : haveB s.od.length c = true
      · unfold numB at h; rw [h2, decide_eq_true h1] at h; simp at h
      · rw [have_iff] at h2; omega
    · exact .inl h1
  obtain ⟨x, hx⟩ : ∃ x : Int, ((v : Nat) : Int) = x := ⟨_, rfl⟩
  rw [hx]
  clear hblk ho hoo h
  rcases hcase with h1 | ⟨h1, h2⟩
  · have h1' : 4294967296 ≤ x := by omega
    clear hv hx h1
    go_enter Try.func18, Try.ntmps18
    go_wp2
    go_ret
    exact ⟨rfl, rfl⟩
  · have h1' : x < 4294967296 := by omega
    clear hv hx h1
    by_cases h3 : c < 0
    · clear h2
      go_enter Try.func18, Try.ntmps18
      go_wp2
      go_ret
      exact ⟨rfl, rfl⟩
    · have h4 : (s.od.length : Int) - 33 < c := by omega
      clear h2
      go_enter Try.func18, Try.ntmps18
      go_wp2
      go_ret
      exact ⟨rfl, rfl⟩
theorem qnum_any {w : World} {F : Nat → Prop} {g n : Nat} {s : Co} (hC : CoQ w F g s) (hK : Ok s n) (hk : s.k ≤ 1099511627000) (hn : n ≤ 1048576) (c v : Nat) (hc : c + 32 < n) (hv : v < 4294967296) :
    Calls Try.prog 18 #[.pointer (some ⟨g, 0, none⟩), .int .i64 c, .int .u64 v] w fun e w' => e = .returned (.int .i64 0) ∧ ∃ F', CoQ w' F' g (run s (numOps c v)) ∧ Chg w w' F F' := by
  have hl : s.od.length = n := hK.len
  have HC := Lib.hid hC
  have hd := numD_le hv
  have hin := numD_in v
  have hr := @numD_rest v
  have hdg := fun W : World => qdigs_any v W hv
  have e : numOps c v = ones c (numD v) ++ tailO c (numD v) ++ rawOps (v + 1 - 2 ^ numD v) (numD v) := rfl
  rw [e]
  generalize numD v = d at *
  obtain ⟨vl, vo, hblk, ho, hoo, rfl⟩ := hC
  obtain ⟨c0, c1, c2, hf⟩ := blk3 hblk
  obtain ⟨A2, q2, rfl, _, _⟩ := hoo.form
  rw [cn_len, hl] at *
  obtain ⟨x, hx⟩ : ∃ x : Int, (v : Int) = x := ⟨_, rfl⟩
  have hx0 : 0 ≤ x := by omega
  have hx1 : x ≤ 4294967295 := by omega
  rw [hx] at hdg ⊢
  have HDG := Lib.hid hdg
  have HR := Lib.hid hr; have HIN := Lib.hid hin; have HK := Lib.hid hK
  have HX := Lib.hid hx
  have HKK := Lib.hid (fun _ : True => And.intro hk hn)
  have hcn : (c : Int) ≤ 1048576 := by omega
  have hcn2 : (c : Int) ≤ (n : Int) - 33 := by omega
  have hnn : (n : Int) ≤ 1048576 := by omega
  clear hr hin hK hdg hblk ho hoo e hl hv hk hn hx
  go_enter Try.func18, Try.ntmps18
  go_wp2_with (go_at_call 43; refine (HDG.out _).mono ?_; rintro e w1 ⟨rfl, rfl⟩)
  clear HDG c0 c1 c2 hf
  go_loopw [8] (fun nn wr => ∃ (j : Nat) (F' : Nat → Prop), nn = .int .i64 j ∧ j ≤ d ∧ CoQ wr F' g (run s (ones c j)) ∧ Chg w wr (fp g vl (.slice A2 n q2)) F') (fun nn _ => d - (intOf nn).toNat)
  case atStart => exact ⟨0, _, rfl, Nat.zero_le _, HC.out, Chg.refl _ _⟩
  case round =>
    obtain ⟨j, F1, rfl, hj, hC1, hc1⟩ := hrel
    have hg1 : ∀ x ∈ ones c j, good n x := ones_good (by omega)
    obtain ⟨hok1, m, hm1, hm2, _, _⟩ := runs_in (ones c j) HK.out hg1
    rw [show (ones c j).length = j by simp [ones]] at hm1
    have hkk := (HKK.out trivial).1
    by_cases hjd : j = d
    · subst hjd
      have HOK1 := Lib.hid hok1
      have hgt : ∀ x ∈ tailO c j, good n x := tail_good hc
      obtain ⟨hok2, m2, hm3, hm4, _, _⟩ := runs_in (tailO c j) hok1 hgt
      have hm5 : (tailO c j).length ≤ 1 := by unfold tailO; split <;> simp
      have HMM : Hid (True → (run (run s (ones c j)) (tailO c j)).k ≤ 1099511627600) := Lib.hid fun _ => by omega
      have hRaw := fun (W : World) (F2 : Nat → Prop) (h : CoQ W F2 g (run (run s (ones c j)) (tailO c j))) => qraw_any h hok2 (HMM.out trivial) (v + 1 - 2 ^ j) j (by omega) HR.out
      have hRP : run s (ones c j ++ tailO c j ++ rawOps (v + 1 - 2 ^ j) j) = run (run (run s (ones c j)) (tailO c j)) (rawOps (v + 1 - 2 ^ j) j) := by rw [run_app, run_app]
      have HRP := Lib.hid hRP
      have HRAW := Lib.hid hRaw
      have HPK : Hid (True → (run s (ones c j)).k ≤ 1099511627700) := Lib.hid fun _ => by omega
      clear hok2 hRaw hm1 hm2 hm3 hm4 hm5 hg1 hgt hRP hkk hok1
      obtain ⟨r, hre⟩ : ∃ r, v + 1 - 2 ^ j = r := ⟨_, rfl⟩
      have hpw : 2 ^ j ≤ 2 ^ 32 := Nat.pow_le_pow_right (by omega) hd
      have hpc := pow_castA j
      have hmask : bits .and .u64 (x + 1) ((2 : Int) ^ j - 1) = (r : Nat) := by
        have h8 := u64_mask j (by omega) (v + 1)
        have h1 := HIN.out.1
        have h2 := HIN.out.2
        rw [Nat.pow_succ] at h2
        have hp0 : 0 < 2 ^ j := Nat.pow_pos (by omega)
        have e1 : ((2 ^ j - 1 : Nat) : Int) = (2 : Int) ^ j - 1 := by rw [← hpc]; omega
        have e2 : (v + 1) % 2 ^ j = r := by
          rw [← hre, Nat.mod_eq_sub_mod h1, Nat.mod_eq_of_lt (by omega)]
        rw [e1, e2, show ((v + 1 : Nat) : Int) = x + 1 by have := HX.out; omega] at h8
        exact h8
      obtain ⟨P, hP⟩ : ∃ P : Int, (2 : Int) ^ j = P := ⟨_, rfl⟩
      have hP0 : 1 ≤ P := by rw [← hP, ← hpc]; have : 0 < 2 ^ j := Nat.pow_pos (by omega); omega
      have hP1 : P ≤ 4294967296 := by rw [← hP, ← hpc]; omega
      have hwj : IntKind.u64.wrap (j : Int) = (j : Int) := by rw [IntKind.wrap_u64]; omega
      have hmin : min j 64 = j := by omega
      rw [hP] at hmask
      rw [hre] at HRAW HRP
      have HRE := Lib.hid hre
      clear hre hpw hpc
      by_cases h32 : j < 32
      · have hPut := fun (W : World) (h : CoQ W F1 g (run s (ones c j))) => qput_any h HOK1.out (HPK.out trivial) (c + j) 0 (by omega) (by omega)
        have htl : run (run s (ones c j)) (tailO c j) = step (run s (ones c j)) (some (c + j), 0) := by unfold tailO; rw [if_pos h32]; rfl
        rw [htl] at HRAW HRP
        have HPUT := Lib.hid hPut
        have HC1 := Lib.hid hC1
        have hcj : ((c + j : Nat) : Int) = (c : Int) + (j : Int) := by omega
        rw [hcj] at HPUT
        clear hPut htl hcj hC1
        go_wp2_with fail
        refine (HPUT.out _ HC1.out).mono ?_
        rintro e w2 ⟨rfl, F2, hC2, hc2⟩
        have hR := HRAW.out w2 F2 hC2
        have HR2 := Lib.hid hR
        clear hR
        go_wp2_with fail
        refine HR2.out.mono ?_
        rintro e w3 ⟨rfl, F3, hC3, hc3⟩
        go_wp2
        go_ret
        exact ⟨rfl, F3, by rw [HRE.out, HRP.out]; exact hC3, (hc1.trans hc2).trans hc3⟩
      · have htl : run (run s (ones c j)) (tailO c j) = run s (ones c j) := by unfold tailO; rw [if_neg h32]; rfl
        rw [htl] at HRAW HRP
        have hR := HRAW.out wr F1 hC1
        have HR2 := Lib.hid hR
        clear htl hR
        go_wp2_with fail
        refine HR2.out.mono ?_
        rintro e w3 ⟨rfl, F3, hC3, hc3⟩
        go_wp2
        go_ret
        exact ⟨rfl, F3, by rw [HRE.out, HRP.out]; exact hC3, hc1.trans hc3⟩
    · have hPut := qput_any hC1 hok1 (by omega) (c + j) 1 (by omega) (by omega)
      have hst : step (run s (ones c j)) (some (c + j), 1) = run s (ones c (j + 1)) := by rw [ones_succ, run_app]; rfl
      rw [hst, show ((c + j : Nat) : Int) = (c : Int) + (j : Int) by omega] at hPut
      have HPUT := Lib.hid hPut
      have hjd' : j < d := by omega
      clear hPut hst hm1 hm2 hok1 hg1 hC1 hkk
      go_wp2_with fail
      refine HPUT.out.mono ?_
      rintro e w2 ⟨rfl, F2, hC2, hc2⟩
      go_wp2
      refine ⟨⟨j + 1, F2, rfl, by omega, hC2, hc1.trans hc2⟩, by simp [intOf]; omega⟩
end Go.Proofs.Ytghbjlmbehljdaa
