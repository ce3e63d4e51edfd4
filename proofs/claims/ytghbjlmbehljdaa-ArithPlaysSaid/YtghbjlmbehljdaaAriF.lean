/- arith: the coder's methods: bits, numbers. -/
import Derived.Test.YtghbjlmbehljdaaAriE
import Derived.Test.YtghbjlmbehljdaaLen
namespace Go.Proofs.Ytghbjlmbehljdaa
open Go.RowKit
set_option maxRecDepth 100000
set_option maxHeartbeats 400000

def rawB (v : Nat) (n : Int) : Bool := decide (0 ≤ n) && (decide (n ≤ 32) && decide (v < 2 ^ n.toNat))
theorem raw_iff {v : Nat} {n : Int} : rawB v n = true ↔ 0 ≤ n ∧ n ≤ 32 ∧ v < 2 ^ n.toNat := by simp [rawB]
theorem craw_bad {w : World} {g : Nat} (v : Nat) (n : Int) (hv : v < 18446744073709551616) (_ : -9223372036854775808 ≤ n) (_ : n ≤ 9223372036854775807) (h : rawB v n = false) : Calls Try.prog 15 #[.pointer (some ⟨g, 0, none⟩), .int .u64 v, .int .i64 n] w fun e w' => e = .returned (.int .i64 1) ∧ w = w' := by
  have h64 := bitLen_64 hv
  have hiff := fun m : Nat => bitLen_iff (n := m) hv
  by_cases h0 : n < 0
  · clear hiff h
    go_enter Try.func15, Try.ntmps15
    go_wp2_with (go_at_call 41; refine (len64_any v _ hv).mono ?_; rintro e w1 ⟨rfl, rfl⟩)
    go_ret
    exact ⟨rfl, rfl⟩
  by_cases h1 : 32 < n
  · clear hiff h
    go_enter Try.func15, Try.ntmps15
    go_wp2_with (go_at_call 41; refine (len64_any v _ hv).mono ?_; rintro e w1 ⟨rfl, rfl⟩)
    go_ret
    exact ⟨rfl, rfl⟩
  obtain ⟨k, rfl⟩ := Int.eq_ofNat_of_zero_le (by omega : 0 ≤ n)
  have h2 : 2 ^ k ≤ v := by
    rcases Nat.lt_or_ge v (2 ^ k) with h2 | h2
    · have := raw_iff.2 ⟨Int.natCast_nonneg k, by omega, (by simpa using h2 : v < 2 ^ (k : Int).toNat)⟩
      rw [this] at h; simp at h
    · exact h2
  have h3 := (hiff k).2 h2
  clear hiff h h2
  go_enter Try.func15, Try.ntmps15
  go_wp2_with (go_at_call 41; refine (len64_any v _ hv).mono ?_; rintro e w1 ⟨rfl, rfl⟩)
  go_ret
  exact ⟨rfl, rfl⟩
theorem and_bit (v i : Nat) : bits .and .u64 ((v : Int) / 2 ^ i) 1 = ((v / 2 ^ i % 2 : Nat) : Int) := by
  have e : (v : Int) / 2 ^ i = ((v / 2 ^ i : Nat) : Int) := by simp
  rw [e]
  exact u64_mask 1 (by omega) (v / 2 ^ i)
theorem step_none (s : Co) (b : Nat) : step s (none, b) = enc s (s.w / 2) b := by
  unfold step
  rw [show learnO s.od none b = (enc s (boundOf s.w s.od none) b).od from (enc_od s _ b).symm]
  rfl
theorem craw_any {w : World} {F : Nat → Prop} {g n : Nat} {s : Co} (hC : CoO w F g s) (hK : Ok s n) (hk : s.k ≤ 1099511627600) (v k : Nat) (hk32 : k ≤ 32) (hv : v < 2 ^ k) :
    Calls Try.prog 15 #[.pointer (some ⟨g, 0, none⟩), .int .u64 v, .int .i64 k] w fun e w' => e = .returned (.int .i64 0) ∧ ∃ F', CoO w' F' g (run s (rawOps v k)) ∧ Chg w w' F F' := by
  have hp : 2 ^ k ≤ 2 ^ 32 := Nat.pow_le_pow_right (by omega) hk32
  have hv64 : v < 18446744073709551616 := by omega
  have h64 := bitLen_64 hv64
  have h3 : ¬ k < Lib.bitLen v := fun h => by have := (bitLen_iff hv64).1 h; omega
  have HK := Lib.hid hK
  have HV := Lib.hid hv
  clear hK hv hp
  go_enter Try.func15, Try.ntmps15
  go_wp2_with (go_at_call 41; refine (len64_any v _ hv64).mono ?_; rintro e w1 ⟨rfl, rfl⟩)
  go_loopw [2] (fun nn wr => ∃ (j : Nat) (F' : Nat → Prop), nn = .int .i64 j ∧ j ≤ k ∧ CoO wr F' g (run s (rawOps (v / 2 ^ j) (k - j))) ∧ Chg w wr F F') (fun nn _ => (intOf nn).toNat)
  case atStart => exact ⟨k, F, rfl, Nat.le_refl _, by rw [Nat.sub_self]; exact hC, Chg.refl _ _⟩
  case round =>
    obtain ⟨j, F1, rfl, hj, hC1, hc1⟩ := hrel
    by_cases hj0 : j = 0
    · subst hj0
      go_wp2
      go_ret
      exact ⟨rfl, F1, by simpa using hC1, hc1⟩
    obtain ⟨i, hi⟩ : ∃ i, j = i + 1 := ⟨j - 1, by omega⟩
    have hiI : (j : Int) - 1 = (i : Nat) := by omega
    have hok := runs_in (rawOps (v / 2 ^ j) (k - j)) HK.out (raw_good n _ _)
    obtain ⟨hok1, m, hm1, hm2, _, _⟩ := hok
    rw [raw_len] at hm1
    have hx : run s (rawOps (v / 2 ^ i) (k - i)) = step (run s (rawOps (v / 2 ^ j) (k - j))) (none, v / 2 ^ i % 2) := by
      rw [show k - i = (k - j) + 1 by omega]
      simp only [rawOps, run_app]
      rw [Nat.div_div_eq_div_mul, ← Nat.pow_succ, hi]
      rfl
    generalize run s (rawOps (v / 2 ^ j) (k - j)) = s1 at *
    have hb := bound_in hok1.len hok1.odd hok1.wlo (x := (none, v / 2 ^ i % 2)) ⟨by simp only; omega, fun c hc => by simp at hc⟩
    have hE := cenc_any (w := wr.drew) hC1 (s1.w / 2) (v / 2 ^ i % 2) (by omega) hb.1 hb.2 hok1.whi hok1.top (by omega)
    have hbt := and_bit v i
    have hb2 : v / 2 ^ i % 2 < 2 := Nat.mod_lt _ (by omega)
    generalize v / 2 ^ i % 2 = bt at *
    obtain ⟨vl, vo, hblk, ho, hoo, rfl⟩ := hC1
    obtain ⟨c0, c1, c2, hf⟩ := blk3 hblk
    have HE := Lib.hid hE; have HX := Lib.hid hx; have HBT := Lib.hid hbt
    have hwl := hok1.whi
    have hmin : min i 64 = i := by omega
    have HM := Lib.hid hmin
    have hi0 : (0 : Int) ≤ (i : Nat) := by omega
    clear hE hx hbt hb hok1 hm2 hblk ho hoo hC hmin hi
    go_wp2_with fail
    go_still_tail 11, (by kernel_rfl)
    change wpList _ _ _ _ _ wr.drew
    rw [HBT.out]
    have hbI : (bt : Int) < 2 := by omega
    have hwr1 : IntKind.u64.wrap ((s1.w : Int) / 2) = ((s1.w / 2 : Nat) : Int) := by rw [IntKind.wrap_u64]; omega
    have hwr2 : IntKind.i64.wrap (bt : Int) = (bt : Int) := by rw [IntKind.wrap_i64]; omega
    rw [hwr1, hwr2]
    clear hwr1 hwr2
    go_wp2_with (go_at_call 36; refine HE.out.mono ?_; rintro e w2 ⟨rfl, F2, hC2, hc2⟩)
    have hc3 : Chg w w2 F F2 := hc1.trans ⟨hc2.os, hc2.tape, hc2.output, hc2.size, hc2.block, hc2.own⟩
    refine ⟨⟨i, F2, rfl, by omega, by rw [HX.out, step_none]; exact hC2, hc3⟩, by simp [intOf]; omega⟩
theorem craw_len {s : Co} {v k n : Nat} (h : Ok s n) : (run s (rawOps v k)).k ≤ s.k + k := by
  obtain ⟨_, m, hm1, hm2, _, _⟩ := runs_in (rawOps v k) h (raw_good n _ _)
  rw [raw_len] at hm1
  omega

def numB (n v : Nat) (c : Int) : Bool := decide (v < 4294967296) && haveB n c
theorem len_numD {v : Nat} (hv : v < 4294967296) : Lib.bitLen (v + 1) = numD v + 1 := by
  have hiff := fun m : Nat => bitLen_iff (v := v + 1) (n := m) (by omega)
  have h := numD_in v
  have h1 := (hiff (numD v)).2 h.1
  have h2 : ¬ numD v + 1 < Lib.bitLen (v + 1) := fun e => by have := (hiff _).1 e; omega
  omega
theorem len_le32 {v : Nat} (hv : v < 18446744073709551616) : 32 < Lib.bitLen v ↔ 4294967296 ≤ v := by
  rw [bitLen_iff hv]
theorem cnum_bad {w : World} {F : Nat → Prop} {g : Nat} {s : Co} (hC : CoO w F g s) (hl : s.od.length ≤ 1048576) (c : Int) (v : Nat) (hv : v < 18446744073709551616) (h : numB s.od.length v c = false) : Calls Try.prog 17 #[.pointer (some ⟨g, 0, none⟩), .int .i64 c, .int .u64 v] w fun e w' => e = .returned (.int .i64 1) ∧ w = w' := by
  obtain ⟨vl, vo, hblk, ho, hoo, rfl⟩ := hC
  obtain ⟨c0, c1, c2, hf⟩ := blk3 hblk
  obtain ⟨A2, q2, rfl, _, _⟩ := hoo.form
  rw [cn_len] at *
  have hH := fun (W : World) => ohaven_any (w := W) (A := A2) (n := s.od.length) (q := q2) hl c
  have h64 := bitLen_64 hv
  have h32 := len_le32 hv
  unfold numB at h
  generalize haveB s.od.length c = z at *
  clear hblk ho hoo
  by_cases hb : 4294967296 ≤ v
  · have hb' := h32.2 hb
    clear h hb h32
    go_enter Try.func17, Try.ntmps17
    go_wp2_with (first
      | (go_at_call 41; refine (len64_any v _ hv).mono ?_; rintro e w1 ⟨rfl, rfl⟩)
      | (go_at_call 42; refine (hH _).mono ?_; rintro e w1 ⟨rfl, rfl⟩))
    go_ret
    exact ⟨rfl, rfl⟩
  · have hz : z = false := by
      cases z with
      | false => rfl
      | true => simp at h; omega
    subst hz
    have hb' : ¬ 32 < Lib.bitLen v := fun e => hb (h32.1 e)
    clear h hb h32
    go_enter Try.func17, Try.ntmps17
    go_wp2_with (first
      | (go_at_call 41; refine (len64_any v _ hv).mono ?_; rintro e w1 ⟨rfl, rfl⟩)
      | (go_at_call 42; refine (hH _).mono ?_; rintro e w1 ⟨rfl, rfl⟩))
    go_ret
    exact ⟨rfl, rfl⟩
theorem pow_castA (n : Nat) : ((2 ^ n : Nat) : Int) = (2 : Int) ^ n := by simp
theorem cnum_any {w : World} {F : Nat → Prop} {g n : Nat} {s : Co} (hC : CoO w F g s) (hK : Ok s n) (hk : s.k ≤ 1099511627000) (hn : n ≤ 1048576) (c v : Nat) (hc : c + 32 < n) (hv : v < 4294967296) :
    Calls Try.prog 17 #[.pointer (some ⟨g, 0, none⟩), .int .i64 c, .int .u64 v] w fun e w' => e = .returned (.int .i64 0) ∧ ∃ F', CoO w' F' g (run s (numOps c v)) ∧ Chg w w' F F' := by
  have hl : s.od.length = n := hK.len
  have HC := Lib.hid hC
  have hd := numD_le hv
  have hin := numD_in v
  have hr := @numD_rest v
  have hlv := len_numD hv
  have hb' : ¬ 32 < Lib.bitLen v := fun e => by have := (len_le32 (by omega)).1 e; omega
  have h64 := bitLen_64 (v := v) (by omega)
  have e : numOps c v = ones c (numD v) ++ tailO c (numD v) ++ rawOps (v + 1 - 2 ^ numD v) (numD v) := rfl
  rw [e]
  generalize numD v = d at *
  obtain ⟨vl, vo, hblk, ho, hoo, rfl⟩ := hC
  obtain ⟨c0, c1, c2, hf⟩ := blk3 hblk
  obtain ⟨A2, q2, rfl, _, _⟩ := hoo.form
  rw [cn_len, hl] at *
  have hH := fun (W : World) => ohaven_any (w := W) (A := A2) (n := n) (q := q2) hn c
  rw [have_iff.2 ⟨by omega, by omega⟩] at hH
  have hLen1 := fun W : World => len64_any (v + 1) W (by omega)
  rw [hlv, show ((v + 1 : Nat) : Int) = (v : Int) + 1 by omega, show ((d + 1 : Nat) : Int) = (d : Int) + 1 by omega] at hLen1
  obtain ⟨x, hx⟩ : ∃ x : Int, (v : Int) = x := ⟨_, rfl⟩
  have hx0 : 0 ≤ x := by omega
  have hx1 : x ≤ 4294967295 := by omega
  rw [hx] at hLen1 ⊢
  have HL1 := Lib.hid hLen1
  have hLen0 := fun W : World => len64_any v W (by omega)
  obtain ⟨L, hL⟩ : ∃ L, Lib.bitLen v = L := ⟨_, rfl⟩
  rw [hL, hx] at hLen0
  rw [hL] at hb'
  have HX := Lib.hid hx
  have hbI : decide (32 < (L : Int)) = false := by simp; omega
  have HL0 := Lib.hid hLen0
  have HKK := Lib.hid hk; have HNN := Lib.hid hn; have HVI : Hid ((v : Int) < 4294967296) := Lib.hid (by omega)
  have HH := Lib.hid hH
  have HR := Lib.hid hr; have HIN := Lib.hid hin; have HK := Lib.hid hK
  have HE := Lib.hid e
  have hcn : (c : Int) ≤ 1048576 := by omega
  have HVV := Lib.hid hv
  clear hr hin hK hH hLen1 hblk ho hoo hlv e hl hv hk hn hLen0 hL h64 hb' hx
  go_enter Try.func17, Try.ntmps17
  go_wp2_with (first
      | (go_at_call_of 41 (Value.int .u64 x); refine (HL0.out _).mono ?_; rintro e w1 ⟨rfl, rfl⟩)
      | (go_at_call 42; refine (HH.out _).mono ?_; rintro e w1 ⟨rfl, rfl⟩))
  refine (HL1.out _).mono ?_
  rintro e w1 ⟨rfl, rfl⟩
  go_wp2
  clear HL1 HH c0 c1 c2 hf
  have hk := HKK.out; have hn := HNN.out; have hv := HVV.out
  go_loopw [26] (fun nn wr => ∃ (j : Nat) (F' : Nat → Prop), nn = .int .i64 j ∧ j ≤ d ∧ CoO wr F' g (run s (ones c j)) ∧ Chg w wr (fp g vl (.slice A2 n q2)) F') (fun nn _ => d - (intOf nn).toNat)
  case atStart => exact ⟨0, _, rfl, Nat.zero_le _, HC.out, Chg.refl _ _⟩
  case round =>
    obtain ⟨j, F1, rfl, hj, hC1, hc1⟩ := hrel
    have hg1 : ∀ x ∈ ones c j, good n x := ones_good (by omega)
    obtain ⟨hok1, m, hm1, hm2, _, _⟩ := runs_in (ones c j) HK.out hg1
    rw [show (ones c j).length = j by simp [ones]] at hm1
    by_cases hjd : j = d
    · subst hjd
      have HOK1 := Lib.hid hok1
      have hgt : ∀ x ∈ tailO c j, good n x := tail_good hc
      obtain ⟨hok2, m2, hm3, hm4, _, _⟩ := runs_in (tailO c j) hok1 hgt
      have hm5 : (tailO c j).length ≤ 1 := by unfold tailO; split <;> simp
      have HOK2 := Lib.hid hok2
      have HMM : Hid ((run (run s (ones c j)) (tailO c j)).k ≤ 1099511627600) := Lib.hid (by omega)
      have hRaw := fun (W : World) (F2 : Nat → Prop) (h : CoO W F2 g (run (run s (ones c j)) (tailO c j))) => craw_any h hok2 HMM.out (v + 1 - 2 ^ j) j (by omega) HR.out
      have hRP : run s (ones c j ++ tailO c j ++ rawOps (v + 1 - 2 ^ j) j) = run (run (run s (ones c j)) (tailO c j)) (rawOps (v + 1 - 2 ^ j) j) := by rw [run_app, run_app]
      have HRP := Lib.hid hRP
      have HRAW := Lib.hid hRaw
      have HPK : Hid ((run s (ones c j)).k ≤ 1099511627700) := Lib.hid (by omega)
      clear hok1 hok2 hRaw hm1 hm2 hm3 hm4 hm5 hg1 hgt hRP
      obtain ⟨r, hre⟩ : ∃ r, v + 1 - 2 ^ j = r := ⟨_, rfl⟩
      have hpw : 2 ^ j ≤ 2 ^ 32 := Nat.pow_le_pow_right (by omega) hd
      have hpc := pow_castA j
      obtain ⟨P, hP⟩ : ∃ P : Int, (2 : Int) ^ j = P := ⟨_, rfl⟩
      have hP0 : 0 ≤ P := by rw [← hP, ← hpc]; exact Int.natCast_nonneg _
      have hP1 : P ≤ 4294967296 := by rw [← hP, ← hpc]; omega
      have hrI : x + 1 - P = (r : Nat) := by
        have := HIN.out.1
        have := HX.out
        rw [← hP, ← hpc]
        omega
      rw [hre] at HRAW HRP
      have HRE := Lib.hid hre
      clear hre hpw hpc hk hn hv HVV HVI HKK HNN
      by_cases h32 : j < 32
      · have hPut := fun (W : World) (h : CoO W F1 g (run s (ones c j))) => cput_any h HOK1.out HPK.out (c + j) 0 (by omega) (by omega)
        have htl : run (run s (ones c j)) (tailO c j) = step (run s (ones c j)) (some (c + j), 0) := by unfold tailO; rw [if_pos h32]; rfl
        rw [htl] at HRAW HRP
        have HPUT := Lib.hid hPut
        have HC1 := Lib.hid hC1
        have hcj : ((c + j : Nat) : Int) = (c : Int) + (j : Int) := by omega
        rw [hcj] at HPUT
        clear hPut htl hcj hC1
        go_wp2_with fail
        refine (HPUT.out _ HC1.out).mono ?_
        rintro e w2 ⟨rfl, F2, hC2, hc2⟩
        have hR := HRAW.out w2 F2 hC2
        have HR2 := Lib.hid hR
        clear hR
        go_wp2_with fail
        refine HR2.out.mono ?_
        rintro e w3 ⟨rfl, F3, hC3, hc3⟩
        go_wp2
        go_ret
        exact ⟨rfl, F3, by rw [HRE.out, HRP.out]; exact hC3, (hc1.trans hc2).trans hc3⟩
      · have htl : run (run s (ones c j)) (tailO c j) = run s (ones c j) := by unfold tailO; rw [if_neg h32]; rfl
        rw [htl] at HRAW HRP
        have hR := HRAW.out wr F1 hC1
        have HR2 := Lib.hid hR
        clear htl hR
        go_wp2_with fail
        refine HR2.out.mono ?_
        rintro e w3 ⟨rfl, F3, hC3, hc3⟩
        go_wp2
        go_ret
        exact ⟨rfl, F3, by rw [HRE.out, HRP.out]; exact hC3, hc1.trans hc3⟩
    · have hPut := cput_any hC1 hok1 (by omega) (c + j) 1 (by omega) (by omega)
      have hst : step (run s (ones c j)) (some (c + j), 1) = run s (ones c (j + 1)) := by rw [ones_succ, run_app]; rfl
      rw [hst, show ((c + j : Nat) : Int) = (c : Int) + (j : Int) by omega] at hPut
      have HPUT := Lib.hid hPut
      have hjd' : j < d := by omega
      clear hPut hst hm1 hm2 hok1 hg1 hC1 hk hn hv HVV HVI HKK HNN
      go_wp2_with fail
      refine HPUT.out.mono ?_
      rintro e w2 ⟨rfl, F2, hC2, hc2⟩
      go_wp2
      refine ⟨⟨j + 1, F2, rfl, by omega, hC2, hc1.trans hc2⟩, by simp [intOf]; omega⟩
end Go.Proofs.Ytghbjlmbehljdaa
