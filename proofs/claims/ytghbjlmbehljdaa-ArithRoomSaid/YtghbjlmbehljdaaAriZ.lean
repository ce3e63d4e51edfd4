/- arith: ArithRoom. -/
import Derived.Test.YtghbjlmbehljdaaAriY
namespace Go.Proofs.Ytghbjlmbehljdaa
open Go.RowKit
set_option maxRecDepth 100000
set_option maxHeartbeats 8000000

/-- How many bits a step is at most. -/
def bitsA (a : Ac) : Nat := if a.what = 0 then 1 else if a.what = 1 then a.n.toNat else 65
def sumA (l : List Ac) : Nat := (l.map bitsA).sum
theorem sumA_snoc {l : List Ac} {i : Nat} {a : Ac} (h : l[i]? = some a) : sumA (l.take (i + 1)) = sumA (l.take i) + bitsA a := by
  unfold sumA; rw [List.take_add_one, h]; simp
theorem opsL_sum {n : Nat} {l : List Ac} (h : ∀ a ∈ l, okA n a = true) : (opsL l).length ≤ sumA l := by
  induction l with
  | nil => simp [opsL]
  | cons a l ih =>
    have h1 := opsA_len (h a (by simp))
    have h2 := ih (fun x hx => h x (by simp [hx]))
    unfold opsL sumA at *
    rw [List.flatMap_cons, List.length_append, List.map_cons, List.sum_cons]
    unfold bitsA at *
    omega
theorem bitsA_65 {n : Nat} {a : Ac} (h : okA n a = true) : bitsA a ≤ 65 := by
  unfold bitsA
  unfold okA at h
  by_cases h0 : a.what = 0
  · rw [if_pos h0]; omega
  · rw [if_neg h0] at h ⊢
    by_cases h2 : a.what = 1
    · rw [if_pos h2] at h ⊢
      have := raw_iff.1 h
      omega
    · rw [if_neg h2]; omega
theorem sumA_le {n : Nat} : ∀ {l : List Ac}, (∀ a ∈ l, okA n a = true) → sumA l ≤ 65 * l.length
  | [], _ => by simp [sumA]
  | a :: l, h => by
    have h1 := bitsA_65 (h a (by simp))
    have h2 := sumA_le (l := l) (fun x hx => h x (by simp [hx]))
    unfold sumA at *
    rw [List.map_cons, List.sum_cons, List.length_cons]
    omega
theorem done_room (n : Nat) (l : List Ac) : (run (start n) (opsL (doneA n l))).k ≤ 4 + sumA (doneA n l) := by
  obtain ⟨h1, m, h2, h3, _⟩ := runs_in (opsL (doneA n l)) (start_ok n) (opsL_good (doneA_ok n l))
  have h4 := opsL_sum (doneA_ok n l)
  have h6 : (start n).k = 4 := rfl
  omega
/-- Many equal bits. -/
def zeros (i : Nat) : List (Option Nat × Nat) := List.replicate i (some 0, 0)
theorem zeros_good (i : Nat) : ∀ x ∈ zeros i, good 1 x := by
  intro x hx
  obtain rfl := (List.mem_replicate.1 hx).2
  exact ⟨by simp, fun c e => by injection e with e; omega⟩
theorem zeros_snoc (i : Nat) : run (start 1) (zeros (i + 1)) = step (run (start 1) (zeros i)) (some 0, 0) := by
  unfold zeros
  rw [List.replicate_succ', run_app]
  rfl
/-- Low's digits, Width and the odds alone. -/
def zstep (t : Nat × Nat × Nat) : Nat × Nat × Nat :=
  let b := t.2.1 / 4096 * t.2.2
  (if b < 16777216 then t.1 + 1 else t.1, if b < 16777216 then b * 256 else b, t.2.2 + (4096 - t.2.2) / 32)
def ziter : Nat → Nat × Nat × Nat
  | 0 => (4, 4294967295, 2048)
  | i + 1 => zstep (ziter i)
theorem ziter_is : ∀ i, ((run (start 1) (zeros i)).k, (run (start 1) (zeros i)).w, (run (start 1) (zeros i)).od) = ((ziter i).1, (ziter i).2.1, [(ziter i).2.2])
  | 0 => rfl
  | i + 1 => by
    have ih := ziter_is i
    rw [zeros_snoc, show ziter (i + 1) = zstep (ziter i) from rfl]
    generalize ziter i = t at *
    generalize run (start 1) (zeros i) = s at *
    obtain ⟨lo, k, w, od⟩ := s
    simp only [Prod.mk.injEq] at ih
    obtain ⟨rfl, rfl, rfl⟩ := ih
    obtain ⟨k, w, o⟩ := t
    unfold zstep step enc shft boundOf
    simp only [learnO, learnt, odd', if_true, List.getD_cons_zero, List.set_cons_zero]
    by_cases hb : w / 4096 * o < 16777216
    · simp only [hb, if_true]
    · simp only [hb, if_false]
theorem zeros_k : (run (start 1) (zeros 600)).k ≤ 16 := by
  have h := congrArg Prod.fst (ziter_is 600)
  simp only at h
  rw [h]
  decide +kernel

theorem arithRoom_walkA (n : Int) (v : Value) (l : List Ac) (w : World) (hS : Acs w w.heap.size v l) (hok : ∀ x ∈ l, AcOk x) (hn1 : -9223372036854775808 ≤ n) (hn2 : n ≤ 9223372036854775807) :
    Calls Try.prog 9 #[.int .i64 n, v] w fun e w' => e = .returned (.bool true) ∧ Below w.heap.size w w' := by
  obtain ⟨A, q, rfl, _, _⟩ := hS.form
  have hk := knownA_any w
  have HK := Lib.hid hk
  by_cases hl : 80 < l.length
  · clear hS hk hok
    go_enter Try.func9, Try.ntmps9
    go_wp2_with (go_at_call 10; refine HK.out.mono ?_; rintro e w1 ⟨rfl, hb1⟩)
    go_ret
    exact ⟨rfl, hb1⟩
  by_cases h1 : n < 1
  · clear hS hk hok
    go_enter Try.func9, Try.ntmps9
    go_wp2_with (go_at_call 10; refine HK.out.mono ?_; rintro e w1 ⟨rfl, hb1⟩)
    go_ret
    exact ⟨rfl, hb1⟩
  by_cases h2 : 4096 < n
  · clear hS hk hok
    go_enter Try.func9, Try.ntmps9
    go_wp2_with (go_at_call 10; refine HK.out.mono ?_; rintro e w1 ⟨rfl, hb1⟩)
    go_ret
    exact ⟨rfl, hb1⟩
  obtain ⟨m, rfl⟩ := Int.eq_ofNat_of_zero_le (by omega : 0 ≤ n)
  have HS := Lib.hid hS; have HOK := Lib.hid hok
  obtain ⟨hokf, hkf⟩ := done_run m l
  have hroom := done_room m l
  have hdl := doneA_len m l
  have hdo := doneA_ok m l
  have hsum := fun i => sumA_le (n := m) (l := (doneA m l).take i) (fun x hx => hdo x (List.mem_of_mem_take hx))
  obtain ⟨f, hf⟩ : ∃ f, run (start m) (opsL (doneA m l)) = f := ⟨_, rfl⟩
  rw [hf] at hokf hkf hroom
  have HFF := Lib.hid (And.intro hokf hf)
  have HKF := Lib.hid (fun _ : True => And.intro hkf (And.intro hroom hokf.k4))
  have HM := Lib.hid (fun _ : True => (show 1 ≤ m ∧ m ≤ 4096 by omega))
  have hc := fun (W : World) (hS : Acs W W.heap.size (.slice A l.length q) l) => coded_any m (.slice A l.length q) l W (by omega) (by omega) hS hok (by omega)
  rw [hf] at hc
  generalize doneA m l = ds at *
  have HSUM := Lib.hid hsum; have HDO := Lib.hid hdo
  have HDL := Lib.hid (fun _ : True => (show ds.length ≤ 80 by omega))
  have HC0 := Lib.hid hc
  have HN := Lib.hid (fun W : World => newc_good 1 W (by decide))
  clear hS hk hok hokf hkf hf hn1 hn2 hroom hsum hdo hdl hc
  go_enter Try.func9, Try.ntmps9
  go_wp2_with fail
  refine HK.out.mono ?_
  rintro e w1 ⟨rfl, hb1⟩
  have HB1 := Lib.hid hb1
  have hc := HC0.out w1 ((HS.out.below hb1).more hb1.size)
  have HC := Lib.hid hc
  clear hc hb1
  go_wp2_with fail
  refine HC.out.mono ?_
  rintro e w2 ⟨g, F, vd, rfl, hC, hA, hF, hb2⟩
  have HB2 := Lib.hid (HB1.out.trans (hb2.mono HB1.out.size))
  obtain ⟨Ad, cd, rfl, _, _⟩ := hA.form
  have hacs := hA.acs
  have HA := Lib.hid hacs
  have HC2 := Lib.hid hC
  have HF2 := Lib.hid (fun k hk => Nat.le_trans HB1.out.size (hF k hk))
  clear hC hA hF hb2 hacs
  go_wp2_with fail
  go_loopw [7, 8] (fun vn nn wr => ∃ (i : Nat), vn = .int .i64 (sumA (ds.take i) : Nat) ∧ nn = .int .i64 i ∧ i ≤ ds.length ∧ wr = w2) (fun _ nn _ => ds.length - (intOf nn).toNat)
  case atStart => exact ⟨0, rfl, rfl, Nat.zero_le _, rfl⟩
  case round =>
    obtain ⟨i, rfl, rfl, hil, rfl⟩ := hrel
    have hsm : sumA (ds.take i) ≤ 5200 := by
      have := HSUM.out i
      have := HDL.out trivial
      have : (ds.take i).length ≤ ds.length := by simp; omega
      have : 65 * (ds.take i).length ≤ 65 * ds.length := Nat.mul_le_mul_left _ this
      omega
    have hdl := HDL.out trivial
    by_cases hie : i = ds.length
    · subst hie
      rw [List.take_length] at hsm ⊢
      have hge : ¬ ((ds.length : Nat) : Int) < (ds.length : Nat) := by omega
      obtain ⟨S, hSe⟩ : ∃ S, sumA ds = S := ⟨_, rfl⟩
      have HSE := Lib.hid hSe
      rw [hSe] at hsm ⊢
      clear hSe
      go_wp2_with fail
      refine (HN.out _).mono ?_
      rintro e w3 ⟨g3, F3, rfl, hC3, hF3, hb3⟩
      have HB3 := Lib.hid (HB2.out.trans (hb3.mono HB2.out.size))
      have HC23 := Lib.hid (HC2.out.below hb3)
      have HDJ := Lib.hid (show ∀ k, F k → ¬ F3 k from fun k h h3 => by have := hF3 k h3; have := HC2.out.lt k h; omega)
      have HC3 := Lib.hid hC3
      have HF3 := Lib.hid (fun k hk => Nat.le_trans HB2.out.size (hF3 k hk))
      clear hC3 hF3 hb3 HC2
      go_wp2_with fail
      go_loopw [11] (fun nn wr => ∃ (i : Nat) (F5 : Nat → Prop), nn = .int .i64 i ∧ i ≤ 600 ∧ CoO wr F5 g3 (run (start 1) (zeros i)) ∧ Hid (CoO wr F g f) ∧ Hid (∀ k, F k → ¬ F5 k) ∧ Hid (∀ k, F5 k → w.heap.size ≤ k) ∧ Below w.heap.size w wr) (fun nn _ => 600 - (intOf nn).toNat)
      case atStart => exact ⟨0, F3, rfl, by omega, HC3.out, HC23, HDJ, HF3, HB3.out⟩
      case round =>
        obtain ⟨i, F5, rfl, hi6, hC5, HCf, HDJ5, HF5, hbr⟩ := hrel
        have HBR := Lib.hid hbr
        obtain ⟨hokz, mz, hz1, hz2, _⟩ := runs_in (zeros i) (start_ok 1) (zeros_good i)
        have hzk : (run (start 1) (zeros i)).k ≤ 604 := by
          have : (zeros i).length = i := by simp [zeros]
          have : (start 1).k = 4 := rfl
          omega
        by_cases hie : i = 600
        · have hzz := zeros_k
          rw [hie] at hC5
          have HI := Lib.hid hie
          have HY1 := Lib.hid (cbytes_any HCf.out (by have := (HKF.out trivial).1; omega))
          have HC5 := Lib.hid hC5
          have HZZ := Lib.hid (fun _ : True => hzz)
          have hge : ¬ (i : Int) < 600 := by omega
          clear hC5 hokz hz1 hz2 hzk hbr hie hzz hi6
          go_wp2_with fail
          refine HY1.out.mono ?_
          rintro e w6 ⟨v6, rfl, ho6, hb6⟩
          obtain ⟨A6, c6, rfl, _, _⟩ := ho6.form8
          have HY2 := Lib.hid (cbytes_any (HCf.out.below hb6) (by have := (HKF.out trivial).1; omega))
          have HC6 := Lib.hid (HC5.out.below hb6)
          have HB6 := Lib.hid (HBR.out.trans (hb6.mono HBR.out.size))
          have hf4 : (4 : Int) ≤ (f.k : Nat) := by have := (HKF.out trivial).2.2; omega
          rw [digs_len]
          clear ho6 hb6
          go_wp2_with fail
          refine HY2.out.mono ?_
          rintro e w7 ⟨v7, rfl, ho7, hb7⟩
          obtain ⟨A7, c7, rfl, _, _⟩ := ho7.form8
          have HY3 := Lib.hid (cbytes_any (HC6.out.below hb7) (by have := HZZ.out trivial; omega))
          have HB7 := Lib.hid (HB6.out.trans (hb7.mono HB6.out.size))
          have hfS : (f.k : Int) ≤ 4 + (S : Nat) := by have := (HKF.out trivial).2.1; have := HSE.out; omega
          rw [digs_len]
          clear ho7 hb7
          go_wp2_with fail
          refine HY3.out.mono ?_
          rintro e w8 ⟨v8, rfl, ho8, hb8⟩
          obtain ⟨A8, c8, rfl, _, _⟩ := ho8.form8
          have HB8 := Lib.hid (HB7.out.trans (hb8.mono HB7.out.size))
          have hz16 : ((run (start 1) (zeros 600)).k : Int) ≤ 16 := by have := HZZ.out trivial; omega
          rw [digs_len]
          clear ho8 hb8
          go_wp2
          go_ret
          exact ⟨rfl, HB8.out⟩
        · have hP := cput_any hC5 hokz (by omega) 0 0 (by omega) (by omega)
          rw [← zeros_snoc] at hP
          have HP := Lib.hid hP
          have hlt : (i : Int) < 600 := by omega
          clear hP hC5 hokz hz1 hz2 hzk hbr hie
          go_wp2_with fail
          refine HP.out.mono ?_
          rintro e w6 ⟨rfl, F6, hC6, hc6⟩
          have HC6 := Lib.hid hC6
          have HCf6 := Lib.hid (HCf.out.kept hc6 HDJ5.out)
          have HDJ6 := Lib.hid (show ∀ k, F k → ¬ F6 k from fun k h h6 => by
            rcases hc6.own k h6 with h5 | h5
            · exact HDJ5.out k h h5
            · have := HCf.out.lt k h; omega)
          have HF6 := Lib.hid (hc6.base HF5.out HBR.out.size)
          have HB6 := Lib.hid (HBR.out.trans (hc6.below HF5.out HBR.out.size))
          clear hC6 hc6
          go_wp2
          exact ⟨⟨i + 1, F6, rfl, by omega, HC6.out, HCf6, HDJ6, HF6, HB6.out⟩, by simp [intOf]; omega⟩
    · obtain ⟨x, hx⟩ : ∃ x, ds[i]? = some x := ⟨_, List.getElem?_eq_getElem (by omega)⟩
      obtain ⟨b, o, rfl, ⟨c0, c1, c2, c3, c4⟩, hbw⟩ := HA.out.get hx
      have hox := HDO.out x (List.mem_of_getElem? hx)
      have h65 := bitsA_65 hox
      have hnx := sumA_snoc hx
      obtain ⟨S, hSe⟩ : ∃ S, sumA (ds.take i) = S := ⟨_, rfl⟩
      obtain ⟨T, hT⟩ : ∃ T, sumA (ds.take (i + 1)) = T := ⟨_, rfl⟩
      rw [hSe, hT] at hnx
      rw [hSe] at hsm ⊢
      have HT := Lib.hid hT
      have hlt : (i : Int) < (ds.length : Nat) := by omega
      by_cases h0 : x.what = 0
      · have q0 : (x.what == 0) = true := by rw [beq_iff_eq]; exact h0
        have hTS : (S : Int) + 1 = (T : Nat) := by unfold bitsA at hnx; rw [if_pos h0] at hnx; omega
        clear hx hox h65 hnx hSe hT hie h0
        go_wp2
        exact ⟨⟨i + 1, by rw [HT.out], rfl, by omega, by trivial⟩, by simp [intOf]; omega⟩
      · have q0 : (x.what == 0) = false := by rw [beq_eq_false_iff_ne]; exact h0
        by_cases h1 : x.what = 1
        · have q1 : (x.what == 1) = true := by rw [beq_iff_eq]; exact h1
          have hr : 0 ≤ x.n ∧ x.n ≤ 32 := by unfold okA at hox; rw [if_neg h0, if_pos h1] at hox; have := raw_iff.1 hox; omega
          have hTS : (S : Int) + x.n = (T : Nat) := by unfold bitsA at hnx; rw [if_neg h0, if_pos h1] at hnx; omega
          obtain ⟨r1, r2⟩ := hr
          clear hx hox h65 hnx hSe hT hie h0 h1
          go_wp2
          exact ⟨⟨i + 1, by rw [HT.out], rfl, by omega, by trivial⟩, by simp [intOf]; omega⟩
        · have q1 : (x.what == 1) = false := by rw [beq_eq_false_iff_ne]; exact h1
          have hTS : (S : Int) + 65 = (T : Nat) := by unfold bitsA at hnx; rw [if_neg h0, if_neg h1] at hnx; omega
          clear hx hox h65 hnx hSe hT hie h0 h1
          go_wp2
          exact ⟨⟨i + 1, by rw [HT.out], rfl, by omega, by trivial⟩, by simp [intOf]; omega⟩
theorem arithRoom_walk (n : Int) (v : Value) (rows : List (List Int)) (w : World) (hS : Recs w w.heap.size v [.i64, .i64, .i64, .i64, .u64] rows) (hn1 : -9223372036854775808 ≤ n) (hn2 : n ≤ 9223372036854775807) :
    Calls Try.prog 9 #[.int .i64 n, v] w fun e w' => e = .returned (.bool true) ∧ Below w.heap.size w w' := by
  obtain ⟨acts, h1, h2⟩ := acs_of_recs hS
  exact arithRoom_walkA n v acts w h1 h2 hn1 hn2
end Go.Proofs.Ytghbjlmbehljdaa
