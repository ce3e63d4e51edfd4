/- arith: ArithBack. -/
import Derived.Test.YtghbjlmbehljdaaAriX
namespace Go.Proofs.Ytghbjlmbehljdaa
open Go.RowKit
set_option maxRecDepth 100000
set_option maxHeartbeats 4000000

theorem arithBack_walkA (n : Int) (v : Value) (l : List Ac) (w : World) (hS : Acs w w.heap.size v l) (hok : ∀ x ∈ l, AcOk x) (hn1 : -9223372036854775808 ≤ n) (hn2 : n ≤ 9223372036854775807) :
    Calls Try.prog 4 #[.int .i64 n, v] w fun e w' => e = .returned (.bool true) ∧ Below w.heap.size w w' := by
  obtain ⟨A, q, rfl, _, _⟩ := hS.form
  have hk := knownA_any w
  have HK := Lib.hid hk
  by_cases hl : 150 < l.length
  · clear hS hk hok
    go_enter Try.func4, Try.ntmps4
    go_wp2_with (go_at_call 10; refine HK.out.mono ?_; rintro e w1 ⟨rfl, hb1⟩)
    go_ret
    exact ⟨rfl, hb1⟩
  by_cases h1 : n < 1
  · clear hS hk hok
    go_enter Try.func4, Try.ntmps4
    go_wp2_with (go_at_call 10; refine HK.out.mono ?_; rintro e w1 ⟨rfl, hb1⟩)
    go_ret
    exact ⟨rfl, hb1⟩
  by_cases h2 : 4096 < n
  · clear hS hk hok
    go_enter Try.func4, Try.ntmps4
    go_wp2_with (go_at_call 10; refine HK.out.mono ?_; rintro e w1 ⟨rfl, hb1⟩)
    go_ret
    exact ⟨rfl, hb1⟩
  obtain ⟨m, rfl⟩ := Int.eq_ofNat_of_zero_le (by omega : 0 ≤ n)
  have HS := Lib.hid hS; have HOK := Lib.hid hok
  obtain ⟨hokf, hkf⟩ := done_run m l
  have hinf : In (run (start m) (opsL (doneA m l))) (start m) := In.run _ (start_ok m) (opsL_good (doneA_ok m l)) (In.self hokf)
  have hself := In.self hokf
  obtain ⟨f, hf⟩ : ∃ f, run (start m) (opsL (doneA m l)) = f := ⟨_, rfl⟩
  rw [hf] at hokf hkf hinf hself
  have HFF := Lib.hid (And.intro hokf (And.intro hinf (And.intro hself hf)))
  have HKF := Lib.hid (fun _ : True => hkf)
  have HM := Lib.hid (fun _ : True => (show 1 ≤ m ∧ m ≤ 4096 by omega))
  clear hS hk hok hokf hkf hinf hself hf hn1 hn2
  go_enter Try.func4, Try.ntmps4
  go_wp2_with fail
  refine HK.out.mono ?_
  rintro e w1 ⟨rfl, hb1⟩
  have HB1 := Lib.hid hb1
  have hc := coded_any m _ l w1 (HM.out trivial).1 (HM.out trivial).2 ((HS.out.below hb1).more hb1.size) HOK.out (by omega)
  rw [HFF.out.2.2.2] at hc
  have HC := Lib.hid hc
  clear hc hb1
  go_wp2_with fail
  refine HC.out.mono ?_
  rintro e w2 ⟨g, F, vd, rfl, hC, hA, hF, hb2⟩
  have hb02 := HB1.out.trans (hb2.mono HB1.out.size)
  have HB2 := Lib.hid hb02
  have HA := Lib.hid hA
  have HBy := Lib.hid (cbytes_any hC (by have := HKF.out trivial; omega))
  obtain ⟨Ad, cd, rfl, _, _⟩ := hA.form
  clear hC hA hF hb2 hb02
  go_wp2_with fail
  refine HBy.out.mono ?_
  rintro e w3 ⟨v3, rfl, ho3, hb3⟩
  have hb03 := HB2.out.trans (hb3.mono HB2.out.size)
  have hfl := fst_lt HFF.out.1 HFF.out.2.1
  have hd := newd_good (w := w3) m ho3.sli (by simp [areB]; have := HM.out trivial; omega) (by rw [digs_len]; exact HFF.out.1.k4) (by rw [digs_len]; have := HKF.out trivial; omega) digs_lt hfl
  rw [fst_sy HFF.out.1.low HFF.out.1.k4] at hd
  have HD := Lib.hid hd
  have HB3 := Lib.hid hb03
  have HA3 := Lib.hid (HA.out.below hb3)
  obtain ⟨A3, n3, c3, rfl⟩ := ho3.shape
  clear hd hfl ho3 hb3 hb03
  go_wp2_with fail
  refine HD.out.mono ?_
  rintro e w4 ⟨g4, F4, rfl, hD4, hF4, hb4⟩
  have hb04 := HB3.out.trans (hb4.mono HB3.out.size)
  have hacs : Acs w4 w3.heap.size (.slice Ad (doneA m l).length cd) (doneA m l) := (HA3.out.acs).below hb4
  have hask := asked_any hD4 (start_ok m) (HM.out trivial).2 hacs hF4 hb4.size (doneA_ok m l) (by rw [HFF.out.2.2.2]; exact HFF.out.2.2.1) (by have := doneA_len m l; omega)
  rw [HFF.out.2.2.2] at hask
  have HASK := Lib.hid hask
  have HB4 := Lib.hid hb04
  have HF4 := Lib.hid (fun k hk => Nat.le_trans HB3.out.size (hF4 k hk))
  clear hask hacs hD4 hF4 hb4 hb04
  go_wp2_with fail
  refine HASK.out.mono ?_
  rintro e w5 ⟨rfl, hD5, hc5⟩
  have HB5 := Lib.hid (HB4.out.trans (hc5.below HF4.out HB4.out.size))
  have hL := dleft_any hD5
  rw [show (Sy f f).rest.length = 0 by show ((digs f.k f.lo).drop f.k).length = 0; rw [List.length_drop, digs_len]; omega] at hL
  have HL := Lib.hid hL
  clear hL hD5 hc5
  go_wp2_with fail
  refine HL.out.mono ?_
  rintro e w6 ⟨rfl, rfl⟩
  go_wp2
  go_ret
  exact ⟨rfl, HB5.out⟩
theorem arithBack_walk (n : Int) (v : Value) (rows : List (List Int)) (w : World) (hS : Recs w w.heap.size v [.i64, .i64, .i64, .i64, .u64] rows) (hn1 : -9223372036854775808 ≤ n) (hn2 : n ≤ 9223372036854775807) :
    Calls Try.prog 4 #[.int .i64 n, v] w fun e w' => e = .returned (.bool true) ∧ Below w.heap.size w w' := by
  obtain ⟨acts, h1, h2⟩ := acs_of_recs hS
  exact arithBack_walkA n v acts w h1 h2 hn1 hn2
end Go.Proofs.Ytghbjlmbehljdaa
