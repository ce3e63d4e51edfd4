/- block: the reference's Level, BlockMay. -/
import Derived.Test.YtggddckckfilgaaBloG
import Derived.Deep.QuietTactic
import Derived.BigQuiet
namespace Go.Proofs.Ytggddckckfilgaa
open Go.RowKit
set_option maxRecDepth 100000
set_option maxHeartbeats 1600000

def levelB (rs : List (List Int)) : Bool := chanB (rs.length : Nat) && rs.all (fun r => decide (r.length = lenB rs))
theorem len_take {n : Nat} {rs : List (List Int)} {j : Nat} (h : j < rs.length) : (rs.take (j + 1)).all (fun r => decide (r.length = n)) = ((rs.take j).all (fun r => decide (r.length = n)) && decide (rs[j].length = n)) := by
  rw [List.take_succ_eq_append_getElem h, List.all_append]; simp only [List.all_cons, List.all_nil, Bool.and_true]
theorem level_any (v : Value) (rs : List (List Int)) (w : World) (B : Nat) (hR : Rws w B v rs) :
    Calls Try.prog 42 #[v] w fun e w' => e = .returned (.bool (levelB rs)) ∧ ∃ q, w' = w.drewN q := by
  obtain ⟨A, c, rfl, hlc, hcm⟩ := hR.form
  obtain ⟨m, hm⟩ : ∃ m, rs.length = m := ⟨_, rfl⟩
  rw [hm] at hR hlc ⊢
  by_cases h1 : 1 ≤ m
  · by_cases h8 : m ≤ 8
    · have hcb : chanB (m : Nat) = true := chanB_iff.2 ⟨by omega, by omega⟩
      obtain ⟨n, hn⟩ : ∃ n, lenB rs = n := ⟨_, rfl⟩
      have hl : levelB rs = rs.all (fun r => decide (r.length = n)) := by unfold levelB; rw [hm, hcb, hn, Bool.true_and]
      have hr0 : ∃ (h : 0 < rs.length), rs[0].length = n := by
        cases rs with
        | nil => simp at hm; omega
        | cons r rs => exact ⟨by simp, hn⟩
      obtain ⟨h0, hr0⟩ := hr0
      have HM := Lib.hid hm; have HL := Lib.hid hl; have HR0 := Lib.hid hr0
      clear hm hl hn hcb
      go_enter Try.func42, Try.ntmps42
      go_wp2
      go_loopw [3] (fun i wr => ∃ j : Nat, j ≤ m ∧ i = .int .i64 j ∧ Hid ((rs.take j).all (fun r => decide (r.length = n)) = true) ∧ Hid (∃ q, wr = w.drewN q)) (fun i _ => m - (intOf i).toNat)
      case atStart => exact ⟨0, Nat.zero_le _, rfl, rfl, ⟨0, rfl⟩⟩
      case round =>
        obtain ⟨j, hj, rfl, hall, hq⟩ := hrel
        by_cases hlt : j < m
        · have hjl : j < rs.length := by rw [HM.out]; exact hlt
          have hRr : Rws wr B (.slice A m c) rs := by obtain ⟨q, e⟩ := hq.out; rw [e]; exact hR.drewN q
          obtain ⟨b2, o, A', c', rfl, hb, hcell, hS, g1, g2⟩ := hRr.get hjl
          obtain ⟨b3, o3, A3, c3, e3, hb3, hcell3, hS3, g13, g23⟩ := hRr.get h0
          injection e3 with e3; injection e3 with e4 e5
          subst e4; subst e5
          rw [HR0.out, Nat.add_zero] at hcell3
          have htk := len_take (n := n) hjl
          have hno : decide (rs[j].length = n) = false → rs.all (fun r => decide (r.length = n)) = false := fun h => List.all_eq_false.2 ⟨rs[j], List.getElem_mem _, by simp [h]⟩
          have HT := Lib.hid htk; have HNO := Lib.hid hno
          clear htk hno hS hS3 hRr hr0
          generalize rs[j].length = k at *
          generalize rs[0].length = k0 at *
          have hjI : (j : Int) < (m : Int) := by omega
          have hmI : (0 : Int) < (m : Int) := by omega
          by_cases hkn : k = n
          · have hkk : ((k : Int) != (n : Int)) = false := by rw [hkn]; simp
            have ht := Lib.hid (HT.out.trans (by rw [hall.out, decide_eq_true hkn, Bool.and_self]))
            clear hkn
            go_wp2
            go_quiet (fail)
            go_wp2
            exact ⟨⟨j + 1, by omega, by simp, ht, by obtain ⟨q, h⟩ := hq.out; exact ⟨q + nq, by rw [h, World.drewN_drewN]⟩⟩, by simp [intOf]; omega⟩
          · have hkk : ((k : Int) != (n : Int)) = true := by rw [bne_iff_ne]; omega
            have hf := Lib.hid (HNO.out (decide_eq_false hkn))
            clear hkn
            go_wp2
            go_quiet (fail)
            go_wp2
            go_ret
            exact ⟨by rw [HL.out, hf.out]; rfl, by obtain ⟨q, h⟩ := hq.out; exact ⟨q + nq, by rw [h, World.drewN_drewN]⟩⟩
        · have : j = rs.length := by rw [HM.out]; omega
          have ha := hall.out
          rw [this, List.take_length] at ha
          have HA := Lib.hid ha
          clear ha this
          go_wp2
          go_ret
          exact ⟨by rw [HL.out, HA.out]; rfl, hq.out⟩
    · have hl : levelB rs = false := by unfold levelB; rw [hm, show chanB (m : Nat) = false from Bool.eq_false_iff.2 (fun h => by have := chanB_iff.1 h; omega), Bool.false_and]
      rw [hl]
      clear hR
      go_enter Try.func42, Try.ntmps42
      go_wp2
      go_ret
      exact ⟨rfl, 0, rfl⟩
  · have hl : levelB rs = false := by unfold levelB; rw [hm, show chanB (m : Nat) = false from Bool.eq_false_iff.2 (fun h => by have := chanB_iff.1 h; omega), Bool.false_and]
    rw [hl]
    have h0 : m = 0 := by omega
    subst h0
    clear hR h1
    go_enter Try.func42, Try.ntmps42
    go_wp2
    go_ret
    exact ⟨rfl, 0, rfl⟩

theorem may_level {b : Int} {rs : List (List Int)} : mayBk b rs = (packB b && levelB rs && decide (1 ≤ lenB rs) && decide (lenB rs ≤ 4096) && rs.all (fun r => r.all (fun x => fitsB x b))) := by
  rw [Bool.eq_iff_iff]
  simp only [mayBk, levelB, rowOk, Bool.and_eq_true, decide_eq_true_eq, List.all_eq_true]
  constructor
  · rintro ⟨⟨⟨⟨h1, h2⟩, h3⟩, h4⟩, h5⟩
    exact ⟨⟨⟨⟨h1, h2, fun r hr => (h5 r hr).1⟩, h3⟩, h4⟩, fun r hr => (h5 r hr).2⟩
  · rintro ⟨⟨⟨⟨h1, h2, h6⟩, h3⟩, h4⟩, h5⟩
    exact ⟨⟨⟨⟨h1, h2⟩, h3⟩, h4⟩, fun r hr => ⟨h6 r hr, h5 r hr⟩⟩
theorem fit_take {b : Int} {rs : List (List Int)} {j : Nat} (h : j < rs.length) : (rs.take (j + 1)).all (fun r => r.all (fun x => fitsB x b)) = ((rs.take j).all (fun r => r.all (fun x => fitsB x b)) && rs[j].all (fun x => fitsB x b)) := by
  rw [List.take_succ_eq_append_getElem h, List.all_append]; simp only [List.all_cons, List.all_nil, Bool.and_true]
theorem fit_take1 {b : Int} {l : List Int} {j : Nat} (h : j < l.length) : (l.take (j + 1)).all (fun x => fitsB x b) = ((l.take j).all (fun x => fitsB x b) && fitsB l[j] b) := by
  rw [List.take_succ_eq_append_getElem h, List.all_append]; simp only [List.all_cons, List.all_nil, Bool.and_true]
theorem qmayBk_any (b : Int) (v : Value) (rs : List (List Int)) (w : World) (B : Nat) (hR : Rws w B v rs) (hB : B ≤ w.heap.size) :
    Calls Try.prog 30 #[.agg #[.int .i64 b, v]] w fun e w' => e = .returned (.bool (mayBk b rs)) ∧ Below w.heap.size w w' := by
  obtain ⟨A, c, rfl, hlc, hcm⟩ := hR.form
  have hb0 := below_new w #[.int .i64 b, .slice A rs.length c] 37
  have hR0 := hR.below (hb0.mono hB)
  have hbx := boxed w #[.int .i64 b, .slice A rs.length c] 37
  have hlev := level_any _ rs (w.alloc (.cells #[.int .i64 b, .slice A rs.length c] 37)) B hR0
  obtain ⟨m, hm⟩ : ∃ m, rs.length = m := ⟨_, rfl⟩
  have hmay := may_level (b := b) (rs := rs)
  rw [hm] at hR hlc hlev hR0 hbx hb0 ⊢
  obtain ⟨n, hn⟩ : ∃ n, lenB rs = n := ⟨_, rfl⟩
  rw [hn] at hmay
  by_cases h4 : 4 ≤ b
  · by_cases h24 : b ≤ 24
    · have hpb : packB b = true := packB_iff.2 ⟨h4, h24⟩
      rw [hpb, Bool.true_and] at hmay
      cases hlb : levelB rs
      · rw [hlb] at hmay hlev
        have hr : mayBk b rs = false := by rw [hmay]; simp
        rw [hr]
        have HLEV := Lib.hid hlev
        clear hr hlev hmay hpb hlb hR hR0 hm hn hbx
        go_enter Try.func30, Try.ntmps30
        go_wp2_with (go_at_call 42; refine HLEV.out.mono ?_; rintro e w2 ⟨rfl, q, rfl⟩)
        go_ret
        exact ⟨rfl, below_drewN hb0 q⟩
      · have hm1 : 1 ≤ m ∧ m ≤ 8 := by
          have h := hlb
          unfold levelB at h
          rw [Bool.and_eq_true, chanB_iff, hm] at h
          omega
        have hrl : ∀ r ∈ rs, r.length = n := by
          have h := hlb
          unfold levelB at h
          rw [Bool.and_eq_true, List.all_eq_true, hn] at h
          exact fun r hr => by simpa using h.2 r hr
        rw [hlb] at hmay hlev
        rw [Bool.true_and] at hmay
        have h0 : 0 < rs.length := by omega
        obtain ⟨b3, o3, A3, c3, e3, hb3, hcell3, hS3, g13, g23⟩ := hR0.get h0
        rw [hrl _ (List.getElem_mem h0), Nat.add_zero] at hcell3
        have HLEV := Lib.hid hlev; have HRL := Lib.hid hrl; have HM := Lib.hid hm; have HMAY := Lib.hid hmay
        subst e3
        have HC3 := Lib.hid hcell3
        clear hlev hmay hpb hlb hm hn hS3 hrl g13 g23 hcell3
        by_cases hn1 : 1 ≤ n
        · by_cases hn2 : n ≤ 4096
          · have HMAY3 := Lib.hid (show mayBk b rs = rs.all (fun r => r.all (fun x => fitsB x b)) by rw [HMAY.out, decide_eq_true hn1, decide_eq_true hn2]; simp)
            clear HMAY
            go_enter Try.func30, Try.ntmps30
            go_wp2_with (go_at_call 42; refine HLEV.out.mono ?_; rintro e w2 ⟨rfl, hq⟩; refine cut_here ?_)
            have hbx2 : w2.heap[w.heap.size]? = some (.cells #[.int .i64 b, .slice (some ⟨b3, o3, none⟩) m c] 37 (0, 0)) := by obtain ⟨q, rfl⟩ := hq; exact hbx
            have hR2 : Rws w2 B (.slice (some ⟨b3, o3, none⟩) m c) rs := by obtain ⟨q, rfl⟩ := hq; exact hR0.drewN q
            have hb2 : Below w.heap.size w w2 := by obtain ⟨q, rfl⟩ := hq; exact below_drewN hb0 q
            have hc3 : w2.cell? ⟨b3, o3, none⟩ = some (.slice A3 n c3) := by obtain ⟨q, rfl⟩ := hq; exact HC3.out
            obtain ⟨d0, d1, hf⟩ := two_in hbx2
            clear hq hR hR0 hbx hb0 HLEV HC3
            unfold CutHere
            go_wp2
            have HD0 := Lib.hid d0; have HD1 := Lib.hid d1; have HC3 := Lib.hid hc3
            clear d0 d1 hc3 hf hbx2
            go_loopw [3, 4] (fun i _ wr => ∃ j : Nat, j ≤ m ∧ i = .int .i64 j ∧ Hid ((rs.take j).all (fun r => r.all (fun x => fitsB x b)) = true) ∧ Hid (∃ q, wr = w2.drewN q)) (fun i _ _ => m - (intOf i).toNat)
            case atStart => exact ⟨0, Nat.zero_le _, rfl, rfl, ⟨0, rfl⟩⟩
            case round =>
              obtain ⟨j, hj, rfl, hall, hq⟩ := hrel
              have d0 : wr.cell? ⟨w.heap.size, 0, none⟩ = some (.int .i64 b) := by obtain ⟨q, e⟩ := hq.out; rw [e]; exact HD0.out
              have d1 : wr.cell? ⟨w.heap.size, 1, none⟩ = some (.slice (some ⟨b3, o3, none⟩) m c) := by obtain ⟨q, e⟩ := hq.out; rw [e]; exact HD1.out
              by_cases hlt : j < m
              · have hjl : j < rs.length := by rw [HM.out]; exact hlt
                obtain ⟨b2, o, A', c', e2, hb, hcell, hS, g1, g2⟩ := hR2.get hjl
                injection e2 with e2; injection e2 with e4 e5
                subst e4; subst e5
                have htk := fit_take (b := b) hjl
                have hno : rs[j].all (fun x => fitsB x b) = false → rs.all (fun r => r.all (fun x => fitsB x b)) = false := fun h => List.all_eq_false.2 ⟨rs[j], List.getElem_mem _, by simp [h]⟩
                have hrn := HRL.out _ (List.getElem_mem hjl)
                have HT := Lib.hid htk; have HNO := Lib.hid hno; have HRN := Lib.hid hrn
                rw [hrn] at hcell hS g1
                clear htk hno hrn
                generalize rs[j] = r at *
                clear hjl
                have hjI : (j : Int) < (m : Int) := by omega
                go_wp2
                have HCELL := Lib.hid hcell; have HS := Lib.hid hS
                clear d0 d1 hcell hS
                go_loopw [4] (fun i ws => ∃ k : Nat, k ≤ n ∧ i = .int .i64 k ∧ Hid ((r.take k).all (fun x => fitsB x b) = true) ∧ Hid (∃ q, ws = w2.drewN q)) (fun i _ => n - (intOf i).toNat)
                case atStart => exact ⟨0, Nat.zero_le _, rfl, rfl, hq⟩
                case round =>
                  obtain ⟨k, hk, rfl, hfit, hq⟩ := hrel
                  have d0 : wr.cell? ⟨w.heap.size, 0, none⟩ = some (.int .i64 b) := by obtain ⟨q, e⟩ := hq.out; rw [e]; exact HD0.out
                  have d1 : wr.cell? ⟨w.heap.size, 1, none⟩ = some (.slice (some ⟨b3, o3, none⟩) m c) := by obtain ⟨q, e⟩ := hq.out; rw [e]; exact HD1.out
                  have hcell : wr.cell? ⟨b3, o3 + j, none⟩ = some (.slice A' n c') := by obtain ⟨q, e⟩ := hq.out; rw [e]; exact HCELL.out
                  have hS : Sli wr B (.slice A' n c') (ci r) := by obtain ⟨q, e⟩ := hq.out; rw [e]; exact HS.out.keep fun _ _ => rfl
                  by_cases hkn : k < n
                  · have hkl : k < r.length := by rw [HRN.out]; exact hkn
                    obtain ⟨b5, o5, rfl, hb5, hc5⟩ := hS.atI hkl
                    have hft := fit_take1 (b := b) hkl
                    have hno2 : fitsB r[k] b = false → r.all (fun x => fitsB x b) = false := fun h => List.all_eq_false.2 ⟨r[k], List.getElem_mem _, by simp [h]⟩
                    have HFT := Lib.hid hft; have HNO2 := Lib.hid hno2
                    clear hft hno2 hS
                    generalize r[k] = x at *
                    clear hkl
                    have hx := fun w => rfits_any x b w
                    have hknI : (k : Int) < (n : Int) := by omega
                    cases hwx : fitsB x b
                    · rw [hwx] at hx
                      have hf := Lib.hid (HNO.out (HNO2.out hwx))
                      have HX := Lib.hid hx
                      clear hwx hx
                      go_wp2
                      go_quiet ((go_at_call 44; exact quietLN (HX.out _)))
                      go_wp2
                      go_ret
                      exact ⟨by rw [HMAY3.out, hf.out]; rfl, by obtain ⟨q, h⟩ := hq.out; rw [h]; exact below_drewN (below_drewN hb2 q) nq⟩
                    · rw [hwx] at hx
                      have ht := Lib.hid (HFT.out.trans (by rw [hfit.out, hwx, Bool.and_self]))
                      have HX := Lib.hid hx
                      clear hwx hx
                      go_wp2
                      go_quiet ((go_at_call 44; exact quietLN (HX.out _)))
                      go_wp2
                      exact ⟨⟨k + 1, by omega, by simp, ht, by obtain ⟨q, h⟩ := hq.out; exact ⟨q + nq, by rw [h, World.drewN_drewN]⟩⟩, by simp [intOf]; omega⟩
                  · have : k = r.length := by rw [HRN.out]; omega
                    have ha := hfit.out
                    rw [this, List.take_length] at ha
                    have ht := Lib.hid (HT.out.trans (by rw [hall.out, ha, Bool.and_self]))
                    clear ha this hS
                    go_wp2
                    exact ⟨⟨j + 1, by omega, by simp, ht, hq⟩, by simp [intOf]; omega⟩
              · have : j = rs.length := by rw [HM.out]; omega
                have ha := hall.out
                rw [this, List.take_length] at ha
                have HA := Lib.hid ha
                clear ha this
                go_wp2
                go_ret
                exact ⟨by rw [HMAY3.out, HA.out]; rfl, by obtain ⟨q, h⟩ := hq.out; rw [h]; exact below_drewN hb2 q⟩
          · have hr : mayBk b rs = false := by rw [HMAY.out, decide_eq_false hn2]; simp
            rw [hr]
            clear hr HMAY hR
            go_enter Try.func30, Try.ntmps30
            go_wp2_with (go_at_call 42; refine HLEV.out.mono ?_; rintro e w2 ⟨rfl, hq⟩; refine cut_here ?_)
            have hbx2 : w2.heap[w.heap.size]? = some (.cells #[.int .i64 b, .slice (some ⟨b3, o3, none⟩) m c] 37 (0, 0)) := by obtain ⟨q, rfl⟩ := hq; exact hbx
            have hb2 : Below w.heap.size w w2 := by obtain ⟨q, rfl⟩ := hq; exact below_drewN hb0 q
            have hc3 : w2.cell? ⟨b3, o3, none⟩ = some (.slice A3 n c3) := by obtain ⟨q, rfl⟩ := hq; exact HC3.out
            obtain ⟨d0, d1, hf⟩ := two_in hbx2
            clear hq hR0 hbx hb0 HLEV HC3
            unfold CutHere
            go_wp2
            go_ret
            exact ⟨rfl, hb2⟩
        · have hr : mayBk b rs = false := by rw [HMAY.out, decide_eq_false hn1]; simp
          rw [hr]
          have hn0 : n = 0 := by omega
          subst hn0
          clear hr HMAY hR hn1
          go_enter Try.func30, Try.ntmps30
          go_wp2_with (go_at_call 42; refine HLEV.out.mono ?_; rintro e w2 ⟨rfl, hq⟩; refine cut_here ?_)
          have hbx2 : w2.heap[w.heap.size]? = some (.cells #[.int .i64 b, .slice (some ⟨b3, o3, none⟩) m c] 37 (0, 0)) := by obtain ⟨q, rfl⟩ := hq; exact hbx
          have hb2 : Below w.heap.size w w2 := by obtain ⟨q, rfl⟩ := hq; exact below_drewN hb0 q
          have hc3 : w2.cell? ⟨b3, o3, none⟩ = some (.slice A3 0 c3) := by obtain ⟨q, rfl⟩ := hq; exact HC3.out
          obtain ⟨d0, d1, hf⟩ := two_in hbx2
          clear hq hR0 hbx hb0 HLEV HC3
          unfold CutHere
          go_wp2
          go_ret
          exact ⟨rfl, hb2⟩
    · have hr : mayBk b rs = false := by rw [hmay, Bool.eq_false_iff.2 (fun h => h24 (packB_iff.1 h).2)]; simp
      rw [hr]
      clear hr hlev hmay hR hR0 hm hn hbx
      go_enter Try.func30, Try.ntmps30
      go_wp2
      go_ret
      exact ⟨rfl, hb0⟩
  · have hr : mayBk b rs = false := by rw [hmay, Bool.eq_false_iff.2 (fun h => h4 (packB_iff.1 h).1)]; simp
    rw [hr]
    clear hr hlev hmay hR hR0 hm hn hbx
    go_enter Try.func30, Try.ntmps30
    go_wp2
    go_ret
    exact ⟨rfl, hb0⟩
end Go.Proofs.Ytggddckckfilgaa
