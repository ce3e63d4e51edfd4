/- block: May, and the reference's; Level, SameRows, SameBlock, Small. -/
import Derived.Test.YtggddckckfilgaaBloF
import Derived.Deep.QuietTactic
import Derived.BigQuiet
namespace Go.Proofs.Ytggddckckfilgaa
open Go.RowKit
set_option maxRecDepth 100000
set_option maxHeartbeats 1600000

theorem rowOk_take {b : Int} {n : Nat} {rs : List (List Int)} {j : Nat} (h : j < rs.length) : (rs.take (j + 1)).all (rowOk b n) = ((rs.take j).all (rowOk b n) && rowOk b n rs[j]) := by
  rw [List.take_succ_eq_append_getElem h, List.all_append]; simp only [List.all_cons, List.all_nil, Bool.and_true]
theorem mayBk_any (b : Int) (v : Value) (rs : List (List Int)) (w : World) (B : Nat) (hR : Rws w B v rs) (hB : B ≤ w.heap.size) :
    Calls Try.prog 40 #[.agg #[.int .i64 b, v]] w fun e w' => e = .returned (.bool (mayBk b rs)) ∧ Below w.heap.size w w' := by
  obtain ⟨A, c, rfl, hlc, hcm⟩ := hR.form
  have hb0 := below_new w #[.int .i64 b, .slice A rs.length c] 37
  have hlen := fun w (h : Rws w B (.slice A rs.length c) rs) (hB : B ≤ w.heap.size) => lenBk_any b _ rs w B h hB
  have hR0 := hR.below (hb0.mono hB)
  have hon := fun w2 (h : Below (w.alloc (.cells #[.int .i64 b, .slice A rs.length c] 37)).heap.size (w.alloc (.cells #[.int .i64 b, .slice A rs.length c] 37)) w2) => boxed_on h
  have hB0 : B ≤ (w.alloc (.cells #[.int .i64 b, .slice A rs.length c] 37)).heap.size := Nat.le_trans hB hb0.size
  obtain ⟨m, hm⟩ : ∃ m, rs.length = m := ⟨_, rfl⟩
  have hp := fun w => isBits_any b w
  have hc := fun w => areCh_any (m : Int) w
  have hmay : mayBk b rs = (packB b && chanB (m : Nat) && decide (1 ≤ lenB rs) && decide (lenB rs ≤ 4096) && rs.all (rowOk b (lenB rs))) := by rw [← hm]; rfl
  rw [hm] at hR hlc hlen hR0 hon hB0 hb0 ⊢
  obtain ⟨n, hn⟩ : ∃ n, lenB rs = n := ⟨_, rfl⟩
  rw [hn] at hlen hmay
  have HP := Lib.hid hp; have HC := Lib.hid hc; have HM := Lib.hid hm; have HLEN := Lib.hid hlen; have HON := Lib.hid hon; have HMAY := Lib.hid hmay
  clear hp hc hm hlen hon hmay hn
  cases hpb : packB b
  · have hr : mayBk b rs = false := by rw [HMAY.out, hpb]; simp
    rw [hr]
    rw [hpb] at HP
    clear hr hpb
    go_enter Try.func40, Try.ntmps40
    go_wp2_with (go_at_call 51; refine (HP.out _).mono ?_; rintro e w1 ⟨rfl, rfl⟩)
    go_ret
    exact ⟨rfl, hb0⟩
  · cases hcb : chanB (m : Int)
    · have hr : mayBk b rs = false := by rw [HMAY.out, hpb, hcb]; simp
      rw [hr]
      rw [hpb] at HP; rw [hcb] at HC
      clear hr hpb hcb
      go_enter Try.func40, Try.ntmps40
      go_wp2_with (first
        | (go_at_call 51; refine (HP.out _).mono ?_; rintro e w1 ⟨rfl, rfl⟩)
        | (go_at_call 52; refine (HC.out _).mono ?_; rintro e w1 ⟨rfl, rfl⟩))
      go_ret
      exact ⟨rfl, hb0⟩
    · have hm8 : m ≤ 8 := by have := chanB_iff.1 hcb; omega
      have HMAY2 := Lib.hid (show mayBk b rs = (decide (1 ≤ n) && decide (n ≤ 4096) && rs.all (rowOk b n)) by rw [HMAY.out, hpb, hcb]; simp)
      rw [hpb] at HP; rw [hcb] at HC
      clear hpb hcb HMAY
      by_cases hn1 : 1 ≤ n
      · by_cases hn2 : n ≤ 4096
        · have HMAY3 := Lib.hid (show mayBk b rs = rs.all (rowOk b n) by rw [HMAY2.out, decide_eq_true hn1, decide_eq_true hn2]; simp)
          clear HMAY2
          go_enter Try.func40, Try.ntmps40
          go_wp2_with (first
            | (go_at_call 51; refine (HP.out _).mono ?_; rintro e w1 ⟨rfl, rfl⟩)
            | (go_at_call 52; refine (HC.out _).mono ?_; rintro e w1 ⟨rfl, rfl⟩)
            | (go_at_call 53; refine (HLEN.out _ hR0 hB0).mono ?_; rintro e w2 ⟨rfl, hb2⟩; refine cut_here ?_))
          obtain ⟨d0, d1, hf⟩ := two_in (HON.out _ hb2)
          have hb02 := bthen hb0 hb2 hb0.size
          have hR2 := hR.below (hb02.mono hB)
          clear hb2 hb0 HON HLEN hR0 hB0
          unfold CutHere
          go_wp2
          go_loop [28] (fun i => ∃ j : Nat, j ≤ m ∧ i = .int .i64 j ∧ Hid ((rs.take j).all (rowOk b n) = true)) (fun i => m - (intOf i).toNat)
          case atStart => exact ⟨0, Nat.zero_le _, rfl, rfl⟩
          case round =>
            obtain ⟨j, hj, rfl, hall⟩ := hrel
            by_cases hlt : j < m
            · have hjl : j < rs.length := by rw [HM.out]; exact hlt
              obtain ⟨b2, o, A', c', rfl, hb, hcell, hS, g1, g2⟩ := hR2.get hjl
              have htk := rowOk_take (b := b) (n := n) hjl
              have hno : rowOk b n rs[j] = false → rs.all (rowOk b n) = false := fun h => List.all_eq_false.2 ⟨rs[j], List.getElem_mem _, by simp [h]⟩
              have hok : rowOk b n rs[j] = (decide (rs[j].length = n) && rs[j].all (fun x => fitsB x b)) := rfl
              have HT := Lib.hid htk; have HNO := Lib.hid hno
              clear htk hno
              generalize rs[j] = r at *
              obtain ⟨k, hk⟩ : ∃ k, r.length = k := ⟨_, rfl⟩
              rw [hk] at hcell hS g1 hok
              by_cases hkn : k = n
              · have hfa := allFit_any _ r b w2 B hS (by omega)
                rw [decide_eq_true hkn, Bool.true_and] at hok
                rw [← hok] at hfa
                have hkk : ((k : Int) != (n : Int)) = false := by rw [hkn]; simp
                have HOK := Lib.hid hok; have HK := Lib.hid hk
                clear hok hk
                cases hwx : rowOk b n r
                · rw [hwx] at hfa
                  have hf := Lib.hid (HNO.out hwx)
                  have HX := Lib.hid hfa
                  clear hfa hjl hwx hkn hS
                  go_wp2_with (go_at_call 54; refine HX.out.mono ?_; rintro e w1 ⟨rfl, rfl⟩)
                  go_ret
                  exact ⟨by rw [HMAY3.out, hf.out]; rfl, hb02⟩
                · rw [hwx] at hfa
                  have ht := Lib.hid (HT.out.trans (by rw [hall.out, hwx, Bool.and_self]))
                  have HX := Lib.hid hfa
                  clear hfa hjl hwx hkn hS
                  go_wp2_with (go_at_call 54; refine HX.out.mono ?_; rintro e w1 ⟨rfl, rfl⟩)
                  exact ⟨⟨j + 1, by omega, by simp, ht⟩, by simp [intOf]; omega⟩
              · rw [decide_eq_false hkn, Bool.false_and] at hok
                have hf := Lib.hid (HNO.out hok)
                have hkk : ((k : Int) != (n : Int)) = true := by rw [bne_iff_ne]; omega
                clear hok hk hkn hjl hS
                go_wp2
                go_ret
                exact ⟨by rw [HMAY3.out, hf.out]; rfl, hb02⟩
            · have : j = rs.length := by rw [HM.out]; omega
              subst this
              rw [List.take_length] at hall
              go_wp2
              go_ret
              exact ⟨by rw [HMAY3.out, hall.out]; rfl, hb02⟩
        · have hr : mayBk b rs = false := by rw [HMAY2.out, decide_eq_false hn2]; simp
          rw [hr]
          clear hr HMAY2
          go_enter Try.func40, Try.ntmps40
          go_wp2_with (first
            | (go_at_call 51; refine (HP.out _).mono ?_; rintro e w1 ⟨rfl, rfl⟩)
            | (go_at_call 52; refine (HC.out _).mono ?_; rintro e w1 ⟨rfl, rfl⟩)
            | (go_at_call 53; refine (HLEN.out _ hR0 hB0).mono ?_; rintro e w2 ⟨rfl, hb2⟩))
          go_ret
          exact ⟨rfl, bthen hb0 hb2 hb0.size⟩
      · have hr : mayBk b rs = false := by rw [HMAY2.out, decide_eq_false hn1]; simp
        rw [hr]
        have hn0 : n = 0 := by omega
        subst hn0
        clear hr HMAY2 hn1
        go_enter Try.func40, Try.ntmps40
        go_wp2_with (first
          | (go_at_call 51; refine (HP.out _).mono ?_; rintro e w1 ⟨rfl, rfl⟩)
          | (go_at_call 52; refine (HC.out _).mono ?_; rintro e w1 ⟨rfl, rfl⟩)
          | (go_at_call 53; refine (HLEN.out _ hR0 hB0).mono ?_; rintro e w2 ⟨rfl, hb2⟩))
        go_ret
        exact ⟨rfl, bthen hb0 hb2 hb0.size⟩
end Go.Proofs.Ytggddckckfilgaa
