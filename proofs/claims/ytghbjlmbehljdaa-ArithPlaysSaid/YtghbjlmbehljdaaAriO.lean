/- arith: ArithOdds. -/
import Derived.Test.YtghbjlmbehljdaaAriL
import Derived.Test.YtghbjlmbehljdaaAriM
namespace Go.Proofs.Ytghbjlmbehljdaa
open Go.RowKit
set_option maxRecDepth 100000
set_option maxHeartbeats 1000000

def bN (x : Bool) : Nat := if x then 1 else 0
theorem bN_le (x : Bool) : bN x ≤ 1 := by cases x <;> simp [bN]
theorem atO_in {od : List Nat} {c : Nat} (h : c < od.length) : atO od c = od.getD c 0 := by
  unfold atO
  rw [if_pos (has_iff.2 ⟨by omega, by omega⟩), Int.toNat_natCast]
theorem step_od (s : Co) (c b : Nat) : (step s (some c, b)).od = s.od.set c (odd' (s.od.getD c 0) b) := rfl
theorem getD_set_eq {l : List Nat} {i x : Nat} (h : i < l.length) : (l.set i x).getD i 0 = x := by simp [List.getD_eq_getElem?_getD, h]
theorem getD_set_ne' {l : List Nat} {i j x : Nat} (h : i ≠ j) : (l.set i x).getD j 0 = l.getD j 0 := by simp [List.getD_eq_getElem?_getD, List.getElem?_set, h]
theorem xor8 : ∀ c, c < 8 → bits .xor .i64 ((c : Nat) : Int) 1 = ((c ^^^ 1 : Nat) : Int) ∧ c ^^^ 1 < 8 ∧ c ^^^ 1 ≠ c := by decide

theorem arithOdds_walk (v : Value) (l : List Bool) (ctx : Int) (w : World) (hS : Sli w w.heap.size v (cb l)) (hc1 : -9223372036854775808 ≤ ctx) (hc2 : ctx ≤ 9223372036854775807) :
    Calls Try.prog 6 #[v, .int .i64 ctx] w fun e w' => e = .returned (.bool true) ∧ Below w.heap.size w w' := by
  obtain ⟨A, q, rfl, _, _⟩ := hS.formB
  have hk := knownA_any w
  have HK := Lib.hid hk
  by_cases hl : 600 < l.length
  · clear hS hk
    go_enter Try.func6, Try.ntmps6
    go_wp2_with (go_at_call 10; refine HK.out.mono ?_; rintro e w1 ⟨rfl, hb1⟩)
    go_ret
    exact ⟨rfl, hb1⟩
  · have HS := Lib.hid hS
    have hand : bits .and .i64 ctx 7 = ctx % 8 := i64_mask 3 (by omega) ctx
    obtain ⟨c, hc⟩ : ∃ c : Nat, ctx % 8 = (c : Nat) := ⟨(ctx % 8).toNat, by omega⟩
    have hc8 : c < 8 := by omega
    obtain ⟨hx1, hx2, hx3⟩ := xor8 c hc8
    obtain ⟨c', hc'⟩ : ∃ c', c ^^^ 1 = c' := ⟨_, rfl⟩
    rw [hc'] at hx1 hx2 hx3
    rw [hc] at hand
    have HX := Lib.hid (fun _ : True => hx2)
    have hN := fun (W : World) => newc_good 8 W (by decide)
    have HN := Lib.hid hN
    clear hS hk hN hc hc' hc1 hc2 hx2
    go_enter Try.func6, Try.ntmps6
    go_wp2_with (first
      | (go_at_call 10; refine HK.out.mono ?_; rintro e w1 ⟨rfl, hb1⟩)
      | (go_at_call 11; refine (HN.out _).mono ?_; rintro e w2 ⟨g2, F2, rfl, hC2, hF2, hb2⟩))
    have HB2 := Lib.hid (hb1.trans (hb2.mono hb1.size))
    have HF2 := Lib.hid (fun k hk => Nat.le_trans hb1.size (hF2 k hk))
    have HC2 := Lib.hid hC2
    clear hC2 hF2 hb1 hb2
    go_loopw [7, 8, 9, 10] (fun nn _ _ _ wr => ∃ (i : Nat) (s : Co) (F : Nat → Prop), nn = .int .i64 i ∧ i ≤ l.length ∧ CoO wr F g2 s ∧ Hid (Ok s 8 ∧ s.k ≤ 4 + i ∧ ∀ d, d < 8 → d ≠ c → s.od.getD d 0 = 2048) ∧ Hid (∀ k, F k → w.heap.size ≤ k) ∧ Below w.heap.size w wr) (fun nn _ _ _ _ => l.length - (intOf nn).toNat)
    case atStart => exact ⟨0, start 8, F2, rfl, Nat.zero_le _, HC2.out, Lib.hid ⟨start_ok 8, by simp [start], fun d hd _ => by show (List.replicate 8 2048).getD d 0 = 2048; rw [List.getD_eq_getElem?_getD, List.getElem?_replicate, if_pos hd]; rfl⟩, HF2, HB2.out⟩
    case round =>
      obtain ⟨i, s, F, rfl, hil, hC, HI, HF, hbr⟩ := hrel
      obtain ⟨hok, hkk, hod⟩ := HI.out
      have hlen := hok.len
      have HBR := Lib.hid hbr
      by_cases hie : i = l.length
      · have hA8 := codds_any hC 8
        have hA1 := codds_any hC (-1)
        have e8 : atO s.od 8 = 0 := by unfold atO; rw [if_neg (by rw [has_iff]; omega)]
        have e1 : atO s.od (-1) = 0 := by unfold atO; rw [if_neg (by rw [has_iff]; omega)]
        rw [e8] at hA8
        rw [e1] at hA1
        have HA8 := Lib.hid hA8; have HA1 := Lib.hid hA1
        have hge : ¬ (i : Int) < (l.length : Nat) := by omega
        clear hA8 hA1 e8 e1 hC hok hkk hod hlen hbr hie
        go_wp2_with fail
        refine HA8.out.mono ?_
        rintro e w3 ⟨rfl, rfl⟩
        go_wp2_with fail
        refine HA1.out.mono ?_
        rintro e w3 ⟨rfl, rfl⟩
        go_wp2
        go_ret
        exact ⟨rfl, HBR.out⟩
      · obtain ⟨x, hx⟩ : ∃ x, l[i]? = some x := ⟨_, List.getElem?_eq_getElem (by omega)⟩
        have hSr := HS.out.below hbr
        obtain ⟨b, o, rfl, hbw, hcell⟩ := hSr.atB hx
        have hA := codds_any hC (c : Int)
        rw [atO_in (by omega)] at hA
        have hP := cput_any hC hok (by omega) c (bN x) (by omega) (bN_le x)
        have hO31 := hok.odd _ (getD_mem (od := s.od) (c := c) (by omega))
        obtain ⟨hok2, m, hm1, hm2, _, _⟩ := step_in hok (x := (some c, bN x)) ⟨bN_le x, fun d e => by injection e with e; omega⟩
        have hlt : (i : Int) < (l.length : Nat) := by omega
        obtain ⟨was, hwas⟩ : ∃ was, s.od.getD c 0 = was := ⟨_, rfl⟩
        rw [hwas] at hA hO31
        have e1 : atO (step s (some c, bN x)).od c = odd' was (bN x) := by rw [atO_in (by rw [hok2.len]; omega), step_od, getD_set_eq (by omega), hwas]
        have e2 : atO (step s (some c, bN x)).od c' = 2048 := by rw [atO_in (by rw [hok2.len]; exact HX.out trivial), step_od, getD_set_ne' (fun e => hx3 e.symm), hod c' (HX.out trivial) hx3]
        have hnow := odd_in (b := bN x) hO31
        have hmon : (x = true → odd' was (bN x) ≤ was) ∧ (x = false → was ≤ odd' was (bN x)) := ⟨fun e => by subst e; simp [bN, odd'], fun e => by subst e; simp [bN, odd']⟩
        have HNEW : Hid (Ok (step s (some c, bN x)) 8 ∧ (step s (some c, bN x)).k ≤ 4 + (i + 1) ∧ ∀ d, d < 8 → d ≠ c → (step s (some c, bN x)).od.getD d 0 = 2048) := Lib.hid ⟨hok2, by omega, fun d hd hne => by rw [step_od, getD_set_ne' (fun e => hne e.symm), hod d hd hne]⟩
        obtain ⟨now, hnw⟩ : ∃ now, odd' was (bN x) = now := ⟨_, rfl⟩
        rw [hnw] at e1 hnow hmon
        generalize step s (some c, bN x) = s2 at *
        have HA := Lib.hid hA; have HP := Lib.hid hP; have E1 := Lib.hid e1; have E2 := Lib.hid e2
        have n1 : ¬ (now : Int) < 31 := by omega
        have n2 : ¬ 4065 < (now : Int) := by omega
        clear hA hP e1 e2 hC hok hkk hod hlen hbr hie hm1 hm2 hok2 hwas hnw hO31 hSr hx hnow
        cases x with
        | true =>
          have n3 : ¬ (was : Int) < (now : Int) := by have := hmon.1 rfl; omega
          rw [show bN true = 1 from rfl] at HP
          clear hmon
          go_wp2_with (first
            | (go_at_call 13; refine HP.out.mono ?_; rintro e w3 ⟨rfl, F3, hC3, hc3⟩; have HO1 := Lib.hid (codds_any hC3 (c : Int)); rw [E1.out] at HO1; have HO2 := Lib.hid (codds_any hC3 (c' : Int)); rw [E2.out] at HO2; have hcell3 := (hc3.below HF.out HBR.out.size).cell (p := ⟨b, o + i, none⟩) hbw; rw [hcell] at hcell3)
            | (go_at_call_of 19 (Value.int .i64 (c' : Int)); refine HO2.out.mono ?_; rintro e w4 ⟨rfl, rfl⟩)
            | (go_at_call 19; refine HO1.out.mono ?_; rintro e w4 ⟨rfl, rfl⟩)
            | (go_at_call 19; refine HA.out.mono ?_; rintro e w4 ⟨rfl, rfl⟩))
          exact ⟨⟨i + 1, s2, F3, rfl, by omega, hC3, HNEW, Lib.hid (hc3.base HF.out HBR.out.size), HBR.out.trans (hc3.below HF.out HBR.out.size)⟩, by simp [intOf]; omega⟩
        | false =>
          have n3 : ¬ (now : Int) < (was : Int) := by have := hmon.2 rfl; omega
          rw [show bN false = 0 from rfl] at HP
          clear hmon
          go_wp2_with (first
            | (go_at_call 13; refine HP.out.mono ?_; rintro e w3 ⟨rfl, F3, hC3, hc3⟩; have HO1 := Lib.hid (codds_any hC3 (c : Int)); rw [E1.out] at HO1; have HO2 := Lib.hid (codds_any hC3 (c' : Int)); rw [E2.out] at HO2; have hcell3 := (hc3.below HF.out HBR.out.size).cell (p := ⟨b, o + i, none⟩) hbw; rw [hcell] at hcell3)
            | (go_at_call_of 19 (Value.int .i64 (c' : Int)); refine HO2.out.mono ?_; rintro e w4 ⟨rfl, rfl⟩)
            | (go_at_call 19; refine HO1.out.mono ?_; rintro e w4 ⟨rfl, rfl⟩)
            | (go_at_call 19; refine HA.out.mono ?_; rintro e w4 ⟨rfl, rfl⟩))
          exact ⟨⟨i + 1, s2, F3, rfl, by omega, hC3, HNEW, Lib.hid (hc3.base HF.out HBR.out.size), HBR.out.trans (hc3.below HF.out HBR.out.size)⟩, by simp [intOf]; omega⟩
end Go.Proofs.Ytghbjlmbehljdaa
