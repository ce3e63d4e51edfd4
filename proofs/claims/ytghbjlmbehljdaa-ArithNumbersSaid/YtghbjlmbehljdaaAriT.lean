/- arith: ArithNumbers. -/
import Derived.Test.YtghbjlmbehljdaaAriO
import Derived.Deep.RegionHeld3
namespace Go.Proofs.Ytghbjlmbehljdaa
open Go.RowKit
set_option maxRecDepth 100000
set_option maxHeartbeats 10000000

def opsM (k : Nat) (l : List Nat) : List (Option Nat × Nat) := l.flatMap (numOps k)
theorem opsM_good {k n : Nat} {l : List Nat} (hk : k + 32 < n) (hl : ∀ x ∈ l, x < 4294967296) : ∀ x ∈ opsM k l, good n x := by
  intro x hx
  obtain ⟨y, hy, hx⟩ := List.mem_flatMap.1 hx
  exact num_good hk (hl y hy) x hx
theorem opsM_len {k : Nat} {l : List Nat} (hl : ∀ x ∈ l, x < 4294967296) : (opsM k l).length ≤ 65 * l.length := by
  induction l with
  | nil => simp [opsM]
  | cons a l ih =>
    have h1 := num_len (c := k) (hl a (by simp))
    have h2 := ih (fun x hx => hl x (by simp [hx]))
    unfold opsM at h2 ⊢
    rw [List.flatMap_cons, List.length_append, List.length_cons]
    omega
theorem opsM_snoc {k x i : Nat} {l : List Nat} (h : l[i]? = some x) : opsM k (l.take (i + 1)) = opsM k (l.take i) ++ numOps k x := by
  unfold opsM; rw [List.take_add_one, h, List.flatMap_append]; simp
theorem opsM_in {k n i : Nat} {l : List Nat} (hk : k + 32 < n) (hl : ∀ x ∈ l, x < 4294967296) : In (run (start n) (opsM k l)) (run (start n) (opsM k (l.take i))) := by
  have h1 := (runs_in (opsM k (l.take i)) (start_ok n) (opsM_good hk (fun x hx => hl x (List.mem_of_mem_take hx)))).1
  have h2 : run (start n) (opsM k l) = run (run (start n) (opsM k (l.take i))) (opsM k (l.drop i)) := by
    rw [← run_app]; unfold opsM; rw [← List.flatMap_append, List.take_append_drop]
  have h3 := (runs_in (opsM k l) (start_ok n) (opsM_good hk hl)).1
  refine In.run (opsM k (l.drop i)) h1 (opsM_good hk (fun x hx => hl x (List.mem_of_mem_drop hx))) ?_
  rw [← h2]
  exact In.self h3
/-- What loop i knows of the coder. -/
structure Num64 (k : Nat) (l : List Nat) (i : Nat) : Prop where
  ok : Ok (run (start 64) (opsM k (l.take i))) 64
  len : (run (start 64) (opsM k (l.take i))).k ≤ 4000
  inn : In (run (start 64) (opsM k l)) (run (start 64) (opsM k (l.take i)))
theorem num64 {k i : Nat} {l : List Nat} (hk : k < 32) (hl : ∀ x ∈ l, x < 4294967296) (hn : l.length ≤ 60) : Num64 k l i := by
  obtain ⟨h1, m, h2, h3, _⟩ := runs_in (opsM k (l.take i)) (start_ok 64) (opsM_good (by omega) (fun x hx => hl x (List.mem_of_mem_take hx)))
  have h4 := opsM_len (k := k) (l := l.take i) (fun x hx => hl x (List.mem_of_mem_take hx))
  have h5 : (l.take i).length ≤ l.length := by simp; omega
  have h6 : (start 64).k = 4 := rfl
  exact ⟨h1, by omega, opsM_in (by omega) hl⟩
theorem num64_next {k i x : Nat} {l : List Nat} (hk : k < 32) (hl : ∀ x ∈ l, x < 4294967296) (hn : l.length ≤ 60) (h : l[i]? = some x) (most : Nat) :
    run (start 64) (opsM k (l.take (i + 1))) = run (run (start 64) (opsM k (l.take i))) (numOps k x) ∧
    dnum (Sy (run (start 64) (opsM k l)) (run (start 64) (opsM k (l.take i)))) k most = if most < x then (withE (Sy (run (start 64) (opsM k l)) (run (start 64) (opsM k (l.take (i + 1))))) 2, 0) else (Sy (run (start 64) (opsM k l)) (run (start 64) (opsM k (l.take (i + 1)))), x) := by
  have e : run (start 64) (opsM k (l.take (i + 1))) = run (run (start 64) (opsM k (l.take i))) (numOps k x) := by rw [opsM_snoc h, run_app]
  refine ⟨e, ?_⟩
  rw [e]
  exact sy_num (num64 hk hl hn).ok (by omega) (hl x (List.mem_of_getElem? h)) (by rw [← e]; exact (num64 hk hl hn).inn)

theorem arithNumbers_walk (v : Value) (l : List Nat) (ctx : Int) (w : World) (hS : Sli w w.heap.size v (cu32 l)) (hl32 : ∀ x ∈ l, x < 4294967296) (hc1 : -9223372036854775808 ≤ ctx) (hc2 : ctx ≤ 9223372036854775807) :
    Calls Try.prog 7 #[v, .int .i64 ctx] w fun e w' => e = .returned (.bool true) ∧ Below w.heap.size w w' := by
  obtain ⟨A, q, rfl, _, _⟩ := hS.form32
  have hk := knownA_any w
  have HK := Lib.hid hk
  by_cases hl : 60 < l.length
  · clear hS hk hl32
    go_enter Try.func7, Try.ntmps7
    go_wp2_with (go_at_call 10; refine HK.out.mono ?_; rintro e w1 ⟨rfl, hb1⟩)
    go_ret
    exact ⟨rfl, hb1⟩
  · have HS := Lib.hid hS
    have hand : bits .and .i64 ctx 31 = ctx % 32 := i64_mask 5 (by omega) ctx
    obtain ⟨k, hc⟩ : ∃ k : Nat, ctx % 32 = (k : Nat) := ⟨(ctx % 32).toNat, by omega⟩
    have hk32 : k < 32 := by omega
    rw [hc] at hand
    have hN := fun (W : World) => newc_good 64 W (by decide)
    have HN := Lib.hid hN
    have hNum := fun i => num64 (i := i) hk32 hl32 (by omega)
    have hNext := fun i x (h : l[i]? = some x) (most : Nat) => num64_next hk32 hl32 (by omega) h most
    obtain ⟨f, hf⟩ : ∃ f, run (start 64) (opsM k l) = f := ⟨_, rfl⟩
    have HNum := Lib.hid hNum; have HNext := Lib.hid hNext
    rw [hf] at HNext
    have HFE := Lib.hid hf
    have HL32 := Lib.hid hl32
    clear hS hk hN hc hc1 hc2 hNum hNext hf hl32
    go_enter Try.func7, Try.ntmps7
    go_wp2_with (first
      | (go_at_call 10; refine HK.out.mono ?_; rintro e w1 ⟨rfl, hb1⟩)
      | (go_at_call 11; refine (HN.out _).mono ?_; rintro e w2 ⟨g2, F2, rfl, hC2, hF2, hb2⟩))
    have HB2 := Lib.hid (hb1.trans (hb2.mono hb1.size))
    have HF2 := Lib.hid (fun k hk => Nat.le_trans hb1.size (hF2 k hk))
    have HC2 := Lib.hid hC2
    clear hC2 hF2 hb1 hb2
    go_loopw [8] (fun nn wr => ∃ (i : Nat) (F : Nat → Prop), nn = .int .i64 i ∧ i ≤ l.length ∧ CoO wr F g2 (run (start 64) (opsM k (l.take i))) ∧ Hid (∀ k, F k → w.heap.size ≤ k) ∧ Below w.heap.size w wr) (fun nn _ => l.length - (intOf nn).toNat)
    case atStart => exact ⟨0, F2, rfl, Nat.zero_le _, HC2.out, HF2, HB2.out⟩
    case round =>
      obtain ⟨i, F, rfl, hil, hC, HFF, hbr⟩ := hrel
      have HBR := Lib.hid hbr
      by_cases hie : i = l.length
      · subst hie
        have hN1 := HNum.out l.length
        rw [List.take_length] at hC
        have hokf := hN1.ok
        have hlf := hN1.len
        rw [List.take_length, HFE.out] at hokf hlf
        rw [HFE.out] at hC
        have hge : ¬ ((l.length : Nat) : Int) < (l.length : Nat) := by omega
        have HBy := Lib.hid (cbytes_any hC (by omega))
        have HOKF := Lib.hid hokf; have HLF := Lib.hid hlf
        clear hC hbr hN1 hokf hlf
        go_wp2_with fail
        refine HBy.out.mono ?_
        rintro e w3 ⟨v3, rfl, ho3, hb3⟩
        have hb03 := HBR.out.trans (hb3.mono HBR.out.size)
        have hi0 : In f (start 64) := by have := (HNum.out 0).inn; rw [HFE.out] at this; exact this
        have hfl := fst_lt HOKF.out hi0
        have hk4 := HOKF.out.k4
        have hd := newd_good (w := w3) 64 ho3.sli (by decide) (by rw [digs_len]; omega) (by rw [digs_len]; have := HLF.out; omega) digs_lt hfl
        rw [fst_sy HOKF.out.low HOKF.out.k4] at hd
        have HD := Lib.hid hd
        have HO3 := Lib.hid ho3
        obtain ⟨A3, n3, c3, rfl⟩ := ho3.shape
        have HB3 := Lib.hid hb03; have HFL := Lib.hid hfl; have HI0 := Lib.hid hi0
        clear hd ho3 hb3 hfl hi0 hk4
        go_wp2_with fail
        refine HD.out.mono ?_
        rintro e w4 ⟨g4, F4, rfl, hD4, hF4, hb4⟩
        have hb04 := hb03.trans (hb4.mono hb03.size)
        have ho4 := HO3.out.kept hb4
        have hd2 := newd_good (w := w4) 64 ho4.sli (by decide) (by rw [digs_len]; have := HOKF.out.k4; omega) (by rw [digs_len]; have := HLF.out; omega) digs_lt HFL.out
        rw [fst_sy HOKF.out.low HOKF.out.k4] at hd2
        have HD2 := Lib.hid hd2
        have HD4 := Lib.hid hD4; have HF4 := Lib.hid (fun k hk => Nat.le_trans hb03.size (hF4 k hk)); have HB4 := Lib.hid hb04
        clear hd2 ho4 hD4 hF4 hb4 hb04 hb03
        go_wp2_with fail
        refine HD2.out.mono ?_
        rintro e w5 ⟨g5, F5, rfl, hD5, hF5, hb5⟩
        have HB5 := Lib.hid (HB4.out.trans (hb5.mono HB4.out.size))
        have HD45 := Lib.hid (HD4.out.below hb5)
        have HDJ := Lib.hid (show ∀ k, F5 k → ¬ F4 k from fun k h5 h4 => by have := hF5 k h5; have := HD4.out.lt k h4; omega)
        have HD5 := Lib.hid hD5
        have HF5 := Lib.hid (fun k hk => Nat.le_trans HB4.out.size (hF5 k hk))
        clear hD5 hF5 hb5 HB2 HF2 HC2
        go_wp2_with fail
        go_loopw [14] (fun nn wr => ∃ (i : Nat), nn = .int .i64 i ∧ i ≤ l.length ∧ DeO wr F4 g4 (Sy f (run (start 64) (opsM k (l.take i)))) ∧ Hid (DeO wr F5 g5 (Sy f (start 64))) ∧ Below w.heap.size w wr) (fun nn _ => l.length - (intOf nn).toNat)
        case atStart => exact ⟨0, rfl, Nat.zero_le _, HD45.out, HD5, HB5.out⟩
        case round =>
          obtain ⟨i, rfl, hil, hD, HX, hbr⟩ := hrel
          have HBR2 := Lib.hid hbr
          by_cases hie : i = l.length
          · subst hie
            rw [List.take_length, HFE.out] at hD
            have hE := derr_any hD
            rw [show (Sy f f).er = 0 from rfl] at hE
            have hL := dleft_any hD
            rw [show (Sy f f).rest.length = 0 by show ((digs f.k f.lo).drop f.k).length = 0; rw [List.length_drop, digs_len]; omega] at hL
            have HE := Lib.hid hE; have HL := Lib.hid hL
            have hge : ¬ ((l.length : Nat) : Int) < (l.length : Nat) := by omega
            have hSr := HS.out.below hbr
            clear hE hL hD hbr
            cases hl0 : l with
            | nil =>
              have hll : l.length = 0 := by rw [hl0]; rfl
              clear hSr hl0
              go_wp2_with fail
              refine HE.out.mono ?_
              rintro e w6 ⟨rfl, rfl⟩
              go_wp2_with fail
              refine HL.out.mono ?_
              rintro e w6 ⟨rfl, rfl⟩
              go_wp2
              go_ret
              exact ⟨rfl, HBR2.out⟩
            | cons a r =>
              have hx0 : l[0]? = some a := by rw [hl0]; rfl
              have hll : (0 : Int) < (l.length : Nat) := by rw [hl0]; simp
              obtain ⟨b, o, rfl, hbw, hcell⟩ := hSr.at32 hx0
              rw [Nat.add_zero] at hcell
              have ha32 := HL32.out a (List.mem_of_getElem? hx0)
              have hn := (HNext.out 0 a hx0 (a - 1)).2
              rw [show run (start 64) (opsM k (l.take 0)) = start 64 from rfl] at hn
              by_cases ha0 : a = 0
              · subst ha0
                clear hSr hl0 hn ha32
                go_wp2_with fail
                refine HE.out.mono ?_
                rintro e w6 ⟨rfl, rfl⟩
                go_wp2_with fail
                refine HL.out.mono ?_
                rintro e w6 ⟨rfl, rfl⟩
                go_wp2
                go_ret
                exact ⟨rfl, HBR2.out⟩
              · rw [if_pos (by omega)] at hn
                have hok0 := In.ok (start_ok 64) HI0.out
                have hdn := dnum_any HX.out hok0 (by omega) (k : Int) (a - 1)
                have hdk := dnum_ok (c := (k : Int)) (most := a - 1) hok0
                rw [hn] at hdn hdk
                obtain ⟨t, ht⟩ : ∃ t, withE (Sy f (run (start 64) (opsM k (l.take (0 + 1))))) 2 = t := ⟨_, rfl⟩
                have hte : t.er = 2 := by rw [← ht]; rfl
                rw [ht] at hdn hdk
                have haI : ((a : Nat) : Int) - 1 = ((a - 1 : Nat) : Int) := by omega
                obtain ⟨X, hX⟩ : ∃ X : Int, ((a : Nat) : Int) = X := ⟨_, rfl⟩
                obtain ⟨Y, hY⟩ : ∃ Y : Int, ((a - 1 : Nat) : Int) = Y := ⟨_, rfl⟩
                rw [hX] at hcell
                rw [hX, hY] at haI
                rw [hY] at hdn
                have hX1 : 1 ≤ X := by omega
                have hX0 : (X == 0) = false := by rw [beq_eq_false_iff_ne]; omega
                have hX2 : X ≤ 4294967295 := by omega
                have HDN := Lib.hid hdn; have HDK := Lib.hid hdk
                have HTE := Lib.hid hte
                clear hSr hl0 hn ha32 hok0 hdn hdk ht hX hY ha0 hx0 hte
                go_wp2_with fail
                refine HE.out.mono ?_
                rintro e w6 ⟨rfl, rfl⟩
                go_wp2_with fail
                refine HL.out.mono ?_
                rintro e w6 ⟨rfl, rfl⟩
                go_wp2_with fail
                refine HDN.out.mono ?_
                rintro e w7 ⟨rfl, hD7, hc7⟩
                have HB7 := Lib.hid (HBR2.out.trans (hc7.below HF5.out HBR2.out.size))
                have hE7 := derr_any hD7
                have hG7 := dget_any hD7 HDK.out (k : Int)
                rw [show dget (t, 0).1 (k : Int) = (t, 0) by unfold dget; rw [if_pos (by rw [show (t, 0).1.er = 2 from HTE.out]; omega)]] at hG7
                rw [show (t, 0).1.er = 2 from HTE.out] at hE7
                have HE7 := Lib.hid hE7; have HG7 := Lib.hid hG7
                clear hE7 hG7 hD7 hc7
                go_wp2_with fail
                refine HE7.out.mono ?_
                rintro e w8 ⟨rfl, rfl⟩
                go_wp2_with fail
                refine HG7.out.mono ?_
                rintro e w8 ⟨rfl, hD8, hc8⟩
                have HB8 := Lib.hid (HB7.out.trans (hc8.below HF5.out HB7.out.size))
                have hE8 := derr_any hD8
                rw [show (t, 0).1.er = 2 from HTE.out] at hE8
                have HE8 := Lib.hid hE8
                clear hE8 hD8 hc8
                go_wp2_with fail
                refine HE8.out.mono ?_
                rintro e w9 ⟨rfl, rfl⟩
                go_wp2
                go_ret
                exact ⟨rfl, HB8.out⟩
          · obtain ⟨x, hx⟩ : ∃ x, l[i]? = some x := ⟨_, List.getElem?_eq_getElem (by omega)⟩
            have hSr := HS.out.below hbr
            obtain ⟨b, o, rfl, hbw, hcell⟩ := hSr.at32 hx
            have hx32 := HL32.out x (List.mem_of_getElem? hx)
            have hn := (HNext.out i x hx 4294967295).2
            rw [if_neg (by omega)] at hn
            have hdn := dnum_any (w := wr.drew) (hD.below (Below.refl _ _).drew) (In.ok (HNum.out i).ok (by have := (HNum.out i).inn; rwa [HFE.out] at this)) (by omega) (k : Int) 4294967295
            rw [hn] at hdn
            obtain ⟨X, hX⟩ : ∃ X : Int, ((x : Nat) : Int) = X := ⟨_, rfl⟩
            have hX1 : 0 ≤ X := by omega
            have hX2 : X ≤ 4294967295 := by omega
            dsimp only at hdn
            rw [hX] at hcell hdn
            have HDN := Lib.hid hdn
            have hlt : (i : Int) < (l.length : Nat) := by omega
            have hcd : wr.drew.cell? ⟨b, o + i, none⟩ = some (.int .u32 X) := hcell
            clear hSr hn hdn hD hbr hie hx hx32 hX
            go_wp2_with fail
            go_region_held3 (fun w' => w'.cell? ⟨b, o + i, none⟩ = some (.int .u32 X))
              (first | go_keep | exact hcell6)
              (first
                | (go_at_call 28; refine HDN.out.mono ?_; rintro e w6 ⟨rfl, hD6, hc6⟩; have hcell6 : w6.cell? ⟨b, o + i, none⟩ = some (.int .u32 X) := (hc6.below (w := wr.drew) HF4.out HBR2.out.size).cell (p := ⟨b, o + i, none⟩) hbw |>.trans hcd))
            all_goals
              have HD6 := Lib.hid hD6
              have HX6 := Lib.hid (HX.out.kept (w' := w6) ⟨hc6.os, hc6.tape, hc6.output, hc6.size, hc6.block, hc6.own⟩ HDJ.out)
              have HB6 := Lib.hid (HBR2.out.drew.trans (hc6.below (w := wr.drew) HF4.out HBR2.out.size))
              clear hD6 hc6
              have hwr : (X != IntKind.u64.wrap X) = false := by rw [bne_eq_false_iff_eq, IntKind.wrap_u64]; omega
              have hwr2 : (X != X) = false := by simp
              go_wp2
              all_goals first | (exact ⟨⟨i + 1, rfl, by omega, HD6.out, HX6, ⟨HB6.out.os, HB6.out.tape, HB6.out.output, HB6.out.size, HB6.out.block⟩⟩, by simp [intOf]; omega⟩) | trace_state
      · obtain ⟨x, hx⟩ : ∃ x, l[i]? = some x := ⟨_, List.getElem?_eq_getElem (by omega)⟩
        have hSr := HS.out.below hbr
        obtain ⟨b, o, rfl, hbw, hcell⟩ := hSr.at32 hx
        have hP := cnum_any hC (HNum.out i).ok (by have := (HNum.out i).len; omega) (by omega) k x (by omega) (HL32.out x (List.mem_of_getElem? hx))
        rw [← (HNext.out i x hx 0).1] at hP
        have hx32 := HL32.out x (List.mem_of_getElem? hx)
        obtain ⟨X, hX⟩ : ∃ X : Int, ((x : Nat) : Int) = X := ⟨_, rfl⟩
        have hX1 : 0 ≤ X := by omega
        have hX2 : X ≤ 4294967295 := by omega
        rw [hX] at hcell hP
        have HP := Lib.hid hP
        have hlt : (i : Int) < (l.length : Nat) := by omega
        clear hP hC hbr hie hSr hx hx32 hX
        go_wp2_with (go_at_call 17; refine HP.out.mono ?_; rintro e w3 ⟨rfl, F3, hC3, hc3⟩)
        exact ⟨⟨i + 1, F3, rfl, by omega, hC3, Lib.hid (hc3.base HFF.out HBR.out.size), HBR.out.trans (hc3.below HFF.out HBR.out.size)⟩, by simp [intOf]; omega⟩
end Go.Proofs.Ytghbjlmbehljdaa
