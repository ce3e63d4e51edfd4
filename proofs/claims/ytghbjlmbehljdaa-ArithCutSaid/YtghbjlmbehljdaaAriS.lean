/- arith: ArithCut. -/
import Derived.Test.YtghbjlmbehljdaaAriO
import Derived.Test.YtghbjlmbehljdaaAriR
namespace Go.Proofs.Ytghbjlmbehljdaa
open Go.RowKit
set_option maxRecDepth 100000
set_option maxHeartbeats 1000000

def opsC (l : List Bool) : List (Option Nat × Nat) := l.map fun x => (some 0, bN x)
theorem opsC_good (l : List Bool) : ∀ x ∈ opsC l, good 1 x := by
  intro x hx
  obtain ⟨y, _, rfl⟩ := List.mem_map.1 hx
  exact ⟨bN_le y, fun d e => by injection e with e; omega⟩
theorem opsC_snoc {l : List Bool} {i : Nat} {x : Bool} (h : l[i]? = some x) : opsC (l.take (i + 1)) = opsC (l.take i) ++ [(some 0, bN x)] := by
  unfold opsC; rw [List.take_add_one, h]; simp
theorem opsC_in {l : List Bool} (i : Nat) : In (run (start 1) (opsC l)) (run (start 1) (opsC (l.take i))) := by
  have h1 := (runs_in (opsC (l.take i)) (start_ok 1) (opsC_good _)).1
  have h2 : run (start 1) (opsC l) = run (run (start 1) (opsC (l.take i))) (opsC (l.drop i)) := by
    rw [← run_app]; unfold opsC; rw [← List.map_append, List.take_append_drop]
  have h3 := (runs_in (opsC l) (start_ok 1) (opsC_good _)).1
  refine In.run (opsC (l.drop i)) h1 (opsC_good _) ?_
  rw [← h2]
  exact In.self h3
theorem vals_take {l : List Nat} {m : Nat} (h : 4 ≤ m) : vals (l.take m) 4 = vals l 4 := by
  unfold vals; rw [List.take_take, Nat.min_eq_left h]
theorem fst_cut {f : Co} {m : Nat} (h : fstD (digs f.k f.lo) 1 4 = Sy f (start 1)) (hm : 4 ≤ m) : fstD ((digs f.k f.lo).take m) 1 4 = SyT f (start 1) m := by
  have e1 : fstD ((digs f.k f.lo).take m) 1 4 = ⟨((digs f.k f.lo).drop 4).take (m - 4), (fstD (digs f.k f.lo) 1 4).v, (fstD (digs f.k f.lo) 1 4).w, (fstD (digs f.k f.lo) 1 4).od, 0⟩ := by
    unfold fstD
    rw [vals_take hm, List.drop_take]
  rw [e1, h]
  rfl

theorem arithCut_walk (v : Value) (l : List Bool) (cut : Int) (w : World) (hS : Sli w w.heap.size v (cb l)) (hc1 : -9223372036854775808 ≤ cut) (hc2 : cut ≤ 9223372036854775807) :
    Calls Try.prog 8 #[v, .int .i64 cut] w fun e w' => e = .returned (.bool true) ∧ Below w.heap.size w w' := by
  obtain ⟨A, q, rfl, _, _⟩ := hS.formB
  have hk := knownA_any w
  have HK := Lib.hid hk
  by_cases hl : 300 < l.length
  · clear hS hk
    go_enter Try.func8, Try.ntmps8
    go_wp2_with (go_at_call 10; refine HK.out.mono ?_; rintro e w1 ⟨rfl, hb1⟩)
    go_ret
    exact ⟨rfl, hb1⟩
  · have HS := Lib.hid hS
    have hand : bits .and .i64 cut 65535 = cut % 65536 := i64_mask 16 (by omega) cut
    obtain ⟨c, hc⟩ : ∃ c : Nat, cut % 65536 = (c : Nat) := ⟨(cut % 65536).toNat, by omega⟩
    rw [hc] at hand
    have hN := fun (W : World) => newc_good 1 W (by decide)
    have HN := Lib.hid hN
    obtain ⟨f, hf⟩ : ∃ f, run (start 1) (opsC l) = f := ⟨_, rfl⟩
    obtain ⟨hokf, mf, hmf1, hmf2, _, _⟩ := runs_in (opsC l) (start_ok 1) (opsC_good l)
    have hinf := fun i => opsC_in (l := l) i
    rw [hf] at hokf hmf2 hinf
    have hfk : 4 ≤ f.k ∧ f.k ≤ 304 := ⟨hokf.k4, by
      have : (opsC l).length = l.length := by simp [opsC]
      have : (start 1).k = 4 := rfl
      omega⟩
    have HF := Lib.hid (And.intro hokf (And.intro hinf hf))
    obtain ⟨m, hm⟩ : ∃ m : Nat, (c : Int) % (f.k : Int) = (m : Nat) := ⟨c % f.k, by simp⟩
    have hmk : m < f.k := by
      have : c % f.k < f.k := Nat.mod_lt _ (by omega)
      have e : ((c % f.k : Nat) : Int) = (m : Nat) := by rw [← hm]; simp
      omega
    clear hS hk hN hc hc1 hc2 hokf hmf1 hmf2 hinf hf
    go_enter Try.func8, Try.ntmps8
    go_wp2_with (first
      | (go_at_call 10; refine HK.out.mono ?_; rintro e w1 ⟨rfl, hb1⟩)
      | (go_at_call 11; refine (HN.out _).mono ?_; rintro e w2 ⟨g2, F2, rfl, hC2, hF2, hb2⟩))
    have HB2 := Lib.hid (hb1.trans (hb2.mono hb1.size))
    have HF2 := Lib.hid (fun k hk => Nat.le_trans hb1.size (hF2 k hk))
    have HC2 := Lib.hid hC2
    clear hC2 hF2 hb1 hb2
    go_loopw [7, 8] (fun nn _ wr => ∃ (i : Nat) (F : Nat → Prop), nn = .int .i64 i ∧ i ≤ l.length ∧ CoO wr F g2 (run (start 1) (opsC (l.take i))) ∧ Hid (∀ k, F k → w.heap.size ≤ k) ∧ Below w.heap.size w wr) (fun nn _ _ => l.length - (intOf nn).toNat)
    case atStart => exact ⟨0, F2, rfl, Nat.zero_le _, HC2.out, HF2, HB2.out⟩
    case round =>
      obtain ⟨i, F, rfl, hil, hC, HFF, hbr⟩ := hrel
      have HBR := Lib.hid hbr
      by_cases hie : i = l.length
      · subst hie
        rw [List.take_length, HF.out.2.2] at hC
        have hge : ¬ ((l.length : Nat) : Int) < (l.length : Nat) := by omega
        have HBy := Lib.hid (cbytes_any hC (by omega))
        have HFK := Lib.hid hfk; have HMK := Lib.hid hmk
        clear hC hbr hfk hmk
        go_wp2_with fail
        refine HBy.out.mono ?_
        rintro e w3 ⟨v3, rfl, ho3, hb3⟩
        have hb03 := HBR.out.trans (hb3.mono HBR.out.size)
        obtain ⟨A3, c3, rfl, hq3, hq3'⟩ := ho3.form8
        rw [digs_len] at *
        have hs3 : Sli w3 w3.heap.size (.slice A3 m c3) (cu8 ((digs f.k f.lo).take m)) := by
          have := ho3.sli.head (k := m) (by have := HMK.out; omega)
          rwa [show (cu8 (digs f.k f.lo)).take m = cu8 ((digs f.k f.lo).take m) by simp [cu8, List.map_take]] at this
        have hlen : ((digs f.k f.lo).take m).length = m := by rw [List.length_take, digs_len]; have := HMK.out; omega
        have hfk := HFK.out; have hmk := HMK.out
        have HB3 := Lib.hid hb03
        by_cases h4 : m < 4
        · have HD := Lib.hid (newd_short 1 hs3 (by decide) (by omega))
          clear hs3 ho3 hb3 hb03 hlen
          go_wp2_with fail
          refine HD.out.mono ?_
          rintro e w4 ⟨rfl, rfl⟩
          go_wp2
          go_ret
          exact ⟨rfl, HB3.out⟩
        · have hi0 : In f (start 1) := HF.out.2.1 0
          have hfl := fst_lt HF.out.1 hi0
          have hd := newd_good (w := w3) 1 hs3 (by decide) (by omega) (by omega) (fun x hx => digs_lt x (List.mem_of_mem_take hx)) (by rw [vals_take (by omega)]; exact hfl)
          rw [fst_cut (fst_sy HF.out.1.low HF.out.1.k4) (by omega)] at hd
          have HD := Lib.hid hd
          have HS3 := Lib.hid (HS.out.below HB3.out)
          clear hs3 ho3 hb3 hlen hd hfl hi0
          have HM4 := Lib.hid h4
          clear h4
          go_wp2_with fail
          refine HD.out.mono ?_
          rintro e w4 ⟨g4, F4, rfl, hD4, hF4, hb4⟩
          have hb04 := hb03.trans (hb4.mono hb03.size)
          have HB4 := Lib.hid hb04
          have HD4 := Lib.hid hD4; have HF4 := Lib.hid (fun k hk => Nat.le_trans hb03.size (hF4 k hk))
          clear hD4 hF4 hb4 hb04 hb03 HB2 HF2 HC2
          go_wp2_with fail
          go_loopw [12] (fun nn wr => ∃ (i : Nat) (t : De), nn = .int .i64 i ∧ i ≤ l.length ∧ DeO wr F4 g4 t ∧ Hid (DOk t 1) ∧ Hid (t.er = 3 ∨ (t = SyT f (run (start 1) (opsC (l.take i))) m ∧ (run (start 1) (opsC (l.take i))).k ≤ m)) ∧ Below w.heap.size w wr) (fun nn _ => l.length - (intOf nn).toNat)
          case atStart => exact ⟨0, _, rfl, Nat.zero_le _, HD4.out, Lib.hid (SyT.ok (In.ok (start_ok 1) (HF.out.2.1 0))), Lib.hid (.inr ⟨rfl, by show 4 ≤ m; have := HM4.out; omega⟩), HB4.out⟩
          case round =>
            obtain ⟨i, t, rfl, hil, hD, HOK, HT, hbr⟩ := hrel
            have HBR2 := Lib.hid hbr
            by_cases hie : i = l.length
            · subst hie
              have h3 : t.er = 3 := by
                rcases HT.out with h | ⟨_, h⟩
                · exact h
                · rw [List.take_length, HF.out.2.2] at h; have := HMK.out; omega
              have hE := derr_any hD
              rw [h3] at hE
              have HE := Lib.hid hE
              have hge : ¬ ((l.length : Nat) : Int) < (l.length : Nat) := by omega
              clear hE hD hbr h3
              go_wp2_with fail
              refine HE.out.mono ?_
              rintro e w5 ⟨rfl, rfl⟩
              go_wp2
              go_ret
              exact ⟨rfl, HBR2.out⟩
            · obtain ⟨x, hx⟩ : ∃ x, l[i]? = some x := ⟨_, List.getElem?_eq_getElem (by omega)⟩
              have hg := dget_any hD HOK.out ((0 : Nat) : Int)
              have hg2 := (dget_ok HOK.out ((0 : Nat) : Int)).1
              have HT2 : Hid ((dget t ((0 : Nat) : Int)).1.er = 3 ∨ ((dget t ((0 : Nat) : Int)).1 = SyT f (run (start 1) (opsC (l.take (i + 1)))) m ∧ (run (start 1) (opsC (l.take (i + 1)))).k ≤ m)) := Lib.hid (by
                rcases HT.out with h | ⟨h, hkm⟩
                · left; unfold dget; rw [if_pos (by omega)]; exact h
                · have hst : run (start 1) (opsC (l.take (i + 1))) = step (run (start 1) (opsC (l.take i))) (some 0, bN x) := by rw [opsC_snoc hx, run_app]; rfl
                  rw [h, hst]
                  exact syT_get (runs_in _ (start_ok 1) (opsC_good _)).1 (by omega) (bN_le x) (by rw [← hst]; exact HF.out.2.1 (i + 1)) hkm)
              generalize dget t ((0 : Nat) : Int) = u at *
              have HG := Lib.hid hg; have HG2 := Lib.hid hg2
              have hlt : (i : Int) < (l.length : Nat) := by omega
              clear hg hg2 hD hbr hie hx
              go_wp2_with fail
              refine HG.out.mono ?_
              rintro e w5 ⟨rfl, hD5, hc5⟩
              have HD5 := Lib.hid hD5
              have HB5 := Lib.hid (HBR2.out.trans (hc5.below HF4.out HBR2.out.size))
              clear hD5 hc5
              go_wp2
              exact ⟨⟨i + 1, u.1, rfl, by omega, HD5.out, HG2, HT2, HB5.out⟩, by simp [intOf]; omega⟩
      · obtain ⟨x, hx⟩ : ∃ x, l[i]? = some x := ⟨_, List.getElem?_eq_getElem (by omega)⟩
        have hSr := HS.out.below hbr
        obtain ⟨b, o, rfl, hbw, hcell⟩ := hSr.atB hx
        obtain ⟨hok, mm, hm1, hm2, _, _⟩ := runs_in (opsC (l.take i)) (start_ok 1) (opsC_good _)
        have hP := cput_any hC hok (by
          have : (opsC (l.take i)).length ≤ l.length := by simp [opsC]; omega
          have : (start 1).k = 4 := rfl
          omega) 0 (bN x) (by omega) (bN_le x)
        have hst : step (run (start 1) (opsC (l.take i))) (some 0, bN x) = run (start 1) (opsC (l.take (i + 1))) := by rw [opsC_snoc hx, run_app]; rfl
        rw [hst] at hP
        have HP := Lib.hid hP
        have hlt : (i : Int) < (l.length : Nat) := by omega
        clear hP hC hok hm1 hm2 hst hbr hie hSr hx
        cases x with
        | true =>
          rw [show bN true = 1 from rfl] at HP
          go_wp2_with (go_at_call 13; refine HP.out.mono ?_; rintro e w3 ⟨rfl, F3, hC3, hc3⟩)
          exact ⟨⟨i + 1, F3, rfl, by omega, hC3, Lib.hid (hc3.base HFF.out HBR.out.size), HBR.out.trans (hc3.below HFF.out HBR.out.size)⟩, by simp [intOf]; omega⟩
        | false =>
          rw [show bN false = 0 from rfl] at HP
          go_wp2_with (go_at_call 13; refine HP.out.mono ?_; rintro e w3 ⟨rfl, F3, hC3, hc3⟩)
          exact ⟨⟨i + 1, F3, rfl, by omega, hC3, Lib.hid (hc3.base HFF.out HBR.out.size), HBR.out.trans (hc3.below HFF.out HBR.out.size)⟩, by simp [intOf]; omega⟩
end Go.Proofs.Ytghbjlmbehljdaa
