/- rice: what the reference reads. -/
import Derived.Test.YtohbpjehphmedaaRicG
import Derived.Test.YtohbpjehphmedaaBitU
import Derived.Test.YtohbpjehphmedaaFoot
namespace Go.Proofs.Ytohbpjehphmedaa
open Go.RowKit
set_option maxRecDepth 100000
set_option maxHeartbeats 1600000

theorem OcB.push {w w' : World} {B g at_ base : Nat} {l : List Nat} {er : Int} {v v' : Value} {xs : List Value} (h : OcB w B g l at_ er) (ho : Own w base 3 v xs) (hB : B ≤ base) (hm : ∀ g, Mov w w' g v v') : OcB w' B g l at_ er := by
  have hlt := h.lt
  obtain ⟨rv, h1, h2, hBg, r⟩ := h
  refine ⟨rv, ((hm (g + 1)).block g hlt (by omega) (ho.ne h1 (by decide))).trans h1, h2.keep fun p hp => ?_, hBg, r⟩
  exact World.cell?_of_block ((hm (g + 1)).block p.block (by omega) (by omega) fun e => by have := (ho.lt _ e).1; omega)

theorem qrget_any {w : World} {B g at_ : Nat} {l : List Nat} {er : Int} (hR : OcB w B g l at_ er) (k n : Int) :
    Calls Try.prog 76 #[.pointer (some ⟨g, 0, none⟩), .int .i64 k, .int .i64 n] w fun e w' => ∃ (v' : Value) (a2 : Nat) (e2 : Int), e = .returned (.tuple #[v', .int .i64 (getsR (bitAt l) (8 * l.length) at_ er k n).2.2]) ∧
      Own w' w.heap.size 3 v' (ci (getsR (bitAt l) (8 * l.length) at_ er k n).1) ∧ OcB w' B g l a2 e2 ∧ w.grownBy w' (some g) ∧ ((getsR (bitAt l) (8 * l.length) at_ er k n).2.2 = 0 → a2 = (getsR (bitAt l) (8 * l.length) at_ er k n).2.1 ∧ e2 = 0) := by
  have hp := fun w => qpar_any k w
  by_cases hk : paramB k = true
  · rw [hk] at hp
    by_cases h0 : n < 0
    · have hr : getsR (bitAt l) (8 * l.length) at_ er k n = ([], 0, 1) := by unfold getsR; rw [if_neg (by omega)]
      rw [hr]
      have HP := Lib.hid hp; have HR := Lib.hid hR
      clear hp hr hR hk
      go_enter Try.func76, Try.ntmps76
      go_wp2_with (go_at_call 45; refine (HP.out _).mono ?_; rintro e w1 ⟨rfl, rfl⟩)
      go_ret2
      exact ⟨_, at_, er, rfl, Own.nil _ _ _, HR.out, World.grownBy.refl _ _, fun h => by simp at h⟩
    by_cases h1 : 4194304 < n
    · have hr : getsR (bitAt l) (8 * l.length) at_ er k n = ([], 0, 1) := by unfold getsR; rw [if_neg (by omega)]
      rw [hr]
      have HP := Lib.hid hp; have HR := Lib.hid hR
      clear hp hr hR hk
      go_enter Try.func76, Try.ntmps76
      go_wp2_with (go_at_call 45; refine (HP.out _).mono ?_; rintro e w1 ⟨rfl, rfl⟩)
      go_ret2
      exact ⟨_, at_, er, rfl, Own.nil _ _ _, HR.out, World.grownBy.refl _ _, fun h => by simp at h⟩
    obtain ⟨rv, hblk, _⟩ := id hR
    obtain ⟨c0, c1, c2, hf0⟩ := blk3 hblk
    clear hblk c0 c1
    by_cases he : er = 0
    · subst he
      obtain ⟨hk0, hk25⟩ := paramB_iff.1 hk
      obtain ⟨m, rfl⟩ := Int.eq_ofNat_of_zero_le hk0
      obtain ⟨n, rfl⟩ := Int.eq_ofNat_of_zero_le (by omega : 0 ≤ n)
      have hm25 : m ≤ 25 := by omega
      have h25 := two_pow_le hm25
      have hum : IntKind.u64.wrap ((m : Nat) : Int) = (m : Nat) := IntWalk.u64_in _ (by omega)
      have hr : getsR (bitAt l) (8 * l.length) at_ 0 m n = rGets (bitAt l) (8 * l.length) m n at_ := by unfold getsR; rw [if_pos ⟨hk, by omega, by omega⟩, if_pos rfl, Int.toNat_natCast, Int.toNat_natCast]
      rw [hr]
      have hgl := (glue_nil _ (rGets_no (bitAt l) (8 * l.length) m n at_)).symm
      have hou := fun (w1 : World) (a1 : Nat) (h : OcB w1 B g l a1 0) => ounary_any h 32 (by omega)
      have hog := fun (w1 : World) (a1 : Nat) (e1 n1 : Int) (h : OcB w1 B g l a1 e1) => oget_any h n1
      have hsu := rGets_succ (bitAt l) (8 * l.length) m
      have hBg : B ≤ g := by obtain ⟨_, _, _, h, _⟩ := hR; exact h
      have hgw : g < w.heap.size := hR.lt
      obtain ⟨R, hRd⟩ : ∃ R, rGets (bitAt l) (8 * l.length) m n at_ = R := ⟨_, rfl⟩
      rw [hRd] at hgl ⊢
      obtain ⟨f, hf⟩ : ∃ f, bitAt l = f := ⟨_, rfl⟩
      obtain ⟨len, hl⟩ : ∃ len, 8 * l.length = len := ⟨_, rfl⟩
      rw [hf, hl] at hRd hou hog hsu
      rw [← hRd] at hgl
      have HP := Lib.hid hp; have HOU := Lib.hid hou; have HOG := Lib.hid hog; have HGL := Lib.hid hgl; have HRD := Lib.hid hRd; have HSU := Lib.hid hsu; have HR := Lib.hid hR; have H25 := Lib.hid h25
      clear hp hou hog hgl hRd hsu hr hk hk0 hk25 hf hl h25
      go_enter Try.func76, Try.ntmps76
      go_wp2_with (go_at_call 45; refine (HP.out _).mono ?_; rintro e w1 ⟨rfl, rfl⟩)
      go_loopw [8, 9] (fun v ii wr => ∃ (j a1 : Nat) (pre : List Int), j ≤ n ∧ pre.length = j ∧ ii = .int .i64 j ∧ Own wr w.heap.size 3 v (ci pre) ∧ OcB wr B g l a1 0 ∧ w.grownBy wr (some g) ∧ Hid (R = glue pre (rGets f len m (n - j) a1))) (fun _ ii _ => n - (intOf ii).toNat)
      case atStart => exact ⟨0, at_, [], by omega, rfl, rfl, Own.nil _ _ _, HR.out, World.grownBy.refl _ _, by rw [← HRD.out]; exact HGL.out⟩
      case round =>
        clear c2 hf0
        obtain ⟨j, a0, pre, hj, hpl, rfl, ho, hRr, hgr, hglue⟩ := hrel
        have hgs := hgr.size
        by_cases hjn : j < n
        · have hss := HSU.out (n - (j + 1)) a0
          rw [show n - (j + 1) + 1 = n - j by omega] at hss
          have hU := HOU.out wr a0 hRr
          have hno := @gUnary_no f len a0 0 32
          have hle : (gUnary f len a0 0 32).1 ≤ 32 := gUnary_le (n := 32)
          obtain ⟨⟨q, a1, e1⟩, hUd⟩ : ∃ r, gUnary f len a0 0 32 = r := ⟨_, rfl⟩
          rw [hUd] at hU hno hle
          simp only at hU hno hle
          obtain ⟨cs, hblk⟩ := hRr.blk
          have ho1 := fun (w3 : World) (hg : wr.grownBy w3 (some g)) => ho.far hblk (by decide) hg
          have HO1 := Lib.hid ho1
          have hcl : (ci pre).length ≤ 4194304 := by rw [ci_len]; omega
          clear ho1 hblk
          by_cases hq : q < 32
          · obtain ⟨⟨x, a2, e2⟩, hGd⟩ : ∃ r, gGet f len a1 e1 (m : Int) = r := ⟨_, rfl⟩
            have hx := gGet_lt (f := f) (len := len) (at_ := a1) (er := e1) (n := m)
            rw [hGd] at hx
            simp only at hx
            have h25 := H25.out
            have hx2 : x < 33554432 := by omega
            have hG1 : ∀ (w1 : World), OcB w1 B g l a1 e1 → _ := fun w1 h => HOG.out w1 a1 e1 m h
            rw [hGd] at hG1
            simp only at hG1
            obtain ⟨hr1, hr2⟩ := rGet1_short hUd hq hGd
            have hPm : (q : Int) * 2 ^ m = ((q * 2 ^ m : Nat) : Int) := by simp
            have hP : q * 2 ^ m ≤ 31 * 33554432 := Nat.mul_le_mul (by omega) h25
            have hor := (or_shl (V := q) (c := x) (k := 5) (s := m) (by omega) hx (by omega)).1
            rw [hPm] at hor
            generalize q * 2 ^ m = P at *
            rw [IntWalk.u64_in (P : Int) (by omega)] at hor
            have HU := Lib.hid hU; have HG := Lib.hid hG1
            by_cases h2 : e2 = 0
            · subst h2
              have hr3 := hr2 rfl
              rw [hr3] at hss
              rw [if_pos rfl] at hss
              rw [hss, glue_glue] at hglue
              have hX := fun w => qunfold_any (P + x) w (by omega)
              have HX := Lib.hid hX
              clear hU hG1 hGd hUd hno hr1 hr2 hr3 hx h25 hX hss
              go_wp2_with (first
                | (go_at_call 92; refine (HU.out).mono ?_; rintro e w1 ⟨rfl, hR1, hg1⟩)
                | (go_at_call 31; refine (HG.out _ hR1).mono ?_; rintro e w2 ⟨rfl, hR2, hg2⟩; obtain ⟨rv2, hb2, _⟩ := id hR2; obtain ⟨d0, d1, d2, hf2⟩ := blk3 hb2; have ho2 := HO1.out w2 (grown_trans hg1 hg2); have hs2 := hg2.size; have hs1 := hg1.size; clear hb2 d0 d1)
                | (go_at_call 93; refine (HX.out _).mono ?_; rintro e w4 ⟨rfl, rfl⟩)
                | (at_builtin; refine wpl_push ho2 (by omega) (by omega) Try.underlying22 info_int rfl (by decide) rfl rfl rfl rfl rfl (h := ?_); intro v5 w5 ho5 hm5; refine cut_here ?_))
              unfold CutHere
              have ho5' : Own w5 w.heap.size 3 v5 (ci (pre ++ [unfoldI (P + x)])) := by rw [ci_app]; exact ho5
              have hR5 := hR2.push ho2 (by omega) hm5
              have hg5 := grown_push (grown_trans hgr (grown_trans hg1 hg2)) ho2 hm5
              go_wp2
              exact ⟨⟨j + 1, a2, pre ++ [unfoldI (P + x)], by omega, by simp [hpl], by simp, ho5', hR5, hg5, hglue⟩, by simp [intOf]; omega⟩
            · rw [hr1] at hss
              rw [if_neg h2] at hss
              have hR0 : R = ([], 0, e2) := by rw [hglue.out, hss]; unfold glue; rw [if_neg h2]
              have hne : (e2 != 0) = true := by simpa using h2
              have HR0 := Lib.hid hR0
              clear hU hG1 hGd hUd hno hr1 hr2 hx h25 hss hR0
              go_wp2_with (first
                | (go_at_call 92; refine (HU.out).mono ?_; rintro e w1 ⟨rfl, hR1, hg1⟩)
                | (go_at_call 31; refine (HG.out _ hR1).mono ?_; rintro e w2 ⟨rfl, hR2, hg2⟩; obtain ⟨rv2, hb2, _⟩ := id hR2; obtain ⟨d0, d1, d2, hf2⟩ := blk3 hb2; have ho2 := HO1.out w2 (grown_trans hg1 hg2); have hs2 := hg2.size; have hs1 := hg1.size; clear hb2 d0 d1))
              go_quiet (fail)
              go_wp2
              go_ret2
              rw [HR0.out]
              exact ⟨_, a2, e2, rfl, Own.nil _ _ _, hR2.drewN _, grown_drewN (grown_trans hgr (grown_trans hg1 hg2)) _, fun h => absurd h h2⟩
          · have he1 : e1 = 0 := by
              by_cases h : e1 = 0
              · exact h
              · have := hno h; omega
            subst he1
            obtain ⟨⟨x, a2, e2⟩, hGd⟩ : ∃ r, gGet f len a1 0 32 = r := ⟨_, rfl⟩
            have hx : (gGet f len a1 0 ((32 : Nat) : Int)).1 < 2 ^ 32 := gGet_lt
            rw [show ((32 : Nat) : Int) = 32 from rfl, hGd] at hx
            have hx2 : x < 4294967296 := hx
            have hG1 : ∀ (w1 : World), OcB w1 B g l a1 0 → _ := fun w1 h => HOG.out w1 a1 0 32 h
            rw [hGd] at hG1
            simp only at hG1
            have hr := rGet1_long (k := m) hUd hq hGd
            rw [hr] at hss
            have hqI := shr_cast x m
            obtain ⟨y, hy⟩ : ∃ y, x / 2 ^ m = y := ⟨_, rfl⟩
            rw [hy] at hqI hss
            have HU := Lib.hid hU; have HG := Lib.hid hG1
            clear hU hG1 hGd hUd hno hr hx hy
            by_cases h2 : e2 = 0
            · subst h2
              by_cases hb : 2147483648 ≤ x ∨ y < 32
              · simp only [if_true, if_pos hb] at hss
                have hR0 : R = ([], 0, 2) := by rw [hglue.out, hss]; rfl
                have HR0 := Lib.hid hR0
                by_cases hge0 : 2147483648 ≤ x
                · have hge : decide ((2147483648 : Int) ≤ (x : Int)) = true := by rw [decide_eq_true_iff]; omega
                  clear hss hR0 hb
                  go_wp2_with (first
                    | (go_at_call 92; refine (HU.out).mono ?_; rintro e w1 ⟨rfl, hR1, hg1⟩)
                    | (go_at_call 31; refine (HG.out _ hR1).mono ?_; rintro e w2 ⟨rfl, hR2, hg2⟩; obtain ⟨rv2, hb2, _⟩ := id hR2; obtain ⟨d0, d1, d2, hf2⟩ := blk3 hb2; have ho2 := HO1.out w2 (grown_trans hg1 hg2); have hs2 := hg2.size; have hs1 := hg1.size; clear hb2 d0 d1))
                  go_ret2
                  rw [HR0.out]
                  exact ⟨_, a2, 0, rfl, Own.nil _ _ _, hR2, grown_trans hgr (grown_trans hg1 hg2), fun h => by simp at h⟩
                · have hge : decide ((2147483648 : Int) ≤ (x : Int)) = false := by rw [decide_eq_false_iff_not]; omega
                  have hy32 : y < 32 := by omega
                  clear hss hR0 hb
                  go_wp2_with (first
                    | (go_at_call 92; refine (HU.out).mono ?_; rintro e w1 ⟨rfl, hR1, hg1⟩)
                    | (go_at_call 31; refine (HG.out _ hR1).mono ?_; rintro e w2 ⟨rfl, hR2, hg2⟩; obtain ⟨rv2, hb2, _⟩ := id hR2; obtain ⟨d0, d1, d2, hf2⟩ := blk3 hb2; have ho2 := HO1.out w2 (grown_trans hg1 hg2); have hs2 := hg2.size; have hs1 := hg1.size; clear hb2 d0 d1))
                  go_ret2
                  rw [HR0.out]
                  exact ⟨_, a2, 0, rfl, Own.nil _ _ _, hR2, grown_trans hgr (grown_trans hg1 hg2), fun h => by simp at h⟩
              · simp only [if_true, if_neg hb] at hss
                rw [hss, glue_glue] at hglue
                have hge : decide ((2147483648 : Int) ≤ (x : Int)) = false := by rw [decide_eq_false_iff_not]; omega
                have hy32 : ¬ y < 32 := by omega
                have hX := fun w => qunfold_any x w (by omega)
                have HX := Lib.hid hX
                clear hss hb hX
                go_wp2_with (first
                  | (go_at_call 92; refine (HU.out).mono ?_; rintro e w1 ⟨rfl, hR1, hg1⟩)
                  | (go_at_call 31; refine (HG.out _ hR1).mono ?_; rintro e w2 ⟨rfl, hR2, hg2⟩; obtain ⟨rv2, hb2, _⟩ := id hR2; obtain ⟨d0, d1, d2, hf2⟩ := blk3 hb2; have ho2 := HO1.out w2 (grown_trans hg1 hg2); have hs2 := hg2.size; have hs1 := hg1.size; clear hb2 d0 d1)
                  | (go_at_call 93; refine (HX.out _).mono ?_; rintro e w4 ⟨rfl, rfl⟩)
                  | (at_builtin; refine wpl_push ho2 (by omega) (by omega) Try.underlying22 info_int rfl (by decide) rfl rfl rfl rfl rfl (h := ?_); intro v5 w5 ho5 hm5; refine cut_here ?_))
                unfold CutHere
                have ho5' : Own w5 w.heap.size 3 v5 (ci (pre ++ [unfoldI x])) := by rw [ci_app]; exact ho5
                have hR5 := hR2.push ho2 (by omega) hm5
                have hg5 := grown_push (grown_trans hgr (grown_trans hg1 hg2)) ho2 hm5
                go_wp2
                exact ⟨⟨j + 1, a2, pre ++ [unfoldI x], by omega, by simp [hpl], by simp, ho5', hR5, hg5, hglue⟩, by simp [intOf]; omega⟩
            · simp only [if_neg h2] at hss
              have hR0 : R = ([], 0, e2) := by rw [hglue.out, hss]; unfold glue; rw [if_neg h2]
              have hne : (e2 != 0) = true := by simpa using h2
              have hne2 : (e2 == 0) = false := by simpa using h2
              have HR0 := Lib.hid hR0
              clear hss hR0
              go_wp2_with (first
                | (go_at_call 92; refine (HU.out).mono ?_; rintro e w1 ⟨rfl, hR1, hg1⟩)
                | (go_at_call 31; refine (HG.out _ hR1).mono ?_; rintro e w2 ⟨rfl, hR2, hg2⟩; obtain ⟨rv2, hb2, _⟩ := id hR2; obtain ⟨d0, d1, d2, hf2⟩ := blk3 hb2; have ho2 := HO1.out w2 (grown_trans hg1 hg2); have hs2 := hg2.size; have hs1 := hg1.size; clear hb2 d0 d1))
              go_quiet (fail)
              go_wp2
              go_ret2
              rw [HR0.out]
              exact ⟨_, a2, e2, rfl, Own.nil _ _ _, hR2.drewN _, grown_drewN (grown_trans hgr (grown_trans hg1 hg2)) _, fun h => absurd h h2⟩
        · have hjn' : n - j = 0 := by omega
          rw [hjn'] at hglue
          have hR0 : R = (pre, a0, 0) := by rw [hglue.out]; simp [rGets, glue]
          have HR0 := Lib.hid hR0
          clear hR0
          go_wp2
          go_ret2
          rw [HR0.out]
          exact ⟨_, a0, 0, rfl, ho, hRr, hgr, fun _ => ⟨rfl, rfl⟩⟩
    · have hr : getsR (bitAt l) (8 * l.length) at_ er k n = ([], 0, er) := by unfold getsR; rw [if_pos ⟨hk, by omega, by omega⟩, if_neg he]
      rw [hr]
      have hne : (er != 0) = true := by simpa using he
      have HP := Lib.hid hp; have HR := Lib.hid hR
      clear hp hr hR hk
      go_enter Try.func76, Try.ntmps76
      go_wp2_with (go_at_call 45; refine (HP.out _).mono ?_; rintro e w1 ⟨rfl, rfl⟩)
      go_quiet (fail)
      go_wp2
      go_ret2
      exact ⟨_, at_, er, rfl, Own.nil _ _ _, HR.out.drewN _, grown_drewN (World.grownBy.refl _ _) _, fun h => absurd h he⟩
  · have hr : getsR (bitAt l) (8 * l.length) at_ er k n = ([], 0, 1) := by unfold getsR; rw [if_neg (fun h => hk h.1)]
    rw [hr]; rw [Bool.eq_false_iff.2 hk] at hp
    have HP := Lib.hid hp; have HR := Lib.hid hR
    clear hp hr hR hk
    go_enter Try.func76, Try.ntmps76
    go_wp2_with (go_at_call 45; refine (HP.out _).mono ?_; rintro e w1 ⟨rfl, rfl⟩)
    go_ret2
    exact ⟨_, at_, er, rfl, Own.nil _ _ _, HR.out, World.grownBy.refl _ _, fun h => by simp at h⟩
end Go.Proofs.Ytohbpjehphmedaa
