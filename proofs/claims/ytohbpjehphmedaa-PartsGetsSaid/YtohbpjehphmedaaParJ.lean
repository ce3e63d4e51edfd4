/- parts: what the reference reads: numbers of equal widths, a part. -/
import Derived.Test.YtohbpjehphmedaaParG
import Derived.Test.YtohbpjehphmedaaRicQ
namespace Go.Proofs.Ytohbpjehphmedaa
open Go.RowKit
set_option maxRecDepth 100000
set_option maxHeartbeats 1600000

theorem rRaw_succ (f : Nat → Bool) (len b s at_ : Nat) : rRaw f len b (s + 1) at_ = if (gGet f len at_ 0 (b : Nat)).2.2 = 0 then glue [sgn b (gGet f len at_ 0 (b : Nat)).1] (rRaw f len b s (gGet f len at_ 0 (b : Nat)).2.1) else ([], 0, (gGet f len at_ 0 (b : Nat)).2.2) := rfl
/-- What is read, where there may be an error already. -/
def rawR (f : Nat → Bool) (len b s at_ : Nat) (er : Int) : List Int × Nat × Int := if er = 0 then rRaw f len b s at_ else ([], 0, er)
theorem qgetSigned_any {w : World} {B g at_ : Nat} {l : List Nat} {er : Int} (hR : OcB w B g l at_ er) (s b : Nat) (hb : b ≤ 31) (hs : s ≤ 4194304) (hBw : B ≤ w.heap.size) :
    Calls Try.prog 77 #[.pointer (some ⟨g, 0, none⟩), .int .i64 s, .int .i64 b] w fun e w' => ∃ (v' : Value) (out : List Int) (a2 : Nat) (e2 : Int), e = .returned v' ∧ Own w' w.heap.size 3 v' (ci out) ∧ out.length ≤ s ∧ OcB w' B g l a2 e2 ∧ w.grownBy w' (some g) ∧
      e2 = (rawR (bitAt l) (8 * l.length) b s at_ er).2.2 ∧ (e2 = 0 → out = (rawR (bitAt l) (8 * l.length) b s at_ er).1 ∧ a2 = (rawR (bitAt l) (8 * l.length) b s at_ er).2.1) := by
  have hsg := fun (w1 : World) (a1 : Nat) (e1 : Int) (h : OcB w1 B g l a1 e1) => osigned_any h b
  have hsu := rRaw_succ (bitAt l) (8 * l.length) b
  have hss := fun (a1 : Nat) (h : (gGet (bitAt l) (8 * l.length) a1 0 (b : Nat)).2.2 = 0) => gSigned_sgn hb h
  have hst : er = 0 → rawR (bitAt l) (8 * l.length) b s at_ er = glue [] (rRaw (bitAt l) (8 * l.length) b (s - 0) at_) := fun h => by
    unfold rawR; rw [if_pos h]; exact (glue_nil _ (rRaw_no s at_)).symm
  have hst2 : er ≠ 0 → (rawR (bitAt l) (8 * l.length) b s at_ er).2.2 = er := fun h => by unfold rawR; rw [if_neg h]
  have hglt := hR.lt
  obtain ⟨f, hf⟩ : ∃ f, bitAt l = f := ⟨_, rfl⟩
  obtain ⟨len, hlen⟩ : ∃ len, 8 * l.length = len := ⟨_, rfl⟩
  rw [hf, hlen] at hsg hsu hst hst2 hss ⊢
  generalize rawR f len b s at_ er = R at *
  have HSG := Lib.hid hsg; have HSU := Lib.hid hsu; have HST := Lib.hid (And.intro hst hst2); have HR := Lib.hid hR; have HSS := Lib.hid hss
  clear hsg hsu hst hst2 hf hlen hR hss
  go_enter Try.func77, Try.ntmps77
  go_wp2
  go_loopw [7, 8] (fun v ii wr => ∃ (j a1 : Nat) (e1 : Int) (pre : List Int), j ≤ s ∧ pre.length = j ∧ ii = .int .i64 j ∧ Own wr w.heap.size 3 v (ci pre) ∧ OcB wr B g l a1 e1 ∧ w.grownBy wr (some g) ∧ Hid ((e1 = 0 → R = glue pre (rRaw f len b (s - j) a1)) ∧ (e1 ≠ 0 → R.2.2 = e1))) (fun _ ii _ => s - (intOf ii).toNat)
  case atStart => exact ⟨0, at_, er, [], by omega, rfl, rfl, Own.nil _ _ _, HR.out, World.grownBy.refl _ _, HST.out⟩
  case round =>
    obtain ⟨j, a1, e1, pre, hj, hpl, rfl, ho, hRr, hgr, hglue⟩ := hrel
    have hgs := hgr.size
    obtain ⟨rv, hblk, _⟩ := id hRr
    obtain ⟨c0, c1, c2, hf⟩ := blk3 hblk
    clear c0 c1
    by_cases hjs : j < s
    · by_cases he : e1 = 0
      · subst he
        have hgl := hglue.out.1 rfl
        have hss := HSU.out (s - (j + 1)) a1
        rw [show s - (j + 1) + 1 = s - j by omega] at hss
        rw [hss] at hgl
        have hS := HSG.out wr a1 0 hRr
        have hsx := HSS.out a1
        have hge : ∀ n, (gGet f len a1 0 n).2.2 ≠ 0 → True := fun _ _ => trivial
        generalize gGet f len a1 0 (b : Nat) = q at *
        obtain ⟨q1, a2, e2⟩ := q
        simp only at hS hgl hsx
        generalize gSigned f len a1 0 (b : Nat) = z at *
        have hnext : (e2 = 0 → R = glue (pre ++ [z]) (rRaw f len b (s - (j + 1)) a2)) ∧ (e2 ≠ 0 → R.2.2 = e2) := by
          by_cases h2 : e2 = 0
          · rw [if_pos h2, glue_glue] at hgl
            exact ⟨fun _ => by rw [hsx h2]; exact hgl, fun h => absurd h2 h⟩
          · rw [if_neg h2] at hgl
            exact ⟨fun h => absurd h h2, fun _ => by rw [hgl]; unfold glue; simp only [if_neg h2]⟩
        have HN := Lib.hid hnext; have HS := Lib.hid hS
        have ho1 := fun (w3 : World) (hg : wr.grownBy w3 (some g)) => ho.far hblk (by decide) hg
        have HO1 := Lib.hid ho1
        have hcl : (ci pre).length + 1 ≤ 8796093022208 := by rw [ci_len]; omega
        clear hnext hS hgl hss hsx hge ho1
        go_wp2_with fail
        refine HS.out.mono ?_
        rintro e w3 ⟨rfl, hR3, hg3⟩
        have ho3 := HO1.out w3 hg3
        have hs3 : w.heap.size ≤ w3.heap.size := Nat.le_trans hgs hg3.size
        go_wp2_with (at_builtin; refine wpl_push ho3 hs3 hcl Try.underlying22 info_int rfl (by decide) rfl rfl rfl rfl rfl (h := ?_); intro v5 w5 ho5 hm5; refine cut_here ?_)
        unfold CutHere
        have ho5' : Own w5 w.heap.size 3 v5 (ci (pre ++ [z])) := by rw [ci_app]; exact ho5
        have hR5 := hR3.push ho3 hBw hm5
        have hg5 := grown_push (grown_trans hgr hg3) ho3 hm5
        go_wp2
        exact ⟨⟨j + 1, a2, e2, pre ++ [z], by omega, by simp [hpl], by simp, ho5', hR5, hg5, HN.out⟩, by simp [intOf]; omega⟩
      · have hne : (e1 == 0) = false := by simpa using he
        go_wp2
        go_ret
        exact ⟨_, pre, a1, e1, rfl, ho, by omega, hRr, hgr, (hglue.out.2 he).symm, fun h => absurd h he⟩
    · have hs0 : s - j = 0 := by omega
      rw [hs0] at hglue
      go_wp2
      go_ret
      refine ⟨_, pre, a1, e1, rfl, ho, by omega, hRr, hgr, ?_, fun h => ?_⟩
      · by_cases he : e1 = 0
        · rw [hglue.out.1 he, he]; simp [rRaw, glue]
        · exact (hglue.out.2 he).symm
      · rw [hglue.out.1 h]; simp [rRaw, glue]
theorem rPart_rawR (f : Nat → Bool) (len at_ s : Nat) : rPart f len at_ 31 s =
    if (rawR f len (gGet f len at_ 0 5).1 s (gGet f len at_ 0 5).2.1 (gGet f len at_ 0 5).2.2).2.2 = 0 then
      (if widN (rawR f len (gGet f len at_ 0 5).1 s (gGet f len at_ 0 5).2.1 (gGet f len at_ 0 5).2.2).1 = (gGet f len at_ 0 5).1 then rawR f len (gGet f len at_ 0 5).1 s (gGet f len at_ 0 5).2.1 (gGet f len at_ 0 5).2.2 else ([], 0, 2))
    else ([], 0, (rawR f len (gGet f len at_ 0 5).1 s (gGet f len at_ 0 5).2.1 (gGet f len at_ 0 5).2.2).2.2) := by
  unfold rPart rawR
  rw [if_pos rfl]
  generalize gGet f len at_ 0 5 = r at *
  obtain ⟨x, a1, e1⟩ := r
  simp only at *
  by_cases h : e1 = 0
  · subst h
    simp only [if_true]
  · simp only [if_neg h]
def QPartPost (r : List Int × Nat × Int) (B g : Nat) (l : List Nat) (w : World) (e : Ending) (w' : World) : Prop :=
  ∃ (v' : Value) (a2 : Nat) (e2 : Int), e = .returned (.tuple #[v', .int .i64 r.2.2]) ∧ Own w' w.heap.size 3 v' (ci r.1) ∧ OcB w' B g l a2 e2 ∧ w.grownBy w' (some g) ∧ (r.2.2 = 0 → a2 = r.2.1 ∧ e2 = 0)
theorem OcB.cells {w : World} {B g at_ : Nat} {l : List Nat} {er : Int} (h : OcB w B g l at_ er) : w.cell? ⟨g, 2, none⟩ = some (.int .i64 er) := by
  obtain ⟨rv, hblk, _⟩ := h
  exact (blk3 hblk).2.2.1
theorem qpart_any {w : World} {B g at_ : Nat} {l : List Nat} (hR : OcB w B g l at_ 0) (k : Int) (s : Nat) (hs : s ≤ 4194304) (hBw : B ≤ w.heap.size) :
    Calls Try.prog 61 #[.pointer (some ⟨g, 0, none⟩), .int .i64 k, .int .i64 s] w (QPartPost (rPart (bitAt l) (8 * l.length) at_ k s) B g l w) := by
  by_cases h31 : k = 31
  · subst h31
    rw [rPart_rawR]
    have h5 := oget_any hR 5
    have hlt : (gGet (bitAt l) (8 * l.length) at_ 0 ((5 : Nat) : Int)).1 < 2 ^ 5 := gGet_lt
    rw [show ((5 : Nat) : Int) = 5 from rfl] at hlt
    generalize gGet (bitAt l) (8 * l.length) at_ 0 5 = r at *
    obtain ⟨x, a1, e1⟩ := r
    simp only at hlt h5 ⊢
    have hx31 : x ≤ 31 := by omega
    have hx64 : IntKind.i64.wrap ((x : Nat) : Int) = (x : Nat) := IntWalk.i64_in _ (by omega)
    have hgs := fun (w1 : World) (h : OcB w1 B g l a1 e1) (hB : B ≤ w1.heap.size) => qgetSigned_any h s x hx31 hs hB
    generalize rawR (bitAt l) (8 * l.length) x s a1 e1 = T at *
    obtain ⟨V, ta, te⟩ := T
    simp only at hgs
    obtain ⟨R, hRR⟩ : ∃ R : List Int × Nat × Int, (if te = 0 then (if widN V = x then (V, ta, te) else ([], 0, 2)) else ([], 0, te)) = R := ⟨_, rfl⟩
    rw [hRR]
    have HRR := Lib.hid hRR; have H5 := Lib.hid h5; have HGS := Lib.hid hgs
    clear hRR h5 hgs hlt
    go_enter Try.func61, Try.ntmps61
    go_wp2_with fail
    refine H5.out.mono ?_
    rintro e w1 ⟨rfl, hR1, hg1⟩
    go_wp2_with fail
    refine (HGS.out w1 hR1 (Nat.le_trans hBw hg1.size)).mono ?_
    rintro e w2 ⟨v2, out, a2, e2, rfl, ho2, hol, hR2, hg2, rfl, hok⟩
    have hc2 := hR2.cells
    have hgr := grown_trans hg1 hg2
    obtain ⟨A2, c2', rfl, _, _⟩ := ho2.formI
    have HW := Lib.hid (rwidth_wid ho2.sli (by omega))
    by_cases he : e2 = 0
    · subst he
      obtain ⟨rfl, rfl⟩ := hok rfl
      have hRR := HRR.out
      rw [if_pos rfl] at hRR
      by_cases hw : widN out = x
      · rw [if_pos hw] at hRR
        subst hRR
        have hwb : (((widN out : Nat) : Int) != (x : Int)) = false := by rw [hw]; simp
        generalize widN out = d at *
        go_wp2_with fail
        refine HW.out.mono ?_
        rintro e w3 ⟨rfl, rfl⟩
        go_wp2
        go_ret2
        exact ⟨_, a2, 0, rfl, ho2.mono hg1.size, hR2, hgr, fun _ => ⟨rfl, rfl⟩⟩
      · rw [if_neg hw] at hRR
        subst hRR
        have hwb : (((widN out : Nat) : Int) != (x : Int)) = true := by simp only [bne_iff_ne, ne_eq]; omega
        generalize widN out = d at *
        go_wp2_with fail
        refine HW.out.mono ?_
        rintro e w3 ⟨rfl, rfl⟩
        go_wp2
        go_ret2
        exact ⟨_, a2, 0, rfl, Own.nil _ _ _, hR2, hgr, fun h => by simp at h⟩
    · have hRR := HRR.out
      rw [if_neg he] at hRR
      subst hRR
      have hne : (e2 != 0) = true := by simpa using he
      go_wp2
      go_quiet (fail)
      go_wp2
      go_ret2
      exact ⟨_, a2, e2, rfl, Own.nil _ _ _, hR2.drewN _, grown_drewN hgr _, fun h => absurd h he⟩
  · have hne : (k != 31) = true := by simpa using h31
    have hp := fun w => qpar_any k w
    by_cases hpar : paramB k = true
    · have hr : rPart (bitAt l) (8 * l.length) at_ k s = getsR (bitAt l) (8 * l.length) at_ 0 k s := by
        unfold rPart getsR
        rw [if_neg h31, if_pos hpar, if_pos ⟨hpar, by omega, by omega⟩, if_pos rfl, Int.toNat_natCast]
      rw [hr]
      have hgr := qrget_any hR k s
      generalize getsR (bitAt l) (8 * l.length) at_ 0 k s = R at *
      obtain ⟨V, ta, te⟩ := R
      rw [hpar] at hp
      have HGR := Lib.hid hgr; have HP := Lib.hid hp
      clear hgr hp hr hpar h31
      go_enter Try.func61, Try.ntmps61
      go_wp2_with fail
      refine (HP.out _).mono ?_
      rintro e w1 ⟨rfl, rfl⟩
      go_wp2_with fail
      refine HGR.out.mono ?_
      rintro e w3 ⟨v3, a3, e3, rfl, ho3, hR3, hg3, hok3⟩
      go_wp2
      go_ret2
      exact ⟨v3, a3, e3, rfl, ho3, hR3, hg3, hok3⟩
    · have hr : rPart (bitAt l) (8 * l.length) at_ k s = ([], 0, 2) := by
        unfold rPart
        rw [if_neg h31, if_neg hpar]
      rw [hr]
      rw [Bool.eq_false_iff.2 hpar] at hp
      have HP := Lib.hid hp
      clear hp hr hpar h31
      go_enter Try.func61, Try.ntmps61
      go_wp2_with fail
      refine (HP.out _).mono ?_
      rintro e w1 ⟨rfl, rfl⟩
      go_wp2
      go_ret2
      exact ⟨_, at_, 0, rfl, Own.nil _ _ _, hR, World.grownBy.refl _ _, fun h => by simp at h⟩
end Go.Proofs.Ytohbpjehphmedaa
