/- rice: Get. -/
import Derived.Test.YtohbpjehphmedaaRicR
import Derived.Test.YtohbpjehphmedaaFoot
namespace Go.Proofs.Ytohbpjehphmedaa
open Go.RowKit
set_option maxRecDepth 100000
set_option maxHeartbeats 800000

/-- An append to a row of ints leaves a reader of bits as it was. -/
theorem RdB.push {w w' : World} {g at_ base : Nat} {l : List Nat} {er : Int} {v v' : Value} {xs : List Value} (h : RdB w g l at_ er) (ho : Own w base 3 v xs) (hm : ∀ g, Mov w w' g v v') : RdB w' g l at_ er := by
  have hlt := h.lt
  obtain ⟨rv, h1, h2, r⟩ := h
  refine ⟨rv, ((hm (g + 1)).block g hlt (by omega) (ho.ne h1 (by decide))).trans h1, h2.moved (hm g) h1 (by decide) ?_, r⟩
  intro k hk hk2
  obtain ⟨c1, e1⟩ := ho.blk hk
  obtain ⟨c2, e2⟩ := h2.blk hk2
  rw [e1] at e2
  injection e2 with e2; injection e2 with _ e2
  exact absurd e2 (by decide)
theorem grown_push {w w1 w2 : World} {g : Nat} {e : TypeId} {v v' : Value} {xs : List Value} (h : w.grownBy w1 (some g)) (ho : Own w1 w.heap.size e v xs) (hm : ∀ g, Mov w1 w2 g v v') : w.grownBy w2 (some g) := by
  have hg := hm g
  refine ⟨hg.os.trans h.os, hg.tape.trans h.tape, hg.output.trans h.output, Nat.le_trans h.size hg.size, fun k hk hn => ?_⟩
  have hkg : k ≠ g := fun e => hn (by rw [e])
  exact (hg.block k (Nat.lt_of_lt_of_le hk h.size) hkg (fun e => by have := (ho.lt k e).1; omega)).trans (h.block k hk hn)
/-- What is read: a row so far, and what follows. -/
def glue (pre : List Int) (t : List Int × Nat × Int) : List Int × Nat × Int := if t.2.2 = 0 then (pre ++ t.1, t.2.1, 0) else ([], 0, t.2.2)
theorem rGets_succ (f : Nat → Bool) (len k n at_ : Nat) : rGets f len k (n + 1) at_ = if (rGet1 f len k at_).2.2 = 0 then glue [unfoldI (rGet1 f len k at_).1] (rGets f len k n (rGet1 f len k at_).2.1) else ([], 0, (rGet1 f len k at_).2.2) := by
  rw [rGets]; rfl
theorem glue_glue (a b : List Int) (t : List Int × Nat × Int) : glue a (glue b t) = glue (a ++ b) t := by
  unfold glue
  by_cases h : t.2.2 = 0
  · simp [h]
  · simp [h]
theorem glue_nil (t : List Int × Nat × Int) (h : t.2.2 ≠ 0 → t.1 = [] ∧ t.2.1 = 0) : glue [] t = t := by
  unfold glue
  by_cases h0 : t.2.2 = 0
  · rw [if_pos h0, List.nil_append, ← h0]
  · rw [if_neg h0, ← (h h0).1, ← (h h0).2]
theorem rGets_no (f : Nat → Bool) (len k : Nat) : ∀ n at_, (rGets f len k n at_).2.2 ≠ 0 → (rGets f len k n at_).1 = [] ∧ (rGets f len k n at_).2.1 = 0
  | 0, at_, h => by simp [rGets] at h
  | n + 1, at_, h => by
    rw [rGets_succ] at h ⊢
    split
    · rename_i h0
      rw [if_pos h0] at h
      unfold glue at h ⊢
      split
      · rename_i h1; rw [if_pos h1] at h; simp at h
      · exact ⟨rfl, rfl⟩
    · exact ⟨rfl, rfl⟩
def getsR (f : Nat → Bool) (len at_ : Nat) (er k n : Int) : List Int × Nat × Int :=
  if paramB k = true ∧ 0 ≤ n ∧ n ≤ 4194304 then (if er = 0 then rGets f len k.toNat n.toNat at_ else ([], 0, er)) else ([], 0, 1)

theorem rget_any {w : World} {g at_ : Nat} {l : List Nat} {er : Int} (hR : RdB w g l at_ er) (k n : Int) :
    Calls Try.prog 91 #[.pointer (some ⟨g, 0, none⟩), .int .i64 k, .int .i64 n] w fun e w' => ∃ (v' : Value) (a2 : Nat) (e2 : Int), e = .returned (.tuple #[v', .int .i64 (getsR (bitAt l) (8 * l.length) at_ er k n).2.2]) ∧
      Own w' w.heap.size 3 v' (ci (getsR (bitAt l) (8 * l.length) at_ er k n).1) ∧ RdB w' g l a2 e2 ∧ w.grownBy w' (some g) ∧ ((getsR (bitAt l) (8 * l.length) at_ er k n).2.2 = 0 → a2 = (getsR (bitAt l) (8 * l.length) at_ er k n).2.1 ∧ e2 = 0) := by
  have hp := fun w => isPar_any k w
  by_cases hk : paramB k = true
  · rw [hk] at hp
    by_cases h0 : n < 0
    · have hr : getsR (bitAt l) (8 * l.length) at_ er k n = ([], 0, 1) := by unfold getsR; rw [if_neg (by omega)]
      rw [hr]
      have HP := Lib.hid hp; have HR := Lib.hid hR
      clear hp hr hR hk
      go_enter Try.func91, Try.ntmps91
      go_wp2_with (go_at_call 80; refine (HP.out _).mono ?_; rintro e w1 ⟨rfl, rfl⟩)
      go_ret2
      exact ⟨_, at_, er, rfl, Own.nil _ _ _, HR.out, World.grownBy.refl _ _, fun h => by simp at h⟩
    by_cases h1 : 4194304 < n
    · have hr : getsR (bitAt l) (8 * l.length) at_ er k n = ([], 0, 1) := by unfold getsR; rw [if_neg (by omega)]
      rw [hr]
      have HP := Lib.hid hp; have HR := Lib.hid hR
      clear hp hr hR hk
      go_enter Try.func91, Try.ntmps91
      go_wp2_with (go_at_call 80; refine (HP.out _).mono ?_; rintro e w1 ⟨rfl, rfl⟩)
      go_ret2
      exact ⟨_, at_, er, rfl, Own.nil _ _ _, HR.out, World.grownBy.refl _ _, fun h => by simp at h⟩
    by_cases he : er = 0
    · subst he
      obtain ⟨hk0, hk25⟩ := paramB_iff.1 hk
      obtain ⟨m, rfl⟩ := Int.eq_ofNat_of_zero_le hk0
      obtain ⟨n, rfl⟩ := Int.eq_ofNat_of_zero_le (by omega : 0 ≤ n)
      have hm25 : m ≤ 25 := by omega
      have hr : getsR (bitAt l) (8 * l.length) at_ 0 m n = rGets (bitAt l) (8 * l.length) m n at_ := by unfold getsR; rw [if_pos ⟨hk, by omega, by omega⟩, if_pos rfl, Int.toNat_natCast, Int.toNat_natCast]
      rw [hr]
      have hgl := (glue_nil _ (rGets_no (bitAt l) (8 * l.length) m n at_)).symm
      have hgc := fun (w1 : World) (a1 : Nat) (h : RdB w1 g l a1 0) => getCode_any h m hm25
      have hsu := rGets_succ (bitAt l) (8 * l.length) m
      have hbl := bleft_any hR
      obtain ⟨left, hle⟩ : ∃ left, 8 * l.length - at_ = left := ⟨_, rfl⟩
      rw [hle] at hbl
      have hl40 : left ≤ 8796093022208 := by
        obtain ⟨_, _, _, _, _, hll⟩ := hR
        omega
      obtain ⟨R, hRd⟩ : ∃ R, rGets (bitAt l) (8 * l.length) m n at_ = R := ⟨_, rfl⟩
      rw [hRd] at hgl ⊢
      obtain ⟨f, hf⟩ : ∃ f, bitAt l = f := ⟨_, rfl⟩
      obtain ⟨len, hl⟩ : ∃ len, 8 * l.length = len := ⟨_, rfl⟩
      rw [hf, hl] at hRd hgc hsu
      rw [← hRd] at hgl
      obtain ⟨m1, hm1⟩ : ∃ m1 : Nat, (m : Int) + 1 = (m1 : Nat) := ⟨m + 1, by omega⟩
      have hm1p : 1 ≤ m1 := by omega
      obtain ⟨q, hq, hql⟩ : ∃ q : Nat, (left : Int) / (m1 : Int) = (q : Nat) ∧ q ≤ 8796093022208 := ⟨left / m1, by simp, Nat.le_trans (Nat.div_le_self _ _) hl40⟩
      obtain ⟨c, hc⟩ : ∃ c : Nat, min (n : Int) (q : Int) = (c : Nat) := ⟨min n q, by omega⟩
      have hcn : c ≤ 4194304 := by omega
      have HP := Lib.hid hp; have HGC := Lib.hid hgc; have HBL := Lib.hid hbl; have HGL := Lib.hid hgl; have HRD := Lib.hid hRd; have HSU := Lib.hid hsu; have HR := Lib.hid hR
      clear hp hgc hbl hgl hRd hsu hr hk hk0 hk25 hle hf hl
      go_enter Try.func91, Try.ntmps91
      go_wp2_with (first
        | (go_at_call 80; refine (HP.out _).mono ?_; rintro e w1 ⟨rfl, rfl⟩)
        | (go_at_call 60; refine (berr_any HR.out).mono ?_; rintro e w1 ⟨rfl, rfl⟩)
        | (go_at_call 74; refine (HBL.out).mono ?_; rintro e w1 ⟨rfl, nd, rfl⟩)
        | (at_make; refine wpl_make0 Try.underlying22 info_int (by decide) (by omega) rfl rfl rfl rfl rfl (n := c) (h := ?_); intro w2 ho2 hb2; refine cut_here ?_))
      have hR2 : RdB w2 g l at_ 0 := RdB.below (w := w.drewN nd) HR.out hb2
      have hg2 : w.grownBy w2 (some g) := grown_trans (grown_drewN (World.grownBy.refl _ _) nd) (grown_of_below hb2 _)
      have ho2' : Own w2 w.heap.size 3 (.slice (some ⟨w.heap.size, 0, none⟩) 0 c) [] := ho2
      clear ho2 hb2
      unfold CutHere
      go_wp2
      go_loopw [9, 37] (fun v ii wr => ∃ (j a1 : Nat) (pre : List Int), j ≤ n ∧ pre.length = j ∧ ii = .int .i64 j ∧ Own wr w.heap.size 3 v (ci pre) ∧ RdB wr g l a1 0 ∧ w.grownBy wr (some g) ∧ Hid (R = glue pre (rGets f len m (n - j) a1))) (fun _ ii _ => n - (intOf ii).toNat)
      case atStart => exact ⟨0, at_, [], by omega, rfl, rfl, by simpa [ci] using ho2', hR2, hg2, by rw [← HRD.out]; exact HGL.out⟩
      case round =>
        clear hR2 hg2 ho2'
        obtain ⟨j, a1, pre, hj, hpl, rfl, ho, hRr, hgr, hglue⟩ := hrel
        have hgs := hgr.size
        by_cases hjn : j < n
        · have hss := HSU.out (n - (j + 1)) a1
          rw [show n - (j + 1) + 1 = n - j by omega] at hss
          have hgc := HGC.out wr a1 hRr
          generalize rGet1 f len m a1 = r1 at *
          obtain ⟨z1, a2, e1⟩ := r1
          simp only at hss hgc
          by_cases he1 : e1 = 0
          · subst he1
            rw [if_pos rfl] at hss
            rw [hss, glue_glue] at hglue
            have HGC1 := Lib.hid hgc
            have hx := fun w => unfold_any z1 w
            have HX := Lib.hid hx
            obtain ⟨cs, hblk⟩ := hRr.blk
            have ho1 := fun (w3 : World) (hg : wr.grownBy w3 (some g)) => ho.far hblk (by decide) hg
            have HO1 := Lib.hid ho1
            have hcl : (ci pre).length ≤ 4194304 := by rw [ci_len]; omega
            clear hgc hss hx ho1
            go_wp2_with (first
              | (go_at_call 101; refine (HGC1.out).mono ?_; rintro e w3 ⟨z, a3, e3, rfl, hR3, hg3, hok⟩; obtain ⟨rfl, rfl, rfl, hz⟩ := hok rfl)
              | (go_at_call 102; refine (HX.out _ hz).mono ?_; rintro e w4 ⟨rfl, rfl⟩)
              | (at_builtin; refine wpl_push (HO1.out w3 hg3) (Nat.le_trans hgs hg3.size) (by omega) Try.underlying22 info_int rfl (by decide) rfl rfl rfl rfl rfl (h := ?_); intro v5 w5 ho5 hm5; refine cut_here ?_))
            unfold CutHere
            have ho5' : Own w5 w.heap.size 3 v5 (ci (pre ++ [unfoldI z])) := by rw [ci_app]; exact ho5
            have hR5 := hR3.push (HO1.out w3 hg3) hm5
            have hg5 := grown_push (grown_trans hgr hg3) (HO1.out w3 hg3) hm5
            go_wp2
            exact ⟨⟨j + 1, a3, pre ++ [unfoldI z], by omega, by simp [hpl], by simp, ho5', hR5, hg5, hglue⟩, by simp [intOf]; omega⟩
          · rw [if_neg he1] at hss
            have hR0 : R = ([], 0, e1) := by rw [hglue.out, hss]; unfold glue; rw [if_neg he1]
            have hne : (e1 != 0) = true := by simpa using he1
            have HGC1 := Lib.hid hgc
            have HR0 := Lib.hid hR0
            clear hgc hss hR0
            go_wp2_with (go_at_call 101; refine (HGC1.out).mono ?_; rintro e w3 ⟨z, a3, e3, rfl, hR3, hg3, hok⟩)
            go_ret2
            rw [HR0.out]
            exact ⟨_, a3, e3, rfl, Own.nil _ _ _, hR3, grown_trans hgr hg3, fun h => absurd h he1⟩
        · have hjn' : n - j = 0 := by omega
          rw [hjn'] at hglue
          have hR0 : R = (pre, a1, 0) := by rw [hglue.out]; simp [rGets, glue]
          have HR0 := Lib.hid hR0
          clear hR0
          go_wp2
          go_ret2
          rw [HR0.out]
          exact ⟨_, a1, 0, rfl, ho, hRr, hgr, fun _ => ⟨rfl, rfl⟩⟩
    · have hr : getsR (bitAt l) (8 * l.length) at_ er k n = ([], 0, er) := by unfold getsR; rw [if_pos ⟨hk, by omega, by omega⟩, if_neg he]
      rw [hr]
      have hne : (er != 0) = true := by simpa using he
      have HP := Lib.hid hp; have HR := Lib.hid hR
      clear hp hr hR hk
      go_enter Try.func91, Try.ntmps91
      go_wp2_with (first
        | (go_at_call 80; refine (HP.out _).mono ?_; rintro e w1 ⟨rfl, rfl⟩)
        | (go_at_call 60; refine (berr_any HR.out).mono ?_; rintro e w1 ⟨rfl, rfl⟩))
      go_ret2
      exact ⟨_, at_, er, rfl, Own.nil _ _ _, HR.out, World.grownBy.refl _ _, fun h => absurd h he⟩
  · have hr : getsR (bitAt l) (8 * l.length) at_ er k n = ([], 0, 1) := by unfold getsR; rw [if_neg (fun h => hk h.1)]
    rw [hr]; rw [Bool.eq_false_iff.2 hk] at hp
    have HP := Lib.hid hp; have HR := Lib.hid hR
    clear hp hr hR hk
    go_enter Try.func91, Try.ntmps91
    go_wp2_with (go_at_call 80; refine (HP.out _).mono ?_; rintro e w1 ⟨rfl, rfl⟩)
    go_ret2
    exact ⟨_, at_, er, rfl, Own.nil _ _ _, HR.out, World.grownBy.refl _ _, fun h => by simp at h⟩
end Go.Proofs.Ytohbpjehphmedaa
