/- parts: a part of equal widths, and a part and its K, are read. -/
import Derived.Test.YtohbpjehphmedaaParT
import Derived.Test.YtohbpjehphmedaaParC
import Derived.Test.YtohbpjehphmedaaRicG
namespace Go.Proofs.Ytohbpjehphmedaa
open Go.RowKit
set_option maxRecDepth 100000
set_option maxHeartbeats 1600000

theorem rPart_raw (f : Nat → Bool) (len at_ s : Nat) : rPart f len at_ 31 s =
    if (rawsE f len (gGet f len at_ 0 5).1 s (gGet f len at_ 0 5).2.1 (gGet f len at_ 0 5).2.2).2.2 = 0 then
      (if widN (rawsE f len (gGet f len at_ 0 5).1 s (gGet f len at_ 0 5).2.1 (gGet f len at_ 0 5).2.2).1 = (gGet f len at_ 0 5).1 then rawsE f len (gGet f len at_ 0 5).1 s (gGet f len at_ 0 5).2.1 (gGet f len at_ 0 5).2.2 else ([], 0, 2))
    else ([], 0, (rawsE f len (gGet f len at_ 0 5).1 s (gGet f len at_ 0 5).2.1 (gGet f len at_ 0 5).2.2).2.2) := by
  have hlt : (gGet f len at_ 0 ((5 : Nat) : Int)).1 < 2 ^ 5 := gGet_lt
  rw [show ((5 : Nat) : Int) = 5 from rfl] at hlt
  unfold rPart
  rw [if_pos rfl]
  generalize gGet f len at_ 0 5 = r at *
  obtain ⟨x, a1, e1⟩ := r
  simp only at *
  by_cases h : e1 = 0
  · subst h
    obtain ⟨i1, i2⟩ := rawsE_raw (f := f) (len := len) (b := x) (by omega) s a1
    rw [if_pos rfl]
    by_cases h2 : (rRaw f len x s a1).2.2 = 0
    · rw [i2 h2]
    · rw [if_neg h2, i1, if_neg h2]
  · rw [if_neg h, rawsE_err _ _ _ h]
    simp only [if_neg h]
theorem fillP_set {pre : List Int} {s j : Nat} {x : Int} (hp : pre.length = j) (h : j < s) : (ci (pre ++ List.replicate (s - j) 0)).set j (.int .i64 x) = ci ((pre ++ [x]) ++ List.replicate (s - (j + 1)) 0) := by
  rw [ci_set, List.set_append_right _ _ (by omega), hp, Nat.sub_self, show s - j = (s - (j + 1)) + 1 by omega, List.replicate_succ, List.set_cons_zero, List.append_assoc]; rfl
theorem fillP_get {pre : List Int} {s j : Nat} (hp : pre.length = j) (h : j < s) : (ci (pre ++ List.replicate (s - j) 0))[j]? = some (.int .i64 0) := by
  unfold ci
  rw [List.getElem?_map, List.getElem?_append_right (by omega), hp, Nat.sub_self, List.getElem?_replicate, if_pos (by omega)]; rfl
theorem fillP_len {pre : List Int} {s j : Nat} (hp : pre.length = j) (h : j ≤ s) : (ci (pre ++ List.replicate (s - j) 0)).length = s := by simp [ci]; omega

theorem grown_fresh {w w1 w2 : World} {g G : Nat} (h : w.grownBy w1 (some g)) (k : w1.grownBy w2 (some G)) (hG : w.heap.size ≤ G) : w.grownBy w2 (some g) :=
  ⟨k.os.trans h.os, k.tape.trans h.tape, k.output.trans h.output, Nat.le_trans h.size k.size, fun i hi hn => (k.block i (Nat.lt_of_lt_of_le hi h.size) (by simp; omega)).trans (h.block i hi hn)⟩
def PartPost (r : List Int × Nat × Int) (g : Nat) (l : List Nat) (w : World) (e : Ending) (w' : World) : Prop :=
  ∃ (v' : Value) (a2 : Nat) (e2 : Int), e = .returned (.tuple #[v', .int .i64 r.2.2]) ∧ Own w' w.heap.size 3 v' (ci r.1) ∧ RdB w' g l a2 e2 ∧ w.grownBy w' (some g) ∧ (r.2.2 = 0 → a2 = r.2.1 ∧ e2 = 0)
theorem getRaw_any {w : World} {g at_ : Nat} {l : List Nat} (hR : RdB w g l at_ 0) (s : Nat) (hs : s ≤ 4194304) :
    Calls Try.prog 90 #[.pointer (some ⟨g, 0, none⟩), .int .i64 s] w (PartPost (rPart (bitAt l) (8 * l.length) at_ 31 s) g l w) := by
  rw [rPart_raw]
  have h5 := bget_any hR 5
  have hlt : (gGet (bitAt l) (8 * l.length) at_ 0 ((5 : Nat) : Int)).1 < 2 ^ 5 := gGet_lt
  rw [show ((5 : Nat) : Int) = 5 from rfl] at hlt
  generalize gGet (bitAt l) (8 * l.length) at_ 0 5 = r at *
  obtain ⟨x, a1, e1⟩ := r
  simp only at hlt h5 ⊢
  have hx31 : x ≤ 31 := by omega
  have hsg := fun (w1 : World) (a2 : Nat) (e2 : Int) (h : RdB w1 g l a2 e2) => bsigned_any h x
  have hsu := rawsE_succ (bitAt l) (8 * l.length) x
  have hT0 : rawsE (bitAt l) (8 * l.length) x s a1 e1 = ([] ++ (rawsE (bitAt l) (8 * l.length) x s a1 e1).1, (rawsE (bitAt l) (8 * l.length) x s a1 e1).2) := rfl
  have hTl := rawsE_len (bitAt l) (8 * l.length) x s a1 e1
  obtain ⟨f, hf⟩ : ∃ f, bitAt l = f := ⟨_, rfl⟩
  obtain ⟨len, hlen⟩ : ∃ len, 8 * l.length = len := ⟨_, rfl⟩
  rw [hf, hlen] at hsg hsu hT0 hTl ⊢
  obtain ⟨T, hT⟩ : ∃ T, rawsE f len x s a1 e1 = T := ⟨_, rfl⟩
  have hT0' : T = ([] ++ (rawsE f len x s a1 e1).1, (rawsE f len x s a1 e1).2) := by rw [← hT]; rfl
  rw [hT] at hTl ⊢
  have H5 := Lib.hid h5; have HSG := Lib.hid hsg; have HSU := Lib.hid hsu; have HT0 := Lib.hid hT0'; have HTL := Lib.hid hTl
  clear h5 hsg hsu hT0 hT0' hTl hT hf hlen hlt
  obtain ⟨V, ta, te⟩ := T
  simp only
  obtain ⟨R, hRR⟩ : ∃ R : List Int × Nat × Int, (if te = 0 then (if widN V = x then (V, ta, te) else ([], 0, 2)) else ([], 0, te)) = R := ⟨_, rfl⟩
  rw [hRR]
  have HRR := Lib.hid hRR
  clear hRR
  go_enter Try.func90, Try.ntmps90
  go_wp2_with fail
  refine H5.out.mono ?_
  rintro e w1 ⟨rfl, hR1, hg1⟩
  have hx64 : IntKind.i64.wrap ((x : Nat) : Int) = (x : Nat) := IntWalk.i64_in _ (by omega)
  go_wp2_with (at_make; refine wpl_make Try.underlying22 info_int rfl (by decide) (by omega) rfl rfl rfl rfl (n := s) (h := ?_); intro w2 ho2 hb2; refine cut_here ?_)
  unfold CutHere
  have hR2 := hR1.below hb2
  have hg2 := grown_trans hg1 (grown_of_below hb2 (some g))
  obtain ⟨G, hG⟩ : ∃ G, w1.heap.size = G := ⟨_, rfl⟩
  have hGw : w.heap.size ≤ G := by rw [← hG]; exact hg1.size
  rw [hG] at ho2 hb2 ⊢
  clear hG hb2 hg1 hR1
  go_wp2
  go_loopw [17] (fun ii wr => ∃ (j a2 : Nat) (e2 : Int) (pre : List Int), j ≤ s ∧ pre.length = j ∧ ii = .int .i64 j ∧ Own wr G 3 (.slice (some ⟨G, 0, none⟩) s s) (ci (pre ++ List.replicate (s - j) 0)) ∧ RdB wr g l a2 e2 ∧ w.grownBy wr (some g) ∧ Hid ((V, ta, te) = (pre ++ (rawsE f len x (s - j) a2 e2).1, (rawsE f len x (s - j) a2 e2).2))) (fun ii _ => s - (intOf ii).toNat)
  case atStart => exact ⟨0, a1, e1, [], by omega, rfl, rfl, by simpa [ci] using ho2, hR2, hg2, HT0.out⟩
  case round =>
    clear ho2 hR2 hg2
    obtain ⟨j, a2, e2, pre, hj, hpl, rfl, ho, hRr, hgr, hglue⟩ := hrel
    by_cases hjs : j < s
    · have hss := HSU.out (s - (j + 1)) a2 e2
      rw [show s - (j + 1) + 1 = s - j by omega] at hss
      have hS := HSG.out wr a2 e2 hRr
      rw [hss] at hglue
      generalize gSigned f len a2 e2 x = z at *
      generalize hq : gGet f len a2 e2 x = q at *
      obtain ⟨q1, a3, e3⟩ := q
      simp only at hS hglue
      obtain ⟨cs, hblk⟩ := hRr.blk
      have HS := Lib.hid hS
      clear hS hq hss
      go_wp2_with fail
      refine HS.out.mono ?_
      rintro e w3 ⟨rfl, hR3, hg3⟩
      have ho3 := ho.far hblk (by decide) hg3
      obtain ⟨g2, cc, hvv, hg2, _, _, hcells, hfro, hset⟩ := ho3.at_ (by rw [fillP_len hpl hj]; omega)
      injection hvv with i1 i2 i3
      injection i1 with i1; injection i1 with i1
      subst i1; subst i3
      have hck := hcells j (by rw [fillP_len hpl hj]; exact hjs)
      rw [fillP_get hpl hjs] at hck
      have hst := hset j (.int .i64 z)
      rw [fillP_set hpl hjs] at hst
      obtain ⟨cs3, hblk3⟩ := ho3.blk (k := G) rfl
      have HR4 := Lib.hid (hR3.only hblk3 (by decide) (grown_set w3 G j (.int .i64 z)) (by
        intro e; subst e
        have h1 := hR3.blk
        obtain ⟨c1, h1⟩ := h1
        rw [h1] at hblk3
        injection hblk3 with h2; injection h2 with _ h2
        exact absurd h2 (by decide)))
      have HST := Lib.hid hst
      have hfi := hfro j
      have hg4 : w.grownBy (w3.setCell ⟨G, j, none⟩ (.int .i64 z)) (some g) := grown_fresh (grown_trans hgr hg3) (grown_set w3 G j _) hGw
      clear hcells hfro hset hst i2 hblk hblk3
      go_wp2
      exact ⟨⟨j + 1, a3, e3, pre ++ [z], by omega, by simp [hpl], by simp, HST.out, HR4.out, hg4, by rw [hglue.out]; simp [Hid]⟩, by simp [intOf]; omega⟩
    · have hjs2 : s - j = 0 := by omega
      rw [hjs2, List.replicate_zero, List.append_nil] at ho
      rw [hjs2] at hglue
      have hgl := hglue.out
      rw [rawsE, List.append_nil] at hgl
      injection hgl with h1 h2
      injection h2 with h2 h3
      subst h1; subst h2; subst h3
      have HE := Lib.hid (berr_any hRr)
      have HW := Lib.hid (width_wid ho.sli (by omega))
      by_cases he : te = 0
      · subst he
        have hRR := HRR.out
        rw [if_pos rfl] at hRR
        by_cases hw : widN V = x
        · rw [if_pos hw] at hRR
          subst hRR
          have hwb : (((widN V : Nat) : Int) != (x : Int)) = false := by rw [hw]; simp
          generalize widN V = d at *
          go_wp2_with fail
          refine HE.out.mono ?_
          rintro e w3 ⟨rfl, rfl⟩
          go_wp2_with fail
          refine HW.out.mono ?_
          rintro e w3 ⟨rfl, rfl⟩
          go_wp2
          go_ret2
          exact ⟨_, ta, 0, rfl, ho.mono hGw, hRr, hgr, fun _ => ⟨rfl, rfl⟩⟩
        · rw [if_neg hw] at hRR
          subst hRR
          have hwb : (((widN V : Nat) : Int) != (x : Int)) = true := by simp only [bne_iff_ne, ne_eq]; omega
          generalize widN V = d at *
          go_wp2_with fail
          refine HE.out.mono ?_
          rintro e w3 ⟨rfl, rfl⟩
          go_wp2_with fail
          refine HW.out.mono ?_
          rintro e w3 ⟨rfl, rfl⟩
          go_wp2
          go_ret2
          exact ⟨_, ta, 0, rfl, Own.nil _ _ _, hRr, hgr, fun h => by simp at h⟩
      · have hRR := HRR.out
        rw [if_neg he] at hRR
        subst hRR
        have hne : (te != 0) = true := by simpa using he
        go_wp2_with fail
        refine HE.out.mono ?_
        rintro e w3 ⟨rfl, rfl⟩
        go_wp2
        go_ret2
        exact ⟨_, ta, te, rfl, Own.nil _ _ _, hRr, hgr, fun h => absurd h he⟩
def KPost (r : Int × List Int × Nat × Int) (g : Nat) (l : List Nat) (w : World) (e : Ending) (w' : World) : Prop :=
  ∃ (v' : Value) (a2 : Nat) (e2 : Int), e = .returned (.tuple #[.int .i64 r.1, v', .int .i64 r.2.2.2]) ∧ Own w' w.heap.size 3 v' (ci r.2.1) ∧ RdB w' g l a2 e2 ∧ w.grownBy w' (some g) ∧ (r.2.2.2 = 0 → a2 = r.2.2.1 ∧ e2 = 0)
theorem getPart_any {w : World} {g at_ : Nat} {l : List Nat} (hR : RdB w g l at_ 0) (s : Nat) (hs : s ≤ 4194304) :
    Calls Try.prog 75 #[.pointer (some ⟨g, 0, none⟩), .int .i64 s] w (KPost (kPart (bitAt l) (8 * l.length) at_ s) g l w) := by
  unfold kPart
  have h5 := bget_any hR 5
  have hlt : (gGet (bitAt l) (8 * l.length) at_ 0 ((5 : Nat) : Int)).1 < 2 ^ 5 := gGet_lt
  rw [show ((5 : Nat) : Int) = 5 from rfl] at hlt
  generalize gGet (bitAt l) (8 * l.length) at_ 0 5 = r at *
  obtain ⟨x, a1, e1⟩ := r
  simp only at hlt h5 ⊢
  have hx31 : x ≤ 31 := by omega
  have hx64 : IntKind.i64.wrap ((x : Nat) : Int) = (x : Nat) := IntWalk.i64_in _ (by omega)
  have H5 := Lib.hid h5
  clear h5 hlt
  by_cases he : e1 = 0
  · subst he
    rw [if_pos rfl]
    have hk := fun w => isK_any (x : Int) w
    by_cases h31 : x = 31
    · subst h31
      have hgr := fun (w1 : World) (h : RdB w1 g l a1 0) => getRaw_any h s hs
      rw [show ((31 : Nat) : Int) = 31 from rfl] at *
      generalize rPart (bitAt l) (8 * l.length) a1 31 s = R at *
      obtain ⟨V, ta, te⟩ := R
      rw [show kB 31 = true by decide] at hk
      have HGR := Lib.hid hgr; have HK := Lib.hid hk
      clear hgr hk
      go_enter Try.func75, Try.ntmps75
      go_wp2_with fail
      refine H5.out.mono ?_
      rintro e w1 ⟨rfl, hR1, hg1⟩
      go_wp2_with fail
      refine (berr_any hR1).mono ?_
      rintro e w2 ⟨rfl, rfl⟩
      go_wp2_with fail
      refine (HK.out _).mono ?_
      rintro e w2 ⟨rfl, rfl⟩
      go_wp2_with fail
      refine (HGR.out w1 hR1).mono ?_
      rintro e w3 ⟨v3, a3, e3, rfl, ho3, hR3, hg3, hok3⟩
      go_wp2
      go_ret3
      exact ⟨v3, a3, e3, rfl, ho3.mono hg1.size, hR3, grown_trans hg1 hg3, hok3⟩
    · by_cases hp : paramB (x : Int) = true
      · have hr : rPart (bitAt l) (8 * l.length) a1 (x : Int) s = getsR (bitAt l) (8 * l.length) a1 0 x s := by
          unfold rPart getsR
          rw [if_neg (by omega), if_pos hp, if_pos ⟨hp, by omega, by omega⟩, if_pos rfl, Int.toNat_natCast, Int.toNat_natCast]
        rw [hr]
        have hgr := fun (w1 : World) (h : RdB w1 g l a1 0) => rget_any h x s
        generalize getsR (bitAt l) (8 * l.length) a1 0 x s = R at *
        obtain ⟨V, ta, te⟩ := R
        rw [show kB (x : Int) = true by rw [kB_iff]; left; rw [paramB_iff] at hp; exact hp] at hk
        have hne : ((x : Int) == 31) = false := by simp only [beq_eq_false_iff_ne, ne_eq]; omega
        have HGR := Lib.hid hgr; have HK := Lib.hid hk
        clear hgr hk hr hp h31
        go_enter Try.func75, Try.ntmps75
        go_wp2_with fail
        refine H5.out.mono ?_
        rintro e w1 ⟨rfl, hR1, hg1⟩
        go_wp2_with fail
        refine (berr_any hR1).mono ?_
        rintro e w2 ⟨rfl, rfl⟩
        go_wp2_with fail
        refine (HK.out _).mono ?_
        rintro e w2 ⟨rfl, rfl⟩
        go_wp2_with fail
        refine (HGR.out w1 hR1).mono ?_
        rintro e w3 ⟨v3, a3, e3, rfl, ho3, hR3, hg3, hok3⟩
        go_wp2
        go_ret3
        exact ⟨v3, a3, e3, rfl, ho3.mono hg1.size, hR3, grown_trans hg1 hg3, hok3⟩
      · have hr : rPart (bitAt l) (8 * l.length) a1 (x : Int) s = ([], 0, 2) := by
          unfold rPart
          rw [if_neg (by omega), if_neg hp]
        rw [hr]
        rw [show kB (x : Int) = false by rw [kB_or, Bool.eq_false_iff.2 hp, decide_eq_false (by omega)]; rfl] at hk
        have HK := Lib.hid hk
        clear hk hr hp h31
        go_enter Try.func75, Try.ntmps75
        go_wp2_with fail
        refine H5.out.mono ?_
        rintro e w1 ⟨rfl, hR1, hg1⟩
        go_wp2_with fail
        refine (berr_any hR1).mono ?_
        rintro e w2 ⟨rfl, rfl⟩
        go_wp2_with fail
        refine (HK.out _).mono ?_
        rintro e w2 ⟨rfl, rfl⟩
        go_wp2
        go_ret3
        exact ⟨_, a1, 0, rfl, Own.nil _ _ _, hR1, hg1, fun h => by simp at h⟩
  · rw [if_neg he]
    have hne : (e1 != 0) = true := by simpa using he
    go_enter Try.func75, Try.ntmps75
    go_wp2_with fail
    refine H5.out.mono ?_
    rintro e w1 ⟨rfl, hR1, hg1⟩
    go_wp2_with fail
    refine (berr_any hR1).mono ?_
    rintro e w2 ⟨rfl, rfl⟩
    go_wp2
    go_ret3
    exact ⟨_, a1, e1, rfl, Own.nil _ _ _, hR1, hg1, fun h => absurd h he⟩
end Go.Proofs.Ytohbpjehphmedaa
