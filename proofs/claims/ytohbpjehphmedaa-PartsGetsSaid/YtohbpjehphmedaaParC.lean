/- parts: what a part costs, the parts of a row. -/
import Derived.Test.YtohbpjehphmedaaParM
import Derived.Test.YtohbpjehphmedaaRicS
import Derived.Test.YtohbpjehphmedaaSmpW
namespace Go.Proofs.Ytohbpjehphmedaa
open Go.RowKit
set_option maxRecDepth 100000
set_option maxHeartbeats 1600000

theorem width_wid {v : Value} {l : List Int} {w : World} {B : Nat} (hS : Sli w B v (ci l)) (hn : l.length ≤ 1099511627776) :
    Calls Try.prog 69 #[v] w fun e w' => e = .returned (.int .i64 (widN l : Nat)) ∧ w = w' :=
  (width_any v l w B hS hn).mono fun _ _ ⟨m, he, hm, hw⟩ => ⟨by rw [he, widN_of hm], hw⟩
theorem rwidth_wid {v : Value} {l : List Int} {w : World} {B : Nat} (hS : Sli w B v (ci l)) (hn : l.length ≤ 1099511627776) :
    Calls Try.prog 41 #[v] w fun e w' => e = .returned (.int .i64 (widN l : Nat)) ∧ w = w' :=
  (rwidth_any v l w B hS hn).mono fun _ _ ⟨m, he, hm, hw⟩ => ⟨by rw [he, widN_of hm], hw⟩
theorem widN_32 (l : List Int) : widN l ≤ 32 := (widN_is l).1

theorem partCost_any (k : Int) (v : Value) (l : List Int) (w : World) (B : Nat) (hS : Sli w B v (ci l)) (hn : l.length ≤ 1099511627776) :
    Calls Try.prog 48 #[.int .i64 k, v] w fun e w' => e = .returned (.int .i64 (5 + partCost k l : Nat)) ∧ w = w' := by
  have hw := fun w => fun (h : Sli w B v (ci l)) => width_wid h hn
  have h1 := hw w hS
  have h2 := sum_any k v l w B hS hn
  have hsl := sumI_le k l
  have h32 := widN_32 l
  obtain ⟨A, c, rfl, hlc, hcm⟩ := hS.formI
  have hpc : partCost k l = if k = 31 then 5 + l.length * widN l else sumI k l := rfl
  rw [hpc]
  clear hpc
  generalize sumI k l = s at *
  generalize widN l = d at *
  generalize l.length = n at *
  obtain ⟨P, hP⟩ : ∃ P, d * n = P := ⟨_, rfl⟩
  have hP2 : P ≤ 32 * n := by rw [← hP]; exact Nat.mul_le_mul_right n h32
  have hPI : (d : Int) * (n : Int) = (P : Nat) := by rw [← hP]; simp
  rw [Nat.mul_comm n d, hP]
  have H1 := Lib.hid h1; have H2 := Lib.hid h2
  clear h1 h2 hw hP hS
  by_cases hk : k = 31
  · subst hk
    rw [if_pos rfl]
    go_enter Try.func48, Try.ntmps48
    go_wp2_with (go_at_call 69; refine H1.out.mono ?_; rintro e w1 ⟨rfl, rfl⟩)
    go_ret
    refine ⟨?_, rfl⟩
    show Ending.returned (.int .i64 _) = _
    congr 2; omega
  · rw [if_neg hk]
    have hkb : (k == 31) = false := by simpa using hk
    clear hk
    go_enter Try.func48, Try.ntmps48
    go_wp2_with (go_at_call 40; refine H2.out.mono ?_; rintro e w1 ⟨rfl, rfl⟩)
    go_ret
    refine ⟨?_, rfl⟩
    show Ending.returned (.int .i64 _) = _
    congr 2
theorem qpartCost_any (k : Int) (v : Value) (l : List Int) (w : World) (B : Nat) (hS : Sli w B v (ci l)) (hn : l.length ≤ 1099511627776) :
    Calls Try.prog 49 #[.int .i64 k, v] w fun e w' => e = .returned (.int .i64 (partCost k l : Nat)) ∧ w = w' := by
  have hw := fun w => fun (h : Sli w B v (ci l)) => rwidth_wid h hn
  have h1 := hw w hS
  have h2 := qsum_any k v l w B hS hn
  have hsl := sumI_le k l
  have h32 := widN_32 l
  obtain ⟨A, c, rfl, hlc, hcm⟩ := hS.formI
  have hpc : partCost k l = if k = 31 then 5 + l.length * widN l else sumI k l := rfl
  rw [hpc]
  clear hpc
  generalize sumI k l = s at *
  generalize widN l = d at *
  generalize l.length = n at *
  obtain ⟨P, hP⟩ : ∃ P, d * n = P := ⟨_, rfl⟩
  have hP2 : P ≤ 32 * n := by rw [← hP]; exact Nat.mul_le_mul_right n h32
  have hPI : (n : Int) * (d : Int) = (P : Nat) := by rw [← hP, Int.mul_comm]; simp
  rw [Nat.mul_comm n d, hP]
  have H1 := Lib.hid h1; have H2 := Lib.hid h2
  clear h1 h2 hw hP hS
  by_cases hk : k = 31
  · subst hk
    rw [if_pos rfl]
    go_enter Try.func49, Try.ntmps49
    go_wp2_with (go_at_call 41; refine H1.out.mono ?_; rintro e w1 ⟨rfl, rfl⟩)
    go_ret
    refine ⟨?_, rfl⟩
    show Ending.returned (.int .i64 _) = _
    congr 2
  · rw [if_neg hk]
    have hkb : (k == 31) = false := by simpa using hk
    clear hk
    go_enter Try.func49, Try.ntmps49
    go_wp2_with (go_at_call 70; refine H2.out.mono ?_; rintro e w1 ⟨rfl, rfl⟩)
    go_ret
    exact ⟨rfl, rfl⟩

/-- Slice values, each of which reads as the row at its place. -/
def Slz (w : World) (B : Nat) (vs : List Value) (ps : List (List Int)) : Prop := vs.length = ps.length ∧ ∀ (i : Nat) (u : Value) (p : List Int), vs[i]? = some u → ps[i]? = some p → Sli w B u (ci p)
theorem Slz.nil (w : World) (B : Nat) : Slz w B [] [] := ⟨rfl, fun i u p h => by simp at h⟩
theorem Slz.below {w w' : World} {B : Nat} {vs : List Value} {ps : List (List Int)} (h : Slz w B vs ps) (hb : Below B w w') : Slz w' B vs ps := ⟨h.1, fun i u p h1 h2 => (h.2 i u p h1 h2).below hb⟩
theorem Slz.snoc {w : World} {B : Nat} {vs : List Value} {ps : List (List Int)} {u : Value} {p : List Int} (h : Slz w B vs ps) (hu : Sli w B u (ci p)) : Slz w B (vs ++ [u]) (ps ++ [p]) := by
  obtain ⟨hl, hh⟩ := h
  refine ⟨by simp [hl], fun i x q h1 h2 => ?_⟩
  rcases Nat.lt_trichotomy i vs.length with hi | hi | hi
  · rw [List.getElem?_append_left hi] at h1
    rw [List.getElem?_append_left (by omega)] at h2
    exact hh i x q h1 h2
  · subst hi
    rw [List.getElem?_append_right (Nat.le_refl _), Nat.sub_self] at h1
    rw [hl, List.getElem?_append_right (Nat.le_refl _), Nat.sub_self] at h2
    simp at h1 h2
    subst h1; subst h2
    exact hu
  · rw [List.getElem?_eq_none (by simp; omega)] at h1
    simp at h1
theorem Slz.get {w : World} {B i : Nat} {vs : List Value} {ps : List (List Int)} (h : Slz w B vs ps) (hi : i < ps.length) : ∃ u, vs[i]? = some u ∧ Sli w B u (ci ps[i]) := by
  have hv : i < vs.length := by rw [h.1]; exact hi
  exact ⟨vs[i], List.getElem?_eq_getElem hv, h.2 i _ _ (List.getElem?_eq_getElem hv) (List.getElem?_eq_getElem hi)⟩
theorem cuts_take : ∀ (ss : List Nat) (l : List Int) (i : Nat) (h : i < ss.length), cuts (ss.take (i + 1)) l = cuts (ss.take i) l ++ [(l.drop (ss.take i).sum).take ss[i]]
  | [], _, i, h => by simp at h
  | s :: ss, l, 0, _ => by simp [cuts]
  | s :: ss, l, i + 1, h => by
    have ih := cuts_take ss (l.drop s) i (by simpa using h)
    rw [List.take_succ_cons, cuts, ih, List.take_succ_cons, cuts]
    simp [List.drop_drop]
theorem cuts_take_eq : ∀ (ss : List Nat) (l : List Int) (i : Nat), (cuts ss l).take i = cuts (ss.take i) l
  | [], _, i => by simp [cuts]
  | s :: ss, l, 0 => by simp [cuts]
  | s :: ss, l, i + 1 => by rw [cuts, List.take_succ_cons, List.take_succ_cons, cuts, cuts_take_eq ss (l.drop s) i]
theorem cuts_get {ss : List Nat} {l : List Int} {i : Nat} (h : i < (cuts ss l).length) (h2 : i < ss.length) : (cuts ss l)[i] = (l.drop (ss.take i).sum).take ss[i] := by
  have e1 : (cuts ss l).take (i + 1) = cuts (ss.take (i + 1)) l := cuts_take_eq _ _ _
  have e2 : (cuts ss l).take i = cuts (ss.take i) l := cuts_take_eq _ _ _
  have e3 := cuts_take ss l i h2
  rw [← e1, ← e2, List.take_succ_eq_append_getElem h] at e3
  have := List.append_cancel_left e3
  simpa using this
theorem sum_take (ss : List Nat) (i : Nat) (h : i < ss.length) : (ss.take (i + 1)).sum = (ss.take i).sum + ss[i] := by
  rw [List.take_succ_eq_append_getElem h, List.sum_append]; simp
theorem sum_take_le : ∀ (ss : List Nat) (i : Nat), (ss.take i).sum ≤ ss.sum
  | [], i => by simp
  | s :: ss, 0 => by simp
  | s :: ss, i + 1 => by have := sum_take_le ss i; simp; omega
theorem fillV_get {vs : List Value} {m i : Nat} {z : Value} (hv : vs.length = i) (h : i < m) : (vs ++ List.replicate (m - i) z)[i]? = some z := by
  rw [List.getElem?_append_right (by omega), hv, Nat.sub_self, List.getElem?_replicate, if_pos (by omega)]
theorem fillV_set {vs : List Value} {m i : Nat} {z u : Value} (hv : vs.length = i) (h : i < m) : (vs ++ List.replicate (m - i) z).set i u = (vs ++ [u]) ++ List.replicate (m - (i + 1)) z := by
  rw [List.set_append_right _ _ (by omega), hv, Nat.sub_self, show m - i = (m - (i + 1)) + 1 by omega, List.replicate_succ, List.set_cons_zero, List.append_assoc]; rfl
theorem fillV_len {vs : List Value} {m i : Nat} {z : Value} (hv : vs.length = i) (h : i ≤ m) : (vs ++ List.replicate (m - i) z).length = m := by simp; omega

/-- 'make([]T, n)' where a T is longer. -/
theorem wpl_makeL {P : Program} {w : World} {e t : TypeId} {z : Value} {bytes n : Nat} (ht : P.underlying t = some (.slice e)) (hinf : (P.info? e).map (fun i => (i.zero, i.size, i.bytes)) = some (some z, 1, bytes)) (hz : z.cells = #[z]) (hb16 : bytes ≤ 64) (hroom : n ≤ 1099511627776)
    {ops : Array Oper} {rest : List Oper} {o : Oper} {a : Act} {Q : Exit → Act → World → Prop} {l c : Operand} {kl kc : IntKind} (hgd : o.guard = none)
    (ho : o.op = .makeSlice t l c) (hl : a.eval l = .int kl (n : Int)) (hc : a.eval c = .int kc (n : Int))
    (h : ∀ w', Own w' w.heap.size e (.slice (some ⟨w.heap.size, 0, none⟩) n n) (List.replicate n z) → Below w.heap.size w w' → wpList P ops Q rest (a.put o.dst (.slice (some ⟨w.heap.size, 0, none⟩) n n)) w') : wpList P ops Q (o :: rest) a w := by
  obtain ⟨i, hi, hz0, hz1, hz2⟩ := info_parts hinf
  have hle : bytes * n ≤ 281474976710656 := by
    have : bytes * n ≤ 64 * 1099511627776 := Nat.mul_le_mul hb16 hroom
    omega
  refine wpList_make_full w hgd l c t ho w.heap.size e i z 1 ht hi hz0 hz1 kl kc _ _ n hl hc rfl rfl (by rw [hz2]; exact hle) (by unfold maxLen; omega) (Nat.le_refl _) fun w' ho' hg' => ?_
  rw [hz, Nat.mul_one, toList_madeCells_one] at ho'
  exact h w' (by unfold Own; rw [List.length_replicate]; exact ho') ⟨hg'.os, hg'.tape, hg'.output, hg'.size, fun k hk => hg'.block k hk (by simp)⟩
theorem info_sInt : (Try.prog.info? 22).map (fun i => (i.zero, i.size, i.bytes)) = some (some (.slice none 0 0), 1, 24) := by kernel_rfl

theorem ci_drop (l : List Int) (a n : Nat) : ((ci l).drop a).take n = ci ((l.drop a).take n) := by simp [ci, List.map_take, List.map_drop]
theorem ci_take (l : List Int) (n : Nat) : (ci l).take n = ci (l.take n) := by simp [ci, List.map_take]
theorem ci_rest {l : List Int} {s t n' : Nat} (h : n' = l.length - s) : ((ci (l.drop s)).drop t).take (n' - t) = ci (l.drop (s + t)) := by
  rw [ci_drop, List.drop_drop, List.take_of_length_le (by rw [List.length_drop]; omega)]
theorem split_any (va vs : Value) (l : List Int) (ss : List Nat) (w : World) (B B2 : Nat) (hS : Sli w B va (ci l)) (hB : B ≤ w.heap.size) (hs : Sli w B2 vs (ci (ints ss))) (hB2 : B2 ≤ w.heap.size) (hl : l.length ≤ 1099511627776) (hss : ss.length ≤ 1099511627776) (hsum : ss.sum ≤ l.length) :
    Calls Try.prog 47 #[va, vs] w fun e w' => ∃ v' vals, e = .returned v' ∧ Own w' w.heap.size 22 v' vals ∧ Slz w' B vals (cuts ss l) ∧ Below w.heap.size w w' := by
  obtain ⟨A1, c1, rfl, hlc1, hcm1⟩ := hS.formI
  obtain ⟨A2, c2, rfl, hlc2, hcm2⟩ := hs.formI
  rw [ints_len] at *
  obtain ⟨n, hnl⟩ : ∃ n, l.length = n := ⟨_, rfl⟩
  obtain ⟨m, hml⟩ : ∃ m, ss.length = m := ⟨_, rfl⟩
  have HL := Lib.hid hnl; have HM := Lib.hid hml; have HSUM := Lib.hid hsum
  rw [hnl] at hS hlc1 hl ⊢
  rw [hml] at hs hlc2 hss ⊢
  clear hnl hml hsum
  go_enter Try.func47, Try.ntmps47
  go_wp2_with (at_make; refine wpl_makeL Try.underlying74 info_sInt rfl (by decide) hss rfl rfl rfl rfl (n := m) (h := ?_); intro w2 ho2 hb2; refine cut_here ?_)
  unfold CutHere
  obtain ⟨G, hG⟩ : ∃ G, w.heap.size = G := ⟨_, rfl⟩
  have HG := Lib.hid hG
  rw [hG] at ho2 hb2 hB hB2 ⊢
  clear hG
  go_wp2
  go_loopw [0, 13] (fun vl ii wr => ∃ (i n' c' : Nat) (A' : Option Addr) (vals : List Value), i ≤ m ∧ vals.length = i ∧ n' ≤ c' ∧ c' ≤ maxLen ∧ vl = .slice A' n' c' ∧ ii = .int .i64 i ∧ Own wr G 22 (.slice (some ⟨G, 0, none⟩) m m) (vals ++ List.replicate (m - i) (.slice none 0 0)) ∧ Below G w wr ∧ Sli wr B (.slice A' n' c') (ci (l.drop (ss.take i).sum)) ∧ Slz wr B vals (cuts (ss.take i) l)) (fun _ ii _ => m - (intOf ii).toNat)
  case atStart => exact ⟨0, n, c1, A1, [], by omega, rfl, hlc1, hcm1, rfl, rfl, by simpa using ho2, hb2, by simpa using hS.below (hb2.mono hB), Slz.nil _ _⟩
  case round =>
    obtain ⟨i, n', c', A', vals, hi, hv, hnc, hcm, rfl, rfl, ho, hb, hSl, hz⟩ := hrel
    by_cases him : i < m
    · have hil : i < ss.length := by rw [HM.out]; exact him
      obtain ⟨b, o, rfl, hb1, hcell⟩ := (hs.below (hb.mono hB2)).atI (l := ints ss) (by rw [ints_len]; exact hil)
      rw [ints_at hil] at hcell
      have htk := cuts_take ss l i hil
      have hst := sum_take ss i hil
      have hsl := sum_take_le ss (i + 1)
      have hn' : n' = l.length - (ss.take i).sum := by
        have := hSl.hasn.1
        rw [ci_len, List.length_drop] at this; exact this
      have htn : ss[i] ≤ n' := by have := HSUM.out; omega
      rw [hst] at hsl
      obtain ⟨g2, cc, hvv, hg2, _, _, hcells, hfro, hset⟩ := ho.at_ (by rw [fillV_len hv hi]; omega)
      injection hvv with e1 e2 e3
      injection e1 with e1; injection e1 with e1
      subst e1; subst e3
      have hck := hcells i (by rw [fillV_len hv hi]; exact him)
      rw [fillV_get hv him] at hck
      have hset2 := fun u => hset i u
      simp only [fillV_set hv him] at hset2
      have hfi := hfro i
      generalize ss[i] = t at *
      have hh := hSl.head htn
      rw [ci_take] at hh
      have HSET := Lib.hid hset2; have HST := Lib.hid hst; have HTK := Lib.hid htk; have HN := Lib.hid hn'
      have htI : (t : Int) ≤ (n' : Int) := by omega
      have htc : (t : Int) ≤ (c' : Int) := by omega
      have hiI : (i : Int) < (m : Int) := by omega
      clear hcells hfro hset hset2 hst htk hn' e2 hsl hil
      by_cases hc : c' = t
      · have hS2 := Sli.tip (w := wr) (B := B) (A := A') (xs := ci (l.drop (ss.take i).sum)) (c := c') (by have := hSl.hasn.1; omega) t (n' - t) (by have := hSl.hasn.1; omega) hc
        have HE : (c' = t) = True := eq_true hc
        have HZ : c' - t = 0 := by omega
        have HC := Lib.hid hc
        clear hc
        go_wp2
        go_region
        go_wp2
        have hbn := hb.setCell (p := ⟨G, i, none⟩) (Nat.le_refl _) (.slice A' t c')
        have hbB := ((Below.refl B wr).setCell (p := ⟨G, i, none⟩) hB (.slice A' t c')).drew
        rw [ci_rest HN.out, ← HST.out] at hS2
        exact ⟨⟨i + 1, n' - t, 0, _, vals ++ [.slice A' t c'], by omega, by rw [List.length_append, hv]; rfl, by omega, by omega, rfl, by simp, (HSET.out _).drew, hbn.drew, hS2.below hbB, by rw [HTK.out]; exact (hz.snoc hh).below hbB⟩, by simp [intOf]; omega⟩
      · go_wp2
        go_region
        go_wp2
        have hS2 := hSl.mid2 t (n' - t) (by omega)
        have hbn := hb.setCell (p := ⟨G, i, none⟩) (Nat.le_refl _) (.slice A' t c')
        have hbB := ((Below.refl B wr).setCell (p := ⟨G, i, none⟩) hB (.slice A' t c')).drew
        rw [ci_rest HN.out, ← HST.out] at hS2
        exact ⟨⟨i + 1, n' - t, c' - t, _, vals ++ [.slice A' t c'], by omega, by rw [List.length_append, hv]; rfl, by omega, by omega, rfl, by simp, (HSET.out _).drew, hbn.drew, hS2.below hbB, by rw [HTK.out]; exact (hz.snoc hh).below hbB⟩, by simp [intOf]; omega⟩
    · have hmm : i = ss.length := by rw [HM.out]; omega
      rw [hmm, List.take_length] at hz
      have him2 : m - i = 0 := by omega
      rw [him2, List.replicate_zero, List.append_nil] at ho
      go_wp2
      go_ret
      exact ⟨_, vals, rfl, by rw [HG.out]; exact ho, hz, by rw [HG.out]; exact hb⟩
end Go.Proofs.Ytohbpjehphmedaa
