/- prefix: the rows of coins and packages. -/
import Derived.Test.YthecibabpcfoaaaPfxK
import Derived.Test.YthecibabpcfoaaaPfxM
import Derived.Test.YthecibabpcfoaaaPfxN
import Derived.Test.YthecibabpcfoaaaPfxH
namespace Go.Proofs.Ythecibabpcfoaaa
open Go.RowKit Go.Shelf
set_option maxRecDepth 100000
set_option maxHeartbeats 4000000

theorem info_sElt : (Try.prog.info? 65).map (fun i => (i.zero, i.size, i.bytes)) = some (some (.slice none 0 0), 1, 24) := by kernel_rfl
/-- 'all = append(all, row)'. -/
theorem wpl_pushS {w : World} {base : Nat} {v : Value} {xs : List Value} (hown : Own w base 65 v xs) (hbase : base ≤ w.heap.size) (hroom : xs.length + 1 ≤ 1048576)
    {ops : Array Oper} {rest : List Oper} {o : Oper} {a : Act} {Q : Exit → Act → World → Prop} {s x : Operand} {u : Value} (hgd : o.guard = none)
    (ho : o.op = .call { callee := .builtin .append, args := #[s, x], argTypes := #[64, 64] })
    (hs : a.eval s = v) {k : Nat} (hx : a.eval x = .slice (some ⟨k, 0, none⟩) 1 1) (hu : u.oneCell' = true) (hk : k = w.heap.size := by simp)
    (h : ∀ v' w', Own w' base 65 v' (xs ++ [u]) → (∀ g, Mov w w' g v v') → wpList Try.prog ops Q rest (a.put o.dst v') w') : wpList Try.prog ops Q (o :: rest) a (w.alloc (.cells #[u] 65)) := by
  subst hk
  obtain ⟨i, hi, hz0, hz1, hz2⟩ := info_parts info_sElt
  have hown' := World.ownsRow.alloc hown (.cells #[u] 65)
  refine wpList_append_own_at _ hgd s x 64 ho base 65 i _ 1 24 Try.underlying64 hi hz0 hz1 hz2 rfl (by decide) v _ xs hs hown' ⟨w.heap.size, 0, none⟩ 1 1 [u] hx rfl (cell_one_new w u 65) ?_ ?_ ?_ ?_ ?_
  · intro u' hu'; simp at hu'; subst hu'; exact hu
  · unfold maxLen; omega
  · omega
  · simp; omega
  · intro v' w' ho' hg' _ hv'
    have h1 : Below w.heap.size w (w.alloc (.cells #[u] 65)) := (Below.refl _ _).alloc (Nat.le_refl _) _
    refine h v' w' (by unfold Own; simpa using ho') fun g => ?_
    refine (Mov.of_below h1).grown hg' fun k hk => ?_
    rcases hv' with e | e
    · exact .inl (e ▸ hk)
    · rw [e] at hk; injection hk with hk; exact .inr (by omega)
theorem Els.moved {w w' : World} {base : Nat} {u v v' : Value} {es : List (Nat × Bool)} (h : Els w base u es) (hm : ∀ g, Mov w w' g v v') (ha : ∀ k, u.ownBlock = some k → v.ownBlock ≠ some k) : Els w' base u es := by
  rcases h.2 with ⟨rfl, h0⟩ | ⟨k, cap, cur, rfl, hb, hk, r⟩
  · exact ⟨h.1, .inl ⟨rfl, h0⟩⟩
  · have hlt := (Array.getElem?_eq_some_iff.1 hk).1
    refine ⟨h.1, .inr ⟨k, cap, cur, rfl, hb, ?_, r⟩⟩
    rw [(hm (k + 1)).block k hlt (by omega) (fun e' => ha k rfl e')]
    exact hk
theorem Els.grownOf {w w' : World} {base g : Nat} {u : Value} {es : List (Nat × Bool)} (h : Els w base u es) (hg : w.grownBy w' (some g)) (ha : u.ownBlock ≠ some g) : Els w' base u es := by
  refine World.ownsRow.kept (row := some g) h hg ?_
  rcases hu : u.ownBlock with _ | k
  · exact .inl rfl
  · right; intro e; rw [hu] at ha; exact ha e

theorem wsum_perm {a b : List Thing} (h : a.Perm b) : wsum a = wsum b := by unfold wsum; exact (h.map _).sum_nat
theorem wsum_app (a b : List Thing) : wsum (a ++ b) = wsum a + wsum b := by simp [wsum]
theorem wsum_rows (c : List Thing) : ∀ j, wsum (rowsM c j) ≤ (j + 1) * wsum c
  | 0 => by show wsum c ≤ _; omega
  | j + 1 => by
    have ih := wsum_rows c j
    show wsum (mrg c (pack (rowsM c j))) ≤ _
    rw [wsum_perm (mrg_perm _ _), wsum_app]
    have := wsum_pack (rowsM c j)
    rw [Nat.add_mul (j + 1) 1, Nat.one_mul]
    omega
theorem wsum_mem {c : List Thing} {t : Thing} (h : t ∈ c) : t.1 ≤ wsum c := by
  induction c with
  | nil => simp at h
  | cons a c ih =>
    rw [wsum_cons]
    rcases List.mem_cons.1 h with rfl | h
    · omega
    · have := ih h; omega
theorem wsum_le {c : List Thing} {M : Nat} (h : ∀ t ∈ c, t.1 ≤ M) : wsum c ≤ c.length * M := by
  induction c with
  | nil => simp [wsum]
  | cons a c ih =>
    rw [wsum_cons, List.length_cons, Nat.add_mul, Nat.one_mul]
    have := ih fun t ht => h t (List.mem_cons_of_mem _ ht)
    have := h a (List.mem_cons_self ..)
    omega
theorem rowsE_weight {c : List Thing} {j : Nat} (hl : c.length ≤ 1024) (hM : ∀ t ∈ c, t.1 ≤ 1099511627776) (hj : j ≤ 23) : ∀ e ∈ rowsE c j, e.1 ≤ 2305843009213693951 := by
  intro e he
  obtain ⟨t, ht, rfl⟩ := List.mem_map.1 he
  have h1 : t.1 ∈ rowsM c j := by rw [← rowsT_fst]; exact List.mem_map.2 ⟨t, ht, rfl⟩
  have h2 := wsum_mem h1
  have h3 := wsum_rows c j
  have h4 := wsum_le hM
  have h5 : c.length * 1099511627776 ≤ 1024 * 1099511627776 := Nat.mul_le_mul_right _ hl
  have h6 : (j + 1) * wsum c ≤ 24 * (1024 * 1099511627776) := Nat.mul_le_mul (by omega) (Nat.le_trans h4 h5)
  show t.1.1 ≤ _
  exact Nat.le_trans (Nat.le_trans h2 h3) (Nat.le_trans h6 (by decide))
theorem rowsE_small {c : List Thing} {j : Nat} (h1 : 1 ≤ c.length) : (rowsE c j).length ≤ 2 * c.length - 1 := by rw [rowsE_len]; exact rowsM_small c h1 j
theorem rowsE_big {c : List Thing} {j : Nat} : c.length ≤ (rowsE c j).length := by
  rw [rowsE_len]
  cases j with
  | zero => exact Nat.le_refl _
  | succ j => rw [rowsM_len]; omega
/-- The rows that are there. -/
def AllE (w : World) (base : Nat) (c : List Thing) (vals : List Value) : Prop := ∀ j, j < vals.length → ∃ u, vals[j]? = some u ∧ Els w base u (rowsE c j)
theorem AllE.kept {w w' : World} {base : Nat} {c : List Thing} {vals : List Value} (h : AllE w base c vals) (hb : Below w.heap.size w w') : AllE w' base c vals := fun j hj => by
  obtain ⟨u, h1, h2⟩ := h j hj; exact ⟨u, h1, h2.kept hb⟩
theorem AllE.snoc {w : World} {base : Nat} {c : List Thing} {vals : List Value} {u : Value} (h : AllE w base c vals) (hu : Els w base u (rowsE c vals.length)) : AllE w base c (vals ++ [u]) := fun j hj => by
  rw [List.length_append, List.length_singleton] at hj
  rcases Nat.lt_or_eq_of_le (Nat.le_of_lt_succ hj) with h1 | rfl
  · obtain ⟨x, h2, h3⟩ := h j h1
    exact ⟨x, by rw [List.getElem?_append_left h1]; exact h2, h3⟩
  · exact ⟨u, by simp, hu⟩
theorem coins_el (F : Nat → Nat) (ss : List Nat) : rowsE (coinsF F ss) 0 = ss.map fun s => (F s, true) := by
  unfold rowsE rowsT coinT coinsF
  rw [List.map_map, List.map_map]
  rfl

def slen : Value → Nat
  | .slice _ n _ => n
  | _ => 0
def RowsPost (c : List Thing) (L : Nat) (S0 : Nat) (w : World) (e : Ending) (w' : World) : Prop := ∃ v' vals, e = .returned v' ∧ Own w' S0 65 v' vals ∧ vals.length = L ∧ AllE w' S0 c vals ∧ Below S0 w w'
theorem rows_any {w : World} {Bf Bu : Nat} {vf vu : Value} {fs ss : List Nat} {L : Nat} (hf : Sli w Bf vf (ci (ni fs))) (hu : Sli w Bu vu (ci (ni ss))) (hBf : Bf ≤ w.heap.size) (hBu : Bu ≤ w.heap.size) (hL1 : 1 ≤ L) (hL2 : L ≤ 24)
    (hs2 : 2 ≤ ss.length) (hs3 : ss.length ≤ 1024) (hlt : ∀ s ∈ ss, s < fs.length) (hM : ∀ x ∈ fs, x ≤ 1099511627776) (hris : Rises (coinsF (atN fs) ss)) :
    Calls Try.prog 38 #[vf, vu, .int .i64 L] w (RowsPost (coinsF (atN fs) ss) L w.heap.size w) := by
  obtain ⟨A1, k1, rfl, hk1, hm1⟩ := hf.formI
  obtain ⟨A2, k2, rfl, hk2, hm2⟩ := hu.formI
  have hcl : (coinsF (atN fs) ss).length = ss.length := coinsF_len _ _
  have hcw : ∀ t ∈ coinsF (atN fs) ss, t.1 ≤ 1099511627776 := by
    intro t ht
    obtain ⟨s, _, rfl⟩ := List.mem_map.1 ht
    exact atN_le hM s
  have hc0 := coins_el (atN fs) ss
  obtain ⟨c, hc⟩ : ∃ c, coinsF (atN fs) ss = c := ⟨_, rfl⟩
  rw [hc] at hcl hcw hc0 hris ⊢
  obtain ⟨u, hul⟩ : ∃ u, ss.length = u := ⟨_, rfl⟩
  obtain ⟨n, hnl⟩ : ∃ n, fs.length = n := ⟨_, rfl⟩
  rw [ni_len] at hf hu hk1 hk2 ⊢
  rw [ni_len]
  rw [hul] at hu hk2 hs2 hs3 hcl ⊢
  rw [hnl] at hf hk1 hlt ⊢
  obtain ⟨S0, hs0⟩ : ∃ S0, w.heap.size = S0 := ⟨_, rfl⟩
  rw [hs0] at hBf hBu ⊢
  have HF := Lib.hid hf; have HU := Lib.hid hu; have HLT := Lib.hid hlt; have HCW := Lib.hid hcw; have HC0 := Lib.hid hc0; have HRIS := Lib.hid hris; have HCL := Lib.hid hcl; have HUL := Lib.hid hul; have HNL := Lib.hid hnl; have HS0 := Lib.hid hs0
  clear hf hu hlt hcw hc0 hris hcl hul hnl hc hM
  go_enter Try.func38, Try.ntmps38
  go_wp2
  go_loopw [7, 14] (fun v7 vi wr => ∃ k : Nat, k ≤ u ∧ vi = .int .i64 k ∧ Els wr S0 v7 ((rowsE c 0).take k) ∧ Below S0 w wr) (fun _ vi _ => u - (intOf vi).toNat)
  case atStart => exact ⟨0, Nat.zero_le _, rfl, by simpa using Els.nil w S0, Below.refl _ _⟩
  case round =>
    obtain ⟨k, hk, rfl, hE, hb⟩ := hrel
    have hszw : S0 ≤ wr.heap.size := by have := hb.size; have := HS0.out; omega
    by_cases hlt : k < u
    · have hks : k < ss.length := by rw [HUL.out]; exact hlt
      obtain ⟨b2, o2, rfl, _, q2⟩ := (HU.out.below (hb.mono hBu)).atI (i := k) (by rw [ni_len]; exact hks)
      rw [ni_at hks] at q2
      have hsl : atN ss k < n := HLT.out _ (by rw [atN_get hks]; exact List.getElem_mem hks)
      obtain ⟨b1, o1, rfl, _, q1⟩ := (HF.out.below (hb.mono hBf)).atI (i := atN ss k) (by rw [ni_len, HNL.out]; exact hsl)
      rw [ni_at (by rw [HNL.out]; exact hsl)] at q1
      have hk0 : k < (rowsE c 0).length := by rw [HC0.out, List.length_map]; exact hks
      have htk := List.take_succ_eq_append_getElem hk0
      have hge : (rowsE c 0)[k] = (atN fs (atN ss k), true) := by simp only [HC0.out, List.getElem_map, atN_get hks]
      rw [hge] at htk
      have HTK := Lib.hid htk
      have hlen : ((rowsE c 0).take k).length ≤ 1024 := by rw [List.length_take]; omega
      clear htk hge hk0
      obtain ⟨s, hs⟩ : ∃ s, atN ss k = s := ⟨_, rfl⟩
      rw [hs] at q1 q2 hsl HTK
      obtain ⟨x, hx⟩ : ∃ x, atN fs s = x := ⟨_, rfl⟩
      rw [hx] at q1 HTK
      clear hs hx
      go_wp2_with (at_builtin; refine wpl_push2 (f := (x, true)) hE hszw (by omega) rfl rfl rfl rfl (h := ?_); intro v6 w6 ho6 hm6)
      refine ⟨⟨k + 1, by omega, by simp, by rw [HTK.out]; exact ho6, hb.trans ((hm6 (S0 + wr.heap.size)).below (by omega) (fun k hk => (hE.lt k hk).1) hszw)⟩, by simp [intOf]; omega⟩
    · have : k = u := by omega
      subst this
      rw [List.take_of_length_le (by rw [HC0.out, List.length_map, HUL.out]; exact Nat.le_refl _)] at hE
      have hrl : (rowsE c 0).length = k := by rw [HC0.out, List.length_map, HUL.out]
      obtain ⟨A7, c7, rfl, hc7, hm7⟩ := hE.form
      rw [hrl] at hE hc7 ⊢
      have hb1 : Below S0 w (wr.alloc (.cells #[.slice A7 k c7] 65)) := hb.alloc hszw _
      have hE1 : Els (wr.alloc (.cells #[.slice A7 k c7] 65)) S0 (.slice A7 k c7) (rowsE c 0) := World.ownsRow.alloc hE _
      have hO1 : Own (wr.alloc (.cells #[.slice A7 k c7] 65)) S0 65 (.slice (some ⟨wr.heap.size, 0, none⟩) 1 1) [.slice A7 k c7] := World.ownsRow_lit wr #[.slice A7 k c7] 1 hszw (by decide) rfl
      go_wp2
      generalize hwa : wr.alloc (.cells #[.slice A7 k c7] 65) = wa at *
      have HWA := Lib.hid hwa
      clear hwa hE hb
      go_loopw [10] (fun v10 w2 => ∃ vals : List Value, 1 ≤ vals.length ∧ vals.length ≤ L ∧ Own w2 S0 65 v10 vals ∧ AllE w2 S0 c vals ∧ vals[0]? = some (.slice A7 k c7) ∧ Below S0 w w2) (fun v10 _ => L - slen v10)
      case atStart => exact ⟨[.slice A7 k c7], by simp, by simpa using hL1, hO1, fun j hj => by
        have : j = 0 := by simpa using hj
        subst this; exact ⟨_, rfl, hE1⟩, rfl, hb1⟩
      case round =>
        obtain ⟨vals, hv1, hvL, hO, hAll, hv0, hb2⟩ := hrel
        clear hO1 hE1 hb1
        obtain ⟨g10, c10, rfl, hg10, hl10, hm10, hcell, hfro, _⟩ := hO.at_ (by omega)
        obtain ⟨m, hm⟩ : ∃ m, vals.length = m := ⟨_, rfl⟩
        rw [hm] at hv1 hvL hO hl10 hcell ⊢
        have hsz2 : S0 ≤ wr.heap.size := by have := hb2.size; have := HS0.out; omega
        by_cases hlt2 : m < L
        · obtain ⟨vl, hvl, hEl⟩ := hAll (m - 1) (by omega)
          obtain ⟨v7, hv7, hE7⟩ := hAll 0 (by omega)
          rw [hv0] at hv7
          injection hv7 with hv7
          subst hv7
          have hcl := (hcell (m - 1) (by omega)).trans hvl
          have hq1 : (m : Int) - 1 = ((m - 1 : Nat) : Int) := by omega
          have hwt := rowsE_weight (c := c) (j := m - 1) (by rw [HCL.out]; omega) HCW.out (by omega)
          have hsmall := rowsE_small (c := c) (j := m - 1) (by rw [HCL.out]; omega)
          have hbig := rowsE_big (c := c) (j := m - 1)
          rw [HCL.out] at hsmall hbig
          have hP := packages_any (hEl.sle) (Nat.le_refl _) (by omega) hwt
          obtain ⟨A9, c9, rfl, hc9, hm9⟩ := hEl.form
          obtain ⟨l9, hl9⟩ : ∃ l9, (rowsE c (m - 1)).length = l9 := ⟨_, rfl⟩
          rw [hl9] at hc9 hsmall hbig hEl hP hvl hcl
          have hpl := packE_len (rowsE c (m - 1))
          rw [hl9] at hpl
          have HL9 := Lib.hid hl9; have HM := Lib.hid hm
          have HP := Lib.hid hP; have HEL := Lib.hid hEl; have HALL := Lib.hid hAll; have HO := Lib.hid hO; have HE7 := Lib.hid hE7; have HV0 := Lib.hid hv0
          clear hP hwt hl9 hm hEl hAll hO hE7 hv0 hvl
          go_wp2_with fail
          refine HP.out.mono ?_
          rintro e w3 ⟨v9, rfl, hE9, hb3⟩
          obtain ⟨A8, c8, rfl, hc8, hm8⟩ := hE9.form
          rw [hpl] at hc8 hE9 ⊢
          have hE73 := HE7.out.kept hb3
          have hw4 : (w3.alloc (.cells #[.slice A7 k c7, .slice A8 (l9 / 2) c8] 65)).heap.size = w3.heap.size + 1 := by simp
          have hnew := heap_alloc_new w3 (.cells #[.slice A7 k c7, .slice A8 (l9 / 2) c8] 65)
          have hE74 : Els (w3.alloc (.cells #[.slice A7 k c7, .slice A8 (l9 / 2) c8] 65)) S0 (.slice A7 k c7) (rowsE c 0) := World.ownsRow.alloc hE73 _
          have hE94 : Els (w3.alloc (.cells #[.slice A7 k c7, .slice A8 (l9 / 2) c8] 65)) wr.heap.size (.slice A8 (l9 / 2) c8) (packE (rowsE c (m - 1))) := World.ownsRow.alloc hE9 _
          have hCC := concat_any hE74.sle hE94.sle (Nat.le_refl _) (by rw [hrl]; omega) (by rw [hrl, hpl]; omega) (by rw [hrl]; omega) (by rw [hpl]; omega) (g := w3.heap.size)
            (by rw [cell_of_row _ _ _ _ _ _ hnew]; rfl) (by rw [cell_of_row _ _ _ _ _ _ hnew]; rfl) (by omega)
          have HCC := Lib.hid hCC; have HE94 := Lib.hid hE94
          have hb4 : Below wr.heap.size wr (w3.alloc (.cells #[.slice A7 k c7, .slice A8 (l9 / 2) c8] 65)) := hb3.alloc hb3.size _
          clear hCC hE73 hE74 hE94 hE9 hnew
          generalize hw4' : w3.alloc (.cells #[.slice A7 k c7, .slice A8 (l9 / 2) c8] 65) = w4 at *
          have HW4 := Lib.hid hw4
          clear hw4
          go_wp2_with fail
          refine HCC.out.mono ?_
          rintro e w5 ⟨v5, rfl, hE5, hb5⟩
          have hlen5 : (rowsE c 0 ++ packE (rowsE c (m - 1))).length = k + l9 / 2 := by rw [List.length_append, hrl, hpl]
          obtain ⟨A5, c5, rfl, hc5, hm5⟩ := hE5.form
          rw [hlen5] at hE5 hc5
          obtain ⟨g5, rfl⟩ : ∃ g5, A5 = some ⟨g5, 0, none⟩ := by
            rcases hE5.2 with ⟨h', h0⟩ | ⟨g', cap', cur, h', _⟩
            · rw [hlen5] at h0; omega
            · simp only [Value.slice.injEq] at h'; exact ⟨g', h'.1⟩
          rw [hlen5]
          have HE5 := Lib.hid hE5
          clear hE5
          have hlt5 := HE5.out.lt g5 (by simp [Value.ownBlock])
          have hw6 : (w5.alloc (.cells #[.slice (some ⟨g5, 0, none⟩) (k + l9 / 2) c5] 65)).heap.size = w5.heap.size + 1 := by simp
          have hnew6 := heap_alloc_new w5 (.cells #[.slice (some ⟨g5, 0, none⟩) (k + l9 / 2) c5] 65)
          have hE6 : Els (w5.alloc (.cells #[.slice (some ⟨g5, 0, none⟩) (k + l9 / 2) c5] 65)) w4.heap.size (.slice (some ⟨g5, 0, none⟩) (k + l9 / 2) c5) (rowsE c 0 ++ packE (rowsE c (m - 1))) := World.ownsRow.alloc HE5.out _
          have hb6 : Below wr.heap.size wr (w5.alloc (.cells #[.slice (some ⟨g5, 0, none⟩) (k + l9 / 2) c5] 65)) := (hb4.trans (hb5.mono hb4.size)).alloc (Nat.le_trans hb4.size hb5.size) _
          obtain ⟨w6, hw6'⟩ : ∃ w6, w5.alloc (.cells #[.slice (some ⟨g5, 0, none⟩) (k + l9 / 2) c5] 65) = w6 := ⟨_, rfl⟩
          rw [hw6'] at hw6 hnew6 hE6 hb6
          have h65 : w5.heap.size < w6.heap.size := by rw [hw6]; exact Nat.lt_succ_self _
          have h5g : some w5.heap.size ≠ some g5 := fun e => by injection e with e; have := hlt5.2; omega
          have hbox : w6.cell? ⟨w5.heap.size, 0, none⟩ = some (.slice (some ⟨g5, 0, none⟩) (k + l9 / 2) c5) := by rw [cell_of_row _ _ _ _ _ _ hnew6]; rfl
          have hST := sort_els (g := 58) (lb := #[.pointer (some ⟨w5.heap.size, 0, none⟩)]) hE6 (by omega) (enters_of Try.func58 (by kernel_rfl) rfl) (fun W ys hg hEW i j hi hj => by
            have hbW : W.cell? ⟨w5.heap.size, 0, none⟩ = some (.slice (some ⟨g5, 0, none⟩) (k + l9 / 2) c5) := (World.cell?_of_block (hg.block _ h65 h5g)).trans hbox
            have hly : ys.length = k + l9 / 2 := by
              obtain ⟨A, c', e, _⟩ := hEW.form
              injection e with _ e2 _
              exact e2.symm
            obtain ⟨b, o, he, _, x1, _⟩ := hEW.sle.at hi
            obtain ⟨b', o', he', _, x2, _⟩ := hEW.sle.at hj
            injection he with he; injection he with he1 he2; subst he1; subst he2
            injection he' with he'; injection he' with he1 he2; subst he1; subst he2
            exact less2_any W hbW (by omega) (by omega) x1 x2)
          have HST := Lib.hid hST
          clear hST hE6
          clear hw4'
          go_wp2_with fail
          refine HST.out.mono ?_
          rintro e w7 ⟨rfl, ys, hst, hE7', hg7⟩
          have hys := rowsE_sorted HRIS.out (m - 1) hst
          rw [show m - 1 + 1 = m by omega] at hys
          subst hys
          have hb7 : Below wr.heap.size wr w7 := hb6.trans (below_of_only hg7 (by have := hb4.size; omega) hb6.size)
          have hbox7 : w7.cell? ⟨w5.heap.size, 0, none⟩ = some (.slice (some ⟨g5, 0, none⟩) (k + l9 / 2) c5) := (World.cell?_of_block (hg7.block _ h65 h5g)).trans hbox
          have hO7 := HO.out.kept hb7
          have hA7 : AllE w7 S0 c (vals ++ [.slice (some ⟨g5, 0, none⟩) (k + l9 / 2) c5]) := (HALL.out.kept hb7).snoc (by rw [HM.out]; exact hE7'.mono (by have := hb4.size; omega))
          have HA7 := Lib.hid hA7
          have hs7 : S0 ≤ w7.heap.size := by have := hb7.size; omega
          clear hst hA7 hE7'
          go_wp2_with (at_builtin; refine wpl_pushS hO7 hs7 (by rw [HM.out]; omega) rfl rfl rfl rfl rfl (h := ?_); intro v8 w8 ho8 hm8')
          obtain ⟨cs8, hcs8⟩ := hO7.blk (k := g10) rfl
          refine ⟨⟨vals ++ [.slice (some ⟨g5, 0, none⟩) (k + l9 / 2) c5], by simp, by rw [List.length_append, HM.out]; simp; omega, ho8, fun j hj => ?_, ?_, ?_⟩, ?_⟩
          · obtain ⟨x, h1, h2⟩ := HA7.out j hj
            exact ⟨x, h1, h2.moved hm8' fun kk hk e => by
              have := h2.ne hcs8 (by decide)
              rw [hk] at this
              exact this (by simpa [Value.ownBlock] using e.symm)⟩
          · rw [List.getElem?_append_left (by rw [HM.out]; omega)]; exact HV0.out
          · have h78 := (hm8' (S0 + w7.heap.size)).below (base := S0) (by omega) (fun kk hk => (hO7.lt kk hk).1) hs7
            exact (hb2.trans (hb7.mono hsz2)).trans h78
          · obtain ⟨A8', c8', rfl, _, _⟩ := ho8.form
            rw [List.length_append, HM.out]
            show L - (m + 1) < L - m
            omega
        · have : m = L := by omega
          subst this
          have HO' := Lib.hid hO; have HAL := Lib.hid hAll
          clear hO hAll hv0
          go_wp2
          go_ret
          exact ⟨_, vals, rfl, HO'.out, hm, HAL.out, hb2⟩
end Go.Proofs.Ythecibabpcfoaaa
