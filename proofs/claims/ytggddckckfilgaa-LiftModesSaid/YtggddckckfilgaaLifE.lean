/- lift: Weight, and the reference's. -/
import Derived.Test.YtggddckckfilgaaLifD
import Derived.Test.YtggddckckfilgaaByt
namespace Go.Proofs.Ytggddckckfilgaa
open Go.RowKit
set_option maxRecDepth 100000
set_option maxHeartbeats 8000000

theorem absI_if (x : Int) : absI x = if x ≤ -x then -x else x := by unfold absI; rw [Int.max_def]
theorem far_any (x : Int) (w : World) (h1 : -4294967296 ≤ x) (h2 : x ≤ 4294967296) : Calls Try.prog 34 #[.int .i64 x] w fun e w' => e = .returned (.int .i64 (absI x)) ∧ w = w' := by
  go_enter Try.func34, Try.ntmps34
  go_wp2
  go_ret
  exact ⟨rfl, rfl⟩
theorem rowsWt_take {rs : List (List Int)} {j : Nat} (h : j < rs.length) : rowsWt (rs.take (j + 1)) = rowsWt (rs.take j) + rowWt rs[j] (rs[j].length - 2) := by
  rw [List.take_succ_eq_append_getElem h, rowsWt_append]; simp [rowsWt]
/-- What stands in the loops of Weight. -/
theorem wt_bound {rs : List (List Int)} {n : Nat} (h : RowsOk rs n) {j k : Nat} (hj : j ≤ rs.length) {r : List Int} (hr : r ∈ rs) (hk : k ≤ 4096) : 0 ≤ rowsWt (rs.take j) + rowWt r k ∧ rowsWt (rs.take j) + rowWt r k ≤ 158329674399744 := by
  have h1 := rowsWt_le (rs := rs.take j) h.size (fun x hx => h.rows x (List.mem_of_mem_take hx)) (fun x hx => h.wide x (List.mem_of_mem_take hx))
  have h2 := rowWt_le (h.wide r hr) k
  have h3 := h.chans
  have h4 : (rs.take j).length ≤ 8 := by rw [List.length_take]; omega
  omega
theorem snd_at {r : List Int} {k : Nat} (h : k + 2 < r.length) : ∃ a b c, r[k + 2]? = some a ∧ r[k + 1]? = some b ∧ r[k]? = some c ∧ sndI r k = a - 2 * b + c := by
  refine ⟨r[k + 2], r[k + 1], r[k], List.getElem?_eq_getElem h, List.getElem?_eq_getElem (by omega), List.getElem?_eq_getElem (by omega), ?_⟩
  unfold sndI
  rw [List.getD_eq_getElem?_getD, List.getD_eq_getElem?_getD, List.getD_eq_getElem?_getD, List.getElem?_eq_getElem h, List.getElem?_eq_getElem (by omega : k + 1 < r.length), List.getElem?_eq_getElem (by omega : k < r.length)]
  rfl
theorem weightL_any (v : Value) (rs : List (List Int)) (w : World) (B : Nat) (hR : Rws w B v rs) :
    Calls Try.prog 18 #[v] w fun e w' => e = .returned (.int .i64 (weightLi rs)) ∧ ∃ q, w' = w.drewN q := by
  have hare := areRows_any v rs w B hR
  obtain ⟨A, c, rfl, hlc, hcm⟩ := hR.form
  obtain ⟨m, hm⟩ : ∃ m, rs.length = m := ⟨_, rfl⟩
  have hwt : weightLi rs = if rowsW rs = true then rowsWt rs else 0 := rfl
  have hok := fun h => @rowsOk_of rs h
  rw [hm] at hR hare hlc ⊢
  cases hrw : rowsW rs
  · rw [hrw] at hare hwt
    rw [if_neg (by simp)] at hwt
    rw [hwt]
    have HARE := Lib.hid hare
    clear hare hwt hR hok hrw
    go_enter Try.func18, Try.ntmps18
    go_wp2_with (go_at_call 32; refine HARE.out.mono ?_; rintro e w1 ⟨rfl, rfl⟩)
    go_ret
    exact ⟨rfl, 0, rfl⟩
  · rw [hrw] at hare hwt
    rw [if_pos rfl] at hwt
    have M := hok hrw
    have hm8 := M.chans
    rw [hm] at hm8
    obtain ⟨n, hn⟩ : ∃ n, lenB rs = n := ⟨_, rfl⟩
    rw [hn] at M
    have hn8 := M.size
    have HM := Lib.hid hm; have HOK := Lib.hid M
    have HARE := Lib.hid hare; have HR := Lib.hid hR
    have HWT := Lib.hid hwt
    clear hare hwt hR hok hrw hm M hn
    go_enter Try.func18, Try.ntmps18
    go_wp2_with (go_at_call 32; refine HARE.out.mono ?_; rintro e w1 ⟨rfl, rfl⟩; refine cut_here ?_)
    unfold CutHere
    clear HARE
    go_wp2
    go_loopw [3, 13] (fun s i wr => ∃ j : Nat, j ≤ m ∧ i = .int .i64 j ∧ s = .int .i64 (rowsWt (rs.take j)) ∧ Hid (∃ q, wr = w.drewN q)) (fun _ i _ => m - (intOf i).toNat)
    case atStart => exact ⟨0, Nat.zero_le _, rfl, rfl, 0, rfl⟩
    case round =>
      obtain ⟨j, hj, rfl, rfl, hq⟩ := hrel
      have HJ := Lib.hid hj
      by_cases hlt : j < m
      · have hjl : j < rs.length := by rw [HM.out]; exact hlt
        have HW : Hid (∀ p, wr.cell? p = w.cell? p) := by obtain ⟨q, e⟩ := hq.out; exact fun p => by rw [e]; rfl
        obtain ⟨b2, o2, A', c', rfl, hb, hcell0, hS, g1, g2⟩ := HR.out.get hjl
        have hcell := (HW.out _).trans hcell0
        clear hcell0
        have hmem := List.getElem_mem hjl
        have htk := rowsWt_take hjl
        have hlen := HOK.out.rows _ hmem
        have hsn := fun k => sndI_le (HOK.out.wide _ hmem) k
        have hbd := fun k (hk : k ≤ 4096) => wt_bound HOK.out (j := j) (k := k) (by omega) hmem hk
        have hwd := HOK.out.wide _ hmem
        generalize rs[j] = r at *
        rw [hlen] at htk hcell hS g1
        generalize rowsWt (rs.take j) = S at *
        have HS := Lib.hid hS; have HTK := Lib.hid htk; have HSN := Lib.hid hsn; have HBD := Lib.hid hbd; have HLEN := Lib.hid hlen; have HWD := Lib.hid hwd
        have hb0 := hbd 0 (by omega)
        simp only [rowWt] at hb0
        clear hS htk hsn hbd hlen hmem hwd HW hjl
        go_wp2
        go_loopw [3, 6] (fun s i wr2 => ∃ k i' : Nat, i = .int .i64 i' ∧ Hid (i' = k + 2) ∧ k ≤ n - 2 ∧ s = .int .i64 (S + rowWt r k) ∧ Hid (∃ q, wr2 = w.drewN q)) (fun _ i _ => n - (intOf i).toNat)
        case atStart => exact ⟨0, 2, rfl, rfl, Nat.zero_le _, by simp [rowWt], hq⟩
        case round =>
          obtain ⟨k, i', rfl, hik, hk, rfl, hq2⟩ := hrel
          have HW2 : Hid (∀ p, wr.cell? p = w.cell? p) := by obtain ⟨q, e⟩ := hq2.out; exact fun p => by rw [e]; rfl
          have HN2 : Hid (∀ nq, ∃ q, wr.drewN nq = w.drewN q) := by obtain ⟨q, h⟩ := hq2.out; exact fun nq => ⟨q + nq, by rw [h, World.drewN_drewN]⟩
          have hk4 : k ≤ 4096 := by omega
          by_cases hlt2 : k + 2 < n
          · obtain ⟨a, b', c', ha, hb', hc', hsnd⟩ := snd_at (r := r) (k := k) (by rw [HLEN.out]; exact hlt2)
            obtain ⟨b3, o3, rfl, hb3, hca⟩ := (HS.out.keep fun p _ => HW2.out p).atI' ha
            obtain ⟨_, _, e3, _, hcb⟩ := (HS.out.keep fun p _ => HW2.out p).atI' hb'
            injection e3 with e3
            injection e3 with e1 e2 _
            subst e1; subst e2
            obtain ⟨_, _, e3, _, hcc⟩ := (HS.out.keep fun p _ => HW2.out p).atI' hc'
            injection e3 with e3
            injection e3 with e1 e2 _
            subst e1; subst e2
            have wa := wide_of HWD.out ha
            have wb := wide_of HWD.out hb'
            have wc' := wide_of HWD.out hc'
            have hsl := HSN.out k
            have hab := absI_le (M := 4294967296) hsl.1 hsl.2
            have hbk := HBD.out k hk4
            have hbk1 := HBD.out (k + 1) (by omega)
            have HNX : Hid (rowWt r (k + 1) = rowWt r k + absI (sndI r k)) := rfl
            have hS2 : S + (rowWt r k + absI (sndI r k)) = S + rowWt r (k + 1) := rfl
            rw [← hS2] at hbk1
            have HS2 := Lib.hid hS2
            clear hS2 ha hb' hc'
            rw [hsnd] at hsl hab hbk1 HNX HS2
            have hid2 : k + 2 = i' := hik.out.symm
            rw [hid2] at hca hlt2
            have hi1 : (i' : Int) - 1 = ((k + 1 : Nat) : Int) := by omega
            have hi2 : (i' : Int) - 2 = (k : Nat) := by omega
            generalize hk1 : k + 1 = k1 at *
            have HK1 := Lib.hid hk1
            have hk1n : k1 < n := by omega
            have hkn : k < n := by omega
            obtain ⟨d, hd⟩ : ∃ d : Int, a - 2 * b' + c' = d := ⟨_, rfl⟩
            rw [hd] at hsl hab hbk1 HNX HS2
            have hmx : max d (-d) = absI d := rfl
            generalize absI d = y at *
            obtain ⟨T, hT⟩ : ∃ T : Int, S + rowWt r k = T := ⟨_, rfl⟩
            have hTy : S + (rowWt r k + y) = T + y := by omega
            rw [hTy] at hbk1 HS2
            rw [hT] at hbk ⊢
            clear hid2 hTy hT hsnd hk1
            go_wp2
            go_quiet (fail)
            go_wp2
            exact ⟨⟨k1, i' + 1, rfl, (show i' + 1 = k1 + 2 by have := hik.out; have := HK1.out; omega), by omega, by rw [HS2.out], HN2.out _⟩, by simp [intOf]; omega⟩
          · have hkn : k = n - 2 := by omega
            have hlt3 : ¬ (i' : Int) < (n : Int) := by have := hik.out; omega
            have HTK2 : Hid (rowsWt (rs.take (j + 1)) = S + rowWt r k) := by rw [hkn]; exact HTK.out
            clear hkn hlt2
            go_wp2
            refine ⟨⟨j + 1, by omega, rfl, by rw [HTK2.out], hq2⟩, by simp [intOf]; omega⟩
      · have : j = rs.length := by rw [HM.out]; omega
        subst this
        rw [List.take_length] at *
        have HQ := hq
        go_wp2
        go_ret
        exact ⟨by rw [HWT.out]; rfl, HQ.out⟩
theorem qweightL_any (v : Value) (rs : List (List Int)) (w : World) (B : Nat) (hR : Rws w B v rs) (hB : B ≤ w.heap.size) :
    Calls Try.prog 19 #[v] w fun e w' => e = .returned (.int .i64 (weightLi rs)) ∧ Below w.heap.size w w' := by
  have hare := qrows_any v (.slice none 0 0) rs [] w B w.heap.size hR hB (Lis.nil _ _) (Nat.le_refl _)
  have hml : (rowsW rs && mayLi [] (rs.length : Nat)) = rowsW rs := by
    rw [mayLi_nil]
    unfold rowsW
    cases chanB (rs.length : Nat) <;> simp
  rw [hml] at hare
  clear hml
  obtain ⟨A, c, rfl, hlc, hcm⟩ := hR.form
  obtain ⟨m, hm⟩ : ∃ m, rs.length = m := ⟨_, rfl⟩
  have hwt : weightLi rs = if rowsW rs = true then rowsWt rs else 0 := rfl
  have hok := fun h => @rowsOk_of rs h
  rw [hm] at hR hare hlc ⊢
  cases hrw : rowsW rs
  · rw [hrw] at hare hwt
    rw [if_neg (by simp)] at hwt
    rw [hwt]
    have HARE := Lib.hid hare
    clear hare hwt hR hok hrw
    go_enter Try.func19, Try.ntmps19
    go_wp2_with (go_at_call 33; refine HARE.out.mono ?_; rintro e w1 ⟨rfl, hb1⟩)
    go_ret
    exact ⟨rfl, hb1⟩
  · rw [hrw] at hare hwt
    rw [if_pos rfl] at hwt
    have M := hok hrw
    have hm8 := M.chans
    rw [hm] at hm8
    obtain ⟨n, hn⟩ : ∃ n, lenB rs = n := ⟨_, rfl⟩
    rw [hn] at M
    have hn8 := M.size
    have HM := Lib.hid hm; have HOK := Lib.hid M
    have HARE := Lib.hid hare; have HR := Lib.hid hR
    have HWT := Lib.hid hwt
    clear hare hwt hR hok hrw hm M hn
    go_enter Try.func19, Try.ntmps19
    go_wp2_with (go_at_call 33; refine HARE.out.mono ?_; rintro e w1 ⟨rfl, hb1⟩; refine cut_here ?_)
    have HR1 := Lib.hid (HR.out.below (hb1.mono hB))
    have HB1 := Lib.hid hb1
    clear hb1
    unfold CutHere
    clear HARE
    go_wp2
    go_loopw [3, 4] (fun s i wr => ∃ j : Nat, j ≤ m ∧ i = .int .i64 j ∧ s = .int .i64 (rowsWt (rs.take j)) ∧ Hid (∃ q, wr = w1.drewN q)) (fun _ i _ => m - (intOf i).toNat)
    case atStart => exact ⟨0, Nat.zero_le _, rfl, rfl, 0, rfl⟩
    case round =>
      obtain ⟨j, hj, rfl, rfl, hq⟩ := hrel
      have HJ := Lib.hid hj
      by_cases hlt : j < m
      · have hjl : j < rs.length := by rw [HM.out]; exact hlt
        have HW : Hid (∀ p, wr.cell? p = w1.cell? p) := by obtain ⟨q, e⟩ := hq.out; exact fun p => by rw [e]; rfl
        obtain ⟨b2, o2, A', c', rfl, hb, hcell0, hS, g1, g2⟩ := HR1.out.get hjl
        have hcell := (HW.out _).trans hcell0
        have hmem := List.getElem_mem hjl
        have htk := rowsWt_take hjl
        have hlen := HOK.out.rows _ hmem
        have hsn := fun k => sndI_le (HOK.out.wide _ hmem) k
        have hbd := fun k (hk : k ≤ 4096) => wt_bound HOK.out (j := j) (k := k) (by omega) hmem hk
        have hwd := HOK.out.wide _ hmem
        generalize rs[j] = r at *
        rw [hlen] at htk hcell hcell0 hS g1
        have HC0 := Lib.hid hcell0
        clear hcell0
        generalize rowsWt (rs.take j) = S at *
        have HS := Lib.hid hS; have HTK := Lib.hid htk; have HSN := Lib.hid hsn; have HBD := Lib.hid hbd; have HLEN := Lib.hid hlen; have HWD := Lib.hid hwd
        have hb0 := hbd 0 (by omega)
        simp only [rowWt] at hb0
        clear hS htk hsn hbd hlen hmem hwd HW hjl
        go_wp2
        go_loopw [3, 5] (fun s i wr2 => ∃ k i' : Nat, i = .int .i64 i' ∧ Hid (i' = k + 2) ∧ k ≤ n - 2 ∧ s = .int .i64 (S + rowWt r k) ∧ Hid (∃ q, wr2 = w1.drewN q)) (fun _ i _ => n - (intOf i).toNat)
        case atStart => exact ⟨0, 2, rfl, rfl, Nat.zero_le _, by simp [rowWt], hq⟩
        case round =>
          obtain ⟨k, i', rfl, hik, hk, rfl, hq2⟩ := hrel
          have HW2 : Hid (∀ p, wr.cell? p = w1.cell? p) := by obtain ⟨q, e⟩ := hq2.out; exact fun p => by rw [e]; rfl
          have HN2 : Hid (∀ nq, ∃ q, wr.drewN nq = w1.drewN q) := by obtain ⟨q, h⟩ := hq2.out; exact fun nq => ⟨q + nq, by rw [h, World.drewN_drewN]⟩
          have hk4 : k ≤ 4096 := by omega
          have hcell := (HW2.out _).trans HC0.out
          by_cases hlt2 : k + 2 < n
          · obtain ⟨a, b', c', ha, hb', hc', hsnd⟩ := snd_at (r := r) (k := k) (by rw [HLEN.out]; exact hlt2)
            obtain ⟨b3, o3, rfl, hb3, hca⟩ := (HS.out.keep fun p _ => HW2.out p).atI' ha
            obtain ⟨_, _, e3, _, hcb⟩ := (HS.out.keep fun p _ => HW2.out p).atI' hb'
            injection e3 with e3
            injection e3 with e1 e2 _
            subst e1; subst e2
            obtain ⟨_, _, e3, _, hcc⟩ := (HS.out.keep fun p _ => HW2.out p).atI' hc'
            injection e3 with e3
            injection e3 with e1 e2 _
            subst e1; subst e2
            have wa := wide_of HWD.out ha
            have wb := wide_of HWD.out hb'
            have wc' := wide_of HWD.out hc'
            have hsl := HSN.out k
            have hab := absI_le (M := 4294967296) hsl.1 hsl.2
            have hbk := HBD.out k hk4
            have hbk1 := HBD.out (k + 1) (by omega)
            have HNX : Hid (rowWt r (k + 1) = rowWt r k + absI (sndI r k)) := rfl
            have hS2 : S + (rowWt r k + absI (sndI r k)) = S + rowWt r (k + 1) := rfl
            rw [← hS2] at hbk1
            have HS2 := Lib.hid hS2
            clear hS2 ha hb' hc'
            rw [hsnd] at hsl hab hbk1 HNX HS2
            have hid2 : k + 2 = i' := hik.out.symm
            rw [hid2] at hca hlt2
            have hi1 : (i' : Int) - 1 = ((k + 1 : Nat) : Int) := by omega
            have hi2 : (i' : Int) - 2 = (k : Nat) := by omega
            generalize hk1 : k + 1 = k1 at *
            have HK1 := Lib.hid hk1
            have hk1n : k1 < n := by omega
            have hkn : k < n := by omega
            obtain ⟨d, hd⟩ : ∃ d : Int, a - 2 * b' + c' = d := ⟨_, rfl⟩
            rw [hd] at hsl hab hbk1 HNX HS2
            have hmx : max d (-d) = absI d := rfl
            have hfar := fun w => far_any d w hsl.1 hsl.2
            generalize absI d = y at *
            have HFAR := Lib.hid hfar
            clear hfar
            obtain ⟨T, hT⟩ : ∃ T : Int, S + rowWt r k = T := ⟨_, rfl⟩
            have hTy : S + (rowWt r k + y) = T + y := by omega
            rw [hTy] at hbk1 HS2
            rw [hT] at hbk ⊢
            clear hid2 hTy hT hsnd hk1
            go_wp2
            go_quiet ((go_at_call 34; exact quietLN (HFAR.out _)))
            go_wp2
            exact ⟨⟨k1, i' + 1, rfl, (show i' + 1 = k1 + 2 by have := hik.out; have := HK1.out; omega), by omega, by rw [HS2.out], HN2.out _⟩, by simp [intOf]; omega⟩
          · have hkn : k = n - 2 := by omega
            have hlt3 : ¬ (i' : Int) < (n : Int) := by have := hik.out; omega
            have HTK2 : Hid (rowsWt (rs.take (j + 1)) = S + rowWt r k) := by rw [hkn]; exact HTK.out
            clear hkn hlt2
            go_wp2
            refine ⟨⟨j + 1, by omega, rfl, by rw [HTK2.out], hq2⟩, by simp [intOf]; omega⟩
      · have : j = rs.length := by rw [HM.out]; omega
        subst this
        rw [List.take_length] at *
        have HQ := hq
        go_wp2
        go_ret
        exact ⟨by rw [HWT.out]; rfl, by obtain ⟨q, h⟩ := HQ.out; rw [h]; exact below_drewN HB1.out q⟩
end Go.Proofs.Ytggddckckfilgaa
