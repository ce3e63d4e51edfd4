/- lift: which rows may be. -/
import Derived.Test.YtggddckckfilgaaLifB
import Derived.Test.YtggddckckfilgaaIntR
namespace Go.Proofs.Ytggddckckfilgaa
open Go.RowKit
set_option maxRecDepth 100000
set_option maxHeartbeats 4000000

theorem narrow_any (x : Int) (w : World) : Calls Try.prog 47 #[.int .i64 x] w fun e w' => e = .returned (.bool (!wideB x)) ∧ w = w' := by
  unfold wideB
  by_cases h1 : -1073741824 ≤ x
  · by_cases h2 : x < 1073741824
    · rw [decide_eq_true h1, decide_eq_true h2]
      simp only [Bool.and_true, Bool.not_true]
      have d1 : decide (x < -1073741824) = false := decide_eq_false (by omega)
      have d2 : decide (1073741824 ≤ x) = false := decide_eq_false (by omega)
      go_enter Try.func47, Try.ntmps47
      go_wp2
      go_ret
      exact ⟨rfl, rfl⟩
    · rw [decide_eq_true h1, decide_eq_false h2]
      simp only [Bool.and_false, Bool.not_false]
      go_enter Try.func47, Try.ntmps47
      go_wp2
      go_ret
      exact ⟨rfl, rfl⟩
  · rw [decide_eq_false h1]
    simp only [Bool.false_and, Bool.not_false]
    go_enter Try.func47, Try.ntmps47
    go_wp2
    go_ret
    exact ⟨rfl, rfl⟩
theorem wide_take {l : List Int} {j : Nat} (h : j < l.length) : (l.take (j + 1)).all wideB = ((l.take j).all wideB && wideB l[j]) := by
  rw [List.take_succ_eq_append_getElem h, List.all_append]; simp only [List.all_cons, List.all_nil, Bool.and_true]
theorem wide_of {r : List Int} {i : Nat} {x : Int} (h : r.all wideB = true) (hx : r[i]? = some x) : -1073741824 ≤ x ∧ x < 1073741824 := wideB_iff.1 (List.all_eq_true.1 h x (List.mem_of_getElem? hx))
theorem Sli.atI' {w : World} {B n c : Nat} {A : Option Addr} {l : List Int} (h : Sli w B (.slice A n c) (ci l)) {i : Nat} {x : Int} (hi : l[i]? = some x) : ∃ b o, A = some ⟨b, o, none⟩ ∧ b < B ∧ w.cell? ⟨b, o + i, none⟩ = some (.int .i64 x) := by
  have hl := (List.getElem?_eq_some_iff.1 hi).1
  obtain ⟨b, o, hA, hb, hc⟩ := h.atI hl
  have e := (List.getElem?_eq_some_iff.1 hi).2
  rw [e] at hc
  exact ⟨b, o, hA, hb, hc⟩
theorem index_any (v : Value) (l : List Int) (w : World) (B : Nat) (hS : Sli w B v (ci l)) (hn : l.length ≤ 1099511627776) :
    Calls Try.prog 57 #[v, .func (.func 47) #[] #[]] w fun e w' => (∃ k : Int, e = .returned (.int .i64 k) ∧ decide (0 ≤ k) = !(l.all wideB)) ∧ w = w' := by
  obtain ⟨A, c, rfl, hlc, hcm⟩ := hS.formI
  obtain ⟨m, hml⟩ : ∃ m, l.length = m := ⟨_, rfl⟩
  rw [hml] at hS hlc hn ⊢
  have HML := Lib.hid hml; clear hml
  go_enter Try.func57, Try.ntmps57
  go_wp2
  go_loop [8] (fun i => ∃ j : Nat, j ≤ m ∧ i = .int .i64 j ∧ Hid ((l.take j).all wideB = true)) (fun i => m - (intOf i).toNat)
  case atStart => exact ⟨0, Nat.zero_le _, rfl, rfl⟩
  case round =>
    obtain ⟨j, hj, rfl, hall⟩ := hrel
    by_cases hlt : j < m
    · have hjl : j < l.length := by rw [HML.out]; exact hlt
      obtain ⟨b, o, rfl, hb, hcell⟩ := hS.atI hjl
      have htk := wide_take hjl
      have hno : wideB l[j] = false → l.all wideB = false := fun h => List.all_eq_false.2 ⟨l[j], List.getElem_mem _, by simp [h]⟩
      have HT := Lib.hid htk; have HNO := Lib.hid hno; clear htk hno
      generalize l[j] = x at *
      have hx := fun w => narrow_any x w
      cases hwx : wideB x
      · rw [hwx] at hx
        have hf := Lib.hid (HNO.out hwx)
        have HX := Lib.hid hx
        clear hx hjl hwx
        go_wp2_with (go_at_call 47; refine (HX.out _).mono ?_; rintro e w1 ⟨rfl, rfl⟩)
        go_ret
        exact ⟨⟨(j : Nat), rfl, by rw [hf.out]; simp⟩, rfl⟩
      · rw [hwx] at hx
        have ht := Lib.hid (HT.out.trans (by rw [hall.out, hwx, Bool.and_self]))
        have HX := Lib.hid hx
        clear hx hjl hwx
        go_wp2_with (go_at_call 47; refine (HX.out _).mono ?_; rintro e w1 ⟨rfl, rfl⟩)
        exact ⟨⟨j + 1, by omega, by simp, ht⟩, by simp [intOf]; omega⟩
    · have : j = l.length := by rw [HML.out]; omega
      subst this
      rw [List.take_length] at hall
      go_wp2
      go_ret
      exact ⟨⟨-1, rfl, by rw [hall.out]; rfl⟩, rfl⟩
theorem contains_any (v : Value) (l : List Int) (w : World) (B : Nat) (hS : Sli w B v (ci l)) (hn : l.length ≤ 1099511627776) :
    Calls Try.prog 46 #[v, .func (.func 47) #[] #[]] w fun e w' => e = .returned (.bool (!(l.all wideB))) ∧ w = w' := by
  have hx := index_any v l w B hS hn
  have HX := Lib.hid hx
  clear hx
  go_enter Try.func46, Try.ntmps46
  go_wp2_with (go_at_call 57; refine HX.out.mono ?_; rintro e w1 ⟨⟨k, rfl, hk⟩, rfl⟩; have HK := Lib.hid hk; clear hk)
  go_ret
  exact ⟨by rw [← HK.out]; rfl, rfl⟩
theorem rowW_take {n : Nat} {rs : List (List Int)} {j : Nat} (h : j < rs.length) : (rs.take (j + 1)).all (rowW n) = ((rs.take j).all (rowW n) && rowW n rs[j]) := by
  rw [List.take_succ_eq_append_getElem h, List.all_append]; simp only [List.all_cons, List.all_nil, Bool.and_true]
theorem areRows_any (v : Value) (rs : List (List Int)) (w : World) (B : Nat) (hR : Rws w B v rs) :
    Calls Try.prog 32 #[v] w fun e w' => e = .returned (.bool (rowsW rs)) ∧ w = w' := by
  obtain ⟨A, c, rfl, hlc, hcm⟩ := hR.form
  obtain ⟨m, hm⟩ : ∃ m, rs.length = m := ⟨_, rfl⟩
  obtain ⟨n, hn⟩ : ∃ n, lenB rs = n := ⟨_, rfl⟩
  have hmay : rowsW rs = (chanB (m : Nat) && decide (n ≤ 4096) && rs.all (rowW n)) := by rw [← hm, ← hn]; rfl
  have h0 : 0 < rs.length → ∃ b o A' c', A = some ⟨b, o, none⟩ ∧ b < B ∧ w.cell? ⟨b, o, none⟩ = some (.slice A' n c') := by
    intro h
    obtain ⟨b, o, A', c', hA, hb, hcell, _⟩ := hR.get h
    refine ⟨b, o, A', c', hA, hb, ?_⟩
    rw [Nat.add_zero] at hcell
    rw [hcell, ← hn]
    cases rs with
    | nil => simp at h
    | cons r rs => rfl
  rw [hm] at hR hlc h0 ⊢
  have HM := Lib.hid hm; have HMAY := Lib.hid hmay
  clear hm hmay hn
  by_cases h1 : 1 ≤ m
  · by_cases h2 : m ≤ 8
    · have HMAY2 := Lib.hid (show rowsW rs = (decide (n ≤ 4096) && rs.all (rowW n)) by rw [HMAY.out, show chanB (m : Nat) = true from chanB_iff.2 ⟨by omega, by omega⟩]; simp)
      obtain ⟨b0, o0, A0, c0, rfl, hb0, hcell0⟩ := h0 (by omega)
      clear HMAY
      by_cases h3 : n ≤ 4096
      · have HMAY3 := Lib.hid (show rowsW rs = rs.all (rowW n) by rw [HMAY2.out, decide_eq_true h3]; simp)
        clear HMAY2
        have HR := Lib.hid hR
        clear hR h0
        go_enter Try.func32, Try.ntmps32
        go_wp2
        go_loop [22] (fun i => ∃ j : Nat, j ≤ m ∧ i = .int .i64 j ∧ Hid ((rs.take j).all (rowW n) = true)) (fun i => m - (intOf i).toNat)
        case atStart => exact ⟨0, Nat.zero_le _, rfl, rfl⟩
        case round =>
          obtain ⟨j, hj, rfl, hall⟩ := hrel
          by_cases hlt : j < m
          · have hjl : j < rs.length := by rw [HM.out]; exact hlt
            obtain ⟨b2, o2, A', c', hA, hb, hcell, hS, g1, g2⟩ := HR.out.get hjl
            injection hA with hA
            injection hA with e1 e2 e3
            subst e1; subst e2
            have htk := rowW_take (n := n) hjl
            have hno : rowW n rs[j] = false → rs.all (rowW n) = false := fun h => List.all_eq_false.2 ⟨rs[j], List.getElem_mem _, by simp [h]⟩
            have hok : rowW n rs[j] = (decide (rs[j].length = n) && rs[j].all wideB) := rfl
            have HT := Lib.hid htk; have HNO := Lib.hid hno
            clear htk hno
            generalize rs[j] = r at *
            obtain ⟨k, hk⟩ : ∃ k, r.length = k := ⟨_, rfl⟩
            rw [hk] at hcell hS g1 hok
            by_cases hkn : k = n
            · have hfa := contains_any _ r w B hS (by omega)
              rw [decide_eq_true hkn, Bool.true_and] at hok
              rw [← hok] at hfa
              subst hkn
              have HOK := Lib.hid hok; have HK := Lib.hid hk
              clear hok hk
              cases hwx : rowW k r
              · rw [hwx] at hfa
                have hf := Lib.hid (HNO.out hwx)
                have HX := Lib.hid hfa
                clear hfa hjl hwx hS
                go_wp2_with (go_at_call 46; refine HX.out.mono ?_; rintro e w1 ⟨rfl, rfl⟩)
                go_ret
                exact ⟨by rw [HMAY3.out, hf.out]; rfl, rfl⟩
              · rw [hwx] at hfa
                have ht := Lib.hid (HT.out.trans (by rw [hall.out, hwx, Bool.and_self]))
                have HX := Lib.hid hfa
                clear hfa hjl hwx hS
                go_wp2_with (go_at_call 46; refine HX.out.mono ?_; rintro e w1 ⟨rfl, rfl⟩)
                exact ⟨⟨j + 1, by omega, by simp, ht⟩, by simp [intOf]; omega⟩
            · rw [decide_eq_false hkn, Bool.false_and] at hok
              have hf := Lib.hid (HNO.out hok)
              have hkk : ((k : Int) != (n : Int)) = true := by rw [bne_iff_ne]; omega
              clear hok hk hkn hjl hS
              go_wp2
              go_ret
              exact ⟨by rw [HMAY3.out, hf.out]; rfl, rfl⟩
          · have : j = rs.length := by rw [HM.out]; omega
            subst this
            rw [List.take_length] at hall
            go_wp2
            go_ret
            exact ⟨by rw [HMAY3.out, hall.out]; rfl, rfl⟩
      · have hr : rowsW rs = false := by rw [HMAY2.out, decide_eq_false h3]; simp
        rw [hr]
        clear hr HMAY2 hR h0
        go_enter Try.func32, Try.ntmps32
        go_wp2
        go_ret
        exact ⟨rfl, rfl⟩
    · have hr : rowsW rs = false := by rw [HMAY.out, show chanB (m : Nat) = false from Bool.eq_false_iff.2 (fun h => by have := chanB_iff.1 h; omega)]; simp
      rw [hr]
      clear hr HMAY hR h0
      go_enter Try.func32, Try.ntmps32
      go_wp2
      go_ret
      exact ⟨rfl, rfl⟩
  · have hr : rowsW rs = false := by rw [HMAY.out, show chanB (m : Nat) = false from Bool.eq_false_iff.2 (fun h => by have := chanB_iff.1 h; omega)]; simp
    rw [hr]
    have hm0 : m = 0 := by omega
    subst hm0
    clear hr HMAY hR h0 h1
    go_enter Try.func32, Try.ntmps32
    go_wp2
    go_ret
    exact ⟨rfl, rfl⟩
end Go.Proofs.Ytggddckckfilgaa
