/- prefix: Lengths: what its walk needs; the ways that end early. -/
import Derived.Test.YthecibabpcfoaaaPfxH
import Derived.Test.YthecibabpcfoaaaPfxF
namespace Go.Proofs.Ythecibabpcfoaaa
open Go.RowKit
set_option maxRecDepth 100000
set_option maxHeartbeats 1600000

def okF (x : Int) : Bool := decide (0 ≤ x ∧ x ≤ 1099511627776)
def freqsB (l : List Int) : Bool := decide (1 ≤ l.length ∧ l.length ≤ 1024) && l.all okF
theorem freqs_bad {l : List Int} {y : Int} (h : y ∈ l) (hb : okF y = false) : freqsB l = false := by
  have : l.all okF = false := by rw [List.all_eq_false]; exact ⟨y, h, by rw [hb]; simp⟩
  unfold freqsB; rw [this]; simp
theorem freqs_any {w : World} {B : Nat} {v : Value} {l : List Int} (hS : Sli w B v (ci l)) :
    Calls Try.prog 36 #[v] w fun e w' => e = .returned (.bool (freqsB l)) ∧ w = w' := by
  obtain ⟨A, c, rfl, hlc, hcm⟩ := hS.formI
  obtain ⟨n, hnl⟩ : ∃ n, l.length = n := ⟨_, rfl⟩
  rw [hnl] at hS hlc ⊢
  by_cases hn : 1 ≤ n ∧ n ≤ 1024
  case neg =>
    have hf : freqsB l = false := by unfold freqsB; rw [hnl, decide_eq_false hn]; rfl
    rw [hf]
    have hcs : n < 1 ∨ 1 ≤ n ∧ 1024 < n := by omega
    clear hnl hn hf
    rcases hcs with h | ⟨h1, h2⟩
    · go_enter Try.func36, Try.ntmps36
      go_wp2
      go_ret
      exact ⟨rfl, rfl⟩
    · go_enter Try.func36, Try.ntmps36
      go_wp2
      go_ret
      exact ⟨rfl, rfl⟩
  obtain ⟨hn1, hn2⟩ := hn
  obtain ⟨F, hF⟩ : ∃ F, freqsB l = F := ⟨_, rfl⟩
  have HF := Lib.hid hF
  have HNL := Lib.hid hnl
  rw [hF]
  clear hF hnl
  go_enter Try.func36, Try.ntmps36
  go_wp2
  go_loop [15] (fun vi => ∃ j : Nat, j ≤ n ∧ vi = .int .i64 j ∧ Hid ((l.take j).all okF = true)) (fun vi => n - (intOf vi).toNat)
  case atStart => exact ⟨0, Nat.zero_le _, rfl, Lib.hid rfl⟩
  case round =>
    obtain ⟨j, hj, rfl, hall⟩ := hrel
    by_cases hlt : j < n
    · have hjl : j < l.length := by rw [HNL.out]; exact hlt
      obtain ⟨b, o, rfl, hb, hcell⟩ := hS.atI hjl
      have hta : (l.take (j + 1)).all okF = ((l.take j).all okF && okF l[j]) := by rw [List.take_succ_eq_append_getElem hjl, List.all_append]; simp
      have hmem : l[j] ∈ l := List.getElem_mem hjl
      have HTA := Lib.hid hta; have HM := Lib.hid hmem
      clear hta hmem
      generalize l[j] = y at *
      clear hjl
      by_cases hok : okF y = true
      · have hy1 : 0 ≤ y := by simp [okF] at hok; omega
        have hy2 : y ≤ 1099511627776 := by simp [okF] at hok; omega
        have HALL := Lib.hid (show (l.take (j + 1)).all okF = true by rw [HTA.out, hall.out, hok]; rfl)
        clear hok
        go_wp2
        exact ⟨⟨j + 1, by omega, rfl, HALL⟩, by simp [intOf]; omega⟩
      · have hF : freqsB l = false := freqs_bad HM.out (by simpa using hok)
        rw [HF.out] at hF
        subst hF
        have hy : y < 0 ∨ 0 ≤ y ∧ 1099511627776 < y := by simp [okF] at hok; omega
        clear hok HF
        rcases hy with hy | ⟨hy, hy2⟩
        · go_wp2
          go_ret
          exact ⟨rfl, rfl⟩
        · go_wp2
          go_ret
          exact ⟨rfl, rfl⟩
    · have : j = l.length := by rw [HNL.out]; omega
      subst this
      rw [List.take_length] at hall
      have hf : freqsB l = true := by
        unfold freqsB; rw [hall.out, HNL.out, decide_eq_true ⟨hn1, hn2⟩]; rfl
      rw [HF.out] at hf
      subst hf
      clear hall HF
      go_wp2
      go_ret
      exact ⟨rfl, rfl⟩
theorem freqs_nat {l : List Int} (h : freqsB l = true) : ∃ fs : List Nat, l = ni fs ∧ 1 ≤ fs.length ∧ fs.length ≤ 1024 ∧ ∀ x ∈ fs, x ≤ 1099511627776 := by
  unfold freqsB at h
  rw [Bool.and_eq_true, decide_eq_true_eq] at h
  obtain ⟨⟨h1, h2⟩, h3⟩ := h
  rw [List.all_eq_true] at h3
  obtain ⟨fs, rfl⟩ := ni_of (l := l) fun x hx => by have := h3 x hx; simp [okF] at this; omega
  rw [ni_len] at h1 h2
  refine ⟨fs, rfl, h1, h2, fun x hx => ?_⟩
  have := h3 (x : Int) (List.mem_map.2 ⟨x, hx, rfl⟩)
  simp [okF] at this
  omega
theorem freqs_of {fs : List Nat} (h1 : 1 ≤ fs.length) (h2 : fs.length ≤ 1024) (h3 : ∀ x ∈ fs, x ≤ 1099511627776) : freqsB (ni fs) = true := by
  unfold freqsB
  rw [Bool.and_eq_true, decide_eq_true_eq, ni_len, List.all_eq_true]
  refine ⟨⟨h1, h2⟩, fun x hx => ?_⟩
  obtain ⟨y, hy, rfl⟩ := List.mem_map.1 hx
  have := h3 y hy
  simp [okF]; omega

/-- What Lengths gives: a row and an error. -/
def lengthsI (fs ss : List Nat) (most : Int) : List Int × Int :=
  if most < 1 ∨ 24 < most then ([], 1) else if ss.length = 0 then ([], 7) else if 2 ^ most.toNat < ss.length then ([], 6) else (ni (lensN fs ss most.toNat), 0)

theorem lengths_bad {w : World} {B : Nat} {v : Value} {l : List Int} {most : Int} (hS : Sli w B v (ci l)) (hf : freqsB l = false ∨ most < 1 ∨ 24 < most) :
    Calls Try.prog 19 #[v, .int .i64 most] w fun e w' => e = .returned (.tuple #[.slice none 0 0, .int .i64 1]) ∧ w = w' := by
  have hc := freqs_any hS
  obtain ⟨A, c, rfl, hlc, hcm⟩ := hS.formI
  cases hfb : freqsB l with
  | false =>
    rw [hfb] at hc
    clear hf
    go_enter Try.func19, Try.ntmps19
    go_wp2_with fail
    refine hc.mono ?_
    rintro e w1 ⟨rfl, rfl⟩
    go_wp2
    go_ret2
    exact ⟨rfl, rfl⟩
  | true =>
    rw [hfb] at hc
    have hm : most < 1 ∨ 1 ≤ most ∧ 24 < most := by
      rcases hf with h | h | h
      · rw [hfb] at h; cases h
      · exact .inl h
      · exact .inr ⟨by omega, h⟩
    clear hf
    rcases hm with h | ⟨h1, h2⟩
    · go_enter Try.func19, Try.ntmps19
      go_wp2_with fail
      refine hc.mono ?_
      rintro e w1 ⟨rfl, rfl⟩
      go_wp2
      go_ret2
      exact ⟨rfl, rfl⟩
    · go_enter Try.func19, Try.ntmps19
      go_wp2_with fail
      refine hc.mono ?_
      rintro e w1 ⟨rfl, rfl⟩
      go_wp2
      go_ret2
      exact ⟨rfl, rfl⟩
end Go.Proofs.Ythecibabpcfoaaa
