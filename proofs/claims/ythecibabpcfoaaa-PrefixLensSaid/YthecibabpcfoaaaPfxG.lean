/- prefix: Full and Total, the reference's beside them. -/
import Derived.Test.YthecibabpcfoaaaPfxA
namespace Go.Proofs.Ythecibabpcfoaaa
open Go.RowKit
set_option maxRecDepth 100000
set_option maxHeartbeats 1600000

/-- The lengths that are used. -/
def posN (ls : List Nat) : List Nat := ls.filter (fun x => decide (0 < x))
def mxN (ls : List Nat) : Nat := ls.foldl max 0
def okL (x : Int) : Bool := decide (0 ≤ x ∧ x ≤ 24)
def finB (ls : List Nat) : Bool := if (posN ls).length = 1 then decide (mxN (posN ls) = 1) else decide (kraft (posN ls) 24 = 16777216)
def fullB (l : List Int) : Bool := decide (1 ≤ l.length ∧ l.length ≤ 1024) && l.all okL && finB (l.map Int.toNat)
theorem posN_snoc (ls : List Nat) (x : Nat) : posN (ls ++ [x]) = if 0 < x then posN ls ++ [x] else posN ls := by
  unfold posN; rw [List.filter_append]
  by_cases h : 0 < x
  · rw [if_pos h, List.filter_cons_of_pos (by simpa using h)]; rfl
  · rw [if_neg h, List.filter_cons_of_neg (by simpa using h)]; simp
theorem mxN_snoc (ls : List Nat) (x : Nat) : mxN (ls ++ [x]) = max (mxN ls) x := by unfold mxN; rw [List.foldl_append]; rfl
theorem kraft_snoc (ls : List Nat) (x L : Nat) : kraft (ls ++ [x]) L = kraft ls L + 2 ^ (L - x) := by
  unfold kraft; rw [sumOn_append, sumOn_cons, sumOn_nil]; rfl
theorem kraft_pos_le {ls : List Nat} : kraft (posN ls) 24 ≤ ls.length * 16777216 := by
  have h1 : ∀ l : List Nat, kraft l 24 ≤ l.length * 16777216 := by
    intro l
    induction l with
    | nil => simp [kraft, sumOn]
    | cons a l ih =>
      unfold kraft at ih ⊢
      rw [sumOn_cons, List.length_cons]
      have : 2 ^ (24 - a) ≤ 2 ^ 24 := Nat.pow_le_pow_right (by omega) (by omega)
      simp only [Nat.reducePow] at this
      omega
  exact Nat.le_trans (h1 _) (Nat.mul_le_mul_right _ (List.length_filter_le _ _))
theorem posN_len (ls : List Nat) : (posN ls).length ≤ ls.length := List.length_filter_le _ _
theorem posN_cnt (ls : List Nat) : (posN ls).length = (usedN ls).length := by
  unfold posN; rw [← usedN_map, List.length_map]
theorem full_iff {ls : List Nat} : fullB (ni ls) = true ↔ (1 ≤ ls.length ∧ ls.length ≤ 1024) ∧ fullN 24 ls := by
  have hmap : (ni ls).map Int.toNat = ls := by simp [ni, List.map_map, Function.comp_def]
  have hall : (ni ls).all okL = true ↔ ∀ x ∈ ls, x ≤ 24 := by
    rw [List.all_eq_true]
    constructor
    · intro h x hx
      have := h (x : Int) (List.mem_map.2 ⟨x, hx, rfl⟩)
      simp [okL] at this; omega
    · intro h x hx
      obtain ⟨y, hy, rfl⟩ := List.mem_map.1 hx
      have := h y hy
      simp [okL]; omega
  unfold fullB
  rw [Bool.and_eq_true, Bool.and_eq_true, hall, hmap, decide_eq_true_eq, ni_len]
  unfold fullN finB
  rw [show ls.filter (fun x => decide (0 < x)) = posN ls from rfl, ← posN_cnt]
  have h1 : (posN ls).length = 1 → (mxN (posN ls) = 1 ↔ ∀ i ∈ usedN ls, atN ls i = 1) := by
    intro h
    obtain ⟨x, hx⟩ := List.length_eq_one_iff.1 h
    have hm : (usedN ls).map (atN ls) = [x] := by rw [usedN_map]; exact hx
    rw [hx]
    have e : mxN [x] = x := by simp [mxN]
    rw [e]
    constructor
    · rintro rfl i hi
      have : atN ls i ∈ (usedN ls).map (atN ls) := List.mem_map.2 ⟨i, hi, rfl⟩
      rw [hm] at this
      simpa using this
    · intro h
      have hx1 : x ∈ (usedN ls).map (atN ls) := by rw [hm]; simp
      obtain ⟨i, hi, rfl⟩ := List.mem_map.1 hx1
      exact h i hi
  by_cases hc : (posN ls).length = 1
  · rw [if_pos hc, decide_eq_true_eq, h1 hc]
    constructor
    · rintro ⟨⟨a, b⟩, c⟩; exact ⟨a, b, .inl ⟨hc, c⟩⟩
    · rintro ⟨a, b, ⟨_, c⟩ | ⟨c, _⟩⟩
      · exact ⟨⟨a, b⟩, c⟩
      · omega
  · rw [if_neg hc, decide_eq_true_eq]
    constructor
    · rintro ⟨⟨a, b⟩, c⟩
      refine ⟨a, b, .inr ⟨?_, by rw [c]⟩⟩
      by_cases h0 : (posN ls).length = 0
      · exfalso
        have : posN ls = [] := List.eq_nil_of_length_eq_zero h0
        rw [this] at c
        simp [kraft, sumOn] at c
      · omega
    · rintro ⟨a, b, ⟨c, _⟩ | ⟨_, c⟩⟩
      · exact absurd c hc
      · exact ⟨⟨a, b⟩, by rw [c]⟩
theorem full_nat {l : List Int} (h : fullB l = true) : ∃ ls : List Nat, l = ni ls ∧ (1 ≤ ls.length ∧ ls.length ≤ 1024) ∧ fullN 24 ls := by
  have hall : l.all okL = true := by
    unfold fullB at h; rw [Bool.and_eq_true, Bool.and_eq_true] at h; exact h.1.2
  obtain ⟨ls, rfl⟩ := ni_of (l := l) fun x hx => by have := List.all_eq_true.1 hall x hx; simp [okL] at this; omega
  exact ⟨ls, rfl, full_iff.1 h⟩

theorem wadd1 {K D : Nat} (h : K ≤ 17179869184) (h2 : D ≤ 16777216) : wrap64 ((K : Int) + (D : Int)) = ((K + D : Nat) : Int) := by
  rw [← Int.natCast_add]; exact wrap_in (by omega) (by omega)
theorem wpow1 {d D : Nat} (hD : 2 ^ d = D) (h : D ≤ 16777216) : wrap64 ((2 : Int) ^ d) = (D : Int) := by
  rw [← pow_cast, hD]; exact wrap_in (by omega) (by omega)
theorem pow24 {d : Nat} (h : d ≤ 24) : 2 ^ d ≤ 16777216 := Nat.pow_le_pow_right (n := 2) (by omega) h
theorem krm {ms : List Nat} {j : Nat} (hl : ms.length = j) (h : j < 1024) : kraft (posN ms) 24 ≤ 17179869184 := by
  subst hl
  exact Nat.le_trans kraft_pos_le (Nat.mul_le_mul_right 16777216 (Nat.le_of_lt h))
theorem full_bad {l : List Int} {y : Int} (h : y ∈ l) (hb : okL y = false) : fullB l = false := by
  have : l.all okL = false := by rw [List.all_eq_false]; exact ⟨y, h, by rw [hb]; simp⟩
  unfold fullB; rw [this]; simp
theorem full_any {w : World} {B : Nat} {v : Value} {l : List Int} (hS : Sli w B v (ci l)) :
    Calls Try.prog 14 #[v] w fun e w' => e = .returned (.bool (fullB l)) ∧ w = w' := by
  obtain ⟨A, c, rfl, hlc, hcm⟩ := hS.formI
  obtain ⟨n, hnl⟩ : ∃ n, l.length = n := ⟨_, rfl⟩
  rw [hnl] at hS hlc ⊢
  by_cases hn : 1 ≤ n ∧ n ≤ 1024
  case neg =>
    have hf : fullB l = false := by unfold fullB; rw [hnl, decide_eq_false hn]; rfl
    rw [hf]
    have hcs : n < 1 ∨ 1 ≤ n ∧ 1024 < n := by omega
    clear hnl hn hf
    rcases hcs with h | ⟨h1, h2⟩
    · go_enter Try.func14, Try.ntmps14
      go_wp2
      go_ret
      exact ⟨rfl, rfl⟩
    · go_enter Try.func14, Try.ntmps14
      go_wp2
      go_ret
      exact ⟨rfl, rfl⟩
  obtain ⟨hn1, hn2⟩ := hn
  obtain ⟨F, hF⟩ : ∃ F, fullB l = F := ⟨_, rfl⟩
  have HF := Lib.hid hF
  have HNL := Lib.hid hnl
  rw [hF]
  clear hF hnl
  go_enter Try.func14, Try.ntmps14
  go_wp2
  go_loop [3, 4, 5, 18] (fun vu vm vs vi => ∃ j : Nat, j ≤ n ∧ vi = .int .i64 j ∧ Hid ((l.take j).all okL = true) ∧ vu = .int .i64 (posN ((l.take j).map Int.toNat)).length ∧ vm = .int .i64 (mxN (posN ((l.take j).map Int.toNat))) ∧ vs = .int .i64 (kraft (posN ((l.take j).map Int.toNat)) 24)) (fun _ _ _ vi => n - (intOf vi).toNat)
  case atStart => exact ⟨0, Nat.zero_le _, rfl, Lib.hid rfl, rfl, rfl, rfl⟩
  case round =>
    obtain ⟨j, hj, rfl, hall, rfl, rfl, rfl⟩ := hrel
    by_cases hlt : j < n
    · have hjl : j < l.length := by rw [HNL.out]; exact hlt
      obtain ⟨b, o, rfl, hb, hcell⟩ := hS.atI hjl
      have htk : (l.take (j + 1)).map Int.toNat = (l.take j).map Int.toNat ++ [l[j].toNat] := by rw [List.take_succ_eq_append_getElem hjl, List.map_append]; rfl
      have hta : (l.take (j + 1)).all okL = ((l.take j).all okL && okL l[j]) := by rw [List.take_succ_eq_append_getElem hjl, List.all_append]; simp
      have hmem : l[j] ∈ l := List.getElem_mem hjl
      have hml : ((l.take j).map Int.toNat).length = j := by simp; omega
      have HTK := Lib.hid htk; have HTA := Lib.hid hta; have HM := Lib.hid hmem
      clear htk hta hmem
      generalize l[j] = y at *
      clear hjl
      generalize (l.take j).map Int.toNat = ms at *
      have hpl := posN_len ms
      have hkm := krm hml (by omega)
      rw [hml] at hpl
      by_cases hok : okL y = true
      · obtain ⟨x, rfl⟩ := Int.eq_ofNat_of_zero_le (by simp [okL] at hok; omega : 0 ≤ y)
        have hx24 : x ≤ 24 := by simp [okL] at hok; omega
        have HALL := Lib.hid (show (l.take (j + 1)).all okL = true by rw [HTA.out, hall.out, hok]; rfl)
        have hps := posN_snoc ms x
        have htk := HTK.out
        rw [Int.toNat_natCast] at htk
        rw [← htk] at hps
        have HPS := Lib.hid hps
        clear hok hps htk
        obtain ⟨U, hU⟩ : ∃ U, (posN ms).length = U := ⟨_, rfl⟩
        obtain ⟨M, hM⟩ : ∃ M, mxN (posN ms) = M := ⟨_, rfl⟩
        obtain ⟨K, hK⟩ : ∃ K, kraft (posN ms) 24 = K := ⟨_, rfl⟩
        rw [hU] at hpl; rw [hK] at hkm
        rw [hU, hM, hK]
        have HU := Lib.hid hU; have HMM := Lib.hid hM; have HK := Lib.hid hK
        clear hU hM hK
        by_cases hx0 : 0 < x
        · obtain ⟨d, hd⟩ : ∃ d : Nat, (24 : Int) - (x : Int) = (d : Nat) := ⟨24 - x, by omega⟩
          have hd24 : d ≤ 24 := by omega
          obtain ⟨D, hD⟩ : ∃ D, 2 ^ d = D := ⟨_, rfl⟩
          have h2d : D ≤ 16777216 := by rw [← hD]; exact pow24 hd24
          have hdx : d = 24 - x := by omega
          have hw1 := wpow1 hD h2d
          have hw2 := wadd1 hkm h2d
          have HD := Lib.hid hdx; have HDD := Lib.hid hD; have HW1 := Lib.hid hw1; have HW2 := Lib.hid hw2
          clear hdx hw1 hw2 h2d hD
          go_wp2
          refine ⟨⟨j + 1, by omega, rfl, HALL, ?_, ?_, ?_⟩, by simp [intOf]; omega⟩
          · rw [HPS.out, if_pos hx0, List.length_append, HU.out]; simp
          · rw [HPS.out, if_pos hx0, mxN_snoc, HMM.out]
            congr 1
            split <;> omega
          · rw [HPS.out, if_pos hx0, kraft_snoc, HK.out, HW1.out, HW2.out, ← HD.out, HDD.out]
        · go_wp2
          exact ⟨⟨j + 1, by omega, rfl, HALL, by rw [HPS.out, if_neg hx0, HU.out], by rw [HPS.out, if_neg hx0, HMM.out], by rw [HPS.out, if_neg hx0, HK.out]⟩, by simp [intOf]; omega⟩
      · have hF : fullB l = false := full_bad HM.out (by simpa using hok)
        rw [HF.out] at hF
        subst hF
        have hy : y < 0 ∨ 0 ≤ y ∧ 24 < y := by simp [okL] at hok; omega
        clear hok HF
        rcases hy with hy | ⟨hy, hy2⟩
        · go_wp2
          go_ret
          exact ⟨rfl, rfl⟩
        · go_wp2
          go_ret
          exact ⟨rfl, rfl⟩
    · have : j = l.length := by rw [HNL.out]; omega
      subst this
      rw [List.take_length] at hall ⊢
      have hf : fullB l = finB (l.map Int.toNat) := by
        unfold fullB; rw [hall.out, HNL.out, decide_eq_true ⟨hn1, hn2⟩]; rfl
      have hF := hf.symm.trans HF.out
      unfold finB at hF
      clear HF hf
      have hpl := posN_len (l.map Int.toNat)
      rw [List.length_map] at hpl
      by_cases h1 : (posN (l.map Int.toNat)).length = 1
      · rw [if_pos h1] at hF
        have h1' : (((posN (l.map Int.toNat)).length : Int) == 1) = true := by rw [beq_iff_eq]; omega
        have h2' : (((mxN (posN (l.map Int.toNat)) : Nat) : Int) == 1) = F := by rw [← hF, Bool.eq_iff_iff]; simp; omega
        clear hF h1
        go_wp2
        go_ret
        exact ⟨rfl, rfl⟩
      · rw [if_neg h1] at hF
        have h1' : (((posN (l.map Int.toNat)).length : Int) == 1) = false := by rw [beq_eq_false_iff_ne]; omega
        have h2' : (((kraft (posN (l.map Int.toNat)) 24 : Nat) : Int) == 16777216) = F := by rw [← hF, Bool.eq_iff_iff]; simp; omega
        clear hF h1
        go_wp2
        go_ret
        exact ⟨rfl, rfl⟩
end Go.Proofs.Ythecibabpcfoaaa
