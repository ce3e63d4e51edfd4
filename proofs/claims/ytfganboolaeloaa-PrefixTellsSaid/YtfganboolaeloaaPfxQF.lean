/- prefix: the reference's PrefixFull. -/
import Derived.Test.YtfganboolaeloaaPfxR
namespace Go.Proofs.Ytfganboolaeloaa
open Go.RowKit
set_option maxRecDepth 100000
set_option maxHeartbeats 1600000

def oneN (ls : List Nat) : Nat := ls.countP (· == 1)
theorem oneN_snoc (ls : List Nat) (x : Nat) : oneN (ls ++ [x]) = if x = 1 then oneN ls + 1 else oneN ls := by
  unfold oneN; rw [List.countP_append]
  by_cases h : x = 1
  · rw [if_pos h, h]; simp
  · rw [if_neg h]; simp [h]
theorem oneN_len (ls : List Nat) : oneN ls ≤ ls.length := List.countP_le_length
theorem oneN_pos (ls : List Nat) : oneN ls = oneN (posN ls) := by
  unfold oneN posN
  rw [List.countP_filter]
  refine List.countP_congr fun x _ => ?_
  simp
  omega
theorem finB_is (ls : List Nat) : finB ls = if (posN ls).length = 1 then decide (oneN ls = 1) else decide (1 < (posN ls).length ∧ kraft (posN ls) 24 = 16777216) := by
  unfold finB
  by_cases h : (posN ls).length = 1
  · rw [if_pos h, if_pos h, oneN_pos]
    obtain ⟨x, hx⟩ := List.length_eq_one_iff.1 h
    rw [hx]
    by_cases h1 : x = 1
    · subst h1; rfl
    · have e1 : mxN [x] = x := by simp [mxN]
      have e2 : oneN [x] = 0 := by simp [oneN, h1]
      rw [e1, e2, decide_eq_false h1]; rfl
  · rw [if_neg h, if_neg h]
    by_cases h0 : (posN ls).length = 0
    · have : posN ls = [] := List.eq_nil_of_length_eq_zero h0
      rw [this]
      rfl
    · have : 1 < (posN ls).length := by omega
      simp [this]

theorem qfull_any {w : World} {B : Nat} {v : Value} {l : List Int} (hS : Sli w B v (ci l)) :
    Calls Try.prog 15 #[v] w fun e w' => e = .returned (.bool (fullB l)) ∧ w = w' := by
  obtain ⟨A, c, rfl, hlc, hcm⟩ := hS.formI
  obtain ⟨n, hnl⟩ : ∃ n, l.length = n := ⟨_, rfl⟩
  rw [hnl] at hS hlc ⊢
  by_cases hn : 1 ≤ n ∧ n ≤ 1024
  case neg =>
    have hf : fullB l = false := by unfold fullB; rw [hnl, decide_eq_false hn]; rfl
    rw [hf]
    have hcs : n < 1 ∨ 1 ≤ n ∧ 1024 < n := by omega
    clear hnl hn hf
    rcases hcs with h | ⟨h1, h2⟩
    · go_enter Try.func15, Try.ntmps15
      go_wp2
      go_ret
      exact ⟨rfl, rfl⟩
    · go_enter Try.func15, Try.ntmps15
      go_wp2
      go_ret
      exact ⟨rfl, rfl⟩
  obtain ⟨hn1, hn2⟩ := hn
  obtain ⟨F, hF⟩ : ∃ F, fullB l = F := ⟨_, rfl⟩
  have HF := Lib.hid hF
  have HNL := Lib.hid hnl
  rw [hF]
  clear hF hnl
  go_enter Try.func15, Try.ntmps15
  go_wp2
  go_loop [3, 4, 5, 6] (fun vs vu vo vi => ∃ j : Nat, j ≤ n ∧ vi = .int .i64 j ∧ Hid ((l.take j).all okL = true) ∧ vu = .int .i64 (posN ((l.take j).map Int.toNat)).length ∧ vo = .int .i64 (oneN ((l.take j).map Int.toNat)) ∧ vs = .int .i64 (kraft (posN ((l.take j).map Int.toNat)) 24)) (fun _ _ _ vi => n - (intOf vi).toNat)
  case atStart => exact ⟨0, Nat.zero_le _, rfl, Lib.hid rfl, rfl, rfl, rfl⟩
  case round =>
    obtain ⟨j, hj, rfl, hall, rfl, rfl, rfl⟩ := hrel
    by_cases hlt : j < n
    · have hjl : j < l.length := by rw [HNL.out]; exact hlt
      obtain ⟨b, o, rfl, hb, hcell⟩ := hS.atI hjl
      have htk : (l.take (j + 1)).map Int.toNat = (l.take j).map Int.toNat ++ [l[j].toNat] := by rw [List.take_succ_eq_append_getElem hjl, List.map_append]; rfl
      have hta : (l.take (j + 1)).all okL = ((l.take j).all okL && okL l[j]) := by rw [List.take_succ_eq_append_getElem hjl, List.all_append]; simp
      have hmem : l[j] ∈ l := List.getElem_mem hjl
      have hml : ((l.take j).map Int.toNat).length = j := by simp; omega
      have HTK := Lib.hid htk; have HTA := Lib.hid hta; have HM := Lib.hid hmem
      clear htk hta hmem
      generalize l[j] = y at *
      clear hjl
      generalize (l.take j).map Int.toNat = ms at *
      have hpl := posN_len ms
      have hol := oneN_len ms
      have hkm := krm hml (by omega)
      rw [hml] at hpl hol
      by_cases hok : okL y = true
      · obtain ⟨x, rfl⟩ := Int.eq_ofNat_of_zero_le (by simp [okL] at hok; omega : 0 ≤ y)
        have hx24 : x ≤ 24 := by simp [okL] at hok; omega
        have HALL := Lib.hid (show (l.take (j + 1)).all okL = true by rw [HTA.out, hall.out, hok]; rfl)
        have hps := posN_snoc ms x
        have hos := oneN_snoc ms x
        have htk := HTK.out
        rw [Int.toNat_natCast] at htk
        rw [← htk] at hps hos
        have HPS := Lib.hid hps; have HOS := Lib.hid hos
        clear hok hps htk hos
        obtain ⟨U, hU⟩ : ∃ U, (posN ms).length = U := ⟨_, rfl⟩
        obtain ⟨M, hM⟩ : ∃ M, oneN ms = M := ⟨_, rfl⟩
        obtain ⟨K, hK⟩ : ∃ K, kraft (posN ms) 24 = K := ⟨_, rfl⟩
        rw [hU] at hpl; rw [hK] at hkm; rw [hM] at hol
        rw [hU, hM, hK]
        have HU := Lib.hid hU; have HMM := Lib.hid hM; have HK := Lib.hid hK
        clear hU hM hK
        by_cases hx0 : 0 < x
        · obtain ⟨d, hd⟩ : ∃ d : Nat, (24 : Int) - (x : Int) = (d : Nat) := ⟨24 - x, by omega⟩
          have hd24 : d ≤ 24 := by omega
          obtain ⟨D, hD⟩ : ∃ D, 2 ^ d = D := ⟨_, rfl⟩
          have h2d : D ≤ 16777216 := by rw [← hD]; exact pow24 hd24
          have hdx : d = 24 - x := by omega
          have hw1 := wpow1 hD h2d
          have hw2 := wadd1 hkm h2d
          have HD := Lib.hid hdx; have HDD := Lib.hid hD; have HW1 := Lib.hid hw1; have HW2 := Lib.hid hw2
          clear hdx hw1 hw2 h2d hD
          by_cases hx1 : x = 1
          · have hb1 : ((x : Int) == 1) = true := by rw [hx1]; rfl
            have HX1 := Lib.hid hx1
            clear hx1
            go_wp2
            refine ⟨⟨j + 1, by omega, rfl, HALL, ?_, ?_, ?_⟩, by simp [intOf]; omega⟩
            · rw [HPS.out, if_pos hx0, List.length_append, HU.out]; simp
            · rw [HOS.out, if_pos HX1.out, HMM.out]; simp
            · rw [HPS.out, if_pos hx0, kraft_snoc, HK.out, HW1.out, HW2.out, ← HD.out, HDD.out]
          · have hb1 : ((x : Int) == 1) = false := by simp; omega
            go_wp2
            refine ⟨⟨j + 1, by omega, rfl, HALL, ?_, ?_, ?_⟩, by simp [intOf]; omega⟩
            · rw [HPS.out, if_pos hx0, List.length_append, HU.out]; simp
            · rw [HOS.out, if_neg hx1, HMM.out]
            · rw [HPS.out, if_pos hx0, kraft_snoc, HK.out, HW1.out, HW2.out, ← HD.out, HDD.out]
        · have hb1 : ((x : Int) == 1) = false := by simp; omega
          go_wp2
          exact ⟨⟨j + 1, by omega, rfl, HALL, by rw [HPS.out, if_neg hx0, HU.out], by rw [HOS.out, if_neg (by omega), HMM.out], by rw [HPS.out, if_neg hx0, HK.out]⟩, by simp [intOf]; omega⟩
      · have hF : fullB l = false := full_bad HM.out (by simpa using hok)
        rw [HF.out] at hF
        subst hF
        have hy : y < 0 ∨ 0 ≤ y ∧ 24 < y := by simp [okL] at hok; omega
        clear hok HF
        rcases hy with hy | ⟨hy, hy2⟩
        · go_wp2
          go_ret
          exact ⟨rfl, rfl⟩
        · go_wp2
          go_ret
          exact ⟨rfl, rfl⟩
    · have : j = l.length := by rw [HNL.out]; omega
      subst this
      rw [List.take_length] at hall ⊢
      have hf : fullB l = finB (l.map Int.toNat) := by
        unfold fullB; rw [hall.out, HNL.out, decide_eq_true ⟨hn1, hn2⟩]; rfl
      have hF := hf.symm.trans HF.out
      rw [finB_is] at hF
      clear HF hf hall
      generalize (posN (l.map Int.toNat)).length = U at *
      generalize oneN (l.map Int.toNat) = O at *
      generalize kraft (posN (l.map Int.toNat)) 24 = K at *
      by_cases hU : U = 1
      · rw [if_pos hU] at hF
        subst hU
        by_cases hO : O = 1
        · subst hO
          have : F = true := by rw [← hF]; rfl
          subst this
          clear hF
          go_wp2
          go_ret
          exact ⟨rfl, rfl⟩
        · have : F = false := by rw [← hF]; simp [hO]
          subst this
          have hb : ((O : Int) == 1) = false := by simp; omega
          clear hF hO
          go_wp2
          go_ret
          exact ⟨rfl, rfl⟩
      · rw [if_neg hU] at hF
        have hb : ((U : Int) == 1) = false := by simp; omega
        by_cases h1 : 1 < U
        · by_cases hK : K = 16777216
          · have : F = true := by rw [← hF]; simp [h1, hK]
            subst this
            have hb2 : ((K : Int) == 16777216) = true := by rw [hK]; rfl
            clear hF hK hU
            go_wp2
            go_ret
            exact ⟨rfl, rfl⟩
          · have : F = false := by rw [← hF]; simp [hK]
            subst this
            have hb2 : ((K : Int) == 16777216) = false := by simp; omega
            clear hF hK hU
            go_wp2
            go_ret
            exact ⟨rfl, rfl⟩
        · have : F = false := by rw [← hF]; simp [h1]
          subst this
          clear hF hU
          go_wp2
          go_ret
          exact ⟨rfl, rfl⟩
end Go.Proofs.Ytfganboolaeloaa
