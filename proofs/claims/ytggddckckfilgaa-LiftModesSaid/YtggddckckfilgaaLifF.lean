/- lift: the modes' steps; rows copied. -/
import Derived.Test.YtggddckckfilgaaLifD
import Derived.Test.YtggddckckfilgaaRwc
namespace Go.Proofs.Ytggddckckfilgaa
open Go.RowKit
set_option maxRecDepth 100000
set_option maxHeartbeats 4000000

theorem named_any (mode : Int) (w : World) :
    Calls Try.prog 16 #[.int .i64 mode] w fun e w' => ∃ v, e = .returned v ∧ LiO w' w.heap.size v (namedLi mode) ∧ Below w.heap.size w w' := by
  by_cases h1 : mode = 1
  · subst h1
    have hf := LiO.fresh w (namedLi 1) (by decide) (by decide)
    have hb := below_new w (cli (namedLi 1)).toArray 50
    go_enter Try.func16, Try.ntmps16
    go_wp2
    go_ret
    exact ⟨_, rfl, hf, hb⟩
  by_cases h2 : mode = 2
  · subst h2
    have hf := LiO.fresh w (namedLi 2) (by decide) (by decide)
    have hb := below_new w (cli (namedLi 2)).toArray 50
    clear h1
    go_enter Try.func16, Try.ntmps16
    go_wp2
    go_ret
    exact ⟨_, rfl, hf, hb⟩
  by_cases h3 : mode = 3
  · subst h3
    have hf := LiO.fresh w (namedLi 3) (by decide) (by decide)
    have hb := below_new w (cli (namedLi 3)).toArray 50
    clear h1 h2
    go_enter Try.func16, Try.ntmps16
    go_wp2
    go_ret
    exact ⟨_, rfl, hf, hb⟩
  by_cases h4 : mode = 4
  · subst h4
    have hf := LiO.fresh w (namedLi 4) (by decide) (by decide)
    have hb := below_new w (cli (namedLi 4)).toArray 50
    clear h1 h2 h3
    go_enter Try.func16, Try.ntmps16
    go_wp2
    go_ret
    exact ⟨_, rfl, hf, hb⟩
  · have hn : namedLi mode = [] := by unfold namedLi; rw [if_neg h1, if_neg h2, if_neg h3, if_neg h4]
    rw [hn]
    have e1 : (mode == 1) = false := by rw [beq_eq_false_iff_ne]; exact h1
    have e2 : (mode == 2) = false := by rw [beq_eq_false_iff_ne]; exact h2
    have e3 : (mode == 3) = false := by rw [beq_eq_false_iff_ne]; exact h3
    have e4 : (mode == 4) = false := by rw [beq_eq_false_iff_ne]; exact h4
    clear hn h1 h2 h3 h4
    go_enter Try.func16, Try.ntmps16
    go_wp2
    go_ret
    exact ⟨_, rfl, LiO.nil _ _, Below.refl _ _⟩
theorem qnamed_any (mode : Int) (w : World) :
    Calls Try.prog 17 #[.int .i64 mode] w fun e w' => ∃ v, e = .returned v ∧ LiO w' w.heap.size v (namedLi mode) ∧ Below w.heap.size w w' := by
  by_cases h1 : mode = 1
  · subst h1
    have hf := LiO.fresh w (namedLi 1) (by decide) (by decide)
    have hb := below_new w (cli (namedLi 1)).toArray 50
    go_enter Try.func17, Try.ntmps17
    go_wp2
    go_ret
    exact ⟨_, rfl, hf, hb⟩
  by_cases h2 : mode = 2
  · subst h2
    have hf := LiO.fresh w (namedLi 2) (by decide) (by decide)
    have hb := below_new w (cli (namedLi 2)).toArray 50
    clear h1
    go_enter Try.func17, Try.ntmps17
    go_wp2
    go_ret
    exact ⟨_, rfl, hf, hb⟩
  by_cases h3 : mode = 3
  · subst h3
    have hf := LiO.fresh w (namedLi 3) (by decide) (by decide)
    have hb := below_new w (cli (namedLi 3)).toArray 50
    clear h1 h2
    go_enter Try.func17, Try.ntmps17
    go_wp2
    go_ret
    exact ⟨_, rfl, hf, hb⟩
  by_cases h4 : mode = 4
  · subst h4
    have hf := LiO.fresh w (namedLi 4) (by decide) (by decide)
    have hb := below_new w (cli (namedLi 4)).toArray 50
    clear h1 h2 h3
    go_enter Try.func17, Try.ntmps17
    go_wp2
    go_ret
    exact ⟨_, rfl, hf, hb⟩
  · have hn : namedLi mode = [] := by unfold namedLi; rw [if_neg h1, if_neg h2, if_neg h3, if_neg h4]
    rw [hn]
    have e1 : (mode == 1) = false := by rw [beq_eq_false_iff_ne]; exact h1
    have e2 : (mode == 2) = false := by rw [beq_eq_false_iff_ne]; exact h2
    have e3 : (mode == 3) = false := by rw [beq_eq_false_iff_ne]; exact h3
    have e4 : (mode == 4) = false := by rw [beq_eq_false_iff_ne]; exact h4
    clear hn h1 h2 h3 h4
    go_enter Try.func17, Try.ntmps17
    go_wp2
    go_ret
    exact ⟨_, rfl, LiO.nil _ _, Below.refl _ _⟩
theorem take_rep {rs : List (List Int)} {m j : Nat} (hm : rs.length = m) (hj : j < m) : (rs.take j ++ List.replicate (m - j) []).set j (rs[j]'(by omega)) = rs.take (j + 1) ++ List.replicate (m - (j + 1)) [] := by
  have h1 : (rs.take j).length = j := by rw [List.length_take]; omega
  rw [List.set_append_right _ _ (by omega), h1, Nat.sub_self, List.take_succ_eq_append_getElem (by omega), List.append_assoc]
  congr 1
  rw [show m - j = (m - (j + 1)) + 1 by omega, List.replicate_succ, List.set_cons_zero]
  rfl
theorem cloneL_any (v : Value) (rs : List (List Int)) (w : World) (B : Nat) (hR : Rws w B v rs) (hB : B ≤ w.heap.size) (hm : rs.length ≤ 1000) (hn : ∀ r ∈ rs, r.length ≤ 1000000) :
    Calls Try.prog 48 #[v] w fun e w' => ∃ gS vs, e = .returned (.slice (some ⟨gS, 0, none⟩) rs.length rs.length) ∧ RwG w' w.heap.size (.slice (some ⟨gS, 0, none⟩) rs.length rs.length) vs rs ∧ Below w.heap.size w w' := by
  obtain ⟨A, c, rfl, hlc, hcm⟩ := hR.form
  obtain ⟨m, hml⟩ : ∃ m, rs.length = m := ⟨_, rfl⟩
  rw [hml] at hR hlc hm ⊢
  have HR := Lib.hid hR; have HML := Lib.hid hml; have HN := Lib.hid hn
  clear hR hml hn
  go_enter Try.func48, Try.ntmps48
  go_wp2_with (refine wpl_makeS Try.underlying23 info_sIntB rfl (by decide) (by omega) rfl rfl rfl rfl ?_; intro w1 ho1 hb1; refine cut_here ?_)
  have hR1 := RwG.made ho1
  unfold CutHere
  obtain ⟨gS, hgS⟩ : ∃ g, w.heap.size = g := ⟨_, rfl⟩
  rw [hgS] at hR1
  have HGS := Lib.hid hgS
  rw [hgS]
  clear ho1 hgS
  have HR1 := Lib.hid hR1; have HB1 := Lib.hid hb1
  clear hR1 hb1
  go_wp2
  go_loopw [11] (fun jj wr => ∃ j : Nat, j ≤ m ∧ jj = .int .i64 j ∧ Hid (Below gS w wr) ∧ ∃ vs, Hid (RwG wr gS (.slice (some ⟨gS, 0, none⟩) m m) vs (rs.take j ++ List.replicate (m - j) []))) (fun jj _ => m - (intOf jj).toNat)
  case atStart => exact ⟨0, Nat.zero_le _, rfl, by have := HB1.out; rw [HGS.out] at this; exact this, _, Lib.hid (by simpa using HR1.out)⟩
  case round =>
    obtain ⟨j, hj, rfl, hb, vs, hRg⟩ := hrel
    by_cases hjm : j < m
    · have hjl : j < rs.length := by rw [HML.out]; exact hjm
      have hKr := hb.out.size
      rw [HGS.out] at hKr
      have hBg : B ≤ gS := by rw [← HGS.out]; exact hB
      obtain ⟨bq, oq, Aq, cq, rfl, hbq, hcell, hS, g1, g2⟩ := (HR.out.below (hb.out.mono hBg)).get hjl
      have hct := take_rep HML.out hjm
      have hnr := HN.out rs[j] (List.getElem_mem _)
      generalize rs[j] = r at *
      obtain ⟨rn, hrn⟩ : ∃ n, r.length = n := ⟨_, rfl⟩
      have hone := ci_one r
      have hlen : (ci r).length ≤ 8796093022208 := by rw [ci_len]; omega
      have HCT := Lib.hid hct; have HS := Lib.hid hS; have HONE := Lib.hid hone; have HLEN := Lib.hid hlen
      rw [hrn] at hcell g1 HS
      clear hct hS hone hlen hrn
      have hvl : j < vs.length := by have := hRg.out.len; rw [this]; simp; omega
      obtain ⟨gq, cc, hv, hg2, _, _, hcells, hfro, hset⟩ := hRg.out.top.at_ (by omega)
      injection hv with e1 e2 e3
      injection e1 with e1; injection e1 with e1
      subst e1
      have hck := hcells j hvl
      rw [List.getElem?_eq_getElem hvl] at hck
      have hfi := hfro j
      have hz5 : gS < wr.heap.size := by obtain ⟨cs, hc⟩ := hRg.out.top.blk (k := gS) rfl; exact (Array.getElem?_eq_some_iff.1 hc).1
      generalize vs[j] = ox at *
      have HCK := Lib.hid hck; have HFI := Lib.hid hfi
      clear hcells hfro hset e2 e3 hck hfi hvl
      go_wp2_with (at_builtin; refine wpl_appN (Own.nil wr wr.heap.size 3) HS.out (Nat.le_refl _) (by simpa using HLEN.out) Try.underlying43 info_int rfl (by decide) HONE.out rfl rfl rfl rfl (h := ?_); intro v5 w5 ho5 hb5; rw [List.nil_append] at ho5; obtain ⟨A6, n6, k6, rfl⟩ := ho5.shape; have hk6 := (hb5.cell (p := ⟨gS, j, none⟩) hz5).trans HCK.out; have hf6 := (hb5.frozen (p := ⟨gS, j, none⟩) hz5).trans HFI.out)
      have hR7 := hRg.out.put (i := j) hKr hb5 (show Own w5 wr.heap.size 3 (.slice A6 n6 k6) (ci r) from ho5) (by simp; omega)
      rw [HCT.out] at hR7
      have hb7 := (hb.out.trans (hb5.mono hKr)).setCell (p := ⟨gS, j, none⟩) (Nat.le_refl _) (.slice A6 n6 k6)
      exact ⟨⟨j + 1, by omega, by simp, hb7, _, hR7⟩, by simp [intOf]; omega⟩
    · have hjj : j = m := by omega
      have hall : rs.take j ++ List.replicate (m - j) [] = rs := by rw [hjj, Nat.sub_self, List.replicate_zero, List.append_nil, ← HML.out, List.take_length]
      have h1 := hRg.out
      rw [hall] at h1
      have HF := Lib.hid h1
      clear hall h1
      go_wp2
      go_ret
      exact ⟨gS, vs, rfl, by rw [HGS.out]; exact HF.out, by rw [HGS.out]; exact hb.out⟩
theorem copied_any (v : Value) (rs : List (List Int)) (w : World) (B : Nat) (hR : Rws w B v rs) (hB : B ≤ w.heap.size) (hm : rs.length ≤ 1000) (hn : ∀ r ∈ rs, r.length ≤ 1000000) :
    Calls Try.prog 36 #[v] w fun e w' => ∃ u vs, e = .returned u ∧ RwG w' w.heap.size u vs rs ∧ Below w.heap.size w w' := by
  obtain ⟨A, c, rfl, hlc, hcm⟩ := hR.form
  obtain ⟨m, hml⟩ : ∃ m, rs.length = m := ⟨_, rfl⟩
  rw [hml] at hR hlc hm
  have HR := Lib.hid hR; have HML := Lib.hid hml; have HN := Lib.hid hn
  rw [hml]
  clear hR hml hn
  go_enter Try.func36, Try.ntmps36
  go_wp2
  go_loopw [3, 4] (fun u jj wr => ∃ j : Nat, j ≤ m ∧ jj = .int .i64 j ∧ Hid (Below w.heap.size w wr) ∧ ∃ vs, Hid (RwG wr w.heap.size u vs (rs.take j))) (fun _ jj _ => m - (intOf jj).toNat)
  case atStart => exact ⟨0, Nat.zero_le _, rfl, Below.refl _ _, _, RwG.nil _ _⟩
  case round =>
    obtain ⟨j, hj, rfl, hb, vs, hRg⟩ := hrel
    by_cases hjm : j < m
    · have hjl : j < rs.length := by rw [HML.out]; exact hjm
      have hKr := hb.out.size
      obtain ⟨bq, oq, Aq, cq, rfl, hbq, hcell, hS, g1, g2⟩ := (HR.out.below (hb.out.mono hB)).get hjl
      have hct := List.take_succ_eq_append_getElem hjl
      have hnr := HN.out rs[j] (List.getElem_mem _)
      have hvl : vs.length + 1 ≤ 1099511627776 := by have := hRg.out.len; rw [this, List.length_take]; omega
      generalize rs[j] = r at *
      obtain ⟨rn, hrn⟩ : ∃ n, r.length = n := ⟨_, rfl⟩
      have hone := ci_one r
      have hlen : (ci r).length ≤ 8796093022208 := by rw [ci_len]; omega
      have HCT := Lib.hid hct; have HS := Lib.hid hS; have HONE := Lib.hid hone; have HLEN := Lib.hid hlen; have HVL := Lib.hid hvl
      rw [hrn] at hcell g1 HS
      clear hct hS hone hlen hrn hvl
      have hbq' : bq < wr.heap.size := by omega
      go_wp2_with (at_builtin; refine wpl_appN (Own.empty wr 3) ((HS.out.more (by omega)).below ((Below.refl wr.heap.size wr).alloc (Nat.le_refl _) _)) (by simp) (by simpa using HLEN.out) Try.underlying43 info_int rfl (by decide) HONE.out rfl rfl rfl rfl (h := ?_); intro v5 w5 ho5 hb5; rw [List.nil_append] at ho5; obtain ⟨A6, n6, k6, rfl⟩ := ho5.shape; have HO5 := Lib.hid ho5; have HB5 := Lib.hid (((Below.refl wr.heap.size wr).alloc (Nat.le_refl _) _).trans hb5); clear ho5 hb5; refine cut_here ?_)
      have HK5 := Lib.hid (hRg.out.kept HB5.out)
      have hS5 := HB5.out.size
      unfold CutHere
      go_wp2_with (at_builtin; refine wpl_pushS HK5.out.top (by omega) HVL.out Try.underlying23 info_sIntB rfl (by decide) rfl rfl rfl rfl rfl (h := ?_); intro v7 w7 ho7 hm7)
      have hR7 := hRg.out.push hKr HB5.out HO5.out ho7 hm7
      rw [← HCT.out] at hR7
      have hb7 := hb.out.trans ((HB5.out.mono hKr).trans (Mov.belowK hm7 (fun k hk => (HK5.out.top.lt k hk).1) (by omega)))
      exact ⟨⟨j + 1, by omega, by simp, hb7, _, hR7⟩, by simp [intOf]; omega⟩
    · have hjj : j = m := by omega
      have hall : rs.take j = rs := by rw [hjj, ← HML.out, List.take_length]
      have h1 := hRg.out
      rw [hall] at h1
      have HF := Lib.hid h1
      clear hall h1
      go_wp2
      go_ret
      exact ⟨_, vs, rfl, HF.out, hb.out⟩
end Go.Proofs.Ytggddckckfilgaa
