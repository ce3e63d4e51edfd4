/- SumsParts. -/
import Derived.Test.YtdkhkjagkmniaaaSumZ
import Derived.Test.YtdkhkjagkmniaaaFoot
import Derived.Test.YtdkhkjagkmniaaaLawKit
namespace Go.Proofs.Ytdkhkjagkmniaaa
open Go.RowKit
set_option maxRecDepth 1000000
set_option maxHeartbeats 1000000

theorem flat_snoc {ls : List (List Nat)} {i : Nat} {a : List Nat} (h : ls[i]? = some a) : (ls.take (i + 1)).flatten = (ls.take i).flatten ++ a := by
  obtain ⟨hi, rfl⟩ := List.getElem?_eq_some_iff.1 h
  rw [List.take_succ_eq_append_getElem hi, List.flatten_append, List.flatten_cons, List.flatten_nil, List.append_nil]
theorem flat_cons {ls : List (List Nat)} {i : Nat} {a : List Nat} (h : ls[i]? = some a) : (ls.drop i).flatten = a ++ (ls.drop (i + 1)).flatten := by
  obtain ⟨hi, rfl⟩ := List.getElem?_eq_some_iff.1 h
  rw [List.drop_eq_getElem_cons hi, List.flatten_cons]
theorem flat_take_len {ls : List (List Nat)} {m : Nat} (h : ∀ j a, j < m → ls[j]? = some a → a.length ≤ 200) : (ls.take m).flatten.length ≤ 200 * m := by
  induction m with
  | zero => simp
  | succ m ih =>
    have hi := ih fun j a hj => h j a (by omega)
    rcases h2 : ls[m]? with _ | a
    · rw [List.getElem?_eq_none_iff] at h2
      rw [List.take_of_length_le (by omega)]
      rw [List.take_of_length_le (by omega)] at hi
      omega
    · rw [flat_snoc h2, List.length_append]
      have := h m a (by omega) h2
      omega
theorem flat_drop_len {ls : List (List Nat)} (h : ∀ j a, j < ls.length → ls[j]? = some a → a.length ≤ 200) (m : Nat) : (ls.drop m).flatten.length ≤ 200 * ls.length := by
  have h1 := flat_take_len h
  rw [List.take_length] at h1
  have h2 : ls.flatten.length = (ls.take m).flatten.length + (ls.drop m).flatten.length := by
    rw [← List.length_append, ← List.flatten_append, List.take_append_drop]
  omega
theorem jnI_hs (l m : List Nat) : jnI (hs 0 l) (hs 0 m) (m.length : Nat) = (hs 0 (l ++ m), true) := by
  rw [jnI_ok (hs_lt l 0 (by decide +kernel)) (hs_lt m 0 (by decide +kernel)), hs_join]

theorem sumsParts_walk (v : Value) (ls : List (List Nat)) (w : World) (hS : Sls w w.heap.size v ls) (hx : ∀ l ∈ ls, ∀ x ∈ l, x < 256) :
    Calls Try.prog 5 #[v] w fun e w' => e = .returned (.bool true) ∧ Below w.heap.size w w' := by
  obtain ⟨vs, hvs, hvl, hrow⟩ := hS
  obtain ⟨A, c, rfl, hh, hlc, hcm, _⟩ := id hvs
  have h63 : vs.length ≤ 9223372036854775807 := by unfold maxLen at hcm; omega
  obtain ⟨k, hk⟩ : ∃ k, vs.length = k := ⟨_, rfl⟩
  have hkl : ls.length = k := by omega
  rw [hk] at hh h63 ⊢
  have hcell : ∀ i, i < k → ∀ wr, Below w.heap.size w wr → ∃ b o A2 c2 l, A = some ⟨b, o, none⟩ ∧ wr.cell? ⟨b, o + i, none⟩ = some (.slice A2 l.length c2) ∧ ls[i]? = some l ∧ Sli wr w.heap.size (.slice A2 l.length c2) (cu8 l) := by
    intro i hi wr hb
    obtain ⟨b, o, u, hA, hbB, hc, hu⟩ := (hh.below hb).get hi
    have hil : i < ls.length := by omega
    have hl : ls[i]? = some ls[i] := List.getElem?_eq_getElem hil
    have hs := (hrow i u ls[i] hu hl).below hb
    obtain ⟨A2, c2, rfl, _, _⟩ := hs.form8
    exact ⟨b, o, A2, c2, _, hA, hc, hl, hs⟩
  have HC := Lib.hid hcell
  have HX := Lib.hid hx; have HKL := Lib.hid hkl
  clear hcell hx hkl hrow hvs hk hh hvl hlc hcm
  by_cases h8 : 8 < k
  · go_enter Try.func5, Try.ntmps5
    go_wp2_with (go_at_call 11; refine (known_any _).mono ?_; rintro e w1 ⟨rfl, hb1⟩)
    go_ret
    exact ⟨rfl, hb1⟩
  obtain ⟨G, hG⟩ : ∃ G, w.heap.size = G := ⟨_, rfl⟩
  have HG := Lib.hid hG
  rw [hG] at HC
  go_enter Try.func5, Try.ntmps5
  go_upto_region 5 with (go_at_call 11; refine (known_any _).mono ?_; rintro e w1 ⟨rfl, hb1⟩)
  rw [hG] at hb1
  clear hG
  go_wp2
  go_loopw [3, 4, 5, 6] (fun va ll oo ii wr => ∃ (i : Nat), i ≤ k ∧ ii = .int .i64 i ∧ oo = .bool true ∧ ll = .int .u64 (hs 0 (ls.take i).flatten : Nat) ∧ Own wr G 5 va (cu8 (ls.take i).flatten) ∧ Below G w wr ∧ Hid (∀ j a, j < i → ls[j]? = some a → a.length ≤ 200)) (fun _ _ _ ii _ => k - (intOf ii).toNat)
  case atStart => exact ⟨0, by omega, rfl, rfl, by simp [hs], Own.nil _ _ _, hb1, fun j a hj => by omega⟩
  case round =>
    obtain ⟨i, hi, rfl, rfl, rfl, ho, hb, h200⟩ := hrel
    obtain ⟨Aa, na, ca, rfl⟩ := ho.shape
    by_cases hik : i < k
    · obtain ⟨b1, o1, A1, c1, a, hA1, hc1, hl1, hs1⟩ := HC.out i hik _ hb
      subst hA1
      have hal : a ∈ ls := List.mem_of_getElem? hl1
      obtain ⟨_, _, hae, ha1, ha2⟩ := hs1.form8
      have hiI : (i : Int) < (k : Int) := by omega
      by_cases h2 : 200 < a.length
      · have h63a : a.length ≤ 9223372036854775807 := by unfold maxLen at ha2; omega
        have HL := Lib.hid hl1
        clear hae ha1 ha2 hl1 hs1 hal
        go_wp2
        go_ret
        exact ⟨rfl, by rw [HG.out]; exact hb⟩
      · have hfs := flat_snoc hl1
        have hfl := flat_take_len h200.out
        have h2n : ∀ j a, j < i + 1 → ls[j]? = some a → a.length ≤ 200 := by
          intro j a' hj ha'
          by_cases he : j = i
          · subst he; rw [hl1] at ha'; injection ha' with ha'; subst ha'; omega
          · exact h200.out j a' (by omega) ha'
        have H2N := Lib.hid h2n
        have hjn := jnI_hs (ls.take i).flatten a
        have hlt := hs_lt (ls.take i).flatten 0 (by omega)
        have hlt2 := hs_lt a 0 (by omega)
        have hPr := fun q => printN _ a wr _ hs1 (HX.out a hal) (by omega) q
        have hJo := fun q => joinN (hs 0 (ls.take i).flatten) (hs 0 a) (a.length : Nat) wr q (by omega) (by omega) (by omega) (by omega)
        rw [hjn] at hJo
        have HAX : Hid (∀ x ∈ a, x < 256) := HX.out a hal
        rw [← hfs] at hJo
        have HFS := Lib.hid hfs
        obtain ⟨p3, hp3⟩ : ∃ p3, hs 0 (ls.take (i + 1)).flatten = p3 := ⟨_, rfl⟩
        rw [hp3] at hJo
        generalize hs 0 (ls.take i).flatten = p1 at hJo hlt ⊢
        generalize hs 0 a = p2 at hJo hPr
        have HP3 := Lib.hid hp3; have HPR := Lib.hid hPr; have HJO := Lib.hid hJo
        have HS1 := Lib.hid hs1; have HL1 := Lib.hid hl1
        have hroom : (cu8 (ls.take i).flatten).length + (cu8 a).length ≤ 8796093022208 := by rw [cu8_len, cu8_len]; omega
        clear hfs hfl h2n hjn hPr hJo hp3 hs1 hl1 hae hlt hlt2
        have hi64 : (i : Int) + 1 ≤ 9 := by omega
        go_upto_region 12 with (fail)
        go_quiet ((first
          | (go_at_call 18; exact HPR.out _)
          | (go_at_call 20; exact HJO.out _)))
        have ho3 : Own (wr.drewN nq) G 5 (.slice Aa na ca) (cu8 (ls.take i).flatten) := ho
        have hs3 : Sli (wr.drewN nq) G (.slice A1 a.length c1) (cu8 a) := HS1.out
        have hc3 : (wr.drewN nq).cell? ⟨b1, o1 + i, none⟩ = some (.slice A1 a.length c1) := hc1
        have hb3 := below_drewN hb nq
        have hGq : G ≤ (wr.drewN nq).heap.size := by rw [← HG.out]; exact hb3.size
        generalize wr.drewN nq = wq at *
        clear hc1
        go_wp2_with (at_builtin; refine wpl_appN ho3 hs3 hGq hroom Try.underlying22 info_u8 rfl (by decide) (cu8_one _) rfl rfl rfl rfl (h := ?_); intro v4 w4 ho4 hb4; refine cut_here ?_)
        unfold CutHere
        rw [← cu8_app, ← HFS.out] at ho4
        clear ho3 hs3 ho
        go_wp2
        exact ⟨⟨i + 1, by omega, by simp, rfl, by rw [HP3.out], ho4, hb3.trans hb4, H2N⟩, by simp [intOf]; omega⟩
    · obtain rfl : i = k := by omega
      obtain ⟨wb, rfl⟩ : ∃ wb : World, wb = wr := ⟨_, rfl⟩
      have htk : ls.take i = ls := by rw [← HKL.out, List.take_length]
      rw [htk] at ho
      have h2d := flat_drop_len (ls := ls) (fun j a hj => h200.out j a (by rw [← HKL.out]; exact hj))
      have hHS : Hid (Sli wb wb.heap.size (.slice Aa na ca) (cu8 ls.flatten)) := ho.sli
      have hflen : ls.flatten.length ≤ 1600 := by have := h2d 0; rw [List.drop_zero, HKL.out] at this; omega
      have hfx : ∀ x ∈ ls.flatten, x < 256 := by
        intro x h
        obtain ⟨l, h1, h2⟩ := List.mem_flatten.1 h
        exact HX.out l h1 x h2
      have HFP := Lib.hid (fun q => printN _ ls.flatten wb _ hHS.out hfx (by omega) q)
      rw [htk]
      have H2D : Hid (∀ m, (ls.drop m).flatten.length ≤ 1600) := fun m => by have := h2d m; rw [HKL.out] at this; omega
      have HB := Lib.hid hb
      clear ho hfx h2d htk hik hb
      obtain ⟨P, hP⟩ : ∃ P, hs 0 ls.flatten = P := ⟨_, rfl⟩
      rw [hP] at HFP ⊢
      have HP := Lib.hid hP
      clear hP
      go_wp2
      go_loopw [5, 9, 10, 11] (fun oo rr nn ii wx => ∃ (j q : Nat), j ≤ i ∧ ii = .int .i64 ((j : Int) - 1) ∧ oo = .bool true ∧ rr = .int .u64 (hs 0 (ls.drop j).flatten : Nat) ∧ nn = .int .i64 ((ls.drop j).flatten.length : Nat) ∧ wx = wb.drewN q) (fun _ _ _ ii _ => (intOf ii + 1).toNat)
      case atStart => exact ⟨i, 0, Nat.le_refl _, rfl, rfl, by rw [List.drop_of_length_le (by rw [HKL.out]; omega)]; rfl, by rw [List.drop_of_length_le (by rw [HKL.out]; omega)]; rfl, rfl⟩
      case round =>
        obtain ⟨j, q, hj, rfl, rfl, rfl, rfl, hwx⟩ := hrel
        by_cases hj0 : j = 0
        · subst hj0
          rw [List.drop_zero, HP.out]
          subst hwx
          go_wp2_with (go_at_call 18; refine (HFP.out _).mono ?_; rintro e w2 ⟨rfl, n1, rfl⟩)
          go_ret
          exact ⟨rfl, by rw [HG.out]; exact below_drewN HB.out _⟩
        · obtain ⟨m, rfl⟩ : ∃ m, j = m + 1 := ⟨j - 1, by omega⟩
          have hm1 : ((m + 1 : Nat) : Int) - 1 = (m : Nat) := by omega
          have hbx : Below G w wr := by rw [hwx]; exact below_drewN HB.out q
          obtain ⟨b1, o1, A1, c1, a, hA1, hc1, hl1, hs1⟩ := HC.out m (by omega) wr hbx
          subst hA1
          have hal : a ∈ ls := List.mem_of_getElem? hl1
          have ha2 : a.length ≤ 200 := h200.out m a (by omega) hl1
          have hfc := flat_cons hl1
          have hfl := H2D.out (m + 1)
          have hjn := jnI_hs a (ls.drop (m + 1)).flatten
          have hlt := hs_lt a 0 (by omega)
          have hlt2 := hs_lt (ls.drop (m + 1)).flatten 0 (by omega)
          have hpr := fun q => printN _ a wr _ hs1 (HX.out a hal) (by omega) q
          have hjo := fun q => joinN (hs 0 a) (hs 0 (ls.drop (m + 1)).flatten) ((ls.drop (m + 1)).flatten.length : Nat) wr q (by omega) (by omega) (by omega) (by omega)
          rw [hjn, ← hfc] at hjo
          have hn2 : ((ls.drop (m + 1)).flatten.length : Int) + (a.length : Int) = ((ls.drop m).flatten.length : Nat) := by rw [hfc, List.length_append]; omega
          have hfl0 := H2D.out m
          obtain ⟨p3, hp3⟩ : ∃ p3, hs 0 (ls.drop m).flatten = p3 := ⟨_, rfl⟩
          rw [hp3] at hjo
          generalize hs 0 (ls.drop (m + 1)).flatten = p1 at hjo ⊢
          generalize hs 0 a = p2 at hjo hpr
          obtain ⟨n3, hn3⟩ : ∃ n3, (ls.drop m).flatten.length = n3 := ⟨_, rfl⟩
          rw [hn3] at hn2 hfl0
          generalize (ls.drop (m + 1)).flatten.length = n1 at hjo hn2 hfl ⊢
          have HP3 := Lib.hid hp3; have HPR := Lib.hid hpr; have HJO := Lib.hid hjo; have HN3 := Lib.hid hn3; have HWX := Lib.hid hwx
          have hmI : (m : Int) < (i : Int) := by omega
          have hm0 : (0 : Int) ≤ (m : Int) := by omega
          have hwr : IntKind.i64.wrap ((n1 : Int) + (a.length : Int)) = (n3 : Int) := by rw [hn2]; exact IntWalk.i64_in _ (by omega)
          clear hpr hjo hp3 hn3 hwx hlt hlt2 hfc hjn hl1 hs1 hal
          go_wp2_with (first
            | (go_at_call 18; refine (HPR.out 0).mono ?_; rintro e w2 ⟨rfl, q1, rfl⟩)
            | (go_at_call 20; refine (HJO.out _).mono ?_; rintro e w2 ⟨rfl, q2, rfl⟩))
          have hcy : (wr.drewN q2).cell? ⟨b1, o1 + m, none⟩ = some (.slice A1 a.length c1) := hc1
          have HWY : Hid (wr.drewN q2 = wb.drewN (q + q2)) := by show wr.drewN q2 = _; rw [HWX.out, World.drewN_drewN]
          generalize wr.drewN q2 = wy at hcy HWY ⊢
          clear hc1
          go_quiet (fail)
          go_wp2
          exact ⟨⟨m, q + q2 + nq, by omega, by simp, rfl, by rw [HP3.out], by rw [HN3.out], by rw [HWY.out, World.drewN_drewN]⟩, by simp [intOf]⟩
end Go.Proofs.Ytdkhkjagkmniaaa
