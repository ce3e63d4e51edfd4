/- prefix: Lengths, where fewer than two symbols are used, or too many. -/
import Derived.Test.YthecibabpcfoaaaPfxY
namespace Go.Proofs.Ythecibabpcfoaaa
open Go.RowKit Go.Shelf
set_option maxRecDepth 100000
set_option maxHeartbeats 4000000

theorem lengths_none {w : World} {B : Nat} {v : Value} {fs : List Nat} {L : Nat} (hS : Sli w B v (ci (ni fs))) (hB : B ≤ w.heap.size) (h1 : 1 ≤ fs.length) (h2 : fs.length ≤ 1024) (h3 : ∀ x ∈ fs, x ≤ 1099511627776) (hA : Ascd fs []) (hL1 : 1 ≤ L) (hL2 : L ≤ 24) :
    Calls Try.prog 19 #[v, .int .i64 L] w fun e w' => e = .returned (.tuple #[.slice none 0 0, .int .i64 7]) ∧ Below w.heap.size w w' := by
  have hF := freqs_any hS
  rw [freqs_of h1 h2 h3] at hF
  have HAS := Lib.hid (asc_any hS hB (by omega) hA)
  obtain ⟨A, c, rfl, hlc, hcm⟩ := hS.formI
  clear hS h3 hA
  go_enter Try.func19, Try.ntmps19
  go_wp2_with fail
  refine hF.mono ?_
  rintro e w0 ⟨rfl, hw0⟩
  subst hw0
  clear hF
  go_wp2_with fail
  refine HAS.out.mono ?_
  rintro e w1 ⟨vu, rfl, hou, hb1⟩
  obtain ⟨Au, cu, rfl, hcu1, hcu2⟩ := hou.formI
  have hb2 : Below w.heap.size w (w1.alloc (.cells #[.slice Au 0 cu] 22)) := hb1.alloc hb1.size _
  have HB := Lib.hid hb2
  simp only [ni, List.map_nil, List.length_nil] at hcu1 ⊢
  clear hou hb1 hb2
  go_wp2
  go_ret2
  exact ⟨rfl, HB.out⟩

theorem lengths_over {w : World} {B : Nat} {v : Value} {fs ss : List Nat} {L : Nat} (hS : Sli w B v (ci (ni fs))) (hB : B ≤ w.heap.size) (h1 : 1 ≤ fs.length) (h2 : fs.length ≤ 1024) (h3 : ∀ x ∈ fs, x ≤ 1099511627776) (hA : Ascd fs ss) (hL1 : 1 ≤ L) (hL2 : L ≤ 24) (hu : 2 ^ L < ss.length) :
    Calls Try.prog 19 #[v, .int .i64 L] w fun e w' => e = .returned (.tuple #[.slice none 0 0, .int .i64 6]) ∧ Below w.heap.size w w' := by
  have hF := freqs_any hS
  rw [freqs_of h1 h2 h3] at hF
  have HAS := Lib.hid (asc_any hS hB (by omega) hA)
  have huu : ss.length ≤ fs.length := by
    rw [hA.1.length_eq]; unfold usedN; exact Nat.le_trans (List.length_filter_le _ _) (by simp)
  obtain ⟨A, c, rfl, hlc, hcm⟩ := hS.formI
  obtain ⟨u, hul⟩ : ∃ u, ss.length = u := ⟨_, rfl⟩
  obtain ⟨P2, hP2⟩ : ∃ P2, 2 ^ L = P2 := ⟨_, rfl⟩
  have hpw : IntKind.i64.wrap ((2 : Int) ^ L) = (P2 : Nat) := by
    have : P2 ≤ 16777216 := by rw [← hP2]; exact pow24 hL2
    rw [← pow_cast, hP2, IntKind.wrap_i64]; omega
  have hp1 : 1 ≤ P2 := by rw [← hP2]; exact Nat.one_le_two_pow
  rw [hul, hP2] at hu
  rw [hul] at huu
  have HUL := Lib.hid hul
  clear hS h3 hA hul hP2
  go_enter Try.func19, Try.ntmps19
  go_wp2_with fail
  refine hF.mono ?_
  rintro e w0 ⟨rfl, hw0⟩
  subst hw0
  clear hF
  go_wp2_with fail
  refine HAS.out.mono ?_
  rintro e w1 ⟨vu, rfl, hou, hb1⟩
  obtain ⟨Au, cu, rfl, hcu1, hcu2⟩ := hou.formI
  rw [ni_len, HUL.out] at hcu1 ⊢
  have hc2 := heap_alloc_new w1 (.cells #[.slice Au u cu] 22)
  have hb2 : Below w.heap.size w (w1.alloc (.cells #[.slice Au u cu] 22)) := hb1.alloc hb1.size _
  obtain ⟨w2, hw2⟩ : ∃ w2, w1.alloc (.cells #[.slice Au u cu] 22) = w2 := ⟨_, rfl⟩
  rw [hw2] at hc2 hb2
  have d2 := (blk1 hc2).1
  have HB := Lib.hid hb2
  clear hou hb1 hb2 hc2
  go_wp2_with fail
  go_region
  go_wp2
  go_ret2
  exact ⟨rfl, HB.out.drew⟩

theorem lensN_one {fs : List Nat} {s L : Nat} (hs : s < fs.length) : lensN fs [s] L = (List.replicate fs.length 0).set s 1 := by
  refine List.ext_getElem (by rw [lensN_len]; simp) fun i h1 h2 => ?_
  have hi : i < fs.length := by rw [← lensN_len fs [s] L]; exact h1
  rw [← atN_get h1, ← atN_get h2, lensN_at hi, atN_set (by simpa using hs), atN_rep]
  simp

theorem lengths_single {w : World} {B : Nat} {v : Value} {fs : List Nat} {s L : Nat} (hS : Sli w B v (ci (ni fs))) (hB : B ≤ w.heap.size) (h1 : 1 ≤ fs.length) (h2 : fs.length ≤ 1024) (h3 : ∀ x ∈ fs, x ≤ 1099511627776) (hA : Ascd fs [s]) (hL1 : 1 ≤ L) (hL2 : L ≤ 24) :
    Calls Try.prog 19 #[v, .int .i64 L] w fun e w' => ∃ v', e = .returned (.tuple #[v', .int .i64 0]) ∧ Own w' w.heap.size 3 v' (ci (ni (lensN fs [s] L))) ∧ Below w.heap.size w w' := by
  have hF := freqs_any hS
  rw [freqs_of h1 h2 h3] at hF
  have HAS := Lib.hid (asc_any hS hB (by omega) hA)
  have hsl : s < fs.length := (usedN_mem.1 (hA.1.mem_iff.1 (List.mem_singleton.2 rfl))).1
  rw [lensN_one hsl]
  obtain ⟨A, c, rfl, hlc, hcm⟩ := hS.formI
  obtain ⟨n, hnl⟩ : ∃ n, fs.length = n := ⟨_, rfl⟩
  rw [ni_len, hnl] at hlc HAS ⊢
  rw [ni_len, hnl] at hF
  rw [hnl] at hsl h1 h2
  obtain ⟨S0, hs0⟩ : ∃ S0, w.heap.size = S0 := ⟨_, rfl⟩
  obtain ⟨P2, hP2⟩ : ∃ P2, 2 ^ L = P2 := ⟨_, rfl⟩
  have hpw : IntKind.i64.wrap ((2 : Int) ^ L) = (P2 : Nat) := by
    have : P2 ≤ 16777216 := by rw [← hP2]; exact pow24 hL2
    rw [← pow_cast, hP2, IntKind.wrap_i64]; omega
  have hp1 : 1 ≤ P2 := by rw [← hP2]; exact Nat.one_le_two_pow
  rw [hs0] at hB
  have HS0 := Lib.hid hs0
  clear hS h3 hA hP2 hnl
  go_enter Try.func19, Try.ntmps19
  go_wp2_with fail
  refine hF.mono ?_
  rintro e w0 ⟨rfl, hw0⟩
  subst hw0
  clear hF
  go_wp2_with fail
  refine HAS.out.mono ?_
  rintro e w1 ⟨vu, rfl, hou, hb1⟩
  obtain ⟨Au, cu, rfl, hcu1, hcu2⟩ := hou.formI
  rw [show (ni [s]).length = 1 from rfl] at hou hcu1 ⊢
  rw [hs0] at hou hb1
  have hs1 : S0 ≤ w1.heap.size := by have := hb1.size; omega
  have hc2 := heap_alloc_new w1 (.cells #[.slice Au (1 : Nat) cu] 22)
  have hb2 : Below S0 w (w1.alloc (.cells #[.slice Au (1 : Nat) cu] 22)) := hb1.alloc hs1 _
  have hou2 : Own (w1.alloc (.cells #[.slice Au (1 : Nat) cu] 22)) S0 3 (.slice Au (1 : Nat) cu) (ci (ni [s])) := hou.alloc _
  have hsz2 : (w1.alloc (.cells #[.slice Au (1 : Nat) cu] 22)).heap.size = w1.heap.size + 1 := by simp
  obtain ⟨w2, hw2⟩ : ∃ w2, w1.alloc (.cells #[.slice Au (1 : Nat) cu] 22) = w2 := ⟨_, rfl⟩
  rw [hw2] at hc2 hb2 hou2 hsz2
  obtain ⟨gU, hgU⟩ : ∃ gU, w1.heap.size = gU := ⟨_, rfl⟩
  rw [hgU] at hc2 hsz2 hs1
  have d2 := (blk1 hc2).1
  have HOU := Lib.hid hou2
  clear hou hb1 hou2
  go_wp2_with fail
  go_region
  have hd2 : ∀ q, (w2.drewN q).heap.size = gU + 1 := fun q => hsz2
  go_wp2_with (at_make; refine wpl_make Try.underlying22 info_int rfl (by decide) (by omega) rfl rfl rfl rfl (n := n) (h := ?_); intro w3 ho3 hb3; refine cut_here ?_)
  unfold CutHere
  have hb3' : Below (gU + 1) w2 w3 := by
    have e : w2.drew.heap.size = gU + 1 := hsz2
    rw [e] at hb3
    exact ⟨hb3.os, hb3.tape, hb3.output, hb3.size, hb3.block⟩
  have ho3' : Own w3 (gU + 1) 3 (.slice (some ⟨gU + 1, 0, none⟩) n n) (ci (ni (List.replicate n 0))) := by
    have e : w2.drew.heap.size = gU + 1 := hsz2
    rw [e] at ho3
    have : List.replicate n (Value.int .i64 0) = ci (ni (List.replicate n 0)) := by simp [ci, ni]
    rw [← this]; exact ho3
  have HO3 := Lib.hid ho3'
  have hcU3 := (hb3'.block gU (by omega)).trans hc2
  have hb03 : Below S0 w w3 := hb2.trans (hb3'.mono (by omega))
  have hs3 : gU + 2 ≤ w3.heap.size := by have := (ho3'.lt (gU + 1) rfl).2; omega
  have HOU3 := Lib.hid (HOU.out.kept (hb3'.mono (by omega : w2.heap.size ≤ gU + 1) |> fun h => by rw [hsz2]; exact hb3'))
  clear ho3 hb3 ho3' hb3' hd2
  obtain ⟨gL, hgL⟩ : ∃ gL, w3.heap.size = gL := ⟨_, rfl⟩
  rw [hgL] at hs3
  have hc4 := heap_alloc_new w3 (.cells #[.slice (some ⟨gU + 1, 0, none⟩) n n] 22)
  have hb34 : Below gL w3 (w3.alloc (.cells #[.slice (some ⟨gU + 1, 0, none⟩) n n] 22)) := by rw [← hgL]; exact (Below.refl _ _).alloc (Nat.le_refl _) _
  obtain ⟨w4, hw4⟩ : ∃ w4, w3.alloc (.cells #[.slice (some ⟨gU + 1, 0, none⟩) n n] 22) = w4 := ⟨_, rfl⟩
  rw [hw4, hgL] at hc4
  rw [hw4] at hb34
  have hcU4 := (hb34.block gU (by omega)).trans hcU3
  have HOU4 := Lib.hid (HOU3.out.kept (by rw [hgL]; exact hb34))
  have HO4 := Lib.hid (HO3.out.kept (by rw [hgL]; exact hb34))
  have d4 := (blk1 hcU4).1
  have f4 := (blk1 hc4).1
  obtain ⟨b2, o2, hAu, _, r1⟩ := HOU4.out.sli.atI (i := 0) (by simp [ni])
  rw [ni_at (by simp)] at r1
  subst hAu
  simp only [atN, Nat.add_zero] at r1
  obtain ⟨g4, c4, hv4, _, _, _, hcell4, hfro4, hput4⟩ := HO4.out.at_ (by rw [ci_len, ni_len]; simp; omega)
  injection hv4 with hv4 hx1 hx2; clear hx1 hx2; injection hv4 with hv4; injection hv4 with hv4 hx3 hx4; clear hx3 hx4; subst hv4
  have hfro5 := hfro4 s
  have hb04 : Below S0 w w4 := hb03.trans (hb34.mono (by omega))
  have hp5 := HO4.out.put s (.int .i64 (1 : Nat))
  rw [show (ci (ni (List.replicate n 0))).set s (.int .i64 (1 : Nat)) = ci (ni ((List.replicate n 0).set s 1)) by simp [ci, ni, List.map_set]] at hp5
  have HP5 := Lib.hid hp5; have HB4 := Lib.hid hb04
  have r3 := hcell4 s (by rw [ci_len, ni_len]; simpa using hsl)
  rw [ci_at (by rw [ni_len]; simpa using hsl), ni_at (by simpa using hsl), atN_rep] at r3
  clear hp5 hb04 hcell4 hfro4 hput4 hcU3 hcU4 hc4 hc2 d2 hw2 hgU hsz2 hb34 hb03 hb2
  have HGL := Lib.hid hgL
  have hne : ¬ gL = gU + 1 := by omega
  go_wp2_with fail
  clear hgL
  go_region
  all_goals go_wp2
  all_goals go_ret2

  all_goals (rw [HS0.out]; exact ⟨_, rfl, HP5.out.mono (by omega), (HB4.out.setCell (p := ⟨gU + 1, s, none⟩) (by show S0 ≤ gU + 1; omega) _).drew⟩)

/-- What Lengths answers for right arguments. -/
theorem lengths_any {w : World} {B : Nat} {v : Value} {fs ss : List Nat} {L : Nat} (hS : Sli w B v (ci (ni fs))) (hB : B ≤ w.heap.size) (h1 : 1 ≤ fs.length) (h2 : fs.length ≤ 1024) (h3 : ∀ x ∈ fs, x ≤ 1099511627776) (hA : Ascd fs ss) (hL1 : 1 ≤ L) (hL2 : L ≤ 24) (h0 : ss ≠ []) (hu : ss.length ≤ 2 ^ L) :
    Calls Try.prog 19 #[v, .int .i64 L] w fun e w' => ∃ v', e = .returned (.tuple #[v', .int .i64 0]) ∧ Own w' w.heap.size 3 v' (ci (ni (lensN fs ss L))) ∧ Below w.heap.size w w' := by
  rcases ss with _ | ⟨s, _ | ⟨s2, ss⟩⟩
  · exact absurd rfl h0
  · exact lengths_single hS hB h1 h2 h3 hA hL1 hL2
  · exact lengths_many hS hB h1 h2 h3 hA hL1 hL2 (by simp) hu
end Go.Proofs.Ythecibabpcfoaaa
