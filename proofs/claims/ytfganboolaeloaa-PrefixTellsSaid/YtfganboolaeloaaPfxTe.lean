/- prefix: the law PrefixTells: the reference's PrefixTotal, used and PrefixCodes; Total of numbers that are right as far as both rows go; sameWords. -/
import Derived.Test.YtfganboolaeloaaPfxQF
import Derived.StillTailTactics
namespace Go.Proofs.Ytfganboolaeloaa
open Go.RowKit
set_option maxRecDepth 100000
set_option maxHeartbeats 1600000

def atZ (l : List Int) (i : Nat) : Int := l.getD i 0
theorem atZ_get {l : List Int} {i : Nat} (h : i < l.length) : l[i] = atZ l i := by simp [atZ, h]
def totZ (a b : List Int) : Nat → Int
  | 0 => 0
  | j + 1 => totZ a b j + atZ a j * atZ b j
theorem totZ_mul {x y : Int} (h1 : 0 ≤ x) (h2 : x ≤ 1099511627776) (h3 : 0 ≤ y) (h4 : y ≤ 64) : 0 ≤ x * y ∧ x * y ≤ 70368744177664 := by
  obtain ⟨a, rfl⟩ := Int.eq_ofNat_of_zero_le h1
  obtain ⟨b, rfl⟩ := Int.eq_ofNat_of_zero_le h3
  have := tot_mul (x := a) (y := b) (by omega) (by omega)
  rw [← Int.natCast_mul]
  omega
/-- Right numbers as far as both rows go. -/
def Rgt (a b : List Int) (m : Nat) : Prop := ∀ i, i < m → 0 ≤ atZ a i ∧ atZ a i ≤ 1099511627776 ∧ 0 ≤ atZ b i ∧ atZ b i ≤ 64
theorem totalZ_any {w : World} {B1 B2 : Nat} {va vb : Value} {a b : List Int} (h1 : Sli w B1 va (ci a)) (h2 : Sli w B2 vb (ci b)) (hr : Rgt a b (min a.length b.length)) (hm : min a.length b.length ≤ 1100) :
    Calls Try.prog 17 #[va, vb] w fun e w' => e = .returned (.int .i64 (totZ a b (min a.length b.length))) ∧ ∃ q, w' = w.drewN q := by
  obtain ⟨A1, c1, rfl, hc1, hm1⟩ := h1.formI
  obtain ⟨A2, c2, rfl, hc2, hm2⟩ := h2.formI
  obtain ⟨n1, hn1⟩ : ∃ n1, a.length = n1 := ⟨_, rfl⟩
  obtain ⟨n2, hn2⟩ : ∃ n2, b.length = n2 := ⟨_, rfl⟩
  rw [hn1] at h1 hc1 hr hm ⊢
  rw [hn2] at h2 hc2 hr hm ⊢
  obtain ⟨m, hmm⟩ : ∃ m, min n1 n2 = m := ⟨_, rfl⟩
  have hmi : min (n1 : Int) (n2 : Int) = (m : Nat) := by omega
  have hmn1 : m ≤ n1 := by omega
  have hmn2 : m ≤ n2 := by omega
  rw [hmm] at hm hr ⊢
  have H1 := Lib.hid h1; have H2 := Lib.hid h2; have HR := Lib.hid hr; have HN1 := Lib.hid hn1; have HN2 := Lib.hid hn2
  clear h1 h2 hr hn1 hn2 hmm
  go_enter Try.func17, Try.ntmps17
  go_wp2_with fail
  go_loopw [5, 12] (fun vt vi wr => ∃ (j q : Nat) (T : Int), j ≤ m ∧ vi = .int .i64 j ∧ vt = .int .i64 T ∧ Hid (T = totZ a b j) ∧ 0 ≤ T ∧ T ≤ j * 70368744177664 ∧ Hid (wr = w.drewN q)) (fun _ vi _ => m - (intOf vi).toNat)
  case atStart => exact ⟨0, 0, 0, Nat.zero_le _, rfl, rfl, Lib.hid rfl, by omega, by omega, Lib.hid rfl⟩
  case round =>
    obtain ⟨j, q, T, hj, rfl, rfl, hT, hT0, hTb, hwr⟩ := hrel
    by_cases hlt : j < m
    · have hS1 : Sli wr B1 (.slice A1 n1 c1) (ci a) := by rw [hwr.out]; exact H1.out
      have hS2 : Sli wr B2 (.slice A2 n2 c2) (ci b) := by rw [hwr.out]; exact H2.out
      obtain ⟨b1, o, rfl, hb, r1⟩ := hS1.atI (i := j) (by rw [HN1.out]; omega)
      obtain ⟨b2, o2, rfl, hb2, r2⟩ := hS2.atI (i := j) (by rw [HN2.out]; omega)
      rw [atZ_get] at r1 r2
      obtain ⟨g1, g2, g3, g4⟩ := HR.out j hlt
      have hs : totZ a b (j + 1) = T + atZ a j * atZ b j := by rw [hT.out]; rfl
      generalize atZ a j = x at r1 g1 g2 hs
      generalize atZ b j = y at r2 g3 g4 hs
      obtain ⟨p1, p2⟩ := totZ_mul g1 g2 g3 g4
      obtain ⟨p, hp⟩ : ∃ p, x * y = p := ⟨_, rfl⟩
      rw [hp] at p1 p2 hs
      have hT1 : T ≤ 1100 * 70368744177664 := by omega
      have hw : IntKind.i64.wrap (x * y) = p := by rw [hp, IntKind.wrap_i64]; omega
      have hw2 : IntKind.i64.wrap (T + p) = T + p := by rw [IntKind.wrap_i64]; omega
      have hTp : T + p ≤ ((j + 1 : Nat) : Int) * 70368744177664 := by omega
      have hTp0 : 0 ≤ T + p := by omega
      have HS := Lib.hid hs
      have hn : ∀ k, Hid (wr.drewN k = w.drewN (q + k)) := fun k => Lib.hid (by rw [hwr.out, World.drewN_drewN])
      clear hS1 hS2 hs hT g1 g2 g3 g4 hp
      go_wp2_with fail
      go_quiet (fail)
      go_wp2
      exact ⟨⟨j + 1, _, T + p, by omega, by simp, rfl, Lib.hid HS.out.symm, hTp0, hTp, hn _⟩, by simp [intOf]; omega⟩
    · have : j = m := by omega
      subst this
      have HT' := Lib.hid hT.out
      clear hT
      go_wp2_with fail
      go_ret
      exact ⟨by rw [← HT'.out]; rfl, q, hwr.out⟩
theorem qtotalZ_any {w : World} {B1 B2 : Nat} {va vb : Value} {a b : List Int} (h1 : Sli w B1 va (ci a)) (h2 : Sli w B2 vb (ci b)) (hr : Rgt a b (min a.length b.length)) (hm : min a.length b.length ≤ 1100) :
    Calls Try.prog 18 #[va, vb] w fun e w' => e = .returned (.int .i64 (totZ a b (min a.length b.length))) ∧ ∃ q, w' = w.drewN q := by
  obtain ⟨A1, c1, rfl, hc1, hm1⟩ := h1.formI
  obtain ⟨A2, c2, rfl, hc2, hm2⟩ := h2.formI
  obtain ⟨n1, hn1⟩ : ∃ n1, a.length = n1 := ⟨_, rfl⟩
  obtain ⟨n2, hn2⟩ : ∃ n2, b.length = n2 := ⟨_, rfl⟩
  rw [hn1] at h1 hc1 hr hm ⊢
  rw [hn2] at h2 hc2 hr hm ⊢
  obtain ⟨m, hmm⟩ : ∃ m, min n1 n2 = m := ⟨_, rfl⟩
  have hmn1 : m ≤ n1 := by omega
  have hmn2 : m ≤ n2 := by omega
  have hend : n1 ≤ m ∨ n2 ≤ m := by omega
  rw [hmm] at hm hr ⊢
  have H1 := Lib.hid h1; have H2 := Lib.hid h2; have HR := Lib.hid hr; have HN1 := Lib.hid hn1; have HN2 := Lib.hid hn2; have HE := Lib.hid hend
  clear h1 h2 hr hn1 hn2 hmm hend
  go_enter Try.func18, Try.ntmps18
  go_wp2_with fail
  go_loopw [5, 6] (fun vt vi wr => ∃ (j q : Nat) (T : Int), j ≤ m ∧ vi = .int .i64 j ∧ vt = .int .i64 T ∧ Hid (T = totZ a b j) ∧ 0 ≤ T ∧ T ≤ j * 70368744177664 ∧ Hid (wr = w.drewN q)) (fun _ vi _ => m - (intOf vi).toNat)
  case atStart => exact ⟨0, 0, 0, Nat.zero_le _, rfl, rfl, Lib.hid rfl, by omega, by omega, Lib.hid rfl⟩
  case round =>
    obtain ⟨j, q, T, hj, rfl, rfl, hT, hT0, hTb, hwr⟩ := hrel
    by_cases hlt : j < m
    · have hS1 : Sli wr B1 (.slice A1 n1 c1) (ci a) := by rw [hwr.out]; exact H1.out
      have hS2 : Sli wr B2 (.slice A2 n2 c2) (ci b) := by rw [hwr.out]; exact H2.out
      obtain ⟨b1, o, rfl, hb, r1⟩ := hS1.atI (i := j) (by rw [HN1.out]; omega)
      obtain ⟨b2, o2, rfl, hb2, r2⟩ := hS2.atI (i := j) (by rw [HN2.out]; omega)
      rw [atZ_get] at r1 r2
      obtain ⟨g1, g2, g3, g4⟩ := HR.out j hlt
      have hs : totZ a b (j + 1) = T + atZ a j * atZ b j := by rw [hT.out]; rfl
      generalize atZ a j = x at r1 g1 g2 hs
      generalize atZ b j = y at r2 g3 g4 hs
      obtain ⟨p1, p2⟩ := totZ_mul g1 g2 g3 g4
      obtain ⟨p, hp⟩ : ∃ p, x * y = p := ⟨_, rfl⟩
      rw [hp] at p1 p2 hs
      have hT1 : T ≤ 1100 * 70368744177664 := by omega
      have hw : IntKind.i64.wrap (x * y) = p := by rw [hp, IntKind.wrap_i64]; omega
      have hw2 : IntKind.i64.wrap (T + p) = T + p := by rw [IntKind.wrap_i64]; omega
      have hTp : T + p ≤ ((j + 1 : Nat) : Int) * 70368744177664 := by omega
      have hTp0 : 0 ≤ T + p := by omega
      have HS := Lib.hid hs
      have hn : ∀ k, Hid (wr.drewN k = w.drewN (q + k)) := fun k => Lib.hid (by rw [hwr.out, World.drewN_drewN])
      clear hS1 hS2 hs hT g1 g2 g3 g4 hp
      go_wp2_with fail
      go_quiet (fail)
      go_wp2
      exact ⟨⟨j + 1, _, T + p, by omega, by simp, rfl, Lib.hid HS.out.symm, hTp0, hTp, hn _⟩, by simp [intOf]; omega⟩
    · have : j = m := by omega
      subst this
      have HT' := Lib.hid hT.out
      clear hT
      rcases HE.out with he | he
      · go_wp2_with fail
        go_ret
        exact ⟨by rw [← HT'.out]; rfl, q, hwr.out⟩
      · by_cases h3 : j < n1
        · go_wp2_with fail
          go_ret
          exact ⟨by rw [← HT'.out]; rfl, q, hwr.out⟩
        · go_wp2_with fail
          go_ret
          exact ⟨by rw [← HT'.out]; rfl, q, hwr.out⟩

def ofLenP (ls : List Nat) (n j : Nat) : List Nat := (List.range j).filter (fun i => decide (atN ls i = n))
theorem ofLenP_succ (ls : List Nat) (n j : Nat) : ofLenP ls n (j + 1) = if atN ls j = n then ofLenP ls n j ++ [j] else ofLenP ls n j := by
  unfold ofLenP
  rw [List.range_succ, List.filter_append]
  by_cases h : atN ls j = n
  · rw [if_pos h]; simp [h]
  · rw [if_neg h]; simp [h]
theorem ofLenP_len (ls : List Nat) (n j : Nat) : (ofLenP ls n j).length ≤ j := by
  unfold ofLenP; exact Nat.le_trans (List.length_filter_le _ _) (by simp)
theorem ord_len (ls : List Nat) : ∀ M, (orderN ls M).length ≤ M * ls.length
  | 0 => by simp [orderN]
  | M + 1 => by
    have ih := ord_len ls M
    have := ofLenP_len ls (M + 1) ls.length
    rw [orderN, List.length_append, Nat.succ_mul]
    have e : ofLen ls (M + 1) = ofLenP ls (M + 1) ls.length := rfl
    rw [e]; omega
theorem qused_any {w : World} {B : Nat} {v : Value} {ls : List Nat} (hS : Sli w B v (ci (ni ls))) (hB : B ≤ w.heap.size) (hlen : ls.length ≤ 1024) :
    Calls Try.prog 35 #[v] w fun e w' => ∃ v', e = .returned v' ∧ Own w' w.heap.size 3 v' (ci (ni (orderN ls 24))) ∧ Below w.heap.size w w' := by
  obtain ⟨A, c, rfl, hlc, hcm⟩ := hS.formI
  obtain ⟨n, hnl⟩ : ∃ n, ls.length = n := ⟨_, rfl⟩
  rw [ni_len, hnl] at hS hlc ⊢
  have HS := Lib.hid hS; have HNL := Lib.hid hnl
  rw [hnl] at hlen
  clear hS hnl
  go_enter Try.func35, Try.ntmps35
  go_wp2_with fail
  go_loopw [3, 4] (fun vo vn wr => ∃ k : Nat, k ≤ 24 ∧ vn = .int .i64 ((k : Int) + 1) ∧ Own wr w.heap.size 3 vo (ci (ni (orderN ls k))) ∧ Below w.heap.size w wr) (fun _ vn _ => 25 - (intOf vn).toNat)
  case atStart => exact ⟨0, by omega, rfl, Own.nil _ _ _, Below.refl _ _⟩
  case round =>
    obtain ⟨k, hk, rfl, ho, hb⟩ := hrel
    by_cases hlt : k < 24
    · have hol : (orderN ls k).length ≤ 24576 := Nat.le_trans (ord_len ls k) (by rw [HNL.out]; exact Nat.le_trans (Nat.mul_le_mul (Nat.le_of_lt hlt) hlen) (by decide))
      have h24 : decide ((k : Int) + 1 ≤ 24) = true := by simp; omega
      go_wp2_with fail
      try rw [h24]
      clear h24
      go_loopw [3, 5] (fun vo vi wr => ∃ j : Nat, j ≤ n ∧ vi = .int .i64 j ∧ Own wr w.heap.size 3 vo (ci (ni (orderN ls k ++ ofLenP ls (k + 1) j))) ∧ Below w.heap.size w wr) (fun _ vi _ => n - (intOf vi).toNat)
      case atStart => exact ⟨0, Nat.zero_le _, rfl, by simpa [ofLenP] using ho, hb⟩
      case round =>
        obtain ⟨j, hj, rfl, ho1, hb1⟩ := hrel
        by_cases hlt2 : j < n
        · obtain ⟨b, o, rfl, _, r1⟩ := (HS.out.below (hb1.mono hB)).atI (i := j) (by rw [ni_len, HNL.out]; exact hlt2)
          rw [ni_at (by rw [HNL.out]; exact hlt2)] at r1
          have hsn := ofLenP_succ ls (k + 1) j
          have hpl := ofLenP_len ls (k + 1) j
          obtain ⟨x, hx⟩ : ∃ x, atN ls j = x := ⟨_, rfl⟩
          rw [hx] at r1 hsn
          by_cases hxk : x = k + 1
          · rw [if_pos hxk] at hsn
            have hbq : ((x : Int) == (k : Int) + 1) = true := by rw [hxk]; simp
            have hroom : (ci (ni (orderN ls k ++ ofLenP ls (k + 1) j))).length + 1 ≤ 8796093022208 := by
              rw [ci_len, ni_len, List.length_append]; omega
            have HSN := Lib.hid hsn
            clear hsn hxk hx hol hpl ho
            go_wp2_with (at_builtin; refine wpl_app1 ho1 hb1.size hroom Try.underlying22 info_int rfl (by decide) rfl rfl rfl rfl rfl (h := ?_); intro v2 w2 ho2 hb2; refine cut_here ?_)
            unfold CutHere
            have ho3 : Own w2 w.heap.size 3 v2 (ci (ni (orderN ls k ++ ofLenP ls (k + 1) (j + 1)))) := by
              rw [HSN.out, ← List.append_assoc, ni_app, ci_app]; exact ho2
            go_wp2
            exact ⟨⟨j + 1, by omega, by simp, ho3, hb1.trans hb2⟩, by simp [intOf]; omega⟩
          · rw [if_neg hxk] at hsn
            have hbq : ((x : Int) == (k : Int) + 1) = false := by simp; omega
            have HO1 := Lib.hid (show Own wr w.heap.size 3 _ (ci (ni (orderN ls k ++ ofLenP ls (k + 1) (j + 1)))) from hsn ▸ ho1)
            clear hsn hxk hx ho1 ho
            go_wp2
            exact ⟨⟨j + 1, by omega, by simp, HO1.out, hb1⟩, by simp [intOf]; omega⟩
        · have : j = ls.length := by rw [HNL.out]; omega
          rw [this, show orderN ls k ++ ofLenP ls (k + 1) ls.length = orderN ls (k + 1) from rfl] at ho1
          have HO1 := Lib.hid ho1
          clear ho1 ho this
          go_wp2_with fail
          exact ⟨⟨k + 1, by omega, by simp, HO1.out, hb1⟩, by simp [intOf]; omega⟩
    · have : k = 24 := by omega
      subst this
      go_wp2_with fail
      go_ret
      exact ⟨_, rfl, ho, hb⟩

theorem cu64_at {l : List Nat} {j : Nat} (h : j < l.length) : (cu64 l)[j]? = some (.int .u64 (atN l j : Nat)) := by
  rw [atN_get h]; simp [cu64, h]
theorem sli64_at {w : World} {B n c : Nat} {A : Option Addr} {l : List Nat} (h : Sli w B (.slice A n c) (cu64 l)) {i : Nat} (hi : i < l.length) :
    ∃ b o, A = some ⟨b, o, none⟩ ∧ b < B ∧ w.cell? ⟨b, o + i, none⟩ = some (.int .u64 (atN l i : Nat)) := by
  have hh := h.hasn
  have hn : n = l.length := by rw [hh.1, cu64_len]
  obtain ⟨b, o, u, hA, hb, hc, hu⟩ := hh.get (by omega : i < n)
  rw [cu64_at hi] at hu
  injection hu with hu
  subst hu
  exact ⟨b, o, hA, hb, hc⟩
theorem sli64_form {w : World} {B : Nat} {v : Value} {l : List Nat} (h : Sli w B v (cu64 l)) : ∃ A c, v = .slice A l.length c ∧ l.length ≤ c ∧ c ≤ maxLen := by
  obtain ⟨A, c, e, hh, h1, h2⟩ := h
  rw [cu64_len] at e
  exact ⟨A, c, e, by rw [← cu64_len]; exact h1, h2.1⟩
theorem sw_self (va vb : Value) (l : List Nat) (w : World) (B1 B2 : Nat) (ha : Sli w B1 va (cu64 l)) (hb : Sli w B2 vb (cu64 l)) (hm : l.length ≤ 1099511627776) :
    Calls Try.prog 16 #[va, vb] w fun e w' => e = .returned (.bool true) ∧ ∃ q, w' = w.drewN q := by
  obtain ⟨A1, c1, rfl, hc1, hm1⟩ := sli64_form ha
  obtain ⟨A2, c2, rfl, hc2, hm2⟩ := sli64_form hb
  obtain ⟨n, hnl⟩ : ∃ n, l.length = n := ⟨_, rfl⟩
  rw [hnl] at ha hb hc1 hc2 hm ⊢
  have H1 := Lib.hid ha; have H2 := Lib.hid hb; have HN := Lib.hid hnl
  clear ha hb hnl
  go_enter Try.func16, Try.ntmps16
  go_wp2_with fail
  go_loopw [5] (fun vi wr => ∃ j q : Nat, j ≤ n ∧ vi = .int .i64 j ∧ Hid (wr = w.drewN q)) (fun vi _ => n - (intOf vi).toNat)
  case atStart => exact ⟨0, 0, Nat.zero_le _, rfl, Lib.hid rfl⟩
  case round =>
    obtain ⟨j, q, hj, rfl, hwr⟩ := hrel
    by_cases hlt : j < n
    · have hS1 : Sli wr B1 (.slice A1 n c1) (cu64 l) := by rw [hwr.out]; exact H1.out
      have hS2 : Sli wr B2 (.slice A2 n c2) (cu64 l) := by rw [hwr.out]; exact H2.out
      obtain ⟨b1, o1, rfl, _, r1⟩ := sli64_at hS1 (i := j) (by rw [HN.out]; exact hlt)
      obtain ⟨b2, o2, rfl, _, r2⟩ := sli64_at hS2 (i := j) (by rw [HN.out]; exact hlt)
      generalize atN l j = x at r1 r2
      have hn : ∀ k, Hid (wr.drewN k = w.drewN (q + k)) := fun k => Lib.hid (by rw [hwr.out, World.drewN_drewN])
      clear hS1 hS2
      go_wp2_with fail
      go_quiet (fail)
      go_wp2
      exact ⟨⟨j + 1, _, by omega, by simp, hn _⟩, by simp [intOf]; omega⟩
    · go_wp2_with fail
      go_ret
      exact ⟨rfl, q, hwr.out⟩

theorem qcodes_bad {w : World} {B : Nat} {v : Value} {l : List Int} (hS : Sli w B v (ci l)) (hf : fullB l = false) :
    Calls Try.prog 13 #[v] w fun e w' => e = .returned (.tuple #[.slice none 0 0, .int .i64 1]) ∧ w = w' := by
  have hc := qfull_any hS
  rw [hf] at hc
  obtain ⟨A, c, rfl, hlc, hcm⟩ := hS.formI
  go_enter Try.func13, Try.ntmps13
  go_wp2_with fail
  refine hc.mono ?_
  rintro e w1 ⟨rfl, rfl⟩
  go_wp2
  go_ret2
  exact ⟨rfl, rfl⟩

theorem qcodes_any {w : World} {B : Nat} {v : Value} {ls ss : List Nat} (hS : Sli w B v (ci (ni ls))) (hB : B ≤ w.heap.size) (hf : Fulls ls ss) (hu : 1 ≤ ss.length) :
    Calls Try.prog 13 #[v] w fun e w' => ∃ v' row, e = .returned (.tuple #[v', .int .i64 0]) ∧ Own w' w.heap.size 40 v' (cu64 row) ∧ Cod ls ss row ∧ Below w.heap.size w w' := by
  have hc := qfull_any hS
  rw [full_iff.2 ⟨⟨hf.len1, hf.len2⟩, hf.full⟩] at hc
  have hl1 := hf.len1; have hl2 := hf.len2
  have hord : orderN ls 24 = ss := (Ascd.order hf.full.1).one hf.asc
  have HUSE := Lib.hid (fun (w1 : World) (h : Sli w1 B v (ci (ni ls))) (hb : B ≤ w1.heap.size) => hord ▸ qused_any h hb hl2)
  obtain ⟨A, c, rfl, hlc, hcm⟩ := hS.formI
  rw [ni_len] at hlc
  obtain ⟨n, hnl⟩ : ∃ n, ls.length = n := ⟨_, rfl⟩
  obtain ⟨u, hul⟩ : ∃ u, ss.length = u := ⟨_, rfl⟩
  have hun := hf.ssLen
  rw [hnl] at hlc hl1 hl2 hun
  rw [hul] at hun hu
  obtain ⟨S0, hs0⟩ : ∃ S0, w.heap.size = S0 := ⟨_, rfl⟩
  rw [hs0] at hB
  have HNL := Lib.hid hnl; have HUL := Lib.hid hul; have HS0 := Lib.hid hs0; have HF := Lib.hid hf
  have hSl : Sli w B (.slice A n c) (ci (ni ls)) := by rw [ni_len, hnl] at hS; exact hS
  rw [ni_len, hnl] at hc
  rw [ni_len, hnl] at HUSE
  clear hnl hul hf hS hord
  rw [ni_len, HNL.out]
  go_enter Try.func13, Try.ntmps13
  go_wp2_with fail
  refine hc.mono ?_
  rintro e w1 ⟨rfl, hw1⟩
  subst hw1
  have HSL := Lib.hid hSl
  go_wp2_with (at_make; refine wpl_make Try.underlying24 info_u64 rfl (by decide) (by omega) rfl rfl rfl rfl (n := n) (h := ?_); intro w2 ho2 hb2; refine cut_here ?_)
  rw [cu64_rep, hs0] at ho2
  rw [hs0] at hb2
  unfold CutHere
  clear hc hSl
  have hsz2 : S0 < w2.heap.size := by
    have := (ho2.lt S0 (by simp [Value.ownBlock])).2; exact this
  have HC2 := HUSE.out w2 (HSL.out.below (hb2.mono hB)) (by omega)
  go_wp2_with fail
  refine HC2.mono ?_
  rintro e w3 ⟨v3, rfl, ho3, hb3⟩
  obtain ⟨A3, c3, rfl, hlc3, hcm3⟩ := ho3.formI
  rw [ni_len, HUL.out] at ho3 hlc3
  have ho2' := ho2.kept hb3
  have hb03 : Below S0 w w3 := hb2.trans (hb3.mono (by omega))
  have HO3 := Lib.hid ho3
  obtain ⟨ms, hms⟩ : ∃ ms, ss.map (atN ls) = ms := ⟨_, rfl⟩
  have HMS := Lib.hid hms
  have h00 : atN (codesC ms) 0 = 0 := by
    rw [← hms, codesC_next _ 0 (by rw [List.length_map, HUL.out]; exact hu)]; simp [nextK]
  have H00 := Lib.hid h00
  clear hms h00
  have hsz3 := hb3.size
  clear hs0 hb2 HC2 ho3
  rw [ni_len, HUL.out]
  go_wp2_with fail
  go_loopw [6] (fun vi wr => ∃ (i k : Nat) (row : List Nat), vi = .int .i64 (i : Nat) ∧ Hid (i = k + 1) ∧ i ≤ u ∧ Own wr S0 40 (.slice (some ⟨S0, 0, none⟩) n n) (cu64 row) ∧ row.length = n ∧ Hid (∀ j, j < k + 1 → atN row (atN ss j) = atN (codesC ms) j) ∧ Hid (∀ s, s ∉ ss.take (k + 1) → atN row s = 0) ∧ w3.grownBy wr (some S0)) (fun vi _ => u - (intOf vi).toNat)
  case atStart => exact ⟨1, 0, List.replicate n 0, rfl, Lib.hid rfl, hu, ho2', by simp, Lib.hid fun j hj => by rw [show j = 0 by omega, atN_rep, H00.out], Lib.hid fun s _ => atN_rep n s, rfl, rfl, rfl, Nat.le_refl _, fun _ _ _ => rfl⟩
  case round =>
    obtain ⟨i, k, row, rfl, hik, hk, hor, hrl, hw, hz, hgr⟩ := hrel
    have hb0r : Below S0 w wr := hb03.trans (below_of_only hgr (Nat.le_refl _) (by omega))
    by_cases hlti : i < u
    · have hlt : k + 1 < u := by have := hik.out; omega
      have hku : k < u := by omega
      have hks : k + 1 < ss.length := by rw [HUL.out]; exact hlt
      have hks0 : k < ss.length := by omega
      obtain ⟨cs, hcs⟩ := ho2'.blk (k := S0) rfl
      have ho3r := HO3.out.far hcs (by decide) hgr
      obtain ⟨b3, o3, rfl, _, k1⟩ := ho3r.sli.atI (i := k + 1) (by rw [ni_len]; exact hks)
      obtain ⟨b', o', e', _, k0⟩ := ho3r.sli.atI (i := k) (by rw [ni_len]; exact hks0)
      injection e' with e'; injection e' with ex1 ex2; subst ex1; subst ex2
      rw [ni_at hks] at k1
      rw [ni_at hks0] at k0
      have hsl := HF.out.lt hks
      have hsl0 := HF.out.lt hks0
      rw [HNL.out] at hsl hsl0
      obtain ⟨b, o, rfl, _, k2⟩ := (HSL.out.below (hb0r.mono hB)).atI (i := atN ss (k + 1)) (by rw [ni_len, HNL.out]; exact hsl)
      obtain ⟨b', o', e', _, k3⟩ := (HSL.out.below (hb0r.mono hB)).atI (i := atN ss k) (by rw [ni_len, HNL.out]; exact hsl0)
      injection e' with e'; injection e' with ex1 ex2; subst ex1; subst ex2
      rw [ni_at (by rw [HNL.out]; exact hsl)] at k2
      rw [ni_at (by rw [HNL.out]; exact hsl0)] at k3
      have hl24 := HF.out.le (atN ss (k + 1))
      have hlk := HF.out.lenK hks
      have hnk := HF.out.nextK (Nat.le_of_lt hks)
      have hcn := codesC_next (ss.map (atN ls)) (k + 1) (by simpa using hks)
      have hsm := HF.out.small hks
      rw [map_at hks] at hcn
      rw [HMS.out] at hlk hnk hcn hsm
      have hl0 : lenK ms (k + 1) = atN ls (atN ss k) := by rw [← HMS.out]; show atN _ k = _; rw [map_at hks0]
      have hn0 : nextK ms (k + 1) = atN row (atN ss k) + 1 := by rw [hw.out k (by omega)]; rfl
      rw [hl0] at hlk hcn
      rw [hn0] at hnk hcn
      obtain ⟨g4, c4, hv4, _, _, _, hcell, hfro, hput⟩ := hor.at_ (by rw [cu64_len]; omega)
      injection hv4 with hv4 hx1 hx2; clear hx1 hx2; injection hv4 with hv4; injection hv4 with hv4 hx3 hx4; clear hx3 hx4; subst hv4
      have hc0 := hcell (atN ss k) (by rw [cu64_len]; omega)
      rw [cu64_at (by omega)] at hc0
      have hc1 := hcell (atN ss (k + 1)) (by rw [cu64_len]; omega)
      rw [cu64_at (by omega)] at hc1
      have hnd : ss.Nodup := HF.out.asc.1.nodup_iff.2 (usedN_nodup ls)
      obtain ⟨W, hW⟩ : ∃ W, atN (codesC ms) (k + 1) = W := ⟨_, rfl⟩
      rw [hW] at hcn hsm
      have hp := hor.put (atN ss (k + 1)) (.int .u64 (W : Nat))
      rw [cu64_set] at hp
      have hw' : ∀ j, j < k + 1 + 1 → atN (row.set (atN ss (k + 1)) W) (atN ss j) = atN (codesC ms) j := fun j hj => by
        rw [atN_set (by omega)]
        by_cases e : atN ss j = atN ss (k + 1)
        · have hjs : j < ss.length := by omega
          have : j = k + 1 := by
            rw [atN_get hjs, atN_get hks] at e
            rcases Nat.lt_trichotomy j (k + 1) with h1 | h1 | h1
            · exact absurd e (List.pairwise_iff_getElem.1 hnd j (k + 1) hjs hks h1)
            · exact h1
            · omega
          subst this
          rw [if_pos rfl, hW]
        · rw [if_neg e]
          have : j ≠ k + 1 := fun h => e (by rw [h])
          exact hw.out j (by omega)
      have hz' : ∀ s, s ∉ ss.take (k + 1 + 1) → atN (row.set (atN ss (k + 1)) W) s = 0 := fun s hs => by
        rw [List.take_succ_eq_append_getElem hks, List.mem_append] at hs
        rw [atN_set (by omega), if_neg (fun e => hs (.inr (by rw [e, atN_get hks]; simp)))]
        exact hz.out s (fun h => hs (.inl h))
      have hgr' := grown_trans hgr (grown_set wr S0 (atN ss (k + 1)) (.int .u64 (W : Nat)))
      obtain ⟨s, hs⟩ : ∃ s, atN ss (k + 1) = s := ⟨_, rfl⟩
      obtain ⟨s0, hs0⟩ : ∃ s0, atN ss k = s0 := ⟨_, rfl⟩
      rw [hs] at hsl k1 k2 hl24 hlk hcn hc1 hp hw' hz' hgr'
      rw [hs0] at hsl0 k0 k3 hc0 hlk hcn hnk
      obtain ⟨x, hx⟩ : ∃ x, atN ls s = x := ⟨_, rfl⟩
      obtain ⟨x0, hx0⟩ : ∃ x0, atN ls s0 = x0 := ⟨_, rfl⟩
      obtain ⟨y0, hy0⟩ : ∃ y0, atN row s0 = y0 := ⟨_, rfl⟩
      rw [hx] at k2 hl24 hlk hcn
      rw [hx0] at k3 hlk hcn
      rw [hy0] at hc0 hcn hnk
      obtain ⟨d, hd⟩ : ∃ d : Nat, (x : Int) - (x0 : Int) = (d : Nat) := ⟨x - x0, by omega⟩
      have hd' : x - x0 = d := by omega
      rw [hd'] at hcn
      have hd24 : d ≤ 24 := by omega
      have hsh : IntKind.u64.wrap (((y0 + 1 : Nat) : Int) * (2 : Int) ^ d) = ((W : Nat) : Int) := by
        rw [hcn]; exact shl_in (by rw [← hcn]; omega)
      have hsub : IntKind.i64.wrap ((i : Int) - 1) = (k : Int) := by have := hik.out; rw [IntKind.wrap_i64]; omega
      rw [← hik.out] at k1
      have hadd : IntKind.u64.wrap ((y0 : Int) + 1) = ((y0 + 1 : Nat) : Int) := by rw [IntKind.wrap_u64]; omega
      have HP := Lib.hid hp; have HW := Lib.hid hw'; have HZ := Lib.hid hz'; have HGR := Lib.hid hgr'
      have hrl' : (row.set s W).length = n := by rw [List.length_set]; exact hrl
      have HRL := Lib.hid hrl'
      have hfs := hfro s
      clear hp hw' hz' hgr' hw hz hcell hput hcn hsm hnd hs hs0 hx hx0 hy0 hd' hl0 hn0 hfro hrl' hrl hor ho3r hb0r hlt hks hks0
      go_wp2_with fail
      go_still_tail 33, (by kernel_rfl)
      change wpList _ _ _ _ _ wr.drew
      go_wp2
      have hval : IntKind.u64.wrap (((y0 : Int) + 1) * (2 : Int) ^ min d 64) = ((W : Nat) : Int) := by
        rw [show min d 64 = d by omega, show ((y0 : Int) + 1) = ((y0 + 1 : Nat) : Int) by omega]; exact hsh
      rw [hval]
      exact ⟨⟨i + 1, k + 1, row.set s W, by simp, Lib.hid (by have := hik.out; omega), by omega, HP.out.drewN 1, HRL.out, HW, HZ, grown_drewN HGR.out 1⟩, by simp [intOf]; omega⟩
    · have hke : k + 1 = u := by have := hik.out; omega
      have hcod : Cod ls ss row := by
        refine ⟨by rw [hrl, HNL.out], fun j hj => ?_, fun s hs => hz.out s (fun h => hs (List.mem_of_mem_take h))⟩
        rw [HMS.out]; exact hw.out j (by rw [HUL.out] at hj; omega)
      have HCOD := Lib.hid hcod; have HO := Lib.hid hor; have HB := Lib.hid hb0r
      clear hcod hor hb0r hw hz hgr hke
      go_wp2_with fail
      go_ret2
      rw [HS0.out]
      exact ⟨_, row, rfl, HO.out, HCOD.out, HB.out⟩

theorem Fulls.one {ls ss : List Nat} (h : Fulls ls ss) : 1 ≤ ss.length := by
  rw [h.asc.1.length_eq]
  rcases h.full.2 with ⟨h1, _⟩ | ⟨h1, _⟩ <;> omega

def CodP (f : Nat) (w1 : World) (v : Value) (er : Int) (row : List Nat) : Prop := Calls Try.prog f #[v] w1 fun e w' => ∃ v', e = .returned (.tuple #[v', .int .i64 er]) ∧ Sli w' w'.heap.size v' (cu64 row) ∧ Below w1.heap.size w1 w'
theorem codes_both {w : World} {v : Value} {l : List Int} (hS : Sli w w.heap.size v (ci l)) : ∃ (er : Int) (row : List Nat), row.length ≤ 1024 ∧ ∀ w1, Below w.heap.size w w1 → CodP 12 w1 v er row ∧ CodP 13 w1 v er row := by
  cases hf : fullB l with
  | false =>
    refine ⟨1, [], by simp, fun w1 hb => ⟨(codes_bad (hS.below hb) hf).mono ?_, (qcodes_bad (hS.below hb) hf).mono ?_⟩⟩ <;>
    · rintro e w' ⟨rfl, rfl⟩
      exact ⟨_, rfl, Sli.nil _ _, Below.refl _ _⟩
  | true =>
    obtain ⟨ls, ss, rfl, hF⟩ := Fulls.of hf
    -- one row: the same for both
    have hrow : ∃ row : List Nat, row.length = ls.length ∧ ∀ r, Cod ls ss r → r = row := by
      by_cases h : ∃ r, Cod ls ss r
      · obtain ⟨r, hr⟩ := h
        exact ⟨r, hr.len, fun r2 h2 => h2.one hr⟩
      · exact ⟨List.replicate ls.length 0, by simp, fun r hr => absurd ⟨r, hr⟩ h⟩
    obtain ⟨row, hrl, hrow⟩ := hrow
    refine ⟨0, row, by rw [hrl]; exact hF.len2, fun w1 hb => ⟨(codes_any (hS.below hb) hb.size hF).mono ?_, (qcodes_any (hS.below hb) hb.size hF hF.one).mono ?_⟩⟩ <;>
    · rintro e w' ⟨v', r, rfl, ho, hc, hb2⟩
      rw [hrow r hc] at ho
      exact ⟨_, rfl, ho.sli, hb2⟩

theorem prefixTells_walk (va : Value) (l : List Int) (vb : Value) (fq : List Int) (w : World) (hA : Sli w w.heap.size va (ci l)) (hB : Sli w w.heap.size vb (ci fq)) :
    Calls Try.prog 3 #[va, vb] w fun e w' => e = .returned (.bool true) ∧ Below w.heap.size w w' := by
  obtain ⟨er, row, hrl, hcb⟩ := codes_both hA
  have HA := Lib.hid hA; have HB := Lib.hid hB; have HCB := Lib.hid hcb
  obtain ⟨A1, c1, rfl, hlc1, hcm1⟩ := hA.formI
  obtain ⟨A2, c2, rfl, hlc2, hcm2⟩ := hB.formI
  clear hA hB hcb
  obtain ⟨n1, hn1⟩ : ∃ n1, l.length = n1 := ⟨_, rfl⟩
  obtain ⟨n2, hn2⟩ : ∃ n2, fq.length = n2 := ⟨_, rfl⟩
  rw [hn1] at hlc1 HA HCB ⊢
  rw [hn2] at hlc2 HB ⊢
  have HN1 := Lib.hid hn1; have HN2 := Lib.hid hn2
  clear hn1 hn2
  by_cases h1 : 1100 < n1
  · go_enter Try.func3, Try.ntmps3
    go_wp2_with (go_at_call 11; refine (knownX_any w).mono ?_; rintro e w1 ⟨rfl, hb1⟩)
    go_ret
    exact ⟨rfl, hb1⟩
  by_cases h2 : 1100 < n2
  · go_enter Try.func3, Try.ntmps3
    go_wp2_with (go_at_call 11; refine (knownX_any w).mono ?_; rintro e w1 ⟨rfl, hb1⟩)
    go_ret
    exact ⟨rfl, hb1⟩
  obtain ⟨m, hmm⟩ : ∃ m, min n2 n1 = m := ⟨_, rfl⟩
  have hmn1 : m ≤ n1 := by omega
  have hmn2 : m ≤ n2 := by omega
  have hm : m ≤ 1100 := by omega
  have HE := Lib.hid (show n1 ≤ m ∨ n2 ≤ m by omega); have HMM := Lib.hid hmm
  clear hmm
  obtain ⟨F, hF⟩ : ∃ F, fullB l = F := ⟨_, rfl⟩
  have HF := Lib.hid hF
  clear hF
  go_enter Try.func3, Try.ntmps3
  go_wp2_with fail
  refine (knownX_any w).mono ?_
  rintro e w1 ⟨rfl, hb1⟩
  have HB1 := Lib.hid hb1
  clear hb1
  go_wp2_with fail
  refine (HCB.out w1 HB1.out).1.mono ?_
  rintro e w2 ⟨v2, rfl, hS2, hb2⟩
  obtain ⟨A3, c3, rfl, hlc3, hcm3⟩ := sli64_form hS2
  have HB2 := Lib.hid (bthen HB1.out hb2 HB1.out.size); have HS2 := Lib.hid hS2
  clear hb2 hS2
  go_wp2_with fail
  refine (HCB.out w2 HB2.out).2.mono ?_
  rintro e w3 ⟨v3, rfl, hS3, hb3⟩
  obtain ⟨A4, c4, rfl, hlc4, hcm4⟩ := sli64_form hS3
  have HB3 := Lib.hid (bthen HB2.out hb3 HB2.out.size); have HS3 := Lib.hid hS3; have HS23 := Lib.hid (HS2.out.below hb3)
  clear hb3 hS3
  have hfa := full_any (HA.out.below HB3.out)
  rw [HF.out] at hfa
  have hqa := qfull_any (HA.out.below HB3.out)
  rw [HF.out] at hqa
  have hsw := sw_self _ _ row w3 _ _ HS23.out HS3.out (by omega)
  have HFA := Lib.hid hfa; have HQA := Lib.hid hqa; have HSW := Lib.hid hsw
  have HA3 := Lib.hid (HA.out.below HB3.out); have HQ3 := Lib.hid (HB.out.below HB3.out)
  have hFF : (F == F) = true := by simp
  have hee : (er == er) = true := by simp
  clear hfa hqa hsw
  go_wp2_with fail
  go_loopw [9] (fun vi wr => ∃ j : Nat, j ≤ m ∧ vi = .int .i64 j ∧ Hid (Rgt fq l j) ∧ Hid (w3 = wr)) (fun vi _ => m - (intOf vi).toNat)
  case atStart => exact ⟨0, Nat.zero_le _, rfl, Lib.hid (fun i hi => by omega), Lib.hid rfl⟩
  case round =>
    obtain ⟨j, hj, rfl, hR, hw⟩ := hrel
    replace hw := hw.out
    subst hw
    by_cases hlt : j < m
    · obtain ⟨b2, o2, rfl, _, r2⟩ := HQ3.out.atI (i := j) (by rw [HN2.out]; omega)
      obtain ⟨b1, o1, rfl, _, r1⟩ := HA3.out.atI (i := j) (by rw [HN1.out]; omega)
      rw [atZ_get] at r1 r2
      have hnx : 0 ≤ atZ fq j → atZ fq j ≤ 1099511627776 → 0 ≤ atZ l j → atZ l j ≤ 64 → Rgt fq l (j + 1) := fun a1 a2 a3 a4 i hi => by
        by_cases e : i = j
        · subst e; exact ⟨a1, a2, a3, a4⟩
        · exact hR.out i (by omega)
      generalize atZ fq j = x at r2 hnx
      generalize atZ l j = y at r1 hnx
      have hj1 : j < n1 := by omega
      have hj2 : j < n2 := by omega
      have hcase : (x < 0 ∨ ¬ x < 0 ∧ 1099511627776 < x ∨ ¬ x < 0 ∧ ¬ 1099511627776 < x ∧ y < 0 ∨ ¬ x < 0 ∧ ¬ 1099511627776 < x ∧ ¬ y < 0 ∧ 64 < y) ∨ (¬ x < 0 ∧ ¬ 1099511627776 < x ∧ ¬ y < 0 ∧ ¬ 64 < y) := by omega
      rcases hcase with hbad | ⟨p1, p2, p3, p4⟩
      · clear hnx
        rcases hbad with p1 | ⟨p1, p2⟩ | ⟨p1, p2, p3⟩ | ⟨p1, p2, p3, p4⟩
        all_goals (
          go_wp2_with fail
          refine HFA.out.mono ?_
          rintro e w4 ⟨rfl, hw4⟩
          subst hw4
          go_wp2_with fail
          refine HQA.out.mono ?_
          rintro e w4 ⟨rfl, hw4⟩
          subst hw4
          go_wp2_with fail
          refine HSW.out.mono ?_
          rintro e w4 ⟨rfl, q4, rfl⟩
          go_wp2
          go_ret
          exact ⟨rfl, below_drewN HB3.out _⟩)
      · have HNX := Lib.hid (hnx (by omega) (by omega) (by omega) (by omega))
        clear hnx
        go_wp2
        exact ⟨⟨j + 1, by omega, by simp, HNX, Lib.hid trivial⟩, by simp [intOf]; omega⟩
    · have hje : j = m := by omega
      subst hje
      have hRm : Rgt fq l (min fq.length l.length) := by rw [HN1.out, HN2.out, HMM.out]; exact hR.out
      have hmb : min fq.length l.length ≤ 1100 := by rw [HN1.out, HN2.out, HMM.out]; exact hm
      have t1 := fun q => totalZ_any (w := w3.drewN q) HQ3.out HA3.out hRm hmb
      have t2 := fun q => qtotalZ_any (w := w3.drewN q) HQ3.out HA3.out hRm hmb
      generalize totZ fq l (min fq.length l.length) = T at t1 t2
      have HT1 := Lib.hid t1; have HT2 := Lib.hid t2
      clear t1 t2 hRm hmb
      have hTT : (T == T) = true := by simp
      have hcase : n2 ≤ j ∨ j < n2 ∧ n1 ≤ j := by have := HE.out; omega
      rcases hcase with p1 | ⟨p1, p2⟩
      all_goals (
        go_wp2_with fail
        refine HFA.out.mono ?_
        rintro e w4 ⟨rfl, hw4⟩
        subst hw4
        go_wp2_with fail
        refine HQA.out.mono ?_
        rintro e w4 ⟨rfl, hw4⟩
        subst hw4
        go_wp2_with fail
        refine HSW.out.mono ?_
        rintro e w4 ⟨rfl, q4, rfl⟩
        go_wp2_with fail
        refine (HT1.out q4).mono ?_
        rintro e w5 ⟨rfl, q5, rfl⟩
        rw [World.drewN_drewN]
        go_wp2_with fail
        refine (HT2.out _).mono ?_
        rintro e w6 ⟨rfl, q6, rfl⟩
        rw [World.drewN_drewN]
        go_wp2
        go_ret
        exact ⟨rfl, below_drewN HB3.out _⟩)
end Go.Proofs.Ytfganboolaeloaa
