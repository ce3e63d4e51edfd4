/- parts: May, the reference's beside it; SameParts, small. -/
import Derived.Test.YtohbpjehphmedaaParL
import Derived.Test.YtohbpjehphmedaaIntR
import Derived.Test.YtohbpjehphmedaaBitW
namespace Go.Proofs.Ytohbpjehphmedaa
open Go.RowKit
set_option maxRecDepth 100000
set_option maxHeartbeats 400000

/-- A plan in a block of its own. -/
theorem box_new (w : World) (a b : Value) (t : TypeId) : (w.alloc (.cells #[a, b] t)).heap[w.heap.size]? = some (.cells #[a, b] t (0, 0)) := heap_alloc_new w _
theorem box_on {w : World} {a b : Value} {t : TypeId} {w2 : World} (h : Below (w.alloc (.cells #[a, b] t)).heap.size (w.alloc (.cells #[a, b] t)) w2) : w2.heap[w.heap.size]? = some (.cells #[a, b] t (0, 0)) :=
  (h.block w.heap.size (by simp)).trans (box_new w a b t)
theorem below_box (w : World) (a b : Value) (t : TypeId) : Below w.heap.size w (w.alloc (.cells #[a, b] t)) := (Below.refl _ _).alloc (Nat.le_refl _) _
theorem sizesI_len {o n warm : Int} : (sizesI o n warm).length = (sizesN o n warm).length := by unfold sizesI; rw [ints_len]
theorem two_256 {o n warm : Int} (h : planB o n warm = true) : 1 ≤ 2 ^ o.toNat ∧ 2 ^ o.toNat ≤ 256 := by
  obtain ⟨_, _, _, _, _⟩ := planB_iff.1 h
  exact ⟨Nat.two_pow_pos _, Nat.pow_le_pow_right (n := 2) (by omega) (show o.toNat ≤ 8 by omega)⟩

theorem may_any (o : Int) (vk : Value) (ks : List Int) (n warm : Int) (w : World) (B : Nat) (hK : Sli w B vk (ci ks)) (hB : B ≤ w.heap.size) (hn : ks.length ≤ 1099511627776) (ho1 : -9223372036854775808 ≤ o) (ho2 : o ≤ 9223372036854775807) :
    Calls Try.prog 17 #[.agg #[.int .i64 o, vk], .int .i64 n, .int .i64 warm] w fun e w' => e = .returned (.bool (mayB o ks n warm)) ∧ Below w.heap.size w w' := by
  obtain ⟨A, c, rfl, hlc, hcm⟩ := hK.formI
  obtain ⟨m, hml⟩ : ∃ m, ks.length = m := ⟨_, rfl⟩
  rw [hml] at hK hlc hn ⊢
  have hb0 := below_box w (.int .i64 o) (.slice A m c) 24
  have hsz := fun w => sizes_any o n warm w ho1 ho2
  have HSZ := Lib.hid hsz; clear hsz
  by_cases hp : planB o n warm = true
  · have hl : (sizesI o n warm).length = 2 ^ o.toNat := by rw [sizesI_len, sizesN_len hp]
    obtain ⟨h1, h256⟩ := two_256 hp
    have hmay : mayB o ks n warm = (decide (m = 2 ^ o.toNat) && ks.all kB) := by unfold mayB; rw [hp, Bool.true_and, hml]
    generalize 2 ^ o.toNat = P at *
    have HML := Lib.hid hml; have HL := Lib.hid hl
    clear hml hl hp
    by_cases hmP : m = P
    · have hmay2 : mayB o ks n warm = ks.all kB := by rw [hmay, decide_eq_true hmP, Bool.true_and]
      have HMAY := Lib.hid hmay2
      clear hmay hmay2
      subst hmP
      have hm0 : ((m : Int) == 0) = false := by simp only [beq_eq_false_iff_ne, ne_eq]; omega
      go_enter Try.func17, Try.ntmps17
      go_wp2_with fail
      refine (HSZ.out _).mono ?_
      rintro e w2 ⟨v2, rfl, ho, hb⟩
      obtain ⟨A2, c2, rfl, _, _⟩ := ho.formI
      rw [HL.out]
      obtain ⟨d0, d1, hf⟩ := blk2 (box_on hb)
      have hb2 := bthen hb0 hb hb0.size
      have hK2 := hK.below (hb2.mono hB)
      clear hb hb0 ho
      go_wp2
      go_loop [29] (fun i => ∃ j : Nat, j ≤ m ∧ i = .int .i64 j ∧ Hid ((ks.take j).all kB = true)) (fun i => m - (intOf i).toNat)
      case atStart => exact ⟨0, Nat.zero_le _, rfl, rfl⟩
      case round =>
        obtain ⟨j, hj, rfl, hall⟩ := hrel
        by_cases hlt : j < m
        · have hjl : j < ks.length := by rw [HML.out]; exact hlt
          obtain ⟨b, o, rfl, hb, hcell⟩ := hK2.atI hjl
          have htk : (ks.take (j + 1)).all kB = ((ks.take j).all kB && kB ks[j]) := by rw [List.take_succ_eq_append_getElem hjl, List.all_append]; simp only [List.all_cons, List.all_nil, Bool.and_true]
          have hno : kB ks[j] = false → ks.all kB = false := fun h => List.all_eq_false.2 ⟨ks[j], List.getElem_mem _, by simp [h]⟩
          have HT := Lib.hid htk; have HNO := Lib.hid hno; clear htk hno
          generalize ks[j] = x at *
          have hx := fun w => isK_any x w
          cases hwx : kB x
          · rw [hwx] at hx
            have hf := Lib.hid (HNO.out hwx)
            have HX := Lib.hid hx
            clear hx hjl hwx
            go_wp2_with (go_at_call 44; refine (HX.out _).mono ?_; rintro e w1 ⟨rfl, rfl⟩)
            go_ret
            exact ⟨by rw [HMAY.out, hf.out]; rfl, hb2⟩
          · rw [hwx] at hx
            have ht := Lib.hid (HT.out.trans (by rw [hall.out, hwx, Bool.and_self]))
            have HX := Lib.hid hx
            clear hx hjl hwx
            go_wp2_with (go_at_call 44; refine (HX.out _).mono ?_; rintro e w1 ⟨rfl, rfl⟩)
            exact ⟨⟨j + 1, by omega, by simp, ht⟩, by simp [intOf]; omega⟩
        · have : j = ks.length := by rw [HML.out]; omega
          subst this
          rw [List.take_length] at hall
          go_wp2
          go_ret
          exact ⟨by rw [HMAY.out, hall.out]; rfl, hb2⟩
    · have hmay2 : mayB o ks n warm = false := by rw [hmay, decide_eq_false hmP, Bool.false_and]
      rw [hmay2]
      have hm0 : ((P : Int) == 0) = false := by simp only [beq_eq_false_iff_ne, ne_eq]; omega
      have hmP2 : ((m : Int) != (P : Int)) = true := by simp only [bne_iff_ne, ne_eq]; omega
      clear hmay hmay2 hmP
      go_enter Try.func17, Try.ntmps17
      go_wp2_with fail
      refine (HSZ.out _).mono ?_
      rintro e w2 ⟨v2, rfl, ho, hb⟩
      obtain ⟨A2, c2, rfl, _, _⟩ := ho.formI
      rw [HL.out]
      obtain ⟨d0, d1, hf⟩ := blk2 (box_on hb)
      have hb2 := bthen hb0 hb hb0.size
      clear hb hb0 ho
      go_wp2
      go_ret
      exact ⟨rfl, hb2⟩
  · have hno := sizesI_no hp
    have hmay : mayB o ks n warm = false := by unfold mayB; rw [Bool.eq_false_iff.2 hp, Bool.false_and, Bool.false_and]
    rw [hmay]
    have HNO := Lib.hid hno
    clear hno hmay hp hml
    go_enter Try.func17, Try.ntmps17
    go_wp2_with fail
    refine (HSZ.out _).mono ?_
    rintro e w2 ⟨v2, rfl, ho, hb⟩
    rw [HNO.out] at ho
    obtain ⟨A2, c2, rfl, _, _⟩ := ho.formI
    have hb2 := bthen hb0 hb hb0.size
    clear hb hb0 ho
    go_wp2
    go_ret
    exact ⟨rfl, hb2⟩
theorem kB_or (k : Int) : kB k = (paramB k || decide (k = 31)) := rfl
theorem qmay_any (o : Int) (vk : Value) (ks : List Int) (n warm : Int) (w : World) (B : Nat) (hK : Sli w B vk (ci ks)) (hB : B ≤ w.heap.size) (hn : ks.length ≤ 1099511627776) (ho1 : -9223372036854775808 ≤ o) (ho2 : o ≤ 9223372036854775807) :
    Calls Try.prog 18 #[.agg #[.int .i64 o, vk], .int .i64 n, .int .i64 warm] w fun e w' => e = .returned (.bool (mayB o ks n warm)) ∧ Below w.heap.size w w' := by
  obtain ⟨A, c, rfl, hlc, hcm⟩ := hK.formI
  obtain ⟨m, hml⟩ : ∃ m, ks.length = m := ⟨_, rfl⟩
  rw [hml] at hK hlc hn ⊢
  have hb0 := below_box w (.int .i64 o) (.slice A m c) 24
  have hsz := fun w => qsizes_any o n warm w ho1 ho2
  have HSZ := Lib.hid hsz; clear hsz
  by_cases hp : planB o n warm = true
  · have hl : (sizesI o n warm).length = 2 ^ o.toNat := by rw [sizesI_len, sizesN_len hp]
    obtain ⟨h1, h256⟩ := two_256 hp
    have hmay : mayB o ks n warm = (decide (m = 2 ^ o.toNat) && ks.all kB) := by unfold mayB; rw [hp, Bool.true_and, hml]
    generalize 2 ^ o.toNat = P at *
    have HML := Lib.hid hml; have HL := Lib.hid hl
    clear hml hl hp
    by_cases hmP : m = P
    · have hmay2 : mayB o ks n warm = ks.all kB := by rw [hmay, decide_eq_true hmP, Bool.true_and]
      have HMAY := Lib.hid hmay2
      clear hmay hmay2
      subst hmP
      have hm0 : ((m : Int) == 0) = false := by simp only [beq_eq_false_iff_ne, ne_eq]; omega
      go_enter Try.func18, Try.ntmps18
      go_wp2_with fail
      refine (HSZ.out _).mono ?_
      rintro e w2 ⟨v2, rfl, ho, hb⟩
      obtain ⟨A2, c2, rfl, _, _⟩ := ho.formI
      rw [HL.out]
      obtain ⟨d0, d1, hf⟩ := blk2 (box_on hb)
      have hb2 := bthen hb0 hb hb0.size
      have hK2 := hK.below (hb2.mono hB)
      clear hb hb0 ho
      go_wp2
      go_loop [8] (fun i => ∃ j : Nat, j ≤ m ∧ i = .int .i64 j ∧ Hid ((ks.take j).all kB = true)) (fun i => m - (intOf i).toNat)
      case atStart => exact ⟨0, Nat.zero_le _, rfl, rfl⟩
      case round =>
        obtain ⟨j, hj, rfl, hall⟩ := hrel
        by_cases hlt : j < m
        · have hjl : j < ks.length := by rw [HML.out]; exact hlt
          obtain ⟨b, o, rfl, hb, hcell⟩ := hK2.atI hjl
          have htk : (ks.take (j + 1)).all kB = ((ks.take j).all kB && kB ks[j]) := by rw [List.take_succ_eq_append_getElem hjl, List.all_append]; simp only [List.all_cons, List.all_nil, Bool.and_true]
          have hno : kB ks[j] = false → ks.all kB = false := fun h => List.all_eq_false.2 ⟨ks[j], List.getElem_mem _, by simp [h]⟩
          have HT := Lib.hid htk; have HNO := Lib.hid hno; clear htk hno
          generalize ks[j] = x at *
          have hx := fun w => qpar_any x w
          have hkor := kB_or x
          clear hjl
          cases hwx : paramB x
          · rw [hwx] at hx hkor
            have HX := Lib.hid hx
            clear hx hwx
            by_cases h31 : x = 31
            · have ht := Lib.hid (HT.out.trans (by rw [hall.out, hkor, decide_eq_true h31] <;> rfl))
              have hne : (x != 31) = false := by simpa using h31
              clear hkor h31
              go_wp2_with (go_at_call 45; refine (HX.out _).mono ?_; rintro e w1 ⟨rfl, rfl⟩)
              exact ⟨⟨j + 1, by omega, by simp, ht⟩, by simp [intOf]; omega⟩
            · have hf := Lib.hid (HNO.out (by rw [hkor, decide_eq_false h31]; rfl))
              have hne : (x != 31) = true := by simpa using h31
              clear hkor h31
              go_wp2_with (go_at_call 45; refine (HX.out _).mono ?_; rintro e w1 ⟨rfl, rfl⟩)
              go_ret
              exact ⟨by rw [HMAY.out, hf.out]; rfl, hb2⟩
          · rw [hwx] at hx hkor
            have ht := Lib.hid (HT.out.trans (by rw [hall.out, hkor] <;> rfl))
            have HX := Lib.hid hx
            clear hx hwx hkor
            go_wp2_with (go_at_call 45; refine (HX.out _).mono ?_; rintro e w1 ⟨rfl, rfl⟩)
            exact ⟨⟨j + 1, by omega, by simp, ht⟩, by simp [intOf]; omega⟩
        · have : j = ks.length := by rw [HML.out]; omega
          subst this
          rw [List.take_length] at hall
          go_wp2
          go_ret
          exact ⟨by rw [HMAY.out, hall.out]; rfl, hb2⟩
    · have hmay2 : mayB o ks n warm = false := by rw [hmay, decide_eq_false hmP, Bool.false_and]
      rw [hmay2]
      have hm0 : ((P : Int) == 0) = false := by simp only [beq_eq_false_iff_ne, ne_eq]; omega
      have hmP2 : ((P : Int) != (m : Int)) = true := by simp only [bne_iff_ne, ne_eq]; omega
      clear hmay hmay2 hmP
      go_enter Try.func18, Try.ntmps18
      go_wp2_with fail
      refine (HSZ.out _).mono ?_
      rintro e w2 ⟨v2, rfl, ho, hb⟩
      obtain ⟨A2, c2, rfl, _, _⟩ := ho.formI
      rw [HL.out]
      obtain ⟨d0, d1, hf⟩ := blk2 (box_on hb)
      have hb2 := bthen hb0 hb hb0.size
      clear hb hb0 ho
      go_wp2
      go_ret
      exact ⟨rfl, hb2⟩
  · have hno := sizesI_no hp
    have hmay : mayB o ks n warm = false := by unfold mayB; rw [Bool.eq_false_iff.2 hp, Bool.false_and, Bool.false_and]
    rw [hmay]
    have HNO := Lib.hid hno
    clear hno hmay hp hml
    go_enter Try.func18, Try.ntmps18
    go_wp2_with fail
    refine (HSZ.out _).mono ?_
    rintro e w2 ⟨v2, rfl, ho, hb⟩
    rw [HNO.out] at ho
    obtain ⟨A2, c2, rfl, _, _⟩ := ho.formI
    have hb2 := bthen hb0 hb hb0.size
    clear hb hb0 ho
    go_wp2
    go_ret
    exact ⟨rfl, hb2⟩

/-- Two plans, whose rows may lie anywhere. -/
theorem sameParts_any (o1 o2 : Int) (v1 v2 : Value) (k1 k2 : List Int) (w : World) (B1 B2 : Nat) (h1 : Sli w B1 v1 (ci k1)) (h2 : Sli w B2 v2 (ci k2)) (hB1 : B1 ≤ w.heap.size) (hB2 : B2 ≤ w.heap.size) (hn1 : k1.length ≤ 1099511627776) (hn2 : k2.length ≤ 1099511627776) :
    Calls Try.prog 34 #[.agg #[.int .i64 o1, v1], .agg #[.int .i64 o2, v2]] w fun e w' => e = .returned (.bool (decide (o1 = o2) && decide (k1 = k2))) ∧ Below w.heap.size w w' := by
  obtain ⟨A1, c1, rfl, hlc1, hcm1⟩ := h1.formI
  obtain ⟨A2, c2, rfl, hlc2, hcm2⟩ := h2.formI
  have hb1 := below_box w (.int .i64 o1) (.slice A1 k1.length c1) 24
  have hb2 := hb1.trans ((below_box (w.alloc (.cells #[.int .i64 o1, .slice A1 k1.length c1] 24)) (.int .i64 o2) (.slice A2 k2.length c2) 24).mono hb1.size)
  have hs := sameInts_any _ _ k1 k2 _ _ _ (h1.below (hb2.mono hB1)) (h2.below (hb2.mono hB2)) hn1 hn2
  have HS := Lib.hid hs; have HB := Lib.hid hb2
  clear hs hb2 hb1 h1 h2
  generalize decide (k1 = k2) = z at *
  by_cases ho : o1 = o2
  · rw [decide_eq_true ho, Bool.true_and]
    subst ho
    go_enter Try.func34, Try.ntmps34
    go_wp2_with fail
    refine HS.out.mono ?_
    rintro e w3 ⟨rfl, q, rfl⟩
    go_wp2
    go_ret
    exact ⟨rfl, below_drewN HB.out q⟩
  · rw [decide_eq_false ho, Bool.false_and]
    have hne : (o1 == o2) = false := by simpa using ho
    clear ho
    go_enter Try.func34, Try.ntmps34
    go_wp2
    go_ret
    exact ⟨rfl, HB.out⟩
theorem small_any (o : Int) (vk va : Value) (ks l : List Int) (w : World) (B1 B2 : Nat) (h1 : Sli w B1 vk (ci ks)) (h2 : Sli w B2 va (ci l)) :
    Calls Try.prog 13 #[.agg #[.int .i64 o, vk], va] w fun e w' => e = .returned (.bool (decide (ks.length ≤ 300) && decide (l.length ≤ 400))) ∧ Below w.heap.size w w' := by
  obtain ⟨A1, c1, rfl, hlc1, hcm1⟩ := h1.formI
  obtain ⟨A2, c2, rfl, hlc2, hcm2⟩ := h2.formI
  have HB := Lib.hid (below_box w (.int .i64 o) (.slice A1 ks.length c1) 24)
  clear h1 h2
  generalize ks.length = a at *
  generalize l.length = b at *
  by_cases x1 : a ≤ 300
  · by_cases x2 : b ≤ 400
    · rw [decide_eq_true x1, decide_eq_true x2]
      go_enter Try.func13, Try.ntmps13
      go_wp2
      go_ret
      refine ⟨?_, HB.out⟩
      show Ending.returned (.bool (decide ((b : Int) ≤ 400))) = _
      rw [decide_eq_true (by omega), Bool.and_self]
    · rw [decide_eq_true x1, decide_eq_false x2]
      go_enter Try.func13, Try.ntmps13
      go_wp2
      go_ret
      refine ⟨?_, HB.out⟩
      show Ending.returned (.bool (decide ((b : Int) ≤ 400))) = _
      rw [decide_eq_false (by omega), Bool.and_false]
  · rw [decide_eq_false x1]
    unfold maxLen at hcm1
    go_enter Try.func13, Try.ntmps13
    go_wp2
    go_ret
    exact ⟨rfl, HB.out⟩
end Go.Proofs.Ytohbpjehphmedaa
