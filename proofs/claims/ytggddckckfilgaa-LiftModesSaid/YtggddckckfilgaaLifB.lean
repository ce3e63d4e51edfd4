/- lift: which steps may be, and the reference's; sameLifts. -/
import Derived.Test.YtggddckckfilgaaLifA
import Derived.Test.YtggddckckfilgaaBloM
import Derived.Deep.QuietTactic
import Derived.BigQuiet
namespace Go.Proofs.Ytggddckckfilgaa
open Go.RowKit
set_option maxRecDepth 100000
set_option maxHeartbeats 4000000

def chB (c ch : Int) : Bool := decide (0 ≤ c) && decide (c < ch)
theorem isCh_any (c ch : Int) (w : World) : Calls Try.prog 45 #[.int .i64 c, .int .i64 ch] w fun e w' => e = .returned (.bool (chB c ch)) ∧ w = w' := by
  unfold chB
  by_cases h1 : 0 ≤ c <;> by_cases h2 : c < ch
  all_goals
    simp only [h1, h2, decide_true, decide_false, Bool.and_true, Bool.and_false, Bool.true_and, Bool.false_and]
    go_enter Try.func45, Try.ntmps45
    go_wp2
    go_ret
    exact ⟨rfl, rfl⟩
theorem liOk_eq (ch : Int) (x : Li) : liOk ch x = (chB x.fr ch && chB x.to ch && !decide (x.fr = x.to) && decide (-1024 ≤ x.gn) && decide (x.gn ≤ 1024)) := rfl
theorem isStep_any (x : Li) (ch : Int) (w : World) :
    Calls Try.prog 31 #[.agg #[.int .i64 x.fr, .int .i64 x.to, .int .i64 x.gn], .int .i64 ch] w fun e w' => e = .returned (.bool (liOk ch x)) ∧ Below w.heap.size w w' := by
  obtain ⟨f, t, g⟩ := x
  have hb0 := below_new w #[.int .i64 f, .int .i64 t, .int .i64 g] 50
  have hc1 := fun w => isCh_any f ch w
  have hc2 := fun w => isCh_any t ch w
  rw [liOk_eq]
  simp only
  generalize chB f ch = p at *
  generalize chB t ch = q at *
  have HC1 := Lib.hid hc1; have HC2 := Lib.hid hc2
  clear hc1 hc2
  cases p
  · simp only [Bool.false_and]
    go_enter Try.func31, Try.ntmps31
    go_wp2_with (go_at_call 45; refine (HC1.out _).mono ?_; rintro e w1 ⟨rfl, rfl⟩)
    go_ret
    exact ⟨rfl, hb0⟩
  · cases q
    · simp only [Bool.false_and, Bool.and_false]
      go_enter Try.func31, Try.ntmps31
      go_wp2_with fail
      refine (HC1.out _).mono ?_; rintro e w1 ⟨rfl, rfl⟩
      go_wp2_with fail
      refine (HC2.out _).mono ?_; rintro e w1 ⟨rfl, rfl⟩
      go_wp2
      go_ret
      exact ⟨rfl, hb0⟩
    · by_cases h1 : f = t
      · subst h1
        simp only [decide_true, Bool.not_true, Bool.and_false, Bool.false_and]
        go_enter Try.func31, Try.ntmps31
        go_wp2_with fail
        refine (HC1.out _).mono ?_; rintro e w1 ⟨rfl, rfl⟩
        go_wp2_with fail
        refine (HC2.out _).mono ?_; rintro e w1 ⟨rfl, rfl⟩
        go_wp2
        go_ret
        exact ⟨rfl, hb0⟩
      · have h1' : (f != t) = true := by rw [bne_iff_ne]; exact h1
        rw [decide_eq_false h1]
        clear h1
        by_cases h2 : -1024 ≤ g
        · by_cases h3 : g ≤ 1024
          · have h3' := decide_eq_true h3
            have h2' := decide_eq_true h2
            rw [h2', h3']
            simp only [Bool.not_false, Bool.and_true, Bool.and_false]
            go_enter Try.func31, Try.ntmps31
            go_wp2_with fail
            refine (HC1.out _).mono ?_; rintro e w1 ⟨rfl, rfl⟩
            go_wp2_with fail
            refine (HC2.out _).mono ?_; rintro e w1 ⟨rfl, rfl⟩
            go_wp2
            go_ret
            exact ⟨rfl, hb0⟩
          · have h3' := decide_eq_false h3
            have h2' := decide_eq_true h2
            rw [h2', h3']
            simp only [Bool.not_false, Bool.and_true, Bool.and_false]
            go_enter Try.func31, Try.ntmps31
            go_wp2_with fail
            refine (HC1.out _).mono ?_; rintro e w1 ⟨rfl, rfl⟩
            go_wp2_with fail
            refine (HC2.out _).mono ?_; rintro e w1 ⟨rfl, rfl⟩
            go_wp2
            go_ret
            exact ⟨rfl, hb0⟩
        · have h2' := decide_eq_false h2
          rw [h2']
          simp only [Bool.not_false, Bool.and_true, Bool.and_false]
          go_enter Try.func31, Try.ntmps31
          go_wp2_with fail
          refine (HC1.out _).mono ?_; rintro e w1 ⟨rfl, rfl⟩
          go_wp2_with fail
          refine (HC2.out _).mono ?_; rintro e w1 ⟨rfl, rfl⟩
          go_wp2
          go_ret
          exact ⟨rfl, hb0⟩
theorem liOk_take {ch : Int} {l : List Li} {j : Nat} (h : j < l.length) : (l.take (j + 1)).all (liOk ch) = ((l.take j).all (liOk ch) && liOk ch l[j]) := by
  rw [List.take_succ_eq_append_getElem h, List.all_append]; simp only [List.all_cons, List.all_nil, Bool.and_true]
theorem mayL_any (v : Value) (l : List Li) (ch : Int) (w : World) (B : Nat) (hS : Lis w B v l) (hB : B ≤ w.heap.size) :
    Calls Try.prog 13 #[v, .int .i64 ch] w fun e w' => e = .returned (.bool (mayLi l ch)) ∧ Below w.heap.size w w' := by
  obtain ⟨A, c, rfl, hlc, hcm⟩ := hS.form
  obtain ⟨n, hnl⟩ : ∃ n, l.length = n := ⟨_, rfl⟩
  have hmay : mayLi l ch = (chanB ch && decide (l.length ≤ 16) && l.all (liOk ch)) := rfl
  rw [hnl] at hS hlc hmay ⊢
  have HNL := Lib.hid hnl; clear hnl
  by_cases h1 : 1 ≤ ch
  · by_cases h2 : ch ≤ 8
    · rw [chanB_iff.2 ⟨h1, h2⟩, Bool.true_and] at hmay
      by_cases h3 : n ≤ 16
      · rw [decide_eq_true h3, Bool.true_and] at hmay
        have HMAY := Lib.hid hmay
        have HS := Lib.hid hS
        clear hmay hS
        go_enter Try.func13, Try.ntmps13
        go_wp2
        go_loopw [20] (fun i wr => ∃ j : Nat, j ≤ n ∧ i = .int .i64 j ∧ Hid ((l.take j).all (liOk ch) = true) ∧ Below w.heap.size w wr) (fun i _ => n - (intOf i).toNat)
        case atStart => exact ⟨0, Nat.zero_le _, rfl, rfl, Below.refl _ _⟩
        case round =>
          obtain ⟨j, hj, rfl, hall, hbr⟩ := hrel
          have HBR := Lib.hid hbr
          by_cases hlt : j < n
          · have hjl : j < l.length := by rw [HNL.out]; exact hlt
            obtain ⟨b, o, rfl, ⟨c0, c1, c2⟩, hb⟩ := (HS.out.below (hbr.mono hB)).get (List.getElem?_eq_getElem hjl)
            have htk := liOk_take (ch := ch) hjl
            have hno : liOk ch l[j] = false → l.all (liOk ch) = false := fun h => List.all_eq_false.2 ⟨l[j], List.getElem_mem _, by simp [h]⟩
            have HT := Lib.hid htk; have HNO := Lib.hid hno; clear htk hno hbr
            generalize l[j] = x at *
            have hx := fun w => isStep_any x ch w
            cases hwx : liOk ch x
            · rw [hwx] at hx
              have hf := Lib.hid (HNO.out hwx)
              have HX := Lib.hid hx
              clear hx hjl hwx
              go_wp2_with (go_at_call 31; refine (HX.out _).mono ?_; rintro e w1 ⟨rfl, hb1⟩)
              go_ret
              have hs := HBR.out.size
              exact ⟨by rw [HMAY.out, hf.out]; rfl, (HBR.out.alloc hs _).trans (hb1.mono (by simp; omega))⟩
            · rw [hwx] at hx
              have ht := Lib.hid (HT.out.trans (by rw [hall.out, hwx, Bool.and_self]))
              have HX := Lib.hid hx
              clear hx hjl hwx
              go_wp2_with (go_at_call 31; refine (HX.out _).mono ?_; rintro e w1 ⟨rfl, hb1⟩)
              have hs := HBR.out.size
              exact ⟨⟨j + 1, by omega, by simp, ht, (HBR.out.alloc hs _).trans (hb1.mono (by simp; omega))⟩, by simp [intOf]; omega⟩
          · have : j = l.length := by rw [HNL.out]; omega
            subst this
            rw [List.take_length] at hall
            clear hbr
            go_wp2
            go_ret
            exact ⟨by rw [HMAY.out, hall.out]; rfl, HBR.out⟩
      · rw [decide_eq_false h3, Bool.false_and] at hmay
        rw [hmay]
        clear hmay hS
        go_enter Try.func13, Try.ntmps13
        go_wp2
        go_ret
        exact ⟨rfl, Below.refl _ _⟩
    · rw [show chanB ch = false from Bool.eq_false_iff.2 (fun h => h2 (chanB_iff.1 h).2), Bool.false_and, Bool.false_and] at hmay
      rw [hmay]
      clear hmay hS
      go_enter Try.func13, Try.ntmps13
      go_wp2
      go_ret
      exact ⟨rfl, Below.refl _ _⟩
  · rw [show chanB ch = false from Bool.eq_false_iff.2 (fun h => h1 (chanB_iff.1 h).1), Bool.false_and, Bool.false_and] at hmay
    rw [hmay]
    clear hmay hS
    go_enter Try.func13, Try.ntmps13
    go_wp2
    go_ret
    exact ⟨rfl, Below.refl _ _⟩
theorem qmayL_any (v : Value) (l : List Li) (ch : Int) (w : World) (B : Nat) (hS : Lis w B v l) (hB : B ≤ w.heap.size) :
    Calls Try.prog 14 #[v, .int .i64 ch] w fun e w' => e = .returned (.bool (mayLi l ch)) ∧ Below w.heap.size w w' := by
  obtain ⟨A, c, rfl, hlc, hcm⟩ := hS.form
  obtain ⟨n, hnl⟩ : ∃ n, l.length = n := ⟨_, rfl⟩
  have hmay : mayLi l ch = (chanB ch && decide (l.length ≤ 16) && l.all (liOk ch)) := rfl
  rw [hnl] at hS hlc hmay ⊢
  have HNL := Lib.hid hnl; clear hnl
  by_cases h1 : 1 ≤ ch
  · by_cases h2 : ch ≤ 8
    · rw [chanB_iff.2 ⟨h1, h2⟩, Bool.true_and] at hmay
      by_cases h3 : n ≤ 16
      · rw [decide_eq_true h3, Bool.true_and] at hmay
        have HMAY := Lib.hid hmay
        have HS := Lib.hid hS
        clear hmay hS
        go_enter Try.func14, Try.ntmps14
        go_wp2
        go_loopw [5] (fun i wr => ∃ j : Nat, j ≤ n ∧ i = .int .i64 j ∧ Hid ((l.take j).all (liOk ch) = true) ∧ Below w.heap.size w wr) (fun i _ => n - (intOf i).toNat)
        case atStart => exact ⟨0, Nat.zero_le _, rfl, rfl, Below.refl _ _⟩
        case round =>
          obtain ⟨j, hj, rfl, hall, hbr⟩ := hrel
          have HBR := Lib.hid hbr
          by_cases hlt : j < n
          · have hjl : j < l.length := by rw [HNL.out]; exact hlt
            obtain ⟨b, o, rfl, ⟨c0, c1, c2⟩, hb⟩ := (HS.out.below (hbr.mono hB)).get (List.getElem?_eq_getElem hjl)
            have htk := liOk_take (ch := ch) hjl
            have hno : liOk ch l[j] = false → l.all (liOk ch) = false := fun h => List.all_eq_false.2 ⟨l[j], List.getElem_mem _, by simp [h]⟩
            have hoi := @liOk_iff ch l[j]
            have HT := Lib.hid htk; have HNO := Lib.hid hno; have HOI := Lib.hid hoi; clear htk hno hbr hoi
            generalize l[j] = x at *
            clear hjl
            obtain ⟨f, t, g⟩ := x
            simp only at c0 c1 c2
            by_cases e0 : 0 ≤ f
            · by_cases e1 : f < ch
              · by_cases e2 : 0 ≤ t
                · by_cases e3 : t < ch
                  · by_cases e4 : f ≠ t
                    · by_cases e5 : -1024 ≤ g
                      · by_cases e6 : g ≤ 1024
                        · have ht := Lib.hid (HT.out.trans (by rw [hall.out, HOI.out.2 ⟨e0, e1, e2, e3, e4, e5, e6⟩, Bool.and_self]))
                          clear HT HNO HOI
                          have e4' : (f == t) = false := by rw [beq_eq_false_iff_ne]; exact e4
                          clear e4
                          go_wp2
                          have hs := HBR.out.size
                          exact ⟨⟨j + 1, by omega, by simp, ht, HBR.out.alloc hs _⟩, by simp [intOf]; omega⟩
                        · have hf := Lib.hid (HNO.out (Bool.eq_false_iff.2 (fun h => by have := HOI.out.1 h; simp only at this; omega)))
                          clear HT HNO HOI
                          go_wp2
                          go_ret
                          have hs := HBR.out.size
                          exact ⟨by rw [HMAY.out, hf.out]; rfl, HBR.out.alloc hs _⟩
                      · have hf := Lib.hid (HNO.out (Bool.eq_false_iff.2 (fun h => by have := HOI.out.1 h; simp only at this; omega)))
                        clear HT HNO HOI
                        go_wp2
                        go_ret
                        have hs := HBR.out.size
                        exact ⟨by rw [HMAY.out, hf.out]; rfl, HBR.out.alloc hs _⟩
                    · have e4'' : f = t := by omega
                      subst e4''
                      clear e4
                      have hf := Lib.hid (HNO.out (Bool.eq_false_iff.2 (fun h => by have := HOI.out.1 h; simp only at this; exact absurd rfl this.2.2.2.2.1)))
                      clear HT HNO HOI
                      go_wp2
                      go_ret
                      have hs := HBR.out.size
                      exact ⟨by rw [HMAY.out, hf.out]; rfl, HBR.out.alloc hs _⟩
                  · have hf := Lib.hid (HNO.out (Bool.eq_false_iff.2 (fun h => by have := HOI.out.1 h; simp only at this; omega)))
                    clear HT HNO HOI
                    go_wp2
                    go_ret
                    have hs := HBR.out.size
                    exact ⟨by rw [HMAY.out, hf.out]; rfl, HBR.out.alloc hs _⟩
                · have hf := Lib.hid (HNO.out (Bool.eq_false_iff.2 (fun h => by have := HOI.out.1 h; simp only at this; omega)))
                  clear HT HNO HOI
                  go_wp2
                  go_ret
                  have hs := HBR.out.size
                  exact ⟨by rw [HMAY.out, hf.out]; rfl, HBR.out.alloc hs _⟩
              · have hf := Lib.hid (HNO.out (Bool.eq_false_iff.2 (fun h => by have := HOI.out.1 h; simp only at this; omega)))
                clear HT HNO HOI
                go_wp2
                go_ret
                have hs := HBR.out.size
                exact ⟨by rw [HMAY.out, hf.out]; rfl, HBR.out.alloc hs _⟩
            · have hf := Lib.hid (HNO.out (Bool.eq_false_iff.2 (fun h => by have := HOI.out.1 h; simp only at this; omega)))
              clear HT HNO HOI
              go_wp2
              go_ret
              have hs := HBR.out.size
              exact ⟨by rw [HMAY.out, hf.out]; rfl, HBR.out.alloc hs _⟩
          · have : j = l.length := by rw [HNL.out]; omega
            subst this
            rw [List.take_length] at hall
            clear hbr
            go_wp2
            go_ret
            exact ⟨by rw [HMAY.out, hall.out]; rfl, HBR.out⟩
      · rw [decide_eq_false h3, Bool.false_and] at hmay
        rw [hmay]
        clear hmay hS
        go_enter Try.func14, Try.ntmps14
        go_wp2
        go_ret
        exact ⟨rfl, Below.refl _ _⟩
    · rw [show chanB ch = false from Bool.eq_false_iff.2 (fun h => h2 (chanB_iff.1 h).2), Bool.false_and, Bool.false_and] at hmay
      rw [hmay]
      clear hmay hS
      go_enter Try.func14, Try.ntmps14
      go_wp2
      go_ret
      exact ⟨rfl, Below.refl _ _⟩
  · rw [show chanB ch = false from Bool.eq_false_iff.2 (fun h => h1 (chanB_iff.1 h).1), Bool.false_and, Bool.false_and] at hmay
    rw [hmay]
    clear hmay hS
    go_enter Try.func14, Try.ntmps14
    go_wp2
    go_ret
    exact ⟨rfl, Below.refl _ _⟩
theorem sameL_any (v u : Value) (l : List Li) (w : World) (B C : Nat) (hS : Lis w B v l) (hT : Lis w C u l) (hn : l.length ≤ 1000) :
    Calls Try.prog 15 #[v, u] w fun e w' => e = .returned (.bool true) ∧ ∃ q, w' = w.drewN q := by
  obtain ⟨A, c, rfl, hlc, hcm⟩ := hS.form
  obtain ⟨A2, c2, rfl, hlc2, hcm2⟩ := hT.form
  obtain ⟨n, hnl⟩ : ∃ n, l.length = n := ⟨_, rfl⟩
  rw [hnl] at hS hT hlc hlc2 hn ⊢
  have HNL := Lib.hid hnl; clear hnl
  have HS := Lib.hid hS; have HT := Lib.hid hT
  clear hS hT
  go_enter Try.func15, Try.ntmps15
  go_wp2
  go_loopw [5] (fun i wr => ∃ j : Nat, j ≤ n ∧ i = .int .i64 j ∧ Hid (∃ q, wr = w.drewN q)) (fun i _ => n - (intOf i).toNat)
  case atStart => exact ⟨0, Nat.zero_le _, rfl, 0, rfl⟩
  case round =>
    obtain ⟨j, hj, rfl, hq⟩ := hrel
    by_cases hlt : j < n
    · have hjl : j < l.length := by rw [HNL.out]; exact hlt
      have HW : Hid (∀ p, wr.cell? p = w.cell? p) := by obtain ⟨q, e⟩ := hq.out; exact fun p => by rw [e]; rfl
      obtain ⟨b, o, rfl, ⟨c0, c1, c2'⟩, hb⟩ := (HS.out.keep fun p _ => HW.out p).get (List.getElem?_eq_getElem hjl)
      obtain ⟨b2, o2, rfl, ⟨d0, d1, d2⟩, hb2⟩ := (HT.out.keep fun p _ => HW.out p).get (List.getElem?_eq_getElem hjl)
      clear HW
      generalize l[j] = x at *
      clear hjl
      obtain ⟨f, t, g⟩ := x
      simp only at c0 c1 c2' d0 d1 d2
      go_wp2
      go_quiet (fail)
      go_wp2
      exact ⟨⟨j + 1, by omega, by simp, by obtain ⟨q, h⟩ := hq.out; exact ⟨q + nq, by rw [h, World.drewN_drewN]⟩⟩, by simp [intOf]; omega⟩
    · go_wp2
      go_ret
      exact ⟨rfl, hq.out⟩
end Go.Proofs.Ytggddckckfilgaa
