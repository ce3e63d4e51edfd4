/- block: the reference's Part. -/
import Derived.Test.YtfbhiaoodompdaaBloK
import Derived.Deep.RegionLaw
import Derived.Deep.RegionHeld3
import Derived.Deep.QuietTactic
import Derived.BigQuiet
namespace Go.Proofs.Ytfbhiaoodompdaa
open Go.RowKit
set_option maxRecDepth 100000
set_option maxHeartbeats 4000000

/- The rows behind i samples. -/
def cntB (m i k : Nat) : Nat := i / m + (if k < i % m then 1 else 0)
def growB (l : List Int) (m i : Nat) : List (List Int) := (List.range m).map fun k => (List.range (cntB m i k)).map fun a => l.getD (a * m + k) 0
theorem growB_len (l : List Int) (m i : Nat) : (growB l m i).length = m := by simp [growB]
theorem growB_zero (l : List Int) (m : Nat) : growB l m 0 = List.replicate m [] := by
  apply List.ext_getElem
  · simp [growB]
  · intro k h1 h2; simp [growB, cntB]
theorem growB_end (l : List Int) {m L q : Nat} (hm : 0 < m) (h : q * m = L) : growB l m L = partB l m q := by
  subst h
  apply List.ext_getElem
  · simp [growB, partB]
  · intro k h1 h2
    simp [growB, partB, cntB, Nat.mul_div_cancel _ hm]
theorem cnt_step {m i : Nat} (hm : 0 < m) {k : Nat} (hk : k < m) : cntB m (i + 1) k = cntB m i k + (if k = i % m then 1 else 0) := by
  have h0 := Nat.div_add_mod i m
  have hr := Nat.mod_lt i hm
  obtain ⟨q, hq⟩ : ∃ q, i / m = q := ⟨_, rfl⟩
  obtain ⟨r, hrr⟩ : ∃ r, i % m = r := ⟨_, rfl⟩
  rw [hq, hrr] at h0
  rw [hrr] at hr
  unfold cntB
  rw [hq, hrr]
  by_cases hlt : r + 1 < m
  · have e1 : (i + 1) / m = q := by rw [← h0, Nat.add_assoc, Nat.mul_add_div hm, Nat.div_eq_of_lt hlt, Nat.add_zero]
    have e2 : (i + 1) % m = r + 1 := by rw [← h0, Nat.add_assoc, Nat.mul_add_mod, Nat.mod_eq_of_lt hlt]
    rw [e1, e2]
    split <;> split <;> split <;> omega
  · have hrm : r + 1 = m := by omega
    have e0 : i + 1 = m * (q + 1) := by rw [← h0, Nat.add_assoc, hrm, Nat.mul_succ]
    have e1 : (i + 1) / m = q + 1 := by rw [e0, Nat.mul_div_cancel_left _ hm]
    have e2 : (i + 1) % m = 0 := by rw [e0, Nat.mul_mod_right]
    rw [e1, e2]
    split <;> split <;> split <;> omega
theorem cnt_at {m i : Nat} : cntB m i (i % m) = i / m := by simp [cntB]
theorem grow_step (l : List Int) {m i k : Nat} (hm : 0 < m) (hk : i % m = k) : growB l m (i + 1) = (growB l m i).set k (((List.range (cntB m i k)).map fun a => l.getD (a * m + k) 0) ++ [l.getD i 0]) := by
  have hkm : k < m := by rw [← hk]; exact Nat.mod_lt _ hm
  apply List.ext_getElem
  · simp [growB]
  · intro j h1 h2
    have hj : j < m := by simpa [growB] using h1
    rw [List.getElem_set]
    simp only [growB, List.getElem_map, List.getElem_range]
    rw [cnt_step hm hj, hk]
    by_cases hjk : k = j
    · subst hjk
      rw [if_pos rfl, if_pos rfl, List.range_succ, List.map_append]
      congr 1
      simp only [List.map_cons, List.map_nil]
      congr 2
      have := @cnt_at m i
      rw [hk] at this
      rw [this]
      have h0 := Nat.div_add_mod i m
      rw [hk, Nat.mul_comm] at h0
      exact h0
    · rw [if_neg hjk, if_neg (fun e => hjk e.symm), Nat.add_zero]
theorem grow_at (l : List Int) {m i k : Nat} (hk : k < m) : (growB l m i)[k]? = some ((List.range (cntB m i k)).map fun a => l.getD (a * m + k) 0) := by simp [growB, hk]

/-- 'append(b, u)', one operation of a region that draws its order. -/
theorem step_pushB {P : Program} {w : World} {base : Nat} {e t : TypeId} {z v : Value} {bytes : Nat} {xs : List Value} (hown : Own w base e v xs) (hbase : base ≤ w.heap.size) (hroom : xs.length + 1 ≤ 8796093022208)
    (ht : P.underlying t = some (.slice e)) (hinf : (P.info? e).map (fun i => (i.zero, i.size, i.bytes)) = some (some z, 1, bytes)) (hzs : z.cells.size = 1) (hb16 : bytes ≤ 16)
    {ops : Array Oper} {o : Oper} {a : Act} {K : Act → World → Prop} {Q : Exit → Act → World → Prop} {E : Prop} {s x : Operand} {u : Value} (hgd : o.guard = none)
    (ho : o.op = .call { callee := .builtin .append, args := #[s, x], argTypes := #[t, t] })
    (hs : a.eval s = v) {k : Nat} (hx : a.eval x = .slice (some ⟨k, 0, none⟩) 1 1) (hu : u.oneCell' = true) (hk : k = w.heap.size := by simp)
    (h : ∀ v' w', Own w' base e v' (xs ++ [u]) → (∀ g, Mov w w' g v v') → K (a.put o.dst v') w') : if Region.wanted o (yielded ops a.tmps) = true then Oper.wp P o a (w.alloc (.cells #[u] e)) K Q else E := by
  subst hk
  rw [if_pos (by simp [Region.wanted, hgd])]
  obtain ⟨i, hi, hz0, hz1, hz2⟩ := info_parts hinf
  have hown' := World.ownsRow.alloc hown (.cells #[u] e)
  have hbytes : (xs.length + 1) * bytes ≤ 140737488355328 := by
    have : (xs.length + 1) * bytes ≤ 8796093022208 * 16 := Nat.mul_le_mul hroom hb16
    omega
  obtain ⟨v', w', hr, h2, h3, _, h5⟩ := run_append_own_at (P := P) (w.alloc (.cells #[u] e)) base t o.type e i z 1 bytes ht hi hz0 hz1 hz2 hzs (by decide) v _ xs hown' ⟨w.heap.size, 0, none⟩ 1 1 [u] rfl (cell_one_new w u e) (by intro u' hu'; simp at hu'; subst hu'; exact hu) (by unfold maxLen; omega) hbytes (by simp; omega)
  unfold Oper.wp execOp
  simp only [ho, resolve, invoke, builtin, Sem.run_bind, Sem.run_pure, Result.andThen_ok, List.map_toArray, List.map_cons, List.map_nil, hs, hx, hr]
  have h1 : Below w.heap.size w (w.alloc (.cells #[u] e)) := (Below.refl _ _).alloc (Nat.le_refl _) _
  refine h v' w' (by unfold Own; simpa using h2) fun g => ?_
  refine (Mov.of_below h1).grown h3 fun k hk => ?_
  rcases h5 with e | e
  · exact .inl (e ▸ hk)
  · rw [e] at hk; injection hk with hk; exact .inr (by omega)
theorem Pt.mov {w0 w w' : World} {v x u : Value} {l : List Int} {r c b : Int} (h : Pt w0 w v l r c b) (hm : ∀ g, Mov w w' g x u) (hx : ∀ k, x.ownBlock = some k → w0.heap.size + 2 ≤ k) : Pt w0 w' v l r c b := by
  have hb : Below w0.heap.size w w' := (hm (w0.heap.size)).below (Nat.le_refl _) (fun k hk => by have := hx k hk; omega) h.be.size
  refine ⟨h.be.trans hb, h.s.below hb, ((hm (w0.heap.size + 1)).block _ (Array.getElem?_eq_some_iff.1 h.fb).1 (by omega) (fun e => by have := hx _ e; omega)).trans h.fb, ((hm (w0.heap.size)).block _ (Array.getElem?_eq_some_iff.1 h.rb).1 (by omega) (fun e => by have := hx _ e; omega)).trans h.rb⟩
theorem qpartBk_bad (v : Value) (l : List Int) (r c b : Int) (w : World) (B : Nat) (hS : Sli w B v (ci l)) (hB : B ≤ w.heap.size) (hn : l.length ≤ 1099511627776) (h : (partR l r c b).2.2 ≠ 0)
    (hx : rightB r c b = true → l.length ≠ 0 → l.length % c.toNat = 0 → ¬ l.length / c.toNat ≤ 4096) :
    Calls Try.prog 29 #[v, .agg #[.int .i64 r, .int .i64 c, .int .i64 b]] w (BkPost (partR l r c b) w) := by
  replace hS := hS.more hB
  obtain ⟨A, k, rfl, hlc, hcm⟩ := hS.formI
  obtain ⟨wA, hwA⟩ : ∃ wA, (w.alloc (.cells #[.int .i64 r, .int .i64 c, .int .i64 b] 23)).alloc (.cells #[.int .i64 0, .slice none 0 0] 26) = wA := ⟨_, rfl⟩
  have hX := Pt.start (r := r) (c := c) (b := b) hS
  rw [hwA] at hX
  have hr := fun w => qright_any r c b w
  have HWA := Lib.hid hwA
  clear hwA hS
  unfold partR at h ⊢
  by_cases h1 : rightB r c b = true
  · rw [if_pos h1] at h ⊢
    rw [h1] at hr
    obtain ⟨_, _, hc1, hc8, hpb⟩ := rightB_iff.1 h1
    by_cases h2 : l.length = 0
    · rw [if_pos h2]
      rw [h2] at hX hlc ⊢
      have HR := Lib.hid hr
      clear hr h1 h h2 hx
      go_enter Try.func29, Try.ntmps29
      go_wp2_with fail
      rw [HWA.out]
      obtain ⟨f0, f1, f2, ff⟩ := three_in hX.fb
      go_wp2_with fail
      refine (HR.out _).mono ?_
      rintro e w1 ⟨rfl, hb1⟩
      have hX1 := hX.on hb1
      obtain ⟨r0, r1, rf⟩ := two_in hX1.rb
      clear f0 f1 f2 ff
      go_wp2
      refine bodyPost_ret (results_two rfl _ _ (w.heap.size + 1) 26 #[.int .i64 0, .slice none 0 0] (0, 0) _ rfl (two_set hX1.rb) Try.underlying26 rfl (by kernel_rfl)) rfl ?_
      obtain ⟨q1, q2⟩ := hX1.done (x := 0) (RwG.nil _ _)
      exact ⟨_, _, _, _, rfl, q1, q2⟩
    · rw [if_neg h2] at h ⊢
      obtain ⟨m, rfl⟩ := Int.eq_ofNat_of_zero_le (show 0 ≤ c by omega)
      rw [Int.toNat_natCast] at h ⊢
      obtain ⟨L, hL⟩ : ∃ L, l.length = L := ⟨_, rfl⟩
      have hS2 := hX.s
      rw [hL] at hX hlc h h2 hS2 hn ⊢
      have hl0 : ((L : Int) == 0) = false := by rw [beq_eq_false_iff_ne]; omega
      have hLp : 0 < L := by omega
      have hm0 : (m : Int) ≠ 0 := by omega
      by_cases h3 : L % m = 0
      · rw [if_pos h3] at h ⊢
        have hrem : ((L : Int) % (m : Int) != 0) = false := by rw [← Int.natCast_emod, h3]; rfl
        obtain ⟨q, hq⟩ : ∃ q, L / m = q := ⟨_, rfl⟩
        have hdiv : (L : Int) / (m : Int) = (q : Nat) := by rw [← Int.natCast_ediv, hq]
        rw [hq] at h ⊢
        by_cases h4 : q ≤ 4096
        · exact absurd (show l.length / (((m : Nat) : Int)).toNat ≤ 4096 by rw [hL, Int.toNat_natCast, hq]; exact h4) (hx h1 (by rw [hL]; exact h2) (by rw [hL, Int.toNat_natCast]; exact h3))
        · rw [if_neg h4]
          have h4I : (4096 : Int) < (q : Int) := by omega
          have hqB : (q : Int) ≤ 1099511627776 := by have : q ≤ L := by (rw [← hq]; exact Nat.div_le_self _ _)
                                                     omega
          have HR := Lib.hid hr; have HQ := Lib.hid hq; have HL := Lib.hid hL
          clear hr h1 h h2 h3 h4 hq hL hS2 hpb hx
          go_enter Try.func29, Try.ntmps29
          go_wp2_with fail
          rw [HWA.out]
          obtain ⟨f0, f1, f2, ff⟩ := three_in hX.fb
          go_wp2_with fail
          refine (HR.out _).mono ?_
          rintro e w1 ⟨rfl, hb1⟩
          have hX1 := hX.on hb1
          obtain ⟨r0, r1, rf⟩ := two_in hX1.rb
          clear f0 f1 f2 ff
          obtain ⟨f0, f1, f2, ff⟩ := three_in hX1.fb
          go_wp2
          refine bodyPost_ret (results_two rfl _ _ (w.heap.size + 1) 26 #[.int .i64 0, .slice none 0 0] (0, 0) _ rfl (two_set hX1.rb) Try.underlying26 rfl (by kernel_rfl)) rfl ?_
          obtain ⟨q1, q2⟩ := hX1.done (x := 0) (RwG.nil _ _)
          exact ⟨_, _, _, _, rfl, q1, q2⟩
      · rw [if_neg h3]
        have hrem : ((L : Int) % (m : Int) != 0) = true := by rw [← Int.natCast_emod, bne_iff_ne]; omega
        have HR := Lib.hid hr; have HL := Lib.hid hL
        clear hr h1 h h2 h3 hL hS2 hpb hx
        go_enter Try.func29, Try.ntmps29
        go_wp2_with fail
        rw [HWA.out]
        obtain ⟨f0, f1, f2, ff⟩ := three_in hX.fb
        go_wp2_with fail
        refine (HR.out _).mono ?_
        rintro e w1 ⟨rfl, hb1⟩
        have hX1 := hX.on hb1
        obtain ⟨r0, r1, rf⟩ := two_in hX1.rb
        clear f0 f1 f2 ff
        obtain ⟨f0, f1, f2, ff⟩ := three_in hX1.fb
        go_wp2
        refine bodyPost_ret (results_two rfl _ _ (w.heap.size + 1) 26 #[.int .i64 0, .slice none 0 0] (0, 0) _ rfl (two_set hX1.rb) Try.underlying26 rfl (by kernel_rfl)) rfl ?_
        obtain ⟨q1, q2⟩ := hX1.done (x := 0) (RwG.nil _ _)
        exact ⟨_, _, _, _, rfl, q1, q2⟩
  · rw [if_neg h1]
    rw [Bool.eq_false_iff.2 h1] at hr
    have HR := Lib.hid hr
    clear hr h1 h hx
    go_enter Try.func29, Try.ntmps29
    go_wp2_with fail
    rw [HWA.out]
    obtain ⟨f0, f1, f2, ff⟩ := three_in hX.fb
    go_wp2_with fail
    refine (HR.out _).mono ?_
    rintro e w1 ⟨rfl, hb1⟩
    have hX1 := hX.on hb1
    obtain ⟨r0, r1, rf⟩ := two_in hX1.rb
    clear f0 f1 f2 ff
    obtain ⟨f0, f1, f2, ff⟩ := three_in hX1.fb
    go_wp2
    refine bodyPost_ret (results_two rfl _ _ (w.heap.size + 1) 26 #[.int .i64 0, .slice none 0 0] (0, 0) _ rfl (two_set hX1.rb) Try.underlying26 rfl (by kernel_rfl)) rfl ?_
    obtain ⟨q1, q2⟩ := hX1.done (x := 0) (RwG.nil _ _)
    exact ⟨_, _, _, _, rfl, q1, q2⟩

theorem qpartBk_good (v : Value) (l : List Int) (r : Int) (m q : Nat) (b : Int) (w : World) (B : Nat) (hS : Sli w B v (ci l)) (hB : B ≤ w.heap.size) (hn : l.length ≤ 1099511627776)
    (h1 : rightB r (m : Nat) b = true) (h2 : l.length ≠ 0) (h3 : l.length % m = 0) (hq : l.length / m = q) (h4 : q ≤ 4096) :
    Calls Try.prog 29 #[v, .agg #[.int .i64 r, .int .i64 (m : Nat), .int .i64 b]] w (BkPost (if l.all (fun x => fitsB x b) = true then (b, partB l m q, 0) else (0, [], 6)) w) := by
  obtain ⟨res, hres⟩ : ∃ res : Int × List (List Int) × Int, (if l.all (fun x => fitsB x b) = true then (b, partB l m q, 0) else (0, [], 6)) = res := ⟨_, rfl⟩
  have HRG : Hid (l.all (fun x => fitsB x b) = true → res = (b, partB l m q, 0)) := Lib.hid fun h => by rw [← hres, if_pos h]
  have HRB : Hid (l.all (fun x => fitsB x b) = false → res = (0, [], 6)) := Lib.hid fun h => by rw [← hres, if_neg (by rw [h]; simp)]
  rw [hres]
  clear hres
  replace hS := hS.more hB
  obtain ⟨A, kc, rfl, hlc, hcm⟩ := hS.formI
  obtain ⟨wA, hwA⟩ : ∃ wA, (w.alloc (.cells #[.int .i64 r, .int .i64 (m : Nat), .int .i64 b] 23)).alloc (.cells #[.int .i64 0, .slice none 0 0] 26) = wA := ⟨_, rfl⟩
  have hX := Pt.start (r := r) (c := (m : Nat)) (b := b) hS
  rw [hwA] at hX
  have hr := fun w => qright_any r (m : Nat) b w
  have HWA := Lib.hid hwA
  clear hwA hS
  rw [h1] at hr
  obtain ⟨_, _, hc1, hc8, hpb⟩ := rightB_iff.1 h1
  obtain ⟨L, hL⟩ : ∃ L, l.length = L := ⟨_, rfl⟩
  rw [hL] at hX hlc h2 h3 hn hq ⊢
  have hl0 : ((L : Int) == 0) = false := by rw [beq_eq_false_iff_ne]; omega
  have hm0 : (m : Int) ≠ 0 := by omega
  have hrem : ((L : Int) % (m : Int) != 0) = false := by rw [← Int.natCast_emod, h3]; rfl
  have hdiv : (L : Int) / (m : Int) = (q : Nat) := by rw [← Int.natCast_ediv, hq]
  have hqm : q * m = L := by rw [← hq]; exact Nat.div_mul_cancel (Nat.dvd_of_mod_eq_zero h3)
  have HR := Lib.hid hr; have HQ := Lib.hid hq; have HL := Lib.hid hL; have HQM := Lib.hid hqm
  clear hr h1 h2 h3 hq hL hpb hqm
  go_enter Try.func29, Try.ntmps29
  go_wp2_with fail
  rw [HWA.out]
  obtain ⟨f0, f1, f2, ff⟩ := three_in hX.fb
  go_wp2_with fail
  refine (HR.out _).mono ?_
  rintro e w1 ⟨rfl, hb1⟩
  have hX1 := hX.on hb1
  obtain ⟨r0, r1, rf⟩ := two_in hX1.rb
  clear f0 f1 f2 ff hX hb1
  obtain ⟨f0, f1, f2, ff⟩ := three_in hX1.fb
  go_upto_region 9 with (fail)
  have hrun := makeN m (by omega)
  have hz1 := hX1.size
  have hz2 : w.heap.size < w1.heap.size := by omega
  go_cut [6] (fun p wx => ∃ gB gS, p = .pointer (some ⟨gB, 0, none⟩) ∧ w1.heap.size ≤ gB ∧ wx.heap[gB]? = some (.cells #[.int .i64 b, .slice (some ⟨gS, 0, none⟩) m m] 26 (0, 0)) ∧ Own wx w1.heap.size 37 (.slice (some ⟨gS, 0, none⟩) m m) (List.replicate m (.slice none 0 0)) ∧ Below w1.heap.size w1 wx)
  case first =>
    go_region
    all_goals
      go_wp2_with fail
      go_meet
      case rel =>
        first
          | exact ⟨_, _, rfl, Nat.le_succ _, two_ways_a w1 m (by omega) b⟩
          | exact ⟨_, _, rfl, Nat.le_refl _, two_ways_b w1 m (by omega) b⟩
  case rest =>
    obtain ⟨gB, gS, rfl, hgB, hbx, hos, hb2⟩ := hcut
    have hX2 := hX1.on hb2
    have hG := hX2.size
    have hR2 := RwG.made (hos.mono hz1)
    have hgS := (hos.lt gS rfl).1
    have hne : gB ≠ gS := by
      obtain ⟨cs, hc⟩ := hos.blk (k := gS) rfl
      intro e; subst e
      rw [hbx] at hc; injection hc with hc; injection hc with _ hc
      exact absurd hc (by decide)
    obtain ⟨c0, c1, cf⟩ := two_in hbx
    clear hX1 hb2 hos hrun f0 f1 f2 ff r0 r1 rf
    go_wp2
    clear c0 c1 cf
    go_loopw [7] (fun kk wr => ∃ i : Nat, i ≤ L ∧ kk = .int .i64 i ∧ Pt w wr (.slice A L kc) l r (m : Nat) b ∧ wr.heap[gB]? = some (.cells #[.int .i64 b, .slice (some ⟨gS, 0, none⟩) m m] 26 (0, 0)) ∧ Hid ((l.take i).all (fun x => fitsB x b) = true) ∧ ∃ vs, RwG wr (w.heap.size + 2) (.slice (some ⟨gS, 0, none⟩) m m) vs (growB l m i)) (fun kk _ => L - (intOf kk).toNat)
    case atStart => exact ⟨0, Nat.zero_le _, rfl, hX2, hbx, rfl, _, by rw [growB_zero]; exact hR2⟩
    case round =>
      clear hX2 hbx hR2 hG
      obtain ⟨i, hi, rfl, hP, hbx, hall, vs, hR⟩ := hrel
      by_cases hiL : i < L
      · have hil : i < l.length := by rw [HL.out]; exact hiL
        obtain ⟨b5, o5, rfl, hb5, hc5⟩ := hP.s.atI hil
        have hbb5 : b5 < wr.heap.size := Nat.lt_of_lt_of_le hb5 hP.be.size
        have hft := fit_take1 (b := b) hil
        have hno : fitsB l[i] b = false → l.all (fun x => fitsB x b) = false := fun h => List.all_eq_false.2 ⟨l[i], List.getElem_mem _, by simp [h]⟩
        have hgd : l.getD i 0 = l[i] := by rw [List.getD_eq_getElem?_getD, List.getElem?_eq_getElem hil]; rfl
        obtain ⟨k, hk⟩ : ∃ k, i % m = k := ⟨_, rfl⟩
        have hkm : k < m := by rw [← hk]; exact Nat.mod_lt _ (by omega)
        have hgs := grow_step l (m := m) (i := i) (by omega) hk
        rw [hgd] at hgs
        have hmodI : (i : Int) % (m : Int) = (k : Nat) := by rw [← Int.natCast_emod, hk]
        have HFT := Lib.hid hft; have HNO := Lib.hid hno; have HGS := Lib.hid hgs
        clear hft hno hgs hgd hk
        generalize l[i] = x at *
        clear hil
        obtain ⟨f0, f1, f2, ff⟩ := three_in hP.fb
        obtain ⟨c0, c1, cf⟩ := two_in hbx
        have hx := fun w => rfits_any x b w
        have hiI : (i : Int) < (L : Int) := by omega
        cases hwx : fitsB x b
        · rw [hwx] at hx
          have hf := Lib.hid (HNO.out hwx)
          have HX := Lib.hid hx
          clear hx hwx
          go_wp2
          go_quiet ((go_at_call 45; exact quietLN (HX.out _)))
          have hP2 := hP.drewN nq
          obtain ⟨r0, r1, rf⟩ := two_in hP2.rb
          go_wp2
          refine bodyPost_ret (results_two rfl _ _ (w.heap.size + 1) 26 #[.int .i64 0, .slice none 0 0] (0, 0) _ rfl (two_set hP2.rb) Try.underlying26 rfl (by kernel_rfl)) rfl ?_
          obtain ⟨q1, q2⟩ := hP2.done (x := 0) (RwG.nil _ _)
          rw [HRB.out hf.out]
          exact ⟨_, _, _, _, rfl, q1, q2⟩
        · rw [hwx] at hx
          have ht := Lib.hid (HFT.out.trans (by rw [hall.out, hwx, Bool.and_self]))
          have HX := Lib.hid hx
          clear hx hwx
          go_wp2
          go_quiet ((go_at_call 45; exact quietLN (HX.out _)))
          obtain ⟨wn, hwn⟩ : ∃ wn, wr.drewN nq = wn := ⟨_, rfl⟩
          have hP2 := hP.drewN nq
          have hbx2 : (wr.drewN nq).heap[gB]? = some (.cells #[.int .i64 b, .slice (some ⟨gS, 0, none⟩) m m] 26 (0, 0)) := hbx
          have hR2 : RwG (wr.drewN nq) (w.heap.size + 2) (.slice (some ⟨gS, 0, none⟩) m m) vs (growB l m i) := ⟨hR.top.drewN nq, hR.len, fun j y l' hy hl => (hR.row j y l' hy hl).drewN nq, hR.ap⟩
          have hc6 : (wr.drewN nq).cell? ⟨b5, o5 + i, none⟩ = some (.int .i64 x) := hc5
          rw [hwn] at hP2 hbx2 hR2 hc6 ⊢
          have hm00 : m ≠ 0 := by omega
          have hmodT : ((i : Int)).tmod (m : Int) = (k : Nat) := by rw [Int.tmod_eq_emod_of_nonneg (by omega)]; exact hmodI
          clear hwn hP hbx hR hc5 f0 f1 f2 ff c0 c1 cf
          obtain ⟨f0, f1, f2, ff⟩ := three_in hP2.fb
          obtain ⟨c0, c1, cf⟩ := two_in hbx2
          have hvl : k < vs.length := by have := hR2.len; rw [this, growB_len]; exact hkm
          obtain ⟨xv, hxv⟩ : ∃ xv, vs[k]? = some xv := ⟨_, List.getElem?_eq_getElem hvl⟩
          have hrow := hR2.row k xv _ hxv (grow_at l hkm)
          obtain ⟨row, hrw⟩ : ∃ row, (List.range (cntB m i k)).map (fun a => l.getD (a * m + k) 0) = row := ⟨_, rfl⟩
          have hrlen : row.length ≤ 1099511627776 := by
            rw [← hrw, List.length_map, List.length_range]
            have h1 := Nat.div_le_self i m
            unfold cntB
            split <;> omega
          have hgs := HGS.out
          rw [hrw] at hrow hgs
          obtain ⟨Ax, nx, cx, rfl⟩ := hrow.shape
          obtain ⟨g2, cc, hv, hg2, _, _, hcells, hfro, hset⟩ := hR2.top.at_ (by omega)
          injection hv with e1 e2 e3
          injection e1 with e1; injection e1 with e1
          subst e1
          have hck := hcells k hvl
          rw [hxv] at hck
          have hfi := hfro k
          have hz3 : w.heap.size < wn.heap.size := by have := hP2.size; omega
          have hz4 : gB < wn.heap.size := (Array.getElem?_eq_some_iff.1 hbx2).1
          have hz5 : gS < wn.heap.size := by obtain ⟨cs, hc⟩ := hR2.top.blk (k := gS) rfl; exact (Array.getElem?_eq_some_iff.1 hc).1
          have hrm : (ci row).length + 1 ≤ 8796093022208 := by rw [ci_len]; omega
          have hxo : ∀ q, (Value.slice Ax nx cx).ownBlock = some q → w.heap.size + 2 ≤ q := fun q hq => (hrow.lt q hq).1
          have hxB : (Value.slice Ax nx cx).ownBlock ≠ some gB := hrow.ne hbx2 (by decide)
          have HR2 := Lib.hid hR2; have HP2 := Lib.hid hP2; have HGS2 := Lib.hid hgs; have HXV := Lib.hid hxv
          clear hcells hfro hset e2 e3 hR2 hP2 hgs hxv hrw hvl
          go_wp2_with fail
          refine wp_region_held_drew (S := fun w' => w'.cell? ⟨w.heap.size, 1, none⟩ = some (.int .i64 (m : Nat)) ∧ w'.cell? ⟨gB, 1, none⟩ = some (.slice (some ⟨gS, 0, none⟩) m m) ∧ w'.cell? ⟨b5, o5 + i, none⟩ = some (.int .i64 x)) (by kernel_rfl) ⟨f1, c1, hc6⟩ (fun hHeld => ?_)
          refine wpAnyH_take (i := 0) (v := ?_) rfl (by kernel_rfl) (by kernel_rfl) (by kernel_rfl) (fun _ _ _ h => h) (Or.inl ⟨by rfl, ?_⟩) hHeld ?_
          rotate_left 1
          · (intro w' hSw; obtain ⟨s1, s2, s3⟩ := hSw; go_simp; try with_reducible rfl)
          try simp only [Act.put, List.setIfInBounds_toArray, List.set_cons_zero, List.set_cons_succ]
          refine wpAnyH_take (i := 1) (v := ?_) rfl (by kernel_rfl) (by kernel_rfl) (by kernel_rfl) (fun _ _ _ h => h) (Or.inl ⟨by rfl, ?_⟩) hHeld ?_
          rotate_left 1
          · (intro w' hSw; obtain ⟨s1, s2, s3⟩ := hSw; go_simp; try with_reducible rfl)
          try simp only [Act.put, List.setIfInBounds_toArray, List.set_cons_zero, List.set_cons_succ]
          refine wpAnyH_take (i := 2) (v := ?_) rfl (by kernel_rfl) (by kernel_rfl) (by kernel_rfl) (fun _ _ _ h => h) (Or.inl ⟨by rfl, ?_⟩) hHeld ?_
          rotate_left 1
          · (intro w' hSw; obtain ⟨s1, s2, s3⟩ := hSw; go_simp; try with_reducible rfl)
          try simp only [Act.put, List.setIfInBounds_toArray, List.set_cons_zero, List.set_cons_succ]
          refine wpAnyH_take (i := 3) (v := ?_) rfl (by kernel_rfl) (by kernel_rfl) (by kernel_rfl) (fun _ _ _ h => h) (Or.inl ⟨by rfl, ?_⟩) hHeld ?_
          rotate_left 1
          · (intro w' hSw; obtain ⟨s1, s2, s3⟩ := hSw; go_simp; try with_reducible rfl)
          try simp only [Act.put, List.setIfInBounds_toArray, List.set_cons_zero, List.set_cons_succ]
          refine wpAnyH_take (i := 4) (v := ?_) rfl (by kernel_rfl) (by kernel_rfl) (by kernel_rfl) (fun _ _ _ h => h) (Or.inl ⟨by rfl, ?_⟩) hHeld ?_
          rotate_left 1
          · (intro w' hSw; obtain ⟨s1, s2, s3⟩ := hSw; go_simp; try with_reducible rfl)
          try simp only [Act.put, List.setIfInBounds_toArray, List.set_cons_zero, List.set_cons_succ]
          refine wpAnyH_take (i := 5) (v := ?_) rfl (by kernel_rfl) (by kernel_rfl) (by kernel_rfl) (fun _ _ _ h => h) (Or.inl ⟨by rfl, ?_⟩) hHeld ?_
          rotate_left 1
          · (intro w' hSw; obtain ⟨s1, s2, s3⟩ := hSw; go_simp; try with_reducible rfl)
          try simp only [Act.put, List.setIfInBounds_toArray, List.set_cons_zero, List.set_cons_succ]
          refine wpAnyH_take (i := 6) (v := ?_) rfl (by kernel_rfl) (by kernel_rfl) (by kernel_rfl) (fun _ _ _ h => h) (Or.inl ⟨by rfl, ?_⟩) hHeld ?_
          rotate_left 1
          · (intro w' hSw; obtain ⟨s1, s2, s3⟩ := hSw; go_simp; try with_reducible rfl)
          try simp only [Act.put, List.setIfInBounds_toArray, List.set_cons_zero, List.set_cons_succ]
          refine wpAnyH_take (i := 7) (v := ?_) rfl (by kernel_rfl) (by kernel_rfl) (by kernel_rfl) (fun _ _ _ h => h) (Or.inl ⟨by rfl, ?_⟩) hHeld ?_
          rotate_left 1
          · (intro w' hSw; obtain ⟨s1, s2, s3⟩ := hSw; go_simp; try with_reducible rfl)
          try simp only [Act.put, List.setIfInBounds_toArray, List.set_cons_zero, List.set_cons_succ]
          refine wpAnyH_take (i := 8) (v := ?_) rfl (by kernel_rfl) (by kernel_rfl) (by kernel_rfl) (fun _ _ _ h => h) (Or.inl ⟨by rfl, ?_⟩) hHeld ?_
          rotate_left 1
          · (intro w' hSw; obtain ⟨s1, s2, s3⟩ := hSw; go_simp; try with_reducible rfl)
          try simp only [Act.put, List.setIfInBounds_toArray, List.set_cons_zero, List.set_cons_succ]
          refine wpAnyH_take (i := 9) (v := ?_) rfl (by kernel_rfl) (by kernel_rfl) (by kernel_rfl) (fun _ _ _ h => h) (Or.inl ⟨by rfl, ?_⟩) hHeld ?_
          rotate_left 1
          · (intro w' hSw; obtain ⟨s1, s2, s3⟩ := hSw; go_simp; try with_reducible rfl)
          try simp only [Act.put, List.setIfInBounds_toArray, List.set_cons_zero, List.set_cons_succ]
          refine wpAnyH_take (i := 10) (v := ?_) rfl (by kernel_rfl) (by kernel_rfl) (by kernel_rfl) (fun _ _ _ h => h) (Or.inl ⟨by rfl, ?_⟩) hHeld ?_
          rotate_left 1
          · (intro w' hSw; obtain ⟨s1, s2, s3⟩ := hSw; go_simp; try with_reducible rfl)
          try simp only [Act.put, List.setIfInBounds_toArray, List.set_cons_zero, List.set_cons_succ]
          refine wpAnyH_take (i := 11) (v := ?_) rfl (by kernel_rfl) (by kernel_rfl) (by kernel_rfl) (fun _ _ _ h => h) (Or.inl ⟨by rfl, ?_⟩) hHeld ?_
          rotate_left 1
          · (intro w' hSw; obtain ⟨s1, s2, s3⟩ := hSw; go_simp; try with_reducible rfl)
          try simp only [Act.put, List.setIfInBounds_toArray, List.set_cons_zero, List.set_cons_succ]
          refine wpAnyH_take (i := 12) (v := ?_) rfl (by kernel_rfl) (by kernel_rfl) (by kernel_rfl) (fun _ _ _ h => h) (Or.inl ⟨by rfl, ?_⟩) hHeld ?_
          rotate_left 1
          · (intro w' hSw; obtain ⟨s1, s2, s3⟩ := hSw; go_simp; try with_reducible rfl)
          try simp only [Act.put, List.setIfInBounds_toArray, List.set_cons_zero, List.set_cons_succ]
          refine wpAnyH_take (i := 14) (v := ?_) rfl (by kernel_rfl) (by kernel_rfl) (by kernel_rfl) (fun _ _ _ h => h) (Or.inl ⟨by rfl, ?_⟩) hHeld ?_
          rotate_left 1
          · (intro w' hSw; obtain ⟨s1, s2, s3⟩ := hSw; go_simp; try with_reducible rfl)
          try simp only [Act.put, List.setIfInBounds_toArray, List.set_cons_zero, List.set_cons_succ]
          refine wpAnyH_take (i := 15) (v := ?_) rfl (by kernel_rfl) (by kernel_rfl) (by kernel_rfl) (fun _ _ _ h => h) (Or.inl ⟨by rfl, ?_⟩) hHeld ?_
          rotate_left 1
          · (intro w' hSw; obtain ⟨s1, s2, s3⟩ := hSw; go_simp; try with_reducible rfl)
          try simp only [Act.put, List.setIfInBounds_toArray, List.set_cons_zero, List.set_cons_succ]
          refine wpAnyH_take (i := 16) (v := ?_) rfl (by kernel_rfl) (by kernel_rfl) (by kernel_rfl) (fun _ _ _ h => h) (Or.inl ⟨by rfl, ?_⟩) hHeld ?_
          rotate_left 1
          · (intro w' hSw; obtain ⟨s1, s2, s3⟩ := hSw; go_simp; try with_reducible rfl)
          try simp only [Act.put, List.setIfInBounds_toArray, List.set_cons_zero, List.set_cons_succ]
          refine wpAnyH_take (i := 17) (v := ?_) rfl (by kernel_rfl) (by kernel_rfl) (by kernel_rfl) (fun _ _ _ h => h) (Or.inl ⟨by rfl, ?_⟩) hHeld ?_
          rotate_left 1
          · (intro w' hSw; obtain ⟨s1, s2, s3⟩ := hSw; go_simp; try with_reducible rfl)
          try simp only [Act.put, List.setIfInBounds_toArray, List.set_cons_zero, List.set_cons_succ]
          have hz6 : b5 < wn.heap.size := Nat.lt_of_lt_of_le hb5 (by omega)
          have HA : ((wn.drew.alloc (.cells #[.int .i64 x] 3)).cell? ⟨w.heap.size, 1, none⟩ = some (.int .i64 (m : Nat)) ∧ (wn.drew.alloc (.cells #[.int .i64 x] 3)).cell? ⟨gB, 1, none⟩ = some (.slice (some ⟨gS, 0, none⟩) m m) ∧ (wn.drew.alloc (.cells #[.int .i64 x] 3)).cell? ⟨b5, o5 + i, none⟩ = some (.int .i64 x)) :=
            ⟨(World.cell?_alloc_lt wn.drew _ _ hz3).trans hHeld.1, (World.cell?_alloc_lt wn.drew _ _ hz4).trans hHeld.2.1, (World.cell?_alloc_lt wn.drew _ _ hz6).trans hHeld.2.2⟩
          have HA2 : (wn.drew.alloc (.cells #[.int .i64 x] 3)).cell? ⟨gS, k, none⟩ = some (.slice Ax nx cx) := (World.cell?_alloc_lt wn.drew _ _ hz5).trans hck
          have HA' := Lib.hid HA
          clear HA
          refine wpAnyH_ready (rs := [13, 18]) (by kernel_rfl) (by simp) ?_
          refine AllReadyH.cons rfl (fun K hK => ?way1) (AllReadyH.cons rfl (fun K hK => ?way2) AllReadyH.nil)
          case' way1 =>
            go_simp
            refine hK.out _ _ hHeld (fun hHeld => ?_)
            clear hK K
            try simp only [Act.put, List.setIfInBounds_toArray, List.set_cons_zero, List.set_cons_succ]
            refine wpAnyH_ready (rs := [18]) (by kernel_rfl) (by simp) ?_
            refine AllReadyH.cons rfl (fun K hK => ?_) AllReadyH.nil
            go_simp
            refine hK.out _ _ HA'.out (fun hHeld => ?_)
            clear hK K
            try simp only [Act.put, List.setIfInBounds_toArray, List.set_cons_zero, List.set_cons_succ]
          case' way2 =>
            go_simp
            refine hK.out _ _ HA'.out (fun hHeld => ?_)
            clear hK K
            try simp only [Act.put, List.setIfInBounds_toArray, List.set_cons_zero, List.set_cons_succ]
            refine wpAnyH_ready (rs := [13]) (by kernel_rfl) (by simp) ?_
            refine AllReadyH.cons rfl (fun K hK => ?_) AllReadyH.nil
            go_simp
            refine hK.out _ _ hHeld (fun hHeld => ?_)
            clear hK K
            try simp only [Act.put, List.setIfInBounds_toArray, List.set_cons_zero, List.set_cons_succ]
          all_goals
            refine wpAnyH_ready (rs := [19]) (by kernel_rfl) (by simp) ?_
            refine AllReadyH.cons rfl (fun K hK => ?_) AllReadyH.nil
            refine step_pushB (w := wn.drew) (u := .int .i64 x) (show Own wn.drew (w.heap.size + 2) 3 (.slice Ax nx cx) (ci row) from hrow) (by have := HP2.out.size; exact this) hrm Try.underlying37 info_int rfl (by decide) rfl rfl rfl rfl rfl (h := ?_)
            intro v6 w6 ho6 hm6
            obtain ⟨A6, n6, c6, rfl⟩ := ho6.shape
            have hP6 := HP2.out.drew.mov hm6 hxo
            have hbx6 : w6.heap[gB]? = some (.cells #[.int .i64 b, .slice (some ⟨gS, 0, none⟩) m m] 26 (0, 0)) := ((hm6 (gB + 1)).block gB hz4 (by omega) hxB).trans hbx2
            obtain ⟨d0, d1, d2, df⟩ := three_in hP6.fb
            obtain ⟨j0, j1, jf⟩ := two_in hbx6
            obtain ⟨hR6, hsame⟩ := HR2.out.drew.grow (l := row ++ [x]) HXV.out hm6 (by rw [ci_app]; exact ho6)
            have hk6 : w6.cell? ⟨gS, k, none⟩ = some (.slice Ax nx cx) := (World.cell?_of_block hsame).trans hck
            have hf6 : w6.frozen? ⟨gS, k, none⟩ = false := (World.frozen?_of_block hsame).trans hfi
            have hl6 : w6.cell? ⟨b5, o5 + i, none⟩ = some (.int .i64 x) := by
              have hb6 : Below w.heap.size wn.drew w6 := (hm6 w.heap.size).below (Nat.le_refl _) (fun q hq => by have := hxo q hq; omega) HP2.out.be.size
              exact (hb6.cell (p := ⟨b5, o5 + i, none⟩) hb5).trans hc6
            have hP7 := hP6.set (u := .slice A6 n6 c6) gS k (by omega)
            have hbx7 := ((grown_set w6 gS k (.slice A6 n6 c6)).block _ (Array.getElem?_eq_some_iff.1 hbx6).1 (by simp; omega)).trans hbx6
            have HR7 := Lib.hid hR6; have HP7 := Lib.hid hP7; have HBX7 := Lib.hid hbx7; have HBX6 := Lib.hid hbx6
            clear hR6 hP7 hbx7 hsame hbx6 hP6 hbx2
            refine hK.out _ _ ⟨d1, j1, hl6⟩ (fun hHeld => ?_)
            clear hK K
            try simp only [Act.put, List.setIfInBounds_toArray, List.set_cons_zero, List.set_cons_succ]
            refine wpAnyH_take (i := 20) (v := ?_) rfl (by kernel_rfl) (by kernel_rfl) (by kernel_rfl) (fun _ _ _ h => h) (Or.inl ⟨by rfl, ?_⟩) hHeld ?_
            rotate_left 1
            · (intro w' hSw; obtain ⟨s1, s2, s3⟩ := hSw; go_simp; try with_reducible rfl)
            try simp only [Act.put, List.setIfInBounds_toArray, List.set_cons_zero, List.set_cons_succ]
            refine wpAnyH_ready (rs := [21]) (by kernel_rfl) (by simp) ?_
            refine AllReadyH.cons rfl (fun K hK => ?_) AllReadyH.nil
            go_simp
            refine hK.out _ _ ⟨(World.cell?_setCell_other w6 _ _ _ (fun e => by injection e with e; omega)).trans d1, (World.cell?_setCell_other w6 _ _ _ (fun e => by injection e with e; omega)).trans j1, (World.cell?_setCell_other w6 _ _ _ (fun e => by injection e with e; omega)).trans hl6⟩ (fun hHeld => ?_)
            clear hK K hHeld
            try simp only [Act.put, List.setIfInBounds_toArray, List.set_cons_zero, List.set_cons_succ]
            refine wpAnyH_done (by kernel_rfl) ?_ _
            rw [← HGS2.out] at HR7
            clear hk6 hf6 hl6 d0 d1 d2 df j0 j1 jf hc6 HA2 HA'
            go_wp2_with fail
            exact ⟨⟨i + 1, by omega, by simp, HP7.out, HBX7.out, ht, _, HR7.out⟩, by simp [intOf]; omega⟩
      · have hiL2 : i = L := by omega
        have hend := growB_end l (m := m) (L := L) (q := q) (by omega) HQM.out
        rw [hiL2, hend] at hR
        have hall2 := hall.out
        rw [hiL2, ← HL.out, List.take_length] at hall2
        have HALL := Lib.hid hall2
        clear hall hall2 hend
        obtain ⟨c0, c1, cf⟩ := two_in hbx
        obtain ⟨r0, r1, rf⟩ := two_in hP.rb
        go_wp2
        refine bodyPost_ret (results_two rfl _ _ (w.heap.size + 1) 26 #[.int .i64 b, .slice (some ⟨gS, 0, none⟩) m m] (0, 0) _ rfl (two_set hP.rb) Try.underlying26 rfl (by kernel_rfl)) rfl ?_
        obtain ⟨q1, q2⟩ := hP.done (x := b) hR
        rw [HRG.out HALL.out]
        exact ⟨_, _, _, _, rfl, q1, q2⟩
theorem qpartBk_any (v : Value) (l : List Int) (r c b : Int) (w : World) (B : Nat) (hS : Sli w B v (ci l)) (hB : B ≤ w.heap.size) (hn : l.length ≤ 1099511627776) :
    Calls Try.prog 29 #[v, .agg #[.int .i64 r, .int .i64 c, .int .i64 b]] w (BkPost (partR l r c b) w) := by
  by_cases h : rightB r c b = true ∧ l.length ≠ 0 ∧ l.length % c.toNat = 0 ∧ l.length / c.toNat ≤ 4096
  · obtain ⟨h1, h2, h3, h4⟩ := h
    have hr := rightB_iff.1 h1
    unfold partR
    rw [if_pos h1, if_neg h2, if_pos h3, if_pos h4]
    obtain ⟨m, rfl⟩ := Int.eq_ofNat_of_zero_le (show 0 ≤ c by omega)
    rw [Int.toNat_natCast] at h3 h4 ⊢
    exact qpartBk_good v l r m _ b w B hS hB hn h1 h2 h3 rfl h4
  · refine qpartBk_bad v l r c b w B hS hB hn (fun h0 => ?_) fun h1 h2 h3 h4 => h ⟨h1, h2, h3, h4⟩
    have hm := partR_may h0
    apply h
    unfold partR at h0
    split at h0
    next h1 =>
      split at h0
      next => simp at h0
      next h2 =>
        split at h0
        next h3 =>
          split at h0
          next h4 => exact ⟨h1, h2, h3, h4⟩
          next => simp at h0
        next => simp at h0
    next => simp at h0
end Go.Proofs.Ytfbhiaoodompdaa
