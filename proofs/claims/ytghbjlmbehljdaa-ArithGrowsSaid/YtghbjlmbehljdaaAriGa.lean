/- arith: ArithGrows. -/
import Derived.Test.YtghbjlmbehljdaaAriY
namespace Go.Proofs.Ytghbjlmbehljdaa
open Go.ChangeShapes Go.WideShapes Go.ChangeAt Go.RowKit
set_option maxRecDepth 100000
set_option maxHeartbeats 8000000

theorem nil_cap {H : Type} {enc : TypeId × Value → H} {P : Program} {W : World} {base : Nat} {t e : TypeId} {v : Value} {d : DataW H} {p : List MemPlace} (ht : P.underlying t = some (.slice e))
    (hv : Value.okWide P W .any base t v) (h : DataW.Trod enc P W 0 (fun _ => true) true t v d p) : ∀ n c, v = .slice none n c → c = 0 := by
  obtain ⟨a0, len, cap, rfl⟩ := okWide_slice ht hv
  obtain ⟨fuel, hf⟩ := h
  intro n c hvc
  rcases Go.Deep.open_slice ht hf with ⟨hcs, hx⟩ | ⟨a, len', cap', m, n', D, Pl, hcs, _⟩
  · simp [Value.cells] at hcs
    obtain ⟨rfl, rfl, rfl⟩ := hcs
    injection hvc with _ _ h3
    exact h3.symm
  · simp [Value.cells] at hcs
    obtain ⟨rfl, rfl, rfl⟩ := hcs
    injection hvc with h1
    simp at h1
theorem AcO.alloc {w : World} {base : Nat} {v : Value} {es : List Ac} (h : AcO w base v es) (o : Obj) : AcO (w.alloc o) base v es := World.ownsRow.alloc h o
theorem AcO.grow {w w' : World} {base : Nat} {v : Value} {es : List Ac} (h : AcO w base v es) (hb : base ≤ w.heap.size) (hg : w.grownBy w' v.ownBlock) : Below base w w' :=
  (Below.refl base w).grown hg hb fun k hk => (h.lt k hk).1
/-- 'l = append(l, x...)'. -/
theorem wpl_appA {w : World} {base B : Nat} {v vx : Value} {es fs : List Ac} (hown : AcO w base v es) (hr : Acs w B vx fs) (hz : ∀ n c, vx = .slice none n c → c = 0) (hbase : base ≤ w.heap.size) (hroom : es.length + fs.length ≤ 1099511627776)
    {ops : Array Oper} {rest : List Oper} {o : Oper} {a : Act} {Q : Exit → Act → World → Prop} {s x : Operand} (hgd : o.guard = none)
    (ho : o.op = .call { callee := .builtin .append, args := #[s, x], argTypes := #[22, 22] })
    (hs : a.eval s = v) (hx : a.eval x = vx)
    (h : ∀ v' w', AcO w' base v' (es ++ fs) → Below base w w' → wpList Try.prog ops Q rest (a.put o.dst v') w') : wpList Try.prog ops Q (o :: rest) a w := by
  obtain ⟨i, hi, hz0, hz1, hz2⟩ := info_parts info_act
  obtain ⟨A, c, rfl, hyc, hcm, hcell⟩ := hr
  rcases A with _ | ad
  · have hy0 : fs = [] := by
      rcases hcell with h0 | ⟨b, o, he, _⟩
      · exact List.eq_nil_of_length_eq_zero h0
      · simp at he
    have hc0 := hz _ _ rfl
    subst hy0; subst hc0
    refine wpList_plain hgd fun K hK' => ?_
    have hrun := run_append_owned_none (P := Try.prog) w base 22 o.type 33 i 5 Try.underlying22 hi _ es.length (ca es) hown
    unfold Oper.wp
    simp [execOp, ho, resolve, invoke, builtin, hs, hx, hrun, Result.andThen]
    exact hK' _ _ (h _ _ (by simpa using hown) (Below.refl _ _))
  · refine wpList_append_own _ hgd s x 22 ho base 33 i _ 5 40 Try.underlying22 hi hz0 hz1 hz2 rfl (by decide) v _ (ca es) hs hown ad fs.length c (ca fs) hx (ca_len fs) ?_ ?_ ?_ ?_ hbase ?_
    · intro j u hj
      have hjl := (List.getElem?_eq_some_iff.1 hj).1
      rw [ca_len] at hjl
      rcases hcell with h0 | ⟨b, o2, he, hb, hc⟩
      · omega
      · injection he with he
        subst he
        obtain ⟨x0, hx0⟩ : ∃ x0, fs[j / 5]? = some x0 := ⟨_, List.getElem?_eq_getElem (by omega)⟩
        have hat := ca_at fs (j / 5) x0 (j % 5) hx0 (Nat.mod_lt _ (by omega))
        rw [show j / 5 * 5 + j % 5 = j by omega, hj] at hat
        obtain ⟨c0, c1, c2, c3, c4⟩ := hc _ _ hx0
        rw [Addr.add_lit, show o2 + j = o2 + j / 5 * 5 + j % 5 by omega]
        have h5 : j % 5 = 0 ∨ j % 5 = 1 ∨ j % 5 = 2 ∨ j % 5 = 3 ∨ j % 5 = 4 := by omega
        rcases h5 with h5 | h5 | h5 | h5 | h5 <;> rw [h5] at hat ⊢ <;> rw [hat]
        · exact c0
        · exact c1
        · exact c2
        · exact c3
        · exact c4
    · intro u hu
      obtain ⟨y, _, hy⟩ := List.mem_flatMap.1 hu
      simp [celA] at hy
      rcases hy with rfl | rfl | rfl | rfl | rfl <;> rfl
    · unfold maxLen; omega
    · omega
    · intro v' w' ho' hg' _
      exact h v' w' (by unfold AcO; rw [List.length_append, ca_app]; exact ho') (hown.grow hbase hg')
theorem AcO.empty (w : World) : AcO (w.alloc (.cells #[] 33)) w.heap.size (.slice (some ⟨w.heap.size, 0, none⟩) 0 0) [] := World.ownsRow_made w #[] 0 (Nat.le_refl _) (by simp [maxLen]) rfl
theorem doneA_app (n : Nat) (a b : List Ac) : doneA n (a ++ b) = doneA n a ++ doneA n b := by simp [doneA]
theorem opsL_app (a b : List Ac) : opsL (a ++ b) = opsL a ++ opsL b := by simp [opsL]

theorem arithGrows_walkA (n : Int) (v u : Value) (l r : List Ac) (w : World) (hS : Acs w w.heap.size v l) (hok : ∀ x ∈ l, AcOk x) (hT : Acs w w.heap.size u r) (hokr : ∀ x ∈ r, AcOk x)
    (hz1 : ∀ n c, v = .slice none n c → c = 0) (hz2 : ∀ n c, u = .slice none n c → c = 0) (hn1 : -9223372036854775808 ≤ n) (hn2 : n ≤ 9223372036854775807) :
    Calls Try.prog 5 #[.int .i64 n, v, u] w fun e w' => e = .returned (.bool true) ∧ Below w.heap.size w w' := by
  obtain ⟨A, q, rfl, _, _⟩ := hS.form
  obtain ⟨C, q2, rfl, _, _⟩ := hT.form
  have hk := knownA_any w
  have HK := Lib.hid hk
  by_cases hl : 60 < l.length
  · clear hS hk hok hT hokr hz1 hz2
    go_enter Try.func5, Try.ntmps5
    go_wp2_with (go_at_call 10; refine HK.out.mono ?_; rintro e w1 ⟨rfl, hb1⟩)
    go_ret
    exact ⟨rfl, hb1⟩
  by_cases hlr : 60 < r.length
  · clear hS hk hok hT hokr hz1 hz2
    go_enter Try.func5, Try.ntmps5
    go_wp2_with (go_at_call 10; refine HK.out.mono ?_; rintro e w1 ⟨rfl, hb1⟩)
    go_ret
    exact ⟨rfl, hb1⟩
  by_cases h1 : n < 1
  · clear hS hk hok hT hokr hz1 hz2
    go_enter Try.func5, Try.ntmps5
    go_wp2_with (go_at_call 10; refine HK.out.mono ?_; rintro e w1 ⟨rfl, hb1⟩)
    go_ret
    exact ⟨rfl, hb1⟩
  by_cases h2 : 4096 < n
  · clear hS hk hok hT hokr hz1 hz2
    go_enter Try.func5, Try.ntmps5
    go_wp2_with (go_at_call 10; refine HK.out.mono ?_; rintro e w1 ⟨rfl, hb1⟩)
    go_ret
    exact ⟨rfl, hb1⟩
  obtain ⟨m, rfl⟩ := Int.eq_ofNat_of_zero_le (by omega : 0 ≤ n)
  have HS := Lib.hid hS; have HT := Lib.hid hT; have HZ1 := Lib.hid hz1; have HZ2 := Lib.hid hz2
  obtain ⟨ok1, hk1⟩ := done_run m l
  obtain ⟨ok2, hk2⟩ := done_run m (l ++ r)
  rw [List.length_append] at hk2
  have e2 : run (start m) (opsL (doneA m (l ++ r))) = run (run (start m) (opsL (doneA m l))) (opsL (doneA m r)) := by rw [doneA_app, opsL_app, run_app]
  have hmon : (run (start m) (opsL (doneA m l))).k ≤ (run (start m) (opsL (doneA m (l ++ r)))).k := by
    obtain ⟨_, mm, _, h, _⟩ := runs_in (opsL (doneA m r)) ok1 (opsL_good (doneA_ok m r))
    rw [e2, h]; omega
  have hin2 : In (run (start m) (opsL (doneA m (l ++ r)))) (run (start m) (opsL (doneA m l))) := In.run _ ok1 (opsL_good (doneA_ok m r)) (by rw [← e2]; exact In.self ok2)
  have hin1 : In (run (start m) (opsL (doneA m l))) (start m) := In.run _ (start_ok m) (opsL_good (doneA_ok m l)) (In.self ok1)
  have hin20 : In (run (start m) (opsL (doneA m (l ++ r)))) (start m) := In.run _ (start_ok m) (opsL_good (doneA_ok m l)) hin2
  have hself1 := In.self ok1
  have hdl1 := doneA_len m l
  have hdl2 : (doneA m l).length ≤ (doneA m (l ++ r)).length := by rw [doneA_app, List.length_append]; omega
  have hdok := doneA_ok m l
  have hc1 := fun (W : World) (hS : Acs W W.heap.size (.slice A l.length q) l) => coded_any m (.slice A l.length q) l W (by omega) (by omega) hS hok (by omega)
  have hc2 := fun (W : World) (vx : Value) (hS : Acs W W.heap.size vx (l ++ r)) => coded_any m vx (l ++ r) W (by omega) (by omega) hS (fun x hx => by rcases List.mem_append.1 hx with h | h; exact hok x h; exact hokr x h) (by rw [List.length_append]; omega)
  generalize doneA m (l ++ r) = ds2 at *
  generalize doneA m l = ds1 at *
  obtain ⟨f1, hf1⟩ : ∃ f1, run (start m) (opsL ds1) = f1 := ⟨_, rfl⟩
  obtain ⟨f2, hf2⟩ : ∃ f2, run (start m) (opsL ds2) = f2 := ⟨_, rfl⟩
  rw [hf1] at ok1 hk1 hmon hin2 hin1 hc1 hself1
  rw [hf2] at ok2 hk2 hmon hin2 hin20 hc2
  have HOK1 := Lib.hid ok1; have HOK2 := Lib.hid ok2; have HIN2 := Lib.hid hin2; have HIN1 := Lib.hid hin1; have HIN20 := Lib.hid hin20
  have HSELF := Lib.hid hself1; have HF1 := Lib.hid hf1
  have HNUM := Lib.hid (fun _ : True => (show f1.k ≤ 4000 ∧ f2.k ≤ 8000 ∧ f1.k ≤ f2.k ∧ 4 ≤ f1.k ∧ 1 ≤ m ∧ m ≤ 4096 ∧ ds1.length ≤ 60 ∧ ds1.length ≤ ds2.length ∧ l.length ≤ 60 ∧ r.length ≤ 60 from ⟨by omega, by omega, hmon, ok1.k4, by omega, by omega, by omega, hdl2, by omega, by omega⟩))
  have HDOK := Lib.hid hdok
  have HC1 := Lib.hid hc1; have HC2 := Lib.hid hc2
  clear hS hT hz1 hz2 hk hok hokr ok1 ok2 hk1 hk2 e2 hmon hin2 hin1 hin20 hself1 hdl1 hdl2 hdok hc1 hc2 hf1 hf2 hn1 hn2
  go_enter Try.func5, Try.ntmps5
  go_wp2_with fail
  refine HK.out.mono ?_
  rintro e w1 ⟨rfl, hb1⟩
  have HB1 := Lib.hid hb1
  have HCA := Lib.hid (HC1.out w1 ((HS.out.below hb1).more hb1.size))
  clear hb1
  go_wp2_with fail
  refine HCA.out.mono ?_
  rintro e w2 ⟨g, F, vd, rfl, hC, hA, hF, hb2⟩
  have HB2 := Lib.hid (HB1.out.trans (hb2.mono HB1.out.size))
  obtain ⟨Ad, cd, rfl, _, _⟩ := hA.form
  have HA := Lib.hid hA; have HC := Lib.hid hC
  clear hC hA hF hb2
  have hE : AcO (w2.alloc (.cells #[] 33)) w2.heap.size (.slice (some ⟨w2.heap.size, 0, none⟩) 0 0) [] := AcO.empty w2
  have hbE : Below w2.heap.size w2 (w2.alloc (.cells #[] 33)) := (Below.refl _ _).alloc (Nat.le_refl _) _
  have HE := Lib.hid hE; have HBE := Lib.hid hbE
  have hSE := (HS.out.below HB2.out).below (hbE.mono HB2.out.size)
  have HSE := Lib.hid hSE
  clear hE hbE hSE
  go_wp2_with (first
    | (refine wpl_appA HE.out HSE.out HZ1.out HBE.out.size (by have := HNUM.out trivial; simp; omega) rfl rfl rfl rfl ?_; intro v3 w3 ho3 hb3; rw [List.nil_append] at ho3; have hbE3 := HBE.out.trans hb3; have HO3 := Lib.hid ho3; have HBE3 := Lib.hid hbE3; have HT3 := Lib.hid ((HT.out.below HB2.out).below (hbE3.mono HB2.out.size)); obtain ⟨A3, c3, rfl, _, _⟩ := ho3.form; clear ho3 hb3 hbE3)
    | (refine wpl_appA HO3.out HT3.out HZ2.out HBE3.out.size (by have := HNUM.out trivial; omega) rfl rfl rfl rfl ?_; intro v4 w4 ho4 hb4; have hbE4 := HBE3.out.trans hb4; have HO4 := Lib.hid ho4; have HBE4 := Lib.hid hbE4; obtain ⟨A4, c4, rfl, _, _⟩ := ho4.form; clear ho4 hb4 hbE4))
  have HCB := Lib.hid (HC2.out w4 (.slice A4 (l ++ r).length c4) HO4.out.acs)
  rw [List.length_append] at HCB
  refine HCB.out.mono ?_
  rintro e w5 ⟨g5, F5, vd5, rfl, hC5, hA5, hF5, hb5⟩
  have HBE5 := Lib.hid (HBE4.out.trans (hb5.mono HBE4.out.size))
  have HB5 := Lib.hid (HB2.out.trans (HBE5.out.mono HB2.out.size))
  have HCc := Lib.hid (HC.out.below HBE5.out)
  have HAc := Lib.hid (HA.out.below HBE5.out)
  have HC5 := Lib.hid hC5
  obtain ⟨A5, c5, rfl, _, _⟩ := hA5.form
  have hlen : ¬ (ds2.length : Int) < (ds1.length : Nat) := by have := HNUM.out trivial; omega
  clear hC5 hA5 hF5 hb5
  have HY1 := Lib.hid (cbytes_any HCc.out (by have := HNUM.out trivial; omega))
  go_wp2_with fail
  refine HY1.out.mono ?_
  rintro e w6 ⟨v6, rfl, ho6, hb6⟩
  have HB6 := Lib.hid (HB5.out.trans (hb6.mono HB5.out.size))
  have HY2 := Lib.hid (cbytes_any (HC5.out.below hb6) (by have := HNUM.out trivial; omega))
  have HAc6 := Lib.hid (HAc.out.below hb6)
  have HO6 := Lib.hid ho6
  obtain ⟨A6, c6, rfl, _, _⟩ := ho6.form8
  rw [digs_len] at *
  clear ho6 hb6
  go_wp2_with fail
  refine HY2.out.mono ?_
  rintro e w7 ⟨v7, rfl, ho7, hb7⟩
  have HB7 := Lib.hid (HB6.out.trans (hb7.mono HB6.out.size))
  have HAc7 := Lib.hid (HAc6.out.below hb7)
  have HO67 := Lib.hid (HO6.out.kept hb7)
  have HO7 := Lib.hid ho7
  have hareB : areB (m : Int) = true := by simp [areB]; have := HNUM.out trivial; omega
  have hd := newd_good (w := w7) m ho7.sli hareB (by rw [digs_len]; exact HOK2.out.k4) (by rw [digs_len]; have := HNUM.out trivial; omega) digs_lt (fst_lt HOK2.out HIN20.out)
  rw [fst_sy HOK2.out.low HOK2.out.k4] at hd
  have HD := Lib.hid hd
  obtain ⟨A7, c7, rfl, _, _⟩ := ho7.form8
  rw [digs_len] at *
  have HAB := Lib.hid hareB
  clear ho7 hb7 hd hareB
  go_wp2_with fail
  refine HD.out.mono ?_
  rintro e w8 ⟨g8, F8, rfl, hD8, hF8, hb8⟩
  have HB8 := Lib.hid (HB7.out.trans (hb8.mono HB7.out.size))
  have HAc8 := Lib.hid (HAc7.out.below hb8)
  have ho68 := HO67.out.kept hb8
  have hd2 := newd_good (w := w8) m ho68.sli HAB.out (by rw [digs_len]; exact HOK1.out.k4) (by rw [digs_len]; have := HNUM.out trivial; omega) digs_lt (fst_lt HOK1.out HIN1.out)
  rw [fst_sy HOK1.out.low HOK1.out.k4] at hd2
  have HD2 := Lib.hid hd2
  have HD8 := Lib.hid hD8
  have HF8 := Lib.hid hF8
  have HB78 := Lib.hid hb8
  clear hd2 ho68 hD8 hF8 hb8
  go_wp2_with fail
  refine HD2.out.mono ?_
  rintro e w9 ⟨g9, F9, rfl, hD9, hF9, hb9⟩
  have HB9 := Lib.hid (HB8.out.trans (hb9.mono HB8.out.size))
  have hb79 : Below w7.heap.size w7 w9 := HB78.out.trans (hb9.mono HB78.out.size)
  have hac9 : Acs w9 w7.heap.size (.slice Ad ds1.length cd) ds1 := HAc7.out.acs.below hb79
  have hask := asked_any (HD8.out.below hb9) (start_ok m) (HNUM.out trivial).2.2.2.2.2.1 hac9 HF8.out hb79.size HDOK.out (by rw [HF1.out]; exact HIN2.out) (by have := HNUM.out trivial; omega)
  have HASK := Lib.hid hask
  have HAC9 := Lib.hid hac9
  have HDJ := Lib.hid (show ∀ k, F9 k → ¬ F8 k from fun k h9 h8 => by have := hF9 k h9; have := HD8.out.lt k h8; omega)
  have HF97 := Lib.hid (show ∀ k, F9 k → w7.heap.size ≤ k from fun k h9 => Nat.le_trans HB78.out.size (hF9 k h9))
  have HD9 := Lib.hid hD9
  have HB79 := Lib.hid hb79
  have hk4 : (4 : Int) ≤ (f1.k : Nat) := by have := HNUM.out trivial; omega
  have hkk : (f1.k : Int) ≤ (f2.k : Nat) := by have := HNUM.out trivial; omega
  clear hask hac9 hb79 hF9 hD9 hb9
  go_wp2_with fail
  refine HASK.out.mono ?_
  rintro e w10 ⟨rfl, hD10, hc10⟩
  have hb10 : Below w7.heap.size w9 w10 := hc10.below HF8.out HB79.out.size
  have HB10 := Lib.hid (HB9.out.trans (hb10.mono HB7.out.size))
  have hask2 := asked_any (HD9.out.kept hc10 HDJ.out) (start_ok m) (HNUM.out trivial).2.2.2.2.2.1 (HAC9.out.below hb10) HF97.out (Nat.le_trans HB79.out.size hb10.size) HDOK.out (by rw [HF1.out]; exact HSELF.out) (by have := HNUM.out trivial; omega)
  rw [HF1.out] at hask2
  have HASK2 := Lib.hid hask2
  have HS10 := Lib.hid (Nat.le_trans HB79.out.size hb10.size)
  clear hask2 hD10 hc10 hb10
  go_wp2_with fail
  refine HASK2.out.mono ?_
  rintro e w11 ⟨rfl, hD11, hc11⟩
  have HB11 := Lib.hid (HB10.out.trans ((hc11.below HF97.out HS10.out).mono HB7.out.size))
  have hL := dleft_any hD11
  rw [show (Sy f1 f1).rest.length = 0 by show ((digs f1.k f1.lo).drop f1.k).length = 0; rw [List.length_drop, digs_len]; omega] at hL
  have HL := Lib.hid hL
  clear hL hD11 hc11
  go_wp2_with fail
  refine HL.out.mono ?_
  rintro e w12 ⟨rfl, rfl⟩
  go_wp2
  go_ret
  exact ⟨rfl, HB11.out⟩
theorem arithGrows_walk (n : Int) (v : Value) (rows : List (List Int)) (u : Value) (rows2 : List (List Int)) (w : World) (hS : Recs w w.heap.size v [.i64, .i64, .i64, .i64, .u64] rows) (hT : Recs w w.heap.size u [.i64, .i64, .i64, .i64, .u64] rows2)
    (hz1 : ∀ n c, v = .slice none n c → c = 0) (hz2 : ∀ n c, u = .slice none n c → c = 0) (hn1 : -9223372036854775808 ≤ n) (hn2 : n ≤ 9223372036854775807) :
    Calls Try.prog 5 #[.int .i64 n, v, u] w fun e w' => e = .returned (.bool true) ∧ Below w.heap.size w w' := by
  obtain ⟨l, h1, h2⟩ := acs_of_recs hS
  obtain ⟨r, h3, h4⟩ := acs_of_recs hT
  exact arithGrows_walkA n v u l r w h1 h2 h3 h4 hz1 hz2 hn1 hn2
end Go.Proofs.Ytghbjlmbehljdaa
