/- parts: the best plan, the reference's. -/
import Derived.Test.YtohbpjehphmedaaParN
import Derived.Test.YtohbpjehphmedaaParE
import Derived.StillTailTactics
import Derived.Deep.RegionLaw
namespace Go.Proofs.Ytohbpjehphmedaa
open Go.RowKit
set_option maxRecDepth 100000
set_option maxHeartbeats 3200000

/-- The reference's cost of the best of the orders below q. -/
def costQ (n warm : Int) (l : List Int) : Nat → Nat
  | 0 => 0
  | q + 1 => bestC n warm l (bestO n warm l q)
theorem bestC_4 (n warm : Int) (l : List Int) (q : Nat) : 4 ≤ bestC n warm l q := by unfold bestC; omega
theorem costQ_iff (n warm : Int) (l : List Int) (q C : Nat) (hC : C ≤ 70000000) : (costQ n warm l q = 0 ∨ C < costQ n warm l q) ↔ (C : Int) < (soFar n warm l q).2.2 := by
  rcases q with _ | q
  · have h1 : costQ n warm l 0 = 0 := rfl
    have h2 : (soFar n warm l 0).2.2 = 9223372036854775807 := rfl
    rw [h1, h2]
    omega
  · have h1 : costQ n warm l (q + 1) = bestC n warm l (bestO n warm l q) := rfl
    have h2 : (soFar n warm l (q + 1)).2.2 = ((bestC n warm l (bestO n warm l q) : Nat) : Int) := rfl
    have := bestC_4 n warm l (bestO n warm l q)
    rw [h1, h2]
    omega
theorem costQ_same {n warm : Int} {l : List Int} {q : Nat} (hq : q ≠ 0) (h : soFar n warm l (q + 1) = soFar n warm l q) : costQ n warm l (q + 1) = costQ n warm l q := by
  rcases q with _ | q
  · exact absurd rfl hq
  · have h2 : (((bestC n warm l (bestO n warm l (q + 1)) : Nat) : Int)) = ((bestC n warm l (bestO n warm l q) : Nat) : Int) := congrArg (fun x => x.2.2) h
    show bestC n warm l (bestO n warm l (q + 1)) = bestC n warm l (bestO n warm l q)
    omega
theorem costQ_take {n warm : Int} {l : List Int} {q C : Nat} (h : (soFar n warm l (q + 1)).2.2 = (C : Int)) : costQ n warm l (q + 1) = C := by
  have h2 : (((bestC n warm l (bestO n warm l q) : Nat) : Int)) = (C : Int) := h
  show bestC n warm l (bestO n warm l q) = C
  omega
theorem Besting.restI {w0 w w' : World} {R Q P base : Nat} {ob o : Int} {bv pv pv' u : Value} {bks pks : List Int} {xs : List Value} (h : Besting w0 w R Q P ob o bv pv bks pks) (hm : ∀ g, Mov w w' g pv pv') (hu : Own w base 3 u xs) (ha : Apart pv u) : Own (w'.setCell ⟨P, 1, none⟩ pv') base 3 u xs ∧ Apart pv' u :=
  ⟨(hu.moved (hm P) h.box (by decide) ha).far (h.boxP hm) (by decide) (grown_set w' P 1 pv'), (hm P).apart ha fun k hk => (hu.lt k hk).2⟩
/-- 'append(b, u)', one operation of a region that draws its order: what has changed is b's block, or b's block is new. -/
theorem step_push {P : Program} {w : World} {base : Nat} {e t : TypeId} {z v : Value} {bytes : Nat} {xs : List Value} (hown : Own w base e v xs) (hbase : base ≤ w.heap.size) (hroom : xs.length + 1 ≤ 8796093022208)
    (ht : P.underlying t = some (.slice e)) (hinf : (P.info? e).map (fun i => (i.zero, i.size, i.bytes)) = some (some z, 1, bytes)) (hzs : z.cells.size = 1) (hb16 : bytes ≤ 16)
    {ops : Array Oper} {o : Oper} {a : Act} {K : Act → World → Prop} {Q : Exit → Act → World → Prop} {E : Prop} {s x : Operand} {u : Value} (hgd : o.guard = none)
    (ho : o.op = .call { callee := .builtin .append, args := #[s, x], argTypes := #[t, t] })
    (hs : a.eval s = v) {k : Nat} (hx : a.eval x = .slice (some ⟨k, 0, none⟩) 1 1) (hu : u.oneCell' = true) (hk : k = w.heap.size := by simp)
    (h : ∀ v' w', Own w' base e v' (xs ++ [u]) → (∀ g, Mov w w' g v v') → K (a.put o.dst v') w') : if Region.wanted o (yielded ops a.tmps) = true then Oper.wp P o a (w.alloc (.cells #[u] e)) K Q else E := by
  subst hk
  rw [if_pos (by simp [Region.wanted, hgd])]
  obtain ⟨i, hi, hz0, hz1, hz2⟩ := info_parts hinf
  have hown' := World.ownsRow.alloc hown (.cells #[u] e)
  have hbytes : (xs.length + 1) * bytes ≤ 140737488355328 := by
    have : (xs.length + 1) * bytes ≤ 8796093022208 * 16 := Nat.mul_le_mul hroom hb16
    omega
  obtain ⟨v', w', hr, h2, h3, _, h5⟩ := run_append_own_at (P := P) (w.alloc (.cells #[u] e)) base t o.type e i z 1 bytes ht hi hz0 hz1 hz2 hzs (by decide) v _ xs hown' ⟨w.heap.size, 0, none⟩ 1 1 [u] rfl (cell_one_new w u e) (by intro u' hu'; simp at hu'; subst hu'; exact hu) (by unfold maxLen; omega) hbytes (by simp; omega)
  unfold Oper.wp execOp
  simp only [ho, resolve, invoke, builtin, Sem.run_bind, Sem.run_pure, Result.andThen_ok, List.map_toArray, List.map_cons, List.map_nil, hs, hx, hr]
  have h1 : Below w.heap.size w (w.alloc (.cells #[u] e)) := (Below.refl _ _).alloc (Nat.le_refl _) _
  refine h v' w' (by unfold Own; simpa using h2) fun g => ?_
  refine (Mov.of_below h1).grown h3 fun k hk => ?_
  rcases h5 with e | e
  · exact .inl (e ▸ hk)
  · rw [e] at hk; injection hk with hk; exact .inr (by omega)
theorem qbest_any2 (n warm most : Int) (va : Value) (l : List Int) (w : World) (B : Nat) (hS : Sli w B va (ci l)) (hB : B ≤ w.heap.size) (hl : l.length ≤ 1099511627776) :
    Calls Try.prog 37 #[.int .i64 n, .int .i64 warm, .int .i64 most, va] w (BestPost (bestR n warm most l) w) := by
  have hi := fun w => qrow_any n warm w
  have hb0 := below_box w (.int .i64 0) (.slice none 0 0) 24
  have hbx0 := box_new w (.int .i64 0) (.slice none 0 0) 24
  obtain ⟨q0, q1, hq⟩ := blk2 hbx0
  obtain ⟨wA, hwA⟩ : ∃ wA, w.alloc (.cells #[.int .i64 0, .slice none 0 0] 24) = wA := ⟨_, rfl⟩
  have HWA := Lib.hid hwA
  rw [hwA] at hb0 hbx0 q0 q1 hq
  clear hwA
  have hltA := (Array.getElem?_eq_some_iff.1 hbx0).1
  obtain ⟨A2, c2, rfl, hlc2, hcm2⟩ := hS.formI
  obtain ⟨nl, hnl⟩ : ∃ m, l.length = m := ⟨_, rfl⟩
  have hrn := rowOk_not (n := n) (warm := warm) hnl
  by_cases hrow : rowB n warm = true
  · obtain ⟨r1, r2, r3, r4⟩ := rowB_iff.1 hrow
    have har := allWide_any _ l wA B (hS.below (hb0.mono hB)) hl
    rw [hrow] at hi
    by_cases hnw : (nl : Int) = n - warm
    · have hne : ((nl : Int) != n - warm) = false := by simpa using hnw
      rw [decide_eq_true hnw, Bool.true_and] at hrn
      rw [← hrn] at har
      by_cases hr : rowOkB n warm l = true
      · have hres : bestR n warm most l = ((soFar n warm l (mostN most + 1)).1, (soFar n warm l (mostN most + 1)).2.1, 0) := by unfold bestR; rw [if_pos ⟨hrow, hr⟩]; rfl
        rw [hres]
        rw [hr] at har
        have hmax : max most 0 = ((max most 0).toNat : Nat) := by omega
        have hmin : min (((max most 0).toNat : Nat) : Int) 8 = (mostN most : Nat) := by unfold mostN; omega
        have hM8 : mostN most ≤ 8 := by unfold mostN; omega
        generalize (max most 0).toNat = X at *
        generalize mostN most = M at *
        have hl4096 : nl ≤ 4096 := by omega
        have hno := fun q => @soFar_no n warm l q hrow
        have hp0 : ∀ q : Nat, ¬ planB (q : Int) n warm = true → q ≠ 0 := fun q h e => by subst e; exact h (plan0 hrow)
        have hyes := fun (q : Nat) (hp : planB (q : Int) n warm = true) => @soFar_yes n warm l q hp (by rw [← bestC_cost hp hr]; exact costP_le _ _ _ _ _)
        have hcq := fun (q C : Nat) (hC : C ≤ 70000000) => costQ_iff n warm l q C hC
        have hcs := fun (q : Nat) => @costQ_same n warm l q
        have hct := fun (q C : Nat) => @costQ_take n warm l q C
        have hcb := fun (q : Nat) (hp : planB (q : Int) n warm = true) => bestC_cost hp hr
        have hcz := fun (q : Nat) (hp : ¬ planB (q : Int) n warm = true) => (costP_no (o := (q : Int)) (ks := bestKs (q : Nat) n warm l) (n := n) (warm := warm) (l := l) fun h => hp (mayB_iff.1 h.1).1)
        have hcle := fun (q : Nat) => costP_le (q : Int) (bestKs (q : Nat) n warm l) n warm l
        have hc4 := fun q => bestC_4 n warm l q
        have hsz := fun (q : Nat) (hq : q ≤ 8) w => qsizes_any (q : Int) n warm w (by omega) (by omega)
        have hsn : ∀ q : Nat, (sizesN (q : Int) n warm).length ≤ 256 ∧ (sizesN (q : Int) n warm).sum ≤ nl := fun q => by
          by_cases hp : planB (q : Int) n warm = true
          · have h1 := sizesN_len hp; have h2 := two_256 hp; have h3 := sizesN_sum hp; omega
          · have h1 := sizesN_nil.2 (Bool.eq_false_iff.2 hp); rw [h1]; simp
        have hco := fun (q : Nat) (hq : q ≤ 8) (w1 : World) (vk : Value) (B1 : Nat) (hK : Sli w1 B1 vk (ci (bestKs (q : Nat) n warm l))) (hB1 : B1 ≤ w1.heap.size) (h1 : Sli w1 B (.slice A2 l.length c2) (ci l)) (hBw : B ≤ w1.heap.size) (hn : (bestKs (q : Nat) n warm l).length ≤ 1099511627776) =>
          qcost_any2 (q : Int) vk _ (bestKs (q : Nat) n warm l) l n warm w1 B1 B hK hB1 h1 hBw hn hl (by omega) (by omega)
        have hSF0 : soFar n warm l 0 = (0, [], 9223372036854775807) := rfl
        have hCQ0 : costQ n warm l 0 = 0 := rfl
        obtain ⟨SF, hSF⟩ : ∃ SF, soFar n warm l = SF := ⟨_, rfl⟩
        obtain ⟨CQ, hCQ⟩ : ∃ CQ, costQ n warm l = CQ := ⟨_, rfl⟩
        rw [hSF] at hno hyes hSF0 hcq hcs hct ⊢
        rw [hCQ] at hCQ0 hcq hcs hct
        rw [hnl] at hS hlc2 hl har hco ⊢
        have HSF0 := Lib.hid hSF0; have HCQ0 := Lib.hid hCQ0
        have HI := Lib.hid hi; have HAR := Lib.hid har; have HNO := Lib.hid hno; have HYES := Lib.hid hyes; have HSZ := Lib.hid hsz; have HS := Lib.hid hS
        have HCQ := Lib.hid hcq; have HCS := Lib.hid hcs; have HCT := Lib.hid hct; have HCB := Lib.hid hcb; have HCZ := Lib.hid hcz; have HCLE := Lib.hid hcle; have HC4 := Lib.hid hc4; have HSN := Lib.hid hsn; have HCO := Lib.hid hco; have HP0 := Lib.hid hp0; have HNL := Lib.hid hnl
        clear hi har hno hyes hsz hS hres hr hrow hcq hcs hct hcb hcz hcle hc4 hsn hco hSF0 hCQ0 hSF hCQ hrn hnw hp0 hnl
        go_enter Try.func37, Try.ntmps37
        go_wp2_with fail
        rw [HWA.out]
        refine (HI.out _).mono ?_
        rintro e w1 ⟨rfl, rfl⟩
        go_wp2_with fail
        refine HAR.out.mono ?_
        rintro e w1 ⟨rfl, rfl⟩
        go_wp2
        have hQ0 : w.heap.size ≤ wA.heap.size := hb0.size
        have hbB := hb0.trans ((below_box wA (.int .i64 0) (.slice none 0 0) 24).mono hb0.size)
        have hQB := box_new wA (.int .i64 0) (.slice none 0 0) 24
        have hRB := ((below_box wA (.int .i64 0) (.slice none 0 0) 24).block w.heap.size hltA).trans hbx0
        clear q0 q1 hq HAR HI
        obtain ⟨Q, hQ⟩ : ∃ Q, wA.heap.size = Q := ⟨_, rfl⟩
        obtain ⟨wB, hwB⟩ : ∃ wB, wA.alloc (.cells #[.int .i64 0, .slice none 0 0] 24) = wB := ⟨_, rfl⟩
        rw [hwB] at hbB hQB hRB ⊢
        rw [hQ] at hQB hQ0 hltA ⊢
        clear hwB hQ
        go_loopw [11, 12] (fun le ii wr => ∃ (q : Nat) (bv : Value), q ≤ M + 1 ∧ ii = .int .i64 q ∧ le = .int .i64 (CQ q : Nat) ∧ Own wr w.heap.size 3 bv (ci (SF q).2.1) ∧ wr.heap[Q]? = some (.cells #[.int .i64 (SF q).1, bv] 24 (0, 0)) ∧ wr.heap[w.heap.size]? = some (.cells #[.int .i64 0, .slice none 0 0] 24 (0, 0)) ∧ Below w.heap.size w wr) (fun _ ii _ => M + 1 - (intOf ii).toNat)
        case atStart => exact ⟨0, .slice none 0 0, by omega, rfl, by rw [HCQ0.out]; rfl, by rw [HSF0.out]; exact Own.nil _ _ _, by rw [HSF0.out]; exact hQB, hRB, hbB⟩
        case round =>
          clear hbB hQB hRB
          obtain ⟨q, bv, hq, rfl, rfl, hbo, hbQ, hbR, hbw⟩ := hrel
          obtain ⟨bA, bn, bc, rfl⟩ := hbo.shape
          have hsw := hbw.size
          by_cases hqM : q ≤ M
          · go_wp2_with fail
            refine (HSZ.out q (by omega) _).mono ?_
            rintro e w2 ⟨v2, rfl, hso, hb2⟩
            have hsnq := HSN.out q
            have hci := HCO.out q (by omega)
            have hcle := HCLE.out q
            have hbk : bestKs (q : Nat) n warm l = (cuts (sizesN (q : Int) n warm) l).map bestK := rfl
            have hplan := fun (hp : planB (q : Int) n warm = true) => And.intro (HYES.out q hp) (HCB.out q hp)
            have hnop := fun (hp : ¬ planB (q : Int) n warm = true) => And.intro (HNO.out q hp) (And.intro (HCZ.out q hp) (HP0.out q hp))
            have hc4 := HC4.out q
            have hcg := fun i (h : i < (cuts (sizesN (q : Int) n warm) l).length) (h2 : i < (sizesN (q : Int) n warm).length) => cuts_get h h2
            have hcl : (cuts (sizesN (q : Int) n warm) l).length = (sizesN (q : Int) n warm).length := cuts_len _ _
            have hpart : ∀ p ∈ cuts (sizesN (q : Int) n warm) l, p.length ≤ 4096 := fun p hp => by have := cuts_part_le hp; have := HNL.out; omega
            rw [show sizesI (q : Int) n warm = ints (sizesN (q : Int) n warm) from rfl] at hso
            rw [hbk] at hci hcle hplan hnop
            generalize cuts (sizesN (q : Int) n warm) l = ps at *
            generalize sizesN (q : Int) n warm = ss at *
            obtain ⟨A3, c3, rfl, _, _⟩ := hso.formI
            rw [ints_len] at hso ⊢
            obtain ⟨m, hm⟩ : ∃ m, ss.length = m := ⟨_, rfl⟩
            rw [hm] at hso hcl hsnq ⊢
            have hb02 := bthen hbw hb2 hsw
            have hbo2 := hbo.kept hb2
            have hbQ2 := (hb2.block Q (Array.getElem?_eq_some_iff.1 hbQ).1).trans hbQ
            have hbR2 := (hb2.block w.heap.size (Array.getElem?_eq_some_iff.1 hbR).1).trans hbR
            have hsz2 : w.heap.size ≤ w2.heap.size := hb02.size
            have hbx3 := below_box w2 (.int .i64 (q : Int)) (.slice none 0 0) 24
            have hP3 := box_new w2 (.int .i64 (q : Int)) (.slice none 0 0) 24
            have hltQ2 := (Array.getElem?_eq_some_iff.1 hbQ2).1
            have hltR2 := (Array.getElem?_eq_some_iff.1 hbR2).1
            have hBest : Besting w (w2.alloc (.cells #[.int .i64 (q : Int), .slice none 0 0] 24)) w.heap.size Q w2.heap.size (SF q).1 (q : Int) (.slice bA bn bc) (.slice none 0 0) (SF q).2.1 ([] : List Int) :=
              ⟨hbo2.kept hbx3, Own.nil _ _ _, apart_nil _, (hbx3.block Q hltQ2).trans hbQ2, hP3, (hbx3.block w.heap.size hltR2).trans hbR2, bthen hb02 hbx3 hsz2, by omega, by omega, by omega, hsz2, hQ0, Nat.le_refl _⟩
            have hso3 : Own (w2.alloc (.cells #[.int .i64 (q : Int), .slice none 0 0] 24)) w.heap.size 3 (.slice A3 m c3) (ci (ints ss)) := (hso.mono hsw).kept hbx3
            have HCO2 := Lib.hid hci; have HPLAN := Lib.hid hplan; have HNOP := Lib.hid hnop; have HCG := Lib.hid hcg; have HCL := Lib.hid hcl; have HPART := Lib.hid hpart; have HMM := Lib.hid hm
            clear hci hplan hnop hcg hcl hpart hm hbk hso hbx3 hP3 hbQ2 hbR2 hbo2 hb02 hb2 hbQ hbR hbo hbw
            go_wp2
            go_loopw [14, 16] (fun aa jj wi => ∃ (j : Nat) (pv : Value), j ≤ m ∧ jj = .int .i64 j ∧ aa = .int .i64 ((ss.take j).sum : Nat) ∧ Besting w wi w.heap.size Q w2.heap.size (SF q).1 (q : Int) (.slice bA bn bc) pv (SF q).2.1 ((ps.map bestK).take j) ∧ Own wi w.heap.size 3 (.slice A3 m c3) (ci (ints ss)) ∧ Apart pv (.slice A3 m c3)) (fun _ jj _ => m - (intOf jj).toNat)
            case atStart => exact ⟨0, _, by omega, rfl, by simp, by simpa using hBest, hso3, apart_nil _⟩
            case round =>
              clear hBest hso3
              obtain ⟨j, pv, hj, rfl, rfl, hBe, hov, hap⟩ := hrel
              obtain ⟨pA, pn, pc, rfl⟩ := hBe.pown.shape
              by_cases hjm : j < m
              · have hjs : j < ss.length := by rw [HMM.out]; exact hjm
                have hjp : j < ps.length := by rw [HCL.out]; exact hjm
                have hjk : j < (ps.map bestK).length := by rw [List.length_map]; exact hjp
                obtain ⟨b1, o1, rfl, hbB1, hcell1⟩ := hov.sli.atI (l := ints ss) (by rw [ints_len]; exact hjs)
                rw [ints_at hjs] at hcell1
                have hgm : (ps.map bestK)[j] = bestK ps[j] := List.getElem_map ..
                have htk : (ps.map bestK).take (j + 1) = (ps.map bestK).take j ++ [bestK ps[j]] := by rw [List.take_succ_eq_append_getElem hjk, hgm]
                have hlek : ((ps.map bestK).take j).length ≤ 256 := by rw [List.length_take]; omega
                have hst := sum_take ss j hjs
                have hsle := sum_take_le ss (j + 1)
                rw [hst] at hsle
                have has : (ss.take j).sum + ss[j] ≤ nl := by omega
                have hSw := HS.out.below (hBe.be.mono hB)
                have hcgj := HCG.out j hjp hjs
                have hpl := HPART.out _ (List.getElem_mem hjp)
                have hm2 := hSw.mid2 (ss.take j).sum ss[j] (by omega)
                have htip := fun hc => Sli.tip (w := wr) (B := B) (A := A2) (xs := ci l) (c := c2) (by rw [ci_len]; have := HNL.out; omega) (ss.take j).sum ss[j] (by rw [ci_len]; have := HNL.out; omega) hc
                rw [ci_drop, ← hcgj] at hm2 htip
                have hbk := fun (u : Value) (h : Sli wr B u (ci ps[j])) => qbestK_any u ps[j] wr.drew B (h.keep fun _ _ => rfl) (by omega)
                have htI : IntKind.i64.wrap (((ss.take j).sum : Int) + (ss[j] : Int)) = ((ss.take j).sum : Int) + (ss[j] : Int) := IntWalk.i64_in _ (by omega)
                obtain ⟨d0, d1, hf⟩ := blk2 hBe.box
                have hcl : (ci ((ps.map bestK).take j)).length + 1 ≤ 8796093022208 := by rw [ci_len]; omega
                generalize ps[j] = p at *
                generalize bestK p = k at *
                generalize ss[j] = t at *
                generalize (ss.take j).sum = a at *
                have hjI : (j : Int) < (m : Int) := by omega
                have HTK := Lib.hid htk; have HST := Lib.hid hst; have HBK := Lib.hid hbk
                clear htk hst hsle hcgj hbk hgm hjk hjp hjs hSw
                by_cases hc : c2 = a
                · have hP := Lib.hid (HBK.out _ (htip hc))
                  have HE : (c2 = a) = True := eq_true hc
                  have HZ : c2 - a = 0 := by omega
                  have HC := Lib.hid hc
                  clear hc hm2 htip HBK
                  go_wp2
                  have hv1 : (Value.slice pA pn pc).ownBlock ≠ some w2.heap.size := hBe.pown.ne hBe.box (by decide)
                  have hv2 : (Value.slice pA pn pc).ownBlock ≠ some b1 := fun e => hap b1 e (by simp [Value.ownBlock])
                  have hb1P : b1 ≠ w2.heap.size := fun e => (hov.ne hBe.box (by decide)) (by rw [← e]; rfl)
                  have hltb1 : b1 < wr.heap.size := hbB1
                  have hltP : w2.heap.size < wr.heap.size := (Array.getElem?_eq_some_iff.1 hBe.box).1
                  have d1d : wr.drew.cell? ⟨w2.heap.size, 1, none⟩ = some (.slice pA pn pc) := d1
                  have d1a : (wr.drew.alloc (.cells #[.int .i64 k] 3)).cell? ⟨w2.heap.size, 1, none⟩ = some (.slice pA pn pc) := ((Below.refl wr.heap.size wr.drew).alloc (Nat.le_refl _) (.cells #[.int .i64 k] 3)).cell (p := ⟨w2.heap.size, 1, none⟩) hltP |>.trans d1
                  have hq0 : (0 : Int) ≤ (a : Int) + (t : Int) := by omega
                  have hq1 : (a : Int) + (t : Int) ≤ (c2 : Int) := by omega
                  have hq2 : ((a : Int) + (t : Int)).toNat = a + t := by omega
                  have hq3 : a + t - a = t := by omega
                  go_region_law (first
                      | (go_simp; go_at_call 63; refine (hP.out).mono ?_; rintro e w4 ⟨rfl, rfl⟩; go_wp2_with fail)
                      | (refine step_push (w := wr.drew) (u := .int .i64 k) (show Own wr.drew w.heap.size 3 (.slice pA pn pc) (ci ((ps.map bestK).take j)) from hBe.pown) hBe.be.size hcl Try.underlying22 info_int rfl (by decide) rfl rfl rfl rfl rfl (h := ?_); intro v6 w6 ho6 hm6; have x2 := (hm6 (b1 + 1)).cell (p := ⟨b1, o1 + j, none⟩) hcell1 (by simp) hv2; obtain ⟨A7, n7, c7, rfl⟩ := ho6.shape; have hm6' := fun g => ((Mov.refl wr g (.slice pA pn pc)).drew).trans (hm6 g); have x3 := (World.cell?_setCell_other w6 ⟨w2.heap.size, 1, none⟩ ⟨b1, o1 + j, none⟩ (.slice A7 n7 c7) (fun e => by injection e with e; omega)).trans x2; obtain ⟨y0, y1, hyf⟩ := blk2 (hBe.boxP hm6')))
                  all_goals
                    have hBe7 := hBe.push ho6 hm6'
                    obtain ⟨hov7, hap7⟩ := hBe.restI hm6' hov hap
                    rw [← HTK.out] at hBe7
                    go_wp2
                    exact ⟨⟨j + 1, _, by omega, by simp, by rw [HST.out]; simp, hBe7, hov7, hap7⟩, by simp [intOf]; omega⟩
                · have hP := Lib.hid (HBK.out _ hm2)
                  clear hm2 htip HBK
                  go_wp2
                  have hv1 : (Value.slice pA pn pc).ownBlock ≠ some w2.heap.size := hBe.pown.ne hBe.box (by decide)
                  have hv2 : (Value.slice pA pn pc).ownBlock ≠ some b1 := fun e => hap b1 e (by simp [Value.ownBlock])
                  have hb1P : b1 ≠ w2.heap.size := fun e => (hov.ne hBe.box (by decide)) (by rw [← e]; rfl)
                  have hltb1 : b1 < wr.heap.size := hbB1
                  have hltP : w2.heap.size < wr.heap.size := (Array.getElem?_eq_some_iff.1 hBe.box).1
                  have d1d : wr.drew.cell? ⟨w2.heap.size, 1, none⟩ = some (.slice pA pn pc) := d1
                  have d1a : (wr.drew.alloc (.cells #[.int .i64 k] 3)).cell? ⟨w2.heap.size, 1, none⟩ = some (.slice pA pn pc) := ((Below.refl wr.heap.size wr.drew).alloc (Nat.le_refl _) (.cells #[.int .i64 k] 3)).cell (p := ⟨w2.heap.size, 1, none⟩) hltP |>.trans d1
                  have hq0 : (0 : Int) ≤ (a : Int) + (t : Int) := by omega
                  have hq1 : (a : Int) + (t : Int) ≤ (c2 : Int) := by omega
                  have hq2 : ((a : Int) + (t : Int)).toNat = a + t := by omega
                  have hq3 : a + t - a = t := by omega
                  go_region_law (first
                      | (go_simp; go_at_call 63; refine (hP.out).mono ?_; rintro e w4 ⟨rfl, rfl⟩; go_wp2_with fail)
                      | (refine step_push (w := wr.drew) (u := .int .i64 k) (show Own wr.drew w.heap.size 3 (.slice pA pn pc) (ci ((ps.map bestK).take j)) from hBe.pown) hBe.be.size hcl Try.underlying22 info_int rfl (by decide) rfl rfl rfl rfl rfl (h := ?_); intro v6 w6 ho6 hm6; have x2 := (hm6 (b1 + 1)).cell (p := ⟨b1, o1 + j, none⟩) hcell1 (by simp) hv2; obtain ⟨A7, n7, c7, rfl⟩ := ho6.shape; have hm6' := fun g => ((Mov.refl wr g (.slice pA pn pc)).drew).trans (hm6 g); have x3 := (World.cell?_setCell_other w6 ⟨w2.heap.size, 1, none⟩ ⟨b1, o1 + j, none⟩ (.slice A7 n7 c7) (fun e => by injection e with e; omega)).trans x2; obtain ⟨y0, y1, hyf⟩ := blk2 (hBe.boxP hm6')))
                  all_goals
                    have hBe7 := hBe.push ho6 hm6'
                    obtain ⟨hov7, hap7⟩ := hBe.restI hm6' hov hap
                    rw [← HTK.out] at hBe7
                    go_wp2
                    exact ⟨⟨j + 1, _, by omega, by simp, by rw [HST.out]; simp, hBe7, hov7, hap7⟩, by simp [intOf]; omega⟩
              · have hjm2 : j = m := by omega
                have t1 : (ps.map bestK).take j = ps.map bestK := by rw [List.take_of_length_le (by rw [List.length_map, HCL.out]; omega)]
                rw [t1] at hBe
                have hbe := hBe.be
                obtain ⟨d0, d1, hf⟩ := blk2 hBe.box
                have hkl : (ps.map bestK).length ≤ 1099511627776 := by rw [List.length_map, HCL.out]; omega
                have hco := HCO2.out wr _ wr.heap.size hBe.pown.sli (Nat.le_refl _) (HS.out.below (hbe.mono hB)) (Nat.le_trans hB hbe.size) hkl
                by_cases hp : planB (q : Int) n warm = true
                · obtain ⟨hY, hC⟩ := HPLAN.out hp
                  rw [hC] at hco hcle
                  generalize bestC n warm l q = C at *
                  have hiff := HCQ.out q C hcle
                  have hct := HCT.out q C
                  have hcs := HCS.out q
                  have HCO3 := Lib.hid hco
                  clear hco t1 hp hC
                  by_cases h0 : CQ q = 0
                  · rw [if_pos (hiff.1 (.inl h0))] at hY
                    have HCT1 := Lib.hid (hct (by rw [hY]))
                    have HYY := Lib.hid hY
                    have h0b : (((CQ q : Nat) : Int) == 0) = true := by rw [h0]; rfl
                    clear hY hct hcs hiff h0
                    generalize CQ q = cq at *
                    go_wp2_with fail
                    refine HCO3.out.mono ?_
                    rintro e w9 ⟨rfl, hb9⟩
                    have hb09 := bthen hbe hb9 hbe.size
                    have hbox9 := (hb9.block w2.heap.size (Array.getElem?_eq_some_iff.1 hBe.box).1).trans hBe.box
                    have hbest9 := (hb9.block Q (Array.getElem?_eq_some_iff.1 hBe.best).1).trans hBe.best
                    have hres9 := (hb9.block w.heap.size (Array.getElem?_eq_some_iff.1 hBe.res).1).trans hBe.res
                    obtain ⟨x0, x1, hxf⟩ := blk2 hbox9
                    obtain ⟨z0, z1, hzf⟩ := blk2 hbest9
                    have hp9 := hBe.pown.kept hb9
                    clear d0 d1 hf
                    go_wp2
                    have hg2 := two_grown w9 Q (.int .i64 (q : Int)) (.slice pA pn pc)
                    exact ⟨⟨q + 1, .slice pA pn pc, by omega, by simp, by rw [HCT1.out], by rw [HYY.out]; exact hp9.far hbest9 (by decide) hg2, by rw [HYY.out]; exact two_blk hbest9, (hg2.block w.heap.size (Array.getElem?_eq_some_iff.1 hres9).1 (by simp; omega)).trans hres9, hb09.trans (below_of_only hg2 hQ0 hb09.size)⟩, by simp [intOf]; omega⟩
                  · by_cases hlt : C < CQ q
                    · rw [if_pos (hiff.1 (.inr hlt))] at hY
                      have HCT1 := Lib.hid (hct (by rw [hY]))
                      have HYY := Lib.hid hY
                      have h0b : (((CQ q : Nat) : Int) == 0) = false := by simp only [beq_eq_false_iff_ne, ne_eq]; omega
                      clear hY hct hcs hiff h0
                      generalize CQ q = cq at *
                      go_wp2_with fail
                      refine HCO3.out.mono ?_
                      rintro e w9 ⟨rfl, hb9⟩
                      have hb09 := bthen hbe hb9 hbe.size
                      have hbox9 := (hb9.block w2.heap.size (Array.getElem?_eq_some_iff.1 hBe.box).1).trans hBe.box
                      have hbest9 := (hb9.block Q (Array.getElem?_eq_some_iff.1 hBe.best).1).trans hBe.best
                      have hres9 := (hb9.block w.heap.size (Array.getElem?_eq_some_iff.1 hBe.res).1).trans hBe.res
                      obtain ⟨x0, x1, hxf⟩ := blk2 hbox9
                      obtain ⟨z0, z1, hzf⟩ := blk2 hbest9
                      have hp9 := hBe.pown.kept hb9
                      clear d0 d1 hf
                      go_wp2
                      have hg2 := two_grown w9 Q (.int .i64 (q : Int)) (.slice pA pn pc)
                      exact ⟨⟨q + 1, .slice pA pn pc, by omega, by simp, by rw [HCT1.out], by rw [HYY.out]; exact hp9.far hbest9 (by decide) hg2, by rw [HYY.out]; exact two_blk hbest9, (hg2.block w.heap.size (Array.getElem?_eq_some_iff.1 hres9).1 (by simp; omega)).trans hres9, hb09.trans (below_of_only hg2 hQ0 hb09.size)⟩, by simp [intOf]; omega⟩
                    · rw [if_neg fun h => by have := hiff.2 h; omega] at hY
                      have hq0 : q ≠ 0 := fun e => by subst e; exact h0 HCQ0.out
                      have HCS1 := Lib.hid (hcs hq0 hY)
                      have HYY := Lib.hid hY
                      have h0b : (((CQ q : Nat) : Int) == 0) = false := by simp only [beq_eq_false_iff_ne, ne_eq]; omega
                      clear hY hct hcs hiff h0
                      generalize CQ q = cq at *
                      go_wp2_with fail
                      refine HCO3.out.mono ?_
                      rintro e w9 ⟨rfl, hb9⟩
                      have hb09 := bthen hbe hb9 hbe.size
                      go_wp2
                      exact ⟨⟨q + 1, _, by omega, by simp, by rw [HCS1.out], by rw [HYY.out]; exact hBe.bown.kept hb9, by rw [HYY.out]; exact (hb9.block Q (Array.getElem?_eq_some_iff.1 hBe.best).1).trans hBe.best, (hb9.block w.heap.size (Array.getElem?_eq_some_iff.1 hBe.res).1).trans hBe.res, hb09⟩, by simp [intOf]; omega⟩
                · obtain ⟨hN, hZ, hq0⟩ := HNOP.out hp
                  rw [hZ] at hco
                  have hcs := HCS.out q hq0 hN
                  have HCO3 := Lib.hid hco; have HN := Lib.hid hN; have HCS1 := Lib.hid hcs
                  clear hco hN hcs hZ t1 hp
                  go_wp2_with fail
                  refine HCO3.out.mono ?_
                  rintro e w9 ⟨rfl, hb9⟩
                  have hb09 := bthen hbe hb9 hbe.size
                  go_wp2
                  exact ⟨⟨q + 1, _, by omega, by simp, by rw [HCS1.out], by rw [HN.out]; exact hBe.bown.kept hb9, by rw [HN.out]; exact (hb9.block Q (Array.getElem?_eq_some_iff.1 hBe.best).1).trans hBe.best, (hb9.block w.heap.size (Array.getElem?_eq_some_iff.1 hBe.res).1).trans hBe.res, hb09⟩, by simp [intOf]; omega⟩
          · have hqM2 : q = M + 1 := by omega
            subst hqM2
            obtain ⟨c0, c1, hf1⟩ := blk2 hbR
            obtain ⟨d0, d1, hf⟩ := blk2 hbQ
            go_wp2
            try simp only [Exit.inBlock, Exit.then]
            refine bodyPost_ret (results_row2 rfl _ _ w.heap.size 24 #[.int .i64 (SF (M + 1)).1, .slice bA bn bc] (0, 0) _ rfl (two_blk hbR) Try.underlying24 rfl (by kernel_rfl)) rfl ?_
            have hg4 := two_grown wr w.heap.size (.int .i64 (SF (M + 1)).1) (.slice bA bn bc)
            exact ⟨_, rfl, hbo.far hbR (by decide) hg4, hbw.trans (below_of_only hg4 (Nat.le_refl _) hbw.size)⟩
      · have hres : bestR n warm most l = (0, [], 1) := by unfold bestR; rw [if_neg fun h => hr h.2]
        rw [hres]
        rw [Bool.eq_false_iff.2 hr] at har
        have HI := Lib.hid hi; have HAR := Lib.hid har
        clear hi har hres hr hrow hrn hnw
        rw [hnl] at *
        clear hnl hS
        go_enter Try.func37, Try.ntmps37
        go_wp2_with fail
        rw [HWA.out]
        refine (HI.out _).mono ?_
        rintro e w1 ⟨rfl, rfl⟩
        go_wp2_with fail
        refine HAR.out.mono ?_
        rintro e w1 ⟨rfl, rfl⟩
        go_wp2
        try simp only [Exit.inBlock, Exit.then]
        refine bodyPost_ret (results_row2 rfl _ _ w.heap.size 24 #[.int .i64 0, .slice none 0 0] (0, 0) _ rfl (two_blk hbx0) Try.underlying24 rfl (by kernel_rfl)) rfl ?_
        exact ⟨_, rfl, Own.nil _ _ _, hb0.trans (below_of_only (two_grown wA w.heap.size _ _) (Nat.le_refl _) hb0.size)⟩
    · have hne : ((nl : Int) != n - warm) = true := by simpa using hnw
      rw [decide_eq_false hnw, Bool.false_and] at hrn
      have hres : bestR n warm most l = (0, [], 1) := by unfold bestR; rw [if_neg fun h => by have := h.2; rw [hrn] at this; simp at this]
      rw [hres]
      have HI := Lib.hid hi
      clear hi har hres hrow hrn hnw
      rw [hnl] at *
      clear hnl hS
      go_enter Try.func37, Try.ntmps37
      go_wp2_with fail
      rw [HWA.out]
      refine (HI.out _).mono ?_
      rintro e w1 ⟨rfl, rfl⟩
      go_wp2
      try simp only [Exit.inBlock, Exit.then]
      refine bodyPost_ret (results_row2 rfl _ _ w.heap.size 24 #[.int .i64 0, .slice none 0 0] (0, 0) _ rfl (two_blk hbx0) Try.underlying24 rfl (by kernel_rfl)) rfl ?_
      exact ⟨_, rfl, Own.nil _ _ _, hb0.trans (below_of_only (two_grown wA w.heap.size _ _) (Nat.le_refl _) hb0.size)⟩
  · have hres : bestR n warm most l = (0, [], 1) := by unfold bestR; rw [if_neg fun h => hrow h.1]
    rw [hres]
    rw [Bool.eq_false_iff.2 hrow] at hi
    have HI := Lib.hid hi
    clear hi hres hrow hS hrn hnl
    go_enter Try.func37, Try.ntmps37
    go_wp2_with fail
    rw [HWA.out]
    refine (HI.out _).mono ?_
    rintro e w1 ⟨rfl, rfl⟩
    go_wp2
    try simp only [Exit.inBlock, Exit.then]
    refine bodyPost_ret (results_row2 rfl _ _ w.heap.size 24 #[.int .i64 0, .slice none 0 0] (0, 0) _ rfl (two_blk hbx0) Try.underlying24 rfl (by kernel_rfl)) rfl ?_
    exact ⟨_, rfl, Own.nil _ _ _, hb0.trans (below_of_only (two_grown wA w.heap.size _ _) (Nat.le_refl _) hb0.size)⟩
end Go.Proofs.Ytohbpjehphmedaa
