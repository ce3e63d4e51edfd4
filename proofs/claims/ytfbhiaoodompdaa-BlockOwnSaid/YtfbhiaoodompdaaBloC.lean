/- block: Cut. -/
import Derived.Test.YtfbhiaoodompdaaBloK
import Derived.Deep.RegionHeld3
import Derived.Deep.QuietTactic
import Derived.BigQuiet
namespace Go.Proofs.Ytfbhiaoodompdaa
open Go.RowKit
set_option maxRecDepth 100000
set_option maxHeartbeats 4000000

/-- Three boxes, one behind the other. -/
theorem three_boxes (w : World) (a b c : Array Value) (t s r : TypeId) : ∃ wA, ((w.alloc (.cells a t)).alloc (.cells b s)).alloc (.cells c r) = wA ∧ wA.heap.size = w.heap.size + 3 ∧ Below w.heap.size w wA ∧
    wA.heap[w.heap.size]? = some (.cells a t (0, 0)) ∧ wA.heap[w.heap.size + 1]? = some (.cells b s (0, 0)) ∧ wA.heap[w.heap.size + 2]? = some (.cells c r (0, 0)) := by
  refine ⟨_, rfl, by simp, (((Below.refl _ w).alloc (Nat.le_refl _) _).alloc (by simp) _).alloc (by simp; omega) _, ?_, ?_, ?_⟩
  · exact boxed_on (((Below.refl _ (w.alloc (.cells a t))).alloc (Nat.le_refl _) _).alloc (by simp) _)
  · have h := boxed_on (w := w.alloc (.cells a t)) (cs := b) (t := s) ((Below.refl _ _).alloc (Nat.le_refl _) (.cells c r))
    have e : (w.alloc (.cells a t)).heap.size = w.heap.size + 1 := by simp
    rw [e] at h
    exact h
  · have h := boxed ((w.alloc (.cells a t)).alloc (.cells b s)) c r
    have e : ((w.alloc (.cells a t)).alloc (.cells b s)).heap.size = w.heap.size + 2 := by simp
    rw [e] at h
    exact h
/-- What stands below K is as it was in wA. -/
theorem box_at {wA w : World} {K g : Nat} {o : Obj} (hb : Below K wA w) (hg : wA.heap[g]? = some o) (hK : g < K) : w.heap[g]? = some o := (hb.block g hK).trans hg
/-- The result's box is written last. -/
theorem box_done {w0 wA w : World} {K R : Nat} {x : Int} {A : Option Addr} {n k : Nat} {vs : List Value} {rs : List (List Int)} {cs : Array Value} (hA : Below w0.heap.size w0 wA) (hb : Below K wA w) (hrb : wA.heap[R]? = some (.cells cs 26 (0, 0))) (hR : w0.heap.size ≤ R) (hK : R < K) (h : RwG w K (.slice A n k) vs rs) :
    RwG ((w.setCell ⟨R, 0, none⟩ (.int .i64 x)).setCell ⟨R, 1, none⟩ (.slice A n k)) w0.heap.size (.slice A n k) vs rs ∧ Below w0.heap.size w0 ((w.setCell ⟨R, 0, none⟩ (.int .i64 x)).setCell ⟨R, 1, none⟩ (.slice A n k)) := by
  have h1 := hA.trans (hb.mono (by omega))
  exact ⟨(h.far (box_at hb hrb hK) (by decide) (by decide) (two_gr w R _ _)).mono (by omega), h1.trans (below_of_only (two_gr w R _ _) hR h1.size)⟩
theorem ci_dropB (l : List Int) (a n : Nat) : ((ci l).drop a).take n = ci ((l.drop a).take n) := by simp [ci, List.map_take, List.map_drop]
/-- 'append([]T(nil), x...)', one operation of a region that draws its order. -/
theorem step_fromNil {P : Program} {w : World} {B : Nat} {e t : TypeId} {z vx : Value} {bytes : Nat} {ys : List Value} (hr : Sli w B vx ys) (hroom : ys.length ≤ 8796093022208)
    (ht : P.underlying t = some (.slice e)) (hinf : (P.info? e).map (fun i => (i.zero, i.size, i.bytes)) = some (some z, 1, bytes)) (hzs : z.cells.size = 1) (hb16 : bytes ≤ 16) (hone : ∀ u ∈ ys, u.oneCell' = true)
    {ops : Array Oper} {o : Oper} {a : Act} {K : Act → World → Prop} {Q : Exit → Act → World → Prop} {E : Prop} {s x : Operand} (hgd : o.guard = none)
    (ho : o.op = .call { callee := .builtin .append, args := #[s, x], argTypes := #[t, t] })
    (hs : a.eval s = .slice none 0 0) (hx : a.eval x = vx)
    (h : ∀ v' w', Own w' w.heap.size e v' ys → Below w.heap.size w w' → K (a.put o.dst v') w') : if Region.wanted o (yielded ops a.tmps) = true then Oper.wp P o a w K Q else E := by
  rw [if_pos (by simp [Region.wanted, hgd])]
  exact wp_appN (Own.nil w w.heap.size e) hr (Nat.le_refl _) (by simpa using hroom) ht hinf hzs hb16 hone ho hs hx (fun v' w' h1 h2 => h v' w' (by simpa using h1) h2)
theorem cut_take {rs : List (List Int)} {F m j k : Nat} (hj : j < rs.length) (hk : rs.length = k) : ((cutB rs F m).take j ++ List.replicate (k - j) []).set j ((rs[j].drop F).take m) = (cutB rs F m).take (j + 1) ++ List.replicate (k - (j + 1)) [] := by
  have h1 : ((cutB rs F m).take j).length = j := by rw [List.length_take]; simp [cutB]; omega
  rw [List.set_append_right _ _ (by omega), h1, Nat.sub_self, show k - j = (k - (j + 1)) + 1 by omega, List.replicate_succ, List.set_cons_zero, List.take_add_one, List.append_assoc]
  congr 1
  simp [cutB, hj]

theorem cutBk_any (b : Int) (v : Value) (rs : List (List Int)) (f t : Int) (w : World) (B : Nat) (hR : Rws w B v rs) (hB : B ≤ w.heap.size) :
    Calls Try.prog 31 #[.agg #[.int .i64 b, v], .agg #[.int .i64 f, .int .i64 t]] w (BkPost (cutR b rs f t) w) := by
  obtain ⟨A, c, rfl, hlc, hcm⟩ := hR.form
  obtain ⟨m, hm⟩ : ∃ m, rs.length = m := ⟨_, rfl⟩
  have hmay := fun (w1 : World) (h : Rws w1 B (.slice A rs.length c) rs) (h2 : B ≤ w1.heap.size) => mayBk_any b _ rs w1 B h h2
  have hlen := fun (w1 : World) (h : Rws w1 B (.slice A rs.length c) rs) (h2 : B ≤ w1.heap.size) => lenBk_any b _ rs w1 B h h2
  rw [hm] at hR hlc hmay hlen ⊢
  obtain ⟨wA, hwA, hsA, hbA, hbb, hsb, hrb⟩ := three_boxes w #[.int .i64 b, .slice A m c] #[.int .i64 f, .int .i64 t] #[.int .i64 0, .slice none 0 0] 26 48 26
  have hRA := hR.below (hbA.mono hB)
  have HWA := Lib.hid hwA
  clear hwA
  by_cases hmy : mayBk b rs = true
  · have M := mayBk_of hmy
    rw [hmy] at hmay
    obtain ⟨n, hn⟩ : ∃ n, lenB rs = n := ⟨_, rfl⟩
    rw [hn] at M hlen
    have hm8 := M.chans
    rw [hm] at hm8
    have hn8 := M.size
    have HMAY := Lib.hid hmay; have HLEN := Lib.hid hlen
    by_cases hft : 0 ≤ f ∧ f < t ∧ t ≤ (n : Nat)
    · obtain ⟨hf0, hft, htn⟩ := hft
      have hres : cutR b rs f t = (b, cutB rs f.toNat (t - f).toNat, 0) := by unfold cutR; rw [if_pos hmy, hn, if_pos ⟨hf0, hft, htn⟩]
      rw [hres]
      obtain ⟨F, rfl⟩ := Int.eq_ofNat_of_zero_le hf0
      obtain ⟨T, rfl⟩ := Int.eq_ofNat_of_zero_le (show 0 ≤ t by omega)
      rw [Int.toNat_natCast, show ((T : Int) - (F : Int)).toNat = T - F by omega]
      have HM := Lib.hid M; have HML := Lib.hid hm
      clear hmy M hmay hlen hn hm hres
      go_enter Try.func31, Try.ntmps31
      go_wp2_with fail
      rw [HWA.out]
      obtain ⟨x0, x1, xf⟩ := two_in hbb
      go_wp2_with fail
      refine (HMAY.out wA hRA (by omega)).mono ?_
      rintro e w1 ⟨rfl, hb1⟩
      rw [hsA] at hb1
      have hK1 := hb1.size
      rw [hsA] at hK1
      clear x0 x1 xf
      obtain ⟨x0, x1, xf⟩ := two_in (box_at hb1 hbb (by omega))
      obtain ⟨s0, s1, sf⟩ := two_in (box_at hb1 hsb (by omega))
      have hR1 := hRA.below (hb1.mono (by omega))
      have hBw : B ≤ w1.heap.size := by omega
      have hd3 : decide (T ≤ F) = false := by rw [decide_eq_false_iff_not]; omega
      have hd4 : decide (n < T) = false := by rw [decide_eq_false_iff_not]; omega
      go_upto_region 3 with (fail)
      go_cut [29] (fun p wx => p = .bool false ∧ Below (w.heap.size + 3) wA wx)
      case first =>
        go_region_with (go_at_call 20; refine (HLEN.out w1.drew (hR1.keep fun _ _ => rfl) hBw).mono ?_; rintro e w2 ⟨rfl, hb2⟩; have hb12 := hb1.trans ((Below.refl w1.heap.size w1).drew.trans hb2 |>.mono hK1); obtain ⟨y0, y1, yf⟩ := two_in (box_at hb12 hsb (by omega)))
        all_goals
          go_wp2_with fail
          go_meet
          case rel => exact ⟨rfl, hb12⟩
      case rest =>
        obtain ⟨rfl, hb2⟩ := hcut
        obtain ⟨w2, hw2⟩ : ∃ w2, w2 = wc := ⟨_, rfl⟩
        subst hw2
        have hK2 := hb2.size
        rw [hsA] at hK2
        clear x0 x1 xf s0 s1 sf hd3 hd4 hb1 hR1
        obtain ⟨x0, x1, xf⟩ := two_in (box_at hb2 hbb (by omega))
        have hrun := makeN m (by omega)
        have hz2 : w.heap.size < w2.heap.size := by omega
        go_upto_region 5 with (fail)
        go_cut [6] (fun p wx => ∃ gB gS, p = .pointer (some ⟨gB, 0, none⟩) ∧ w2.heap.size ≤ gB ∧ wx.heap[gB]? = some (.cells #[.int .i64 b, .slice (some ⟨gS, 0, none⟩) m m] 26 (0, 0)) ∧ Own wx w2.heap.size 37 (.slice (some ⟨gS, 0, none⟩) m m) (List.replicate m (.slice none 0 0)) ∧ Below w2.heap.size w2 wx)
        case first =>
          go_region
          all_goals
            go_wp2_with fail
            go_meet
            case rel =>
              first
                | exact ⟨_, _, rfl, Nat.le_succ _, two_ways_a w2 m (by omega) b⟩
                | exact ⟨_, _, rfl, Nat.le_refl _, two_ways_b w2 m (by omega) b⟩
        case rest =>
          obtain ⟨gB, gS, rfl, hgB, hbx, hos, hb3⟩ := hcut
          have hb23 := hb2.trans (hb3.mono hK2)
          have hR2 := RwG.made (hos.mono hK2)
          have hgS := (hos.lt gS rfl).1
          have hne : gB ≠ gS := by
            obtain ⟨cs, hc⟩ := hos.blk (k := gS) rfl
            intro e; subst e
            rw [hbx] at hc; injection hc with hc; injection hc with _ hc
            exact absurd hc (by decide)
          clear x0 x1 xf hos hb2 hb3 hrun
          obtain ⟨x0, x1, xf⟩ := two_in (box_at hb23 hbb (by omega))
          go_wp2
          clear x0 x1 xf
          go_loopw [41] (fun jj wr => ∃ j : Nat, j ≤ m ∧ jj = .int .i64 j ∧ Below (w.heap.size + 3) wA wr ∧ wr.heap[gB]? = some (.cells #[.int .i64 b, .slice (some ⟨gS, 0, none⟩) m m] 26 (0, 0)) ∧ ∃ vs, RwG wr (w.heap.size + 3) (.slice (some ⟨gS, 0, none⟩) m m) vs ((cutB rs F (T - F)).take j ++ List.replicate (m - j) [])) (fun jj _ => m - (intOf jj).toNat)
          case atStart => exact ⟨0, Nat.zero_le _, rfl, hb23, hbx, _, by simpa using hR2⟩
          case round =>
            clear hb23 hbx hR2
            obtain ⟨j, hj, rfl, hb, hbx, vs, hRg⟩ := hrel
            have hKr := hb.size
            rw [hsA] at hKr
            by_cases hjm : j < m
            · have hjl : j < rs.length := by rw [HML.out]; exact hjm
              obtain ⟨bq, oq, Aq, cq, rfl, hbq, hcell, hS, g1, g2⟩ := (hRA.below (hb.mono (by omega))).get hjl
              have hrn := HM.out.rows _ (List.getElem_mem hjl)
              have hct := cut_take (F := F) (m := T - F) hjl HML.out
              rw [hrn] at hcell hS g1
              have hFl : F < rs[j].length := by rw [hrn]; omega
              obtain ⟨b5, o5, rfl, hb5, hc5⟩ := hS.atI hFl
              have hSl := hS.mid2 F (T - F) (by omega)
              rw [ci_dropB] at hSl
              have hlen : (ci ((rs[j].drop F).take (T - F))).length ≤ 8796093022208 := by rw [ci_len, List.length_take]; omega
              generalize (rs[j].drop F).take (T - F) = cutr at *
              have HCT := Lib.hid hct; have HLEN2 := Lib.hid hlen
              clear hct hlen hrn hFl hc5 hS
              simp only [Option.map_some, Addr.add_lit] at hSl
              obtain ⟨c0, c1, cf⟩ := two_in hbx
              obtain ⟨s0, s1, sf⟩ := two_in (box_at hb hsb (by omega))
              have hvl : j < vs.length := by have := hRg.len; rw [this]; simp [cutB]; omega
              obtain ⟨gq, cc, hv, hg2, _, _, hcells, hfro, hset⟩ := hRg.top.at_ (by omega)
              injection hv with e1 e2 e3
              injection e1 with e1; injection e1 with e1
              subst e1
              have hck := hcells j hvl
              rw [List.getElem?_eq_getElem hvl] at hck
              have hfi := hfro j
              have HRG := Lib.hid hRg
              have hcF : ¬ cq = F := by omega
              have hq1 : (F : Int) ≤ (T : Int) := by omega
              have hq2 : (T : Int) ≤ (cq : Int) := by omega
              have hjI : (j : Int) < (m : Int) := by omega
              have hone := ci_one cutr
              have hz4 : gB < wr.heap.size := (Array.getElem?_eq_some_iff.1 hbx).1
              have hz5 : gS < wr.heap.size := by obtain ⟨cs, hc⟩ := hRg.top.blk (k := gS) rfl; exact (Array.getElem?_eq_some_iff.1 hc).1
              clear hcells hfro hset e2 e3 hRg
              go_wp2_with fail
              go_region_held3 (fun w' => w'.cell? ⟨gB, 1, none⟩ = some (.slice (some ⟨gS, 0, none⟩) m m) ∧ w'.cell? ⟨w.heap.size + 1, 0, none⟩ = some (.int .i64 (F : Nat)) ∧ w'.cell? ⟨w.heap.size + 1, 1, none⟩ = some (.int .i64 (T : Nat)))
                (first | go_keep | exact ⟨c1', s0', s1'⟩ | exact ⟨c1'', s0'', s1''⟩)
                ((refine step_fromNil (w := wr.drew) (show Sli wr.drew B _ (ci cutr) from hSl) HLEN2.out Try.underlying37 info_int rfl (by decide) hone rfl rfl rfl rfl (h := ?_); intro v6 w6 ho6 hb6; obtain ⟨A6, n6, k6, rfl⟩ := ho6.shape; have hb6w : Below wr.heap.size wr w6 := (Below.refl wr.heap.size wr).drew.trans hb6; have hbx6 := (hb6w.block gB hz4).trans hbx; obtain ⟨c0', c1', cf'⟩ := two_in hbx6; have hb6A := hb.trans (hb6w.mono hKr); obtain ⟨s0', s1', sf'⟩ := two_in (box_at hb6A hsb (by omega)); have hk6 := (hb6w.cell (p := ⟨gS, j, none⟩) hz5).trans hck; have hf6 := (hb6w.frozen (p := ⟨gS, j, none⟩) hz5).trans hfi; have c1'' := (World.cell?_setCell_other w6 ⟨gS, j, none⟩ ⟨gB, 1, none⟩ (.slice A6 n6 k6) (fun e => by injection e with e; omega)).trans c1'; have s0'' := (World.cell?_setCell_other w6 ⟨gS, j, none⟩ ⟨w.heap.size + 1, 0, none⟩ (.slice A6 n6 k6) (fun e => by injection e with e; omega)).trans s0'; have s1'' := (World.cell?_setCell_other w6 ⟨gS, j, none⟩ ⟨w.heap.size + 1, 1, none⟩ (.slice A6 n6 k6) (fun e => by injection e with e; omega)).trans s1'))
              all_goals
                have hR7 := HRG.out.put (i := j) hKr hb6w (show Own w6 wr.heap.size 3 (.slice A6 n6 k6) (ci cutr) from ho6) (by simp [cutB]; omega)
                rw [HCT.out] at hR7
                have hb7 := hb6A.setCell (p := ⟨gS, j, none⟩) (by omega) (.slice A6 n6 k6)
                have hbx7 := ((grown_set w6 gS j (.slice A6 n6 k6)).block _ (Array.getElem?_eq_some_iff.1 hbx6).1 (by simp; omega)).trans hbx6
                have HR7 := Lib.hid hR7; have HB7 := Lib.hid hb7; have HBX7 := Lib.hid hbx7
                clear hR7 hb7 hbx7
                go_wp2
                exact ⟨⟨j + 1, by omega, by simp, HB7.out, HBX7.out, _, HR7.out⟩, by simp [intOf]; omega⟩
            · have hjj : j = m := by omega
              have hall : (cutB rs F (T - F)).take j ++ List.replicate (m - j) [] = cutB rs F (T - F) := by rw [hjj, Nat.sub_self, List.replicate_zero, List.append_nil, List.take_of_length_le (by simp [cutB, HML.out])]
              rw [hall] at hRg
              obtain ⟨c0, c1, cf⟩ := two_in hbx
              obtain ⟨r0, r1, rf⟩ := two_in (box_at hb hrb (by omega))
              go_wp2
              refine bodyPost_ret (results_two rfl _ _ (w.heap.size + 2) 26 #[.int .i64 b, .slice (some ⟨gS, 0, none⟩) m m] (0, 0) _ rfl (two_set (box_at hb hrb (by omega))) Try.underlying26 rfl (by kernel_rfl)) rfl ?_
              obtain ⟨q1, q2⟩ := box_done (x := b) hbA hb hrb (by omega) (by omega) hRg
              exact ⟨_, _, _, _, rfl, q1, q2⟩
    · have hres : cutR b rs f t = (0, [], 6) := by unfold cutR; rw [if_pos hmy, hn, if_neg hft]
      rw [hres]
      clear hmy M hmay hlen hn hm hres
      go_enter Try.func31, Try.ntmps31
      go_wp2_with fail
      rw [HWA.out]
      obtain ⟨x0, x1, xf⟩ := two_in hbb
      go_wp2_with fail
      refine (HMAY.out wA hRA (by omega)).mono ?_
      rintro e w1 ⟨rfl, hb1⟩
      rw [hsA] at hb1
      have hK1 := hb1.size
      rw [hsA] at hK1
      clear x0 x1 xf
      obtain ⟨x0, x1, xf⟩ := two_in (box_at hb1 hbb (by omega))
      obtain ⟨s0, s1, sf⟩ := two_in (box_at hb1 hsb (by omega))
      have hR1 := hRA.below (hb1.mono (by omega))
      have hBw : B ≤ w1.heap.size := by omega
      go_upto_region 3 with (fail)
      go_cut [29] (fun p wx => p = .bool true ∧ Below (w.heap.size + 3) wA wx)
      case first =>
        by_cases hf0 : f < 0
        · have hd1 : decide (f < 0) = true := decide_eq_true hf0
          go_wp2_with fail
          go_quiet (fail)
          go_wp2_with fail
          go_meet
          case rel => exact ⟨rfl, below_drewN hb1 _⟩
        · have hd1 : decide (f < 0) = false := decide_eq_false hf0
          by_cases hft2 : t ≤ f
          · have hd2 : decide (t ≤ f) = true := decide_eq_true hft2
            go_wp2_with fail
            go_quiet (fail)
            go_wp2_with fail
            go_meet
            case rel => exact ⟨rfl, below_drewN hb1 _⟩
          · have hd2 : decide (t ≤ f) = false := decide_eq_false hft2
            have hd3 : decide ((n : Int) < t) = true := decide_eq_true (by omega)
            go_region_with (go_at_call 20; refine (HLEN.out w1.drew (hR1.keep fun _ _ => rfl) hBw).mono ?_; rintro e w2 ⟨rfl, hb2⟩; have hb12 := hb1.trans ((Below.refl w1.heap.size w1).drew.trans hb2 |>.mono hK1); obtain ⟨y0, y1, yf⟩ := two_in (box_at hb12 hsb (by omega)))
            all_goals
              go_wp2_with fail
              go_meet
              case rel => exact ⟨rfl, hb12⟩
      case rest =>
        obtain ⟨rfl, hb2⟩ := hcut
        obtain ⟨r0, r1, rf⟩ := two_in (box_at hb2 hrb (by omega))
        go_wp2
        refine bodyPost_ret (results_two rfl _ _ (w.heap.size + 2) 26 #[.int .i64 0, .slice none 0 0] (0, 0) _ rfl (two_set (box_at hb2 hrb (by omega))) Try.underlying26 rfl (by kernel_rfl)) rfl ?_
        obtain ⟨q1, q2⟩ := box_done (x := 0) hbA hb2 hrb (by omega) (by omega) (RwG.nil _ _)
        exact ⟨_, _, _, _, rfl, q1, q2⟩
  · have hres : cutR b rs f t = (0, [], 1) := by unfold cutR; rw [if_neg hmy]
    rw [hres]
    rw [Bool.eq_false_iff.2 hmy] at hmay
    have HMAY := Lib.hid hmay
    clear hmy hmay hlen hm hres
    go_enter Try.func31, Try.ntmps31
    go_wp2_with fail
    rw [HWA.out]
    obtain ⟨x0, x1, xf⟩ := two_in hbb
    go_wp2_with fail
    refine (HMAY.out wA hRA (by omega)).mono ?_
    rintro e w1 ⟨rfl, hb1⟩
    rw [hsA] at hb1
    clear x0 x1 xf
    obtain ⟨r0, r1, rf⟩ := two_in (box_at hb1 hrb (by omega))
    go_wp2
    refine bodyPost_ret (results_two rfl _ _ (w.heap.size + 2) 26 #[.int .i64 0, .slice none 0 0] (0, 0) _ rfl (two_set (box_at hb1 hrb (by omega))) Try.underlying26 rfl (by kernel_rfl)) rfl ?_
    obtain ⟨q1, q2⟩ := box_done (x := 0) hbA hb1 hrb (by omega) (by omega) (RwG.nil _ _)
    exact ⟨_, _, _, _, rfl, q1, q2⟩
end Go.Proofs.Ytfbhiaoodompdaa
