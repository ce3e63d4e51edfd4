/- package sort: symMerge. -/
import Derived.Test.YthecibabpcfoaaaSrtI
namespace Go.Proofs.Ythecibabpcfoaaa
open Go.RowKit Go.Shelf
set_option maxRecDepth 100000
set_option maxHeartbeats 4000000

section
variable {α : Type} {key : α → Int} {n blk g sw : Nat} {lb sb : Array Value} {R : (Nat → α) → World → Prop}

theorem Early.of_eqv {ord : α → Nat} {f g : Nat → α} {a m b : Nat} (h : Early ord f a m b) (e : ∀ k, a ≤ k → k < b → g k = f k) : Early ord g a m b := fun i j h1 h2 h3 h4 => by
  rw [e i h1 (by omega), e j (by omega) h4]; exact h i j h1 h2 h3 h4
theorem merge_any (S : Sorter key n blk g sw lb sb R) (ord : α → Nat) (hn : n < 4611686018427387904) : ∀ (k : Nat) (f : Nat → α) (W : World) (a m b : Nat), b - a ≤ k → R f W → a < m → m < b → b ≤ n → Sor key ord f a m → Sor key ord f m b → Early ord f a m b →
    Calls Try.prog 84 #[.agg #[.func (.func g) #[] lb, .func (.func sw) #[] sb], .int .i64 a, .int .i64 m, .int .i64 b] W fun e w' => e = .returned (.tuple #[]) ∧ ∃ f', R f' w' ∧ Sws a b f f' ∧ Sor key ord f' a b ∧ Kp blk W w' := by
  intro k
  induction k with
  | zero => intro f W a m b h; omega
  | succ k ih =>
  intro f W a m b hk hR h1 h2 h3 hsl hsr hea
  have hblk := S.hb f W hR
  have HB := Bx.new W (.func (.func g) #[] lb) (.func (.func sw) #[] sb) 112
  have HK := (Kp.refl blk W).alloc (.cells #[.func (.func g) #[] lb, .func (.func sw) #[] sb] 112)
  have HR := S.alloc f W (.cells #[.func (.func g) #[] lb, .func (.func sw) #[] sb] 112) hR
  have hsz : (W.alloc (.cells #[.func (.func g) #[] lb, .func (.func sw) #[] sb] 112)).heap.size = W.heap.size + 1 := by simp
  have eg := S.eg
  have IH := Lib.hid ih
  clear ih
  by_cases hm1 : m = a + 1
  · have hd1 : ((m : Int) - (a : Int) == 1) = true := by rw [beq_iff_eq]; omega
    have hma : m ≤ a + 1 := by omega
    have HSR := Lib.hid (show Sor key ord f (a + 1) b by rw [← hm1]; exact hsr)
    clear hm1
    go_enter Try.func84, Try.ntmps84
    go_wp2
    generalize hw1 : W.alloc (.cells #[.func (.func g) #[] lb, .func (.func sw) #[] sb] 112) = w1 at *
    have HSZ := Lib.hid hsz; have HW1 := Lib.hid hw1
    clear hsz hw1
    go_loopw [8, 9] (fun vi vj wr => ∃ i j : Nat, vi = .int .i64 i ∧ vj = .int .i64 j ∧ m ≤ i ∧ i ≤ j ∧ j ≤ b ∧ (∀ h, m ≤ h → h < i → Tk key ord (f h) (f a)) ∧ (∀ h, j ≤ h → h < b → Tk key ord (f a) (f h)) ∧ R f wr ∧ Bx W.heap.size (.func (.func g) #[] lb) (.func (.func sw) #[] sb) wr ∧ Kp blk w1 wr) (fun vi vj _ => (intOf vj).toNat - (intOf vi).toNat)
    case atStart => exact ⟨m, b, rfl, rfl, Nat.le_refl _, by omega, Nat.le_refl _, fun h k1 k2 => by omega, fun h k1 k2 => by omega, HR, HB, Kp.refl _ _⟩
    case round =>
      obtain ⟨i, j, rfl, rfl, hai, hij, hjb, hl, hr, hRi, hBi, hKi⟩ := hrel
      by_cases hlt : i < j
      · obtain ⟨h, hh⟩ : ∃ h, (i + j) / 2 = h := ⟨_, rfl⟩
        have c0 := hBi.c0
        have c1 := hBi.c1
        have hle := S.less _ _ h a hRi (by omega) (by omega)
        have hea' := hea a h (by omega) (by omega) (by omega) (by omega)
        have HL := Lib.hid hl; have HRR := Lib.hid hr
        have hdiv : ((i : Int) + (j : Int)) / 2 = (h : Nat) := by omega
        have hb1 : i ≤ h := by omega
        have hb2 : h < j := by omega
        have HRI := Lib.hid (fun q => S.drew _ _ q hRi)
        have HBK := Lib.hid (fun q => Bx.keep hBi ((Kp.refl blk wr).drewN q) (by have := hKi.size; have := HSZ.out; omega) (by omega))
        by_cases hlv : key (f h) < key (f a)
        · rw [decide_eq_true hlv] at hle
          have HLE := Lib.hid hle
          clear hle hl hr hRi hBi HR HB hh
          have HLV := Lib.hid hlv; clear hlv
          go_wp2_with (go_at_fn g; refine HLE.out.mono ?_; rintro e w' ⟨rfl, q, rfl⟩)
          go_roundw
          case measure => simp [intOf]; omega
          case rel =>
          refine ⟨h + 1, j, rfl, rfl, by omega, by omega, hjb, fun x k1 k2 => ?_, HRR.out, HRI.out q, HBK.out q, hKi.drewN q⟩
          exact Tk.le_trans hsr k1 (by omega : x ≤ h) (by omega) (.inl HLV.out)
        · rw [decide_eq_false hlv] at hle
          have HLE := Lib.hid hle
          clear hle hl hr hRi hBi HR HB hh
          have HLV := Lib.hid hlv; clear hlv
          go_wp2_with (go_at_fn g; refine HLE.out.mono ?_; rintro e w' ⟨rfl, q, rfl⟩)
          go_roundw
          case measure => simp [intOf]; omega
          case rel =>
          refine ⟨i, h, rfl, rfl, hai, by omega, by omega, HL.out, fun x k1 k2 => ?_, HRI.out q, HBK.out q, hKi.drewN q⟩
          exact Tk.trans_le hsr (by omega) k1 k2 (Tk.ge hea' (by have := HLV.out; omega))
      · have : i = j := by omega
        subst this
        have HS := Lib.hid (ins_first HSR.out (by omega) hjb (fun h k1 k2 => hl h (by omega) k2) hr)
        have HBI := Lib.hid hBi
        clear hl hr HR HB hBi
        go_wp2
        go_loopw [11] (fun vx w2 => ∃ x : Nat, vx = .int .i64 x ∧ a ≤ x ∧ x + 1 ≤ i ∧ R (rot f a (a + 1) (x + 1)) w2 ∧ Sws a b f (rot f a (a + 1) (x + 1)) ∧ Bx W.heap.size (.func (.func g) #[] lb) (.func (.func sw) #[] sb) w2 ∧ Kp blk w1 w2) (fun vx _ => i - (intOf vx).toNat)
        case atStart => exact ⟨a, rfl, Nat.le_refl _, by omega, by rw [rot_none]; exact hRi, by rw [rot_none]; exact .refl, HBI.out, hKi⟩
        case round =>
          obtain ⟨x, rfl, hax, hxi, hRx, hsx, hBx, hKx⟩ := hrel
          by_cases hlt2 : x + 1 < i
          · have hst := rot_up f a x hax
            obtain ⟨W', hs, hR', hz, hc⟩ := S.swap _ _ x (x + 1) hRx (by omega) (by omega) (by omega)
            have hsw := hsx.step x (x + 1) ⟨by omega, by omega⟩ ⟨by omega, by omega⟩
            rw [hst] at hR' hsw
            have HSZ' := HSZ.out
            have hB' := hBx.keep (kp_swap hz hc) (by have := hKx.size; omega) (by omega)
            have hK' := hKx.trans (kp_swap hz hc)
            rw [show (((x + 1 : Nat) : Int)) = (x : Int) + 1 by omega] at hs
            have c1 := hBx.c1
            have HSW := Lib.hid hsw
            clear hst hz hc hRx hBx hKx HSZ' hsx hsw
            go_wp2
            exact ⟨⟨x + 1, by simp, by omega, by omega, hR', HSW.out, hB', hK'⟩, by simp [intOf]; omega⟩
          · have : i = x + 1 := by omega
            subst this
            go_wp2
            first | go_end0 | refine bodyPost_ret (results_none rfl _ _ _) rfl ?_
            exact ⟨rfl, _, hRx, hsx, HS.out, HK.trans hKx⟩
  by_cases hb1 : b = m + 1
  · have hd1 : ((m : Int) - (a : Int) == 1) = false := by rw [beq_eq_false_iff_ne]; omega
    have hd2 : ((b : Int) - (m : Int) == 1) = true := by rw [beq_iff_eq]; omega
    have hma : b ≤ m + 1 := by omega
    have HBM := Lib.hid hb1
    clear hb1 hm1
    go_enter Try.func84, Try.ntmps84
    go_wp2
    generalize hw1 : W.alloc (.cells #[.func (.func g) #[] lb, .func (.func sw) #[] sb] 112) = w1 at *
    have HSZ := Lib.hid hsz; have HW1 := Lib.hid hw1
    clear hsz hw1
    go_loopw [12, 13] (fun vi vj wr => ∃ i j : Nat, vi = .int .i64 i ∧ vj = .int .i64 j ∧ a ≤ i ∧ i ≤ j ∧ j ≤ m ∧ (∀ h, a ≤ h → h < i → Tk key ord (f h) (f m)) ∧ (∀ h, j ≤ h → h < m → Tk key ord (f m) (f h)) ∧ R f wr ∧ Bx W.heap.size (.func (.func g) #[] lb) (.func (.func sw) #[] sb) wr ∧ Kp blk w1 wr) (fun vi vj _ => (intOf vj).toNat - (intOf vi).toNat)
    case atStart => exact ⟨a, m, rfl, rfl, Nat.le_refl _, by omega, Nat.le_refl _, fun h k1 k2 => by omega, fun h k1 k2 => by omega, HR, HB, Kp.refl _ _⟩
    case round =>
      obtain ⟨i, j, rfl, rfl, hai, hij, hjb, hl, hr, hRi, hBi, hKi⟩ := hrel
      by_cases hlt : i < j
      · obtain ⟨h, hh⟩ : ∃ h, (i + j) / 2 = h := ⟨_, rfl⟩
        have c0 := hBi.c0
        have c1 := hBi.c1
        have hle := S.less _ _ m h hRi (by omega) (by omega)
        have hea' := hea h m (by omega) (by omega) (by omega) (by omega)
        have HL := Lib.hid hl; have HRR := Lib.hid hr
        have hdiv : ((i : Int) + (j : Int)) / 2 = (h : Nat) := by omega
        have hb1 : i ≤ h := by omega
        have hb2 : h < j := by omega
        have HRI := Lib.hid (fun q => S.drew _ _ q hRi)
        have HBK := Lib.hid (fun q => Bx.keep hBi ((Kp.refl blk wr).drewN q) (by have := hKi.size; have := HSZ.out; omega) (by omega))
        by_cases hlv : key (f m) < key (f h)
        · rw [decide_eq_true hlv] at hle
          have HLE := Lib.hid hle
          clear hle hl hr hRi hBi HR HB hh
          have HLV := Lib.hid hlv; clear hlv
          go_wp2_with (go_at_fn g; refine HLE.out.mono ?_; rintro e w' ⟨rfl, q, rfl⟩)
          go_roundw
          case measure => simp [intOf]; omega
          case rel =>
          refine ⟨i, h, rfl, rfl, hai, by omega, by omega, HL.out, fun x k1 k2 => ?_, HRI.out q, HBK.out q, hKi.drewN q⟩
          exact Tk.trans_le hsl (by omega) k1 k2 (.inl HLV.out)
        · rw [decide_eq_false hlv] at hle
          have HLE := Lib.hid hle
          clear hle hl hr hRi hBi HR HB hh
          have HLV := Lib.hid hlv; clear hlv
          go_wp2_with (go_at_fn g; refine HLE.out.mono ?_; rintro e w' ⟨rfl, q, rfl⟩)
          go_roundw
          case measure => simp [intOf]; omega
          case rel =>
          refine ⟨h + 1, j, rfl, rfl, by omega, by omega, hjb, fun x k1 k2 => ?_, HRR.out, HRI.out q, HBK.out q, hKi.drewN q⟩
          exact Tk.le_trans hsl k1 (by omega : x ≤ h) (by omega) (Tk.ge hea' (by have := HLV.out; omega))
      · have : i = j := by omega
        subst this
        have HS := Lib.hid (ins_last hsl hai hjb hl hr)
        have HBI := Lib.hid hBi
        clear hl hr HR HB hBi
        go_wp2
        go_loopw [15] (fun vx w2 => ∃ x : Nat, vx = .int .i64 x ∧ i ≤ x ∧ x ≤ m ∧ R (rot f x m (m + 1)) w2 ∧ Sws a (m + 1) f (rot f x m (m + 1)) ∧ Bx W.heap.size (.func (.func g) #[] lb) (.func (.func sw) #[] sb) w2 ∧ Kp blk w1 w2) (fun vx _ => (intOf vx).toNat)
        case atStart => exact ⟨m, rfl, hjb, Nat.le_refl _, by rw [rot_same]; exact hRi, by rw [rot_same]; exact .refl, HBI.out, hKi⟩
        case round =>
          obtain ⟨x, rfl, hax, hxi, hRx, hsx, hBx, hKx⟩ := hrel
          by_cases hlt2 : i < x
          · have hst := rot_down f x m (by omega) hxi
            obtain ⟨W', hs, hR', hz, hc⟩ := S.swap _ _ x (x - 1) hRx (by omega) (by omega) (by omega)
            have hsw := hsx.step x (x - 1) ⟨by omega, by omega⟩ ⟨by omega, by omega⟩
            rw [hst] at hR' hsw
            have HSZ' := HSZ.out
            have hB' := hBx.keep (kp_swap hz hc) (by have := hKx.size; omega) (by omega)
            have hK' := hKx.trans (kp_swap hz hc)
            rw [show (((x - 1 : Nat) : Int)) = (x : Int) - 1 by omega] at hs
            have c1 := hBx.c1
            have HSW := Lib.hid hsw
            clear hst hz hc hRx hBx hKx HSZ' hsx hsw
            go_wp2
            exact ⟨⟨x - 1, by congr 1; omega, by omega, by omega, hR', HSW.out, hB', hK'⟩, by simp [intOf]; omega⟩
          · have : x = i := by omega
            subst this
            go_wp2
            first | go_end0 | refine bodyPost_ret (results_none rfl _ _ _) rfl ?_
            exact ⟨rfl, _, hRx, by rw [HBM.out]; exact hsx, by rw [HBM.out]; exact HS.out, HK.trans hKx⟩
  have hd1 : ((m : Int) - (a : Int) == 1) = false := by rw [beq_eq_false_iff_ne]; omega
  have hd2 : ((b : Int) - (m : Int) == 1) = false := by rw [beq_eq_false_iff_ne]; omega
  clear hm1 hb1
  obtain ⟨mid, hmid⟩ : ∃ mid, (a + b) / 2 = mid := ⟨_, rfl⟩
  have hmd : ((a : Int) + (b : Int)) / 2 = (mid : Nat) := by omega
  have hmd1 : 2 * mid ≤ a + b := by omega
  have hmd2 : a + b < 2 * mid + 2 := by omega
  obtain ⟨n', hn'⟩ : ∃ n', mid + m = n' := ⟨_, rfl⟩
  have hnI : (mid : Int) + (m : Int) = (n' : Nat) := by omega
  have HN := Lib.hid hn'
  clear hmid hn'
  go_enter Try.func84, Try.ntmps84
  go_upto_if 106 with (fail)
  generalize hw1 : W.alloc (.cells #[.func (.func g) #[] lb, .func (.func sw) #[] sb] 112) = w1 at *
  have HSZ := Lib.hid hsz; have HW1 := Lib.hid hw1
  clear hsz hw1
  go_cut [18, 19] (fun vs vr wc => ∃ lo r0 : Nat, vs = .int .i64 lo ∧ vr = .int .i64 r0 ∧ Span a m b mid n' lo r0 ∧ lo ≤ r0 ∧ wc = w1)
  case first =>
    have HN' := HN.out
    by_cases hmm : mid < m
    · go_wp2
      go_meet
      case rel => exact ⟨n' - b, mid, by congr 1; omega, rfl, ⟨h1, h2, hmd1, hmd2, HN.out.symm, .inl ⟨hmm, by omega, rfl⟩⟩, by omega, rfl⟩
    · go_wp2
      go_meet
      case rel => exact ⟨a, m, rfl, rfl, ⟨h1, h2, hmd1, hmd2, HN.out.symm, .inr ⟨by omega, rfl, rfl⟩⟩, by omega, rfl⟩
  case rest =>
    obtain ⟨lo, r0, rfl, rfl, SP, hlr, hwc⟩ := hcut
    have hwc' := hwc.symm
    subst hwc'
    clear hwc
    have hr0m : r0 ≤ m := by rcases SP.way with w | w <;> omega
    have hn1 : 1 ≤ n' := by have := HN.out; omega
    obtain ⟨p, hp⟩ : ∃ p : Nat, (n' : Int) - 1 = (p : Nat) := ⟨n' - 1, by omega⟩
    have HP := Lib.hid hp
    have HSP := Lib.hid SP; have HSL := Lib.hid hsl; have HSR := Lib.hid hsr; have HEA := Lib.hid hea
    clear SP hsl hsr hea
    go_wp2
    go_loopw [18, 19] (fun vs vt wr => ∃ s t : Nat, vs = .int .i64 s ∧ vt = .int .i64 t ∧ Split key ord f lo r0 n' s t ∧ R f wr ∧ Bx W.heap.size (.func (.func g) #[] lb) (.func (.func sw) #[] sb) wr ∧ Kp blk w1 wr) (fun vs vt _ => (intOf vt).toNat - (intOf vs).toNat)
    case atStart => exact ⟨lo, r0, rfl, rfl, Split.start hlr, HR, HB, Kp.refl _ _⟩
    case round =>
      obtain ⟨s, t, rfl, rfl, hsp, hRs, hBs, hKs⟩ := hrel
      have hb1 := hsp.hlo; have hb2 := hsp.hst; have hb3 := hsp.hhi
      have c0 := hBs.c0
      have c1 := hBs.c1
      have HSZ' : W.heap.size < wr.heap.size := by have := hKs.size; have := HSZ.out; omega
      by_cases hlt : s < t
      · obtain ⟨c, hc⟩ : ∃ c, (s + t) / 2 = c := ⟨_, rfl⟩
        have hdiv : ((s : Int) + (t : Int)) / 2 = (c : Nat) := by omega
        have hc1 : s ≤ c := by omega
        have hc2 : c < t := by omega
        obtain ⟨x1, x2, x3, x4⟩ := HSP.out.at (c := c) (by omega) (by omega)
        obtain ⟨x, hx⟩ : ∃ x, n' - 1 - c = x := ⟨_, rfl⟩
        have hxI : (p : Int) - (c : Int) = (x : Nat) := by have := HP.out; omega
        have hle := S.less _ _ x c hRs (by omega) (by omega)
        have hea' := HEA.out c x x1 x2 (by omega) (by omega)
        have HX := Lib.hid hx
        have HSS := Lib.hid hsp
        have HRI := Lib.hid (fun q => S.drew _ _ q hRs)
        have HBK := Lib.hid (fun q => Bx.keep hBs ((Kp.refl blk wr).drewN q) HSZ' (by omega))
        rw [hx] at x3 x4
        by_cases hlv : key (f x) < key (f c)
        · rw [decide_eq_true hlv] at hle
          have HLE := Lib.hid hle
          clear hle hRs hBs HR HB hc hx hsp
          have HLV := Lib.hid hlv; clear hlv
          go_wp2_with (go_at_fn g; refine HLE.out.mono ?_; rintro e w' ⟨rfl, q, rfl⟩)
          go_roundw
          case measure => simp [intOf]; omega
          case rel =>
          exact ⟨s, c, rfl, rfl, HSS.out.down HSP.out HSL.out HSR.out hc1 hc2 (by rw [HX.out]; exact .inl HLV.out), HRI.out q, HBK.out q, hKs.drewN q⟩
        · rw [decide_eq_false hlv] at hle
          have HLE := Lib.hid hle
          clear hle hRs hBs HR HB hc hx hsp
          have HLV := Lib.hid hlv; clear hlv
          go_wp2_with (go_at_fn g; refine HLE.out.mono ?_; rintro e w' ⟨rfl, q, rfl⟩)
          go_roundw
          case measure => simp [intOf]; omega
          case rel =>
          exact ⟨c + 1, t, rfl, rfl, HSS.out.up HSP.out HSL.out HSR.out hc1 hc2 (by rw [HX.out]; exact Tk.ge hea' (by have := HLV.out; omega)), HRI.out q, HBK.out q, hKs.drewN q⟩
      · have : s = t := by omega
        subst this
        obtain ⟨q1, q2, q3, q4, q5, q6, q7, q8, q9, l1, l2, l3, r1, r2, r3, hx⟩ := sym_split HSP.out hsp HSL.out HSR.out HEA.out
        obtain ⟨e, he⟩ : ∃ e, n' - s = e := ⟨_, rfl⟩
        rw [he] at q7 q8 q9 l1 l2 l3 r1 r2 r3 hx
        have heI : (n' : Int) - (s : Int) = (e : Nat) := by omega
        have HL := Lib.hid (And.intro l1 (And.intro l2 l3)); have HRR := Lib.hid (And.intro r1 (And.intro r2 r3)); have HX := Lib.hid hx
        clear l1 l2 l3 r1 r2 r3 hx HR HB hsp he hlt
        go_upto_if 145 with (fail)
        all_goals
          go_cut [22] (fun v wc2 => v = .int .i64 e ∧ R (rot f s m e) wc2 ∧ Sws a b f (rot f s m e) ∧ Bx W.heap.size (.func (.func g) #[] lb) (.func (.func sw) #[] sb) wc2 ∧ Kp blk w1 wc2)
          case first =>
            by_cases hrt : s < m ∧ m < e
            · obtain ⟨t1, t2⟩ := hrt
              have hc := rotate_any S hn f wr s m e hRs t1 t2 (by omega)
              first
              | (exfalso; omega)
              | (go_wp2_with fail
                 refine hc.mono ?_
                 rintro e' w2 ⟨rfl, hR2, hs2, hK2⟩
                 go_wp2
                 go_meet
                 case rel => exact ⟨rfl, hR2, hs2.mono q1 q8, hBs.keep hK2 HSZ' (by omega), hKs.trans hK2⟩)
            · have hsame : rot f s m e = f := by
                by_cases h : s = m
                · subst h; exact rot_same f _ _
                · have : m = e := by omega
                  subst this; exact rot_none f _ _
              have HSM := Lib.hid hsame
              clear hsame
              have hcase : s < m ∧ e ≤ m ∨ m ≤ s := by omega
              clear hrt
              rcases hcase with ⟨t1, t2⟩ | t1
              · first
                | (exfalso; omega)
                | (go_wp2
                   go_meet
                   case rel => rw [HSM.out]; exact ⟨rfl, hRs, .refl, hBs, hKs⟩)
              · first
                | (exfalso; omega)
                | (go_wp2
                   go_meet
                   case rel => rw [HSM.out]; exact ⟨rfl, hRs, .refl, hBs, hKs⟩)
          case rest =>
            obtain ⟨rfl, hR1, hS1, hB1, hK1⟩ := hcut
            have HSZ2 : W.heap.size < wc.heap.size := by have := hK1.size; have := HSZ.out; omega
            have HQ := Lib.hid (Sws.out (a := s) (b := e) (f := f) (g := rot f s m e))
            obtain ⟨F, hF⟩ : ∃ F, rot f s m e = F := ⟨_, rfl⟩
            rw [hF] at hR1 hS1
            have HF := Lib.hid hF
            clear hF hRs hBs hKs c0 c1 HSZ'
            go_upto_if 158 with (fail)
            all_goals
              go_cut [22] (fun v wc3 => v = .int .i64 e ∧ ∃ f2, R f2 wc3 ∧ Sws a mid F f2 ∧ Sor key ord f2 a mid ∧ Bx W.heap.size (.func (.func g) #[] lb) (.func (.func sw) #[] sb) wc3 ∧ Kp blk w1 wc3)
              case first =>
                have c0 := hB1.c0
                have c1 := hB1.c1
                have hLF : Hid (Sor key ord F a s ∧ Sor key ord F s mid ∧ Early ord F a s mid) := by rw [← HF.out]; exact HL
                by_cases hrt : a < s ∧ s < mid
                · obtain ⟨t1, t2⟩ := hrt
                  have hc := IH.out F wc a s mid (by omega) hR1 t1 t2 (by omega) hLF.out.1 hLF.out.2.1 hLF.out.2.2
                  first
                  | (exfalso; omega)
                  | (go_wp2_with fail
                     refine hc.mono ?_
                     rintro e' w2 ⟨rfl, f2, hR2, hs2, ho2, hK2⟩
                     go_wp2
                     go_meet
                     case rel => exact ⟨rfl, f2, hR2, hs2, ho2, hB1.keep hK2 HSZ2 (by omega), hK1.trans hK2⟩)
                · have hso : Hid (Sor key ord F a mid) := by
                    by_cases h : a = s
                    · subst h; exact Lib.hid hLF.out.2.1
                    · have : s = mid := by omega
                      subst this; exact Lib.hid hLF.out.1
                  have hcase : a < s ∧ mid ≤ s ∨ s ≤ a := by omega
                  clear hrt
                  rcases hcase with ⟨t1, t2⟩ | t1
                  · first
                    | (exfalso; omega)
                    | (go_wp2
                       go_meet
                       case rel => exact ⟨rfl, F, hR1, .refl, hso.out, hB1, hK1⟩)
                  · first
                    | (exfalso; omega)
                    | (go_wp2
                       go_meet
                       case rel => exact ⟨rfl, F, hR1, .refl, hso.out, hB1, hK1⟩)
              case rest =>
                obtain ⟨rfl, f2, hR2, hS2, ho2, hB2, hK2⟩ := hcut
                have c0 := hB2.c0
                have c1 := hB2.c1
                have HRF : Hid (Sor key ord F mid e ∧ Sor key ord F e b ∧ Early ord F mid e b) := by rw [← HF.out]; exact HRR
                have HXF : Hid (∀ i j, a ≤ i → i < mid → mid ≤ j → j < b → Tk key ord (F i) (F j)) := by rw [← HF.out]; exact HX
                have o1 := HRF.out.1.of_eq (g := f2) fun k k1 k2 => hS2.out k (by omega)
                have o2 := HRF.out.2.1.of_eq (g := f2) fun k k1 k2 => hS2.out k (by omega)
                have o3 := HRF.out.2.2.of_eqv (g := f2) fun k k1 k2 => hS2.out k (by omega)
                have fin : ∀ f3, Sws mid b f2 f3 → Sor key ord f3 mid b → Sws a b f f3 ∧ Sor key ord f3 a b := by
                  intro f3 s3 o3
                  refine ⟨(hS1.trans (hS2.mono (Nat.le_refl _) (by omega))).trans (s3.mono (by omega) (Nat.le_refl _)), ?_⟩
                  refine Sor.glue (m := mid) (f := F) (ho2.of_eq fun k k1 k2 => s3.out k (by omega)) o3 HXF.out (fun k k1 k2 => ?_) fun k k1 k2 => ?_
                  · obtain ⟨k', y1, y2, y3⟩ := hS2.mem k k1 k2
                    exact ⟨k', y1, y2, by rw [s3.out k (by omega), y3]⟩
                  · obtain ⟨k', y1, y2, y3⟩ := s3.mem k k1 k2
                    exact ⟨k', y1, y2, by rw [y3, hS2.out k' (by omega)]⟩
                have FIN := Lib.hid fin
                clear fin
                by_cases hrt : mid < e ∧ e < b
                · obtain ⟨t1, t2⟩ := hrt
                  have hc := IH.out f2 wc mid e b (by omega) hR2 t1 t2 h3 o1 o2 o3
                  clear o1 o2 o3
                  go_wp2_with fail
                  refine hc.mono ?_
                  rintro e' w2 ⟨rfl, f3, hR3, hs3, ho3, hK3⟩
                  go_wp2
                  first | go_end0 | refine bodyPost_ret (results_none rfl _ _ _) rfl ?_
                  exact ⟨rfl, f3, hR3, (FIN.out f3 hs3 ho3).1, (FIN.out f3 hs3 ho3).2, HK.trans (hK2.trans hK3)⟩
                · have hso : Sor key ord f2 mid b := by
                    by_cases h : mid = e
                    · rw [h]; exact o2
                    · have : e = b := by omega
                      rw [← this]; exact o1
                  have hfin := Lib.hid (FIN.out f2 .refl hso)
                  have hcase : mid < e ∧ b ≤ e ∨ e ≤ mid := by omega
                  clear hrt o1 o2 o3 hso
                  rcases hcase with ⟨t1, t2⟩ | t1
                  · first
                    | (exfalso; omega)
                    | (go_wp2
                       first | go_end0 | refine bodyPost_ret (results_none rfl _ _ _) rfl ?_
                       exact ⟨rfl, f2, hR2, hfin.out.1, hfin.out.2, HK.trans hK2⟩)
                  · first
                    | (exfalso; omega)
                    | (go_wp2
                       first | go_end0 | refine bodyPost_ret (results_none rfl _ _ _) rfl ?_
                       exact ⟨rfl, f2, hR2, hfin.out.1, hfin.out.2, HK.trans hK2⟩)
end
end Go.Proofs.Ythecibabpcfoaaa
