/- sample: Pack, Unpack. -/
import Derived.Test.YtfbhiaoodompdaaSmpD
import Derived.Test.YtfbhiaoodompdaaOctN
import Derived.Test.YtfbhiaoodompdaaFoot
namespace Go.Proofs.Ytfbhiaoodompdaa
open Go.RowKit
set_option maxRecDepth 100000
set_option maxHeartbeats 400000

def pk (s : Nat) (x : Int) : List Nat := leB s (u64I x)
def packR (l : List Int) (b : Int) : List Nat × Int :=
  if packB b = true then (if l.all (fun x => fitsB x b) = true then (l.flatMap (pk (szOf b)), 0) else ([], 6)) else ([], 1)
theorem pks_len (s : Nat) (l : List Int) : (l.flatMap (pk s)).length = l.length * s := by
  induction l with
  | nil => simp
  | cons x l ih => rw [List.flatMap_cons, List.length_append, ih, List.length_cons, Nat.succ_mul]; simp only [pk, leB_len]; omega
theorem clamp_sz {s : Nat} (h : s = 1 ∨ s = 2 ∨ s = 3) : clampN (s : Int) = s := by rcases h with rfl | rfl | rfl <;> rfl

theorem pack_any (v : Value) (l : List Int) (n : Int) (w : World) (B : Nat) (hS : Sli w B v (ci l)) (hB : B ≤ w.heap.size) (hn : l.length ≤ 1099511627776) :
    Calls Try.prog 39 #[v, .int .i64 n] w (BytePost (packR l n) w) := by
  obtain ⟨A, c, rfl, hlc, hcm⟩ := hS.formI
  have hs := fun w => isPacked_any n w
  by_cases hsn : packB n = true
  · rw [hsn] at hs
    have hbad : l.all (fun x => fitsB x n) = false → packR l n = ([], 6) := fun h => by unfold packR; rw [if_pos hsn, if_neg (by rw [h]; simp)]
    have hgood : l.all (fun x => fitsB x n) = true → packR l n = (l.flatMap (pk (szOf n)), 0) := fun h => by unfold packR; rw [if_pos hsn, if_pos h]
    have hsz := szOf_cases hsn
    have hby := fun w => bytesOf_any n w hsn
    have hcl := clamp_sz hsz
    generalize szOf n = s at *
    have HS := Lib.hid hs; have HBAD := Lib.hid hbad; have HGOOD := Lib.hid hgood; have HBY := Lib.hid hby; have HCL := Lib.hid hcl
    clear hs hbad hgood hsn hby hcl
    generalize packR l n = r at *
    obtain ⟨m, hml⟩ : ∃ m, l.length = m := ⟨_, rfl⟩
    rw [hml] at hS hlc hn ⊢
    have HML := Lib.hid hml
    clear hml
    have hsm : s * m ≤ 3298534883328 := by rcases hsz with rfl | rfl | rfl <;> omega
    have hsI : (s : Int) * (m : Int) = ((s * m : Nat) : Int) := by simp
    generalize s * m = sm at hsm hsI
    go_enter Try.func39, Try.ntmps39
    go_wp2_with (first
      | (go_at_call 53; refine (HS.out _).mono ?_; rintro e w1 ⟨rfl, rfl⟩)
      | (go_at_call 54; refine (HBY.out _).mono ?_; rintro e w1 ⟨rfl, rfl⟩)
      | (at_make; refine wpl_make0 Try.underlying29 info_u8 (by decide) (by omega) rfl rfl rfl rfl rfl (n := sm) (h := ?_); intro w2 ho2 hb2; refine cut_here ?_))
    unfold CutHere
    obtain ⟨G, hG⟩ : ∃ G, w.heap.size = G := ⟨_, rfl⟩
    have HG := Lib.hid hG
    rw [hG] at ho2 hb2 hB ⊢
    clear hG
    go_wp2
    go_loopw [7, 22] (fun v ii wr => ∃ i : Nat, i ≤ m ∧ ii = .int .i64 i ∧ Own wr G 5 v (cu8 ((l.take i).flatMap (pk s))) ∧ Below G w wr ∧ Hid ((l.take i).all (fun x => fitsB x n) = true)) (fun _ ii _ => m - (intOf ii).toNat)
    case atStart => exact ⟨0, by omega, rfl, by simpa [cu8] using ho2, hb2, rfl⟩
    case round =>
      obtain ⟨i, hi, rfl, ho, hb, hall⟩ := hrel
      by_cases him : i < m
      · have hil : i < l.length := by rw [HML.out]; exact him
        obtain ⟨b, o, rfl, hb1, hcell⟩ := (hS.below (hb.mono hB)).atI hil
        have htk : (l.take (i + 1)).all (fun x => fitsB x n) = ((l.take i).all (fun x => fitsB x n) && fitsB l[i] n) := by rw [List.take_succ_eq_append_getElem hil, List.all_append]; simp only [List.all_cons, List.all_nil, Bool.and_true]
        have hno : fitsB l[i] n = false → l.all (fun x => fitsB x n) = false := fun h => List.all_eq_false.2 ⟨l[i], List.getElem_mem _, by rw [h]; simp⟩
        have hmp : cu8 ((l.take i).flatMap (pk s)) ++ cu8 (pk s l[i]) = cu8 ((l.take (i + 1)).flatMap (pk s)) := by
          rw [List.take_succ_eq_append_getElem hil, List.flatMap_append, cu8_app]; simp
        have hlen : (cu8 ((l.take i).flatMap (pk s))).length ≤ 3298534883328 := by
          rw [cu8_len, pks_len, List.length_take]
          have : min i l.length ≤ 1099511627776 := by omega
          rcases hsz with rfl | rfl | rfl <;> omega
        have HT := Lib.hid htk; have HNO := Lib.hid hno; have HMP := Lib.hid hmp; have HLEN := Lib.hid hlen; clear htk hno hmp hlen
        generalize l[i] = x at *
        clear hil
        have hx := fun w => fits_any x n w
        have hx64 := u64I_cast x
        have hps : pk s x = leB s (u64I x) := rfl
        have hxl := u64I_lt x
        generalize u64I x = y at *
        have HPS := Lib.hid hps; have HX64 := Lib.hid hx64; clear hx64
        cases hwx : fitsB x n
        · rw [hwx] at hx
          have hf := Lib.hid (HNO.out hwx)
          have HX := Lib.hid hx
          clear hx hwx hps
          go_wp2_with (go_at_call 55; refine (HX.out _).mono ?_; rintro e w1 ⟨rfl, rfl⟩)
          go_ret2
          rw [HBAD.out hf.out]
          exact ⟨_, rfl, Own.nil _ _ _, by rw [HG.out]; exact hb⟩
        · rw [hwx] at hx
          have ht := Lib.hid (HT.out.trans (by rw [hall.out, hwx, Bool.true_and]))
          have HX := Lib.hid hx
          clear hx hwx hps
          go_wp2_with (first
            | (go_at_call 55; refine (HX.out _).mono ?_; rintro e w1 ⟨rfl, rfl⟩)
            | (go_at_call 56; go_loud (rw [HX64.out]; refine (osmall_any y s _ hxl).mono ?_; rw [HCL.out]; rintro e w3 ⟨g3, c3, rfl, ho3, hb3⟩; have ho' := ho.kept hb3; have hB3 : Below G w w3 := hb.trans (hb3.mono (by have := hb.size; have := HG.out; omega)); have hone := cu8_one (leB s y); have hroom : (cu8 ((l.take i).flatMap (pk s))).length + (cu8 (leB s y)).length ≤ 8796093022208 := by (have h1 := HLEN.out; rw [cu8_len (leB s y), leB_len]; omega)))
            | (at_builtin; go_loud (refine wpl_appN ho' ho3.sli (by have := hB3.size; have := HG.out; omega) hroom Try.underlying29 info_u8 rfl (by decide) hone rfl rfl rfl rfl (h := ?_)); intro v4 w4 ho4 hb4))
          rw [← HPS.out, HMP.out] at ho4
          exact ⟨⟨i + 1, by omega, by simp, ho4, hB3.trans hb4, ht⟩, by simp [intOf]; omega⟩
      · go_wp2
        go_ret2
        have h1 : i = l.length := by rw [HML.out]; omega
        rw [h1, List.take_length] at ho hall
        rw [HGOOD.out hall.out]
        exact ⟨_, rfl, by rw [HG.out]; exact ho, by rw [HG.out]; exact hb⟩
  · have hr : packR l n = ([], 1) := by unfold packR; rw [if_neg hsn]
    rw [Bool.eq_false_iff.2 hsn] at hs
    have HS := Lib.hid hs
    rw [hr]
    clear hs hr hsn
    go_enter Try.func39, Try.ntmps39
    go_wp2_with (go_at_call 53; refine (HS.out _).mono ?_; rintro e w1 ⟨rfl, rfl⟩)
    go_ret2
    exact ⟨_, rfl, Own.nil _ _ _, Below.refl _ _⟩

/-- The i-th sample of s bytes. -/
def chunk (s : Nat) (l : List Nat) (i : Nat) : Int := sgnS s (leV ((l.drop (i * s)).take s))
def unpk (s : Nat) (l : List Nat) : List Int := (List.range (l.length / s)).map (chunk s l)
def unpackR (l : List Nat) (b : Int) : List Int × Int :=
  if packB b = true then (if l.length % szOf b = 0 then (if (unpk (szOf b) l).all (fun x => fitsB x b) = true then (unpk (szOf b) l, 0) else ([], 6)) else ([], 3)) else ([], 1)
theorem unpk_len (s : Nat) (l : List Nat) : (unpk s l).length = l.length / s := by simp [unpk]
theorem unpk_at {s i : Nat} {l : List Nat} (h : i < l.length / s) : (unpk s l)[i]? = some (chunk s l i) := by simp [unpk, h]
theorem take_chunk {s i n : Nat} {l : List Nat} (hn : l.length = n * s) (h : i < n) : rdTake l (i * s) 0 s = ((l.drop (i * s)).take s, (i + 1) * s, 0) := by
  have h1 : (i + 1) * s ≤ n * s := Nat.mul_le_mul_right _ h
  rw [Nat.succ_mul] at h1
  unfold rdTake
  rw [if_pos rfl, if_neg (by omega), Nat.succ_mul]

theorem unpack_any (v : Value) (l : List Nat) (n : Int) (w : World) (B : Nat) (hS : Sli w B v (cu8 l)) (hB : B ≤ w.heap.size) (hx : ∀ x ∈ l, x < 256) (hn : l.length ≤ 1099511627776) :
    Calls Try.prog 48 #[v, .int .i64 n] w (RowPost (unpackR l n) w) := by
  obtain ⟨A, c, rfl, hlc, hcm⟩ := hS.form8
  have hs := fun w => isPacked_any n w
  by_cases hsn : packB n = true
  · rw [hsn] at hs
    have hsz := szOf_cases hsn
    have hby := fun w => bytesOf_any n w hsn
    have hcl := clamp_sz hsz
    have hdef : unpackR l n = (if l.length % szOf n = 0 then (if (unpk (szOf n) l).all (fun x => fitsB x n) = true then (unpk (szOf n) l, 0) else ([], 6)) else ([], 3)) := by unfold unpackR; rw [if_pos hsn]
    generalize szOf n = s at *
    obtain ⟨m, hml⟩ : ∃ m, l.length = m := ⟨_, rfl⟩
    have HS := Lib.hid hs; have HBY := Lib.hid hby; have HCL := Lib.hid hcl
    clear hs hby hcl
    by_cases hrem : m % s = 0
    · have hbad : (unpk s l).all (fun x => fitsB x n) = false → unpackR l n = ([], 6) := fun h => by rw [hdef, if_pos (by rw [hml]; exact hrem), if_neg (by rw [h]; simp)]
      have hgood : (unpk s l).all (fun x => fitsB x n) = true → unpackR l n = (unpk s l, 0) := fun h => by rw [hdef, if_pos (by rw [hml]; exact hrem), if_pos h]
      have HBAD := Lib.hid hbad; have HGOOD := Lib.hid hgood
      obtain ⟨q, hq⟩ : ∃ q, m / s = q := ⟨_, rfl⟩
      have hmq : m = q * s := by rw [← hq]; exact (Nat.div_mul_cancel (Nat.dvd_of_mod_eq_zero hrem)).symm
      have hqm : q ≤ m := by rw [← hq]; exact Nat.div_le_self _ _
      have hun := unpk_len s l
      rw [hml, hq] at hun
      have HUN := Lib.hid hun; have HMQ := Lib.hid hmq; have HML := Lib.hid hml
      have HR := Lib.hid hrem; have HQ := Lib.hid hq
      rw [hml] at hS hlc hn ⊢
      have hremI : ((m : Int) % (s : Int) != 0) = false := by rw [← Int.natCast_emod, hrem]; rfl
      have hdivI : (m : Int) / (s : Int) = (q : Int) := by rw [← Int.natCast_ediv, hq]
      clear hbad hgood hdef hsn hrem hq hun hmq hml
      generalize unpackR l n = r at *
      go_enter Try.func48, Try.ntmps48
      go_wp2_with (first
        | (go_at_call 53; refine (HS.out _).mono ?_; rintro e w1 ⟨rfl, rfl⟩)
        | (go_at_call 54; refine (HBY.out _).mono ?_; rintro e w1 ⟨rfl, rfl⟩)
        | (at_make; refine wpl_make Try.underlying37 info_int rfl (by decide) (by omega) rfl rfl rfl rfl (n := q) (h := ?_); intro w2 ho2 hb2; refine cut_here ?_))
      obtain ⟨G, hG⟩ : ∃ G, w.heap.size = G := ⟨_, rfl⟩
      have HG := Lib.hid hG
      rw [hG] at ho2 hb2 hB ⊢
      clear hG
      have hS2 := (hS.below (hb2.mono hB)).more (Nat.le_trans hB (by have := hb2.size; have := HG.out; omega : G ≤ w2.heap.size))
      have HNEW := Lib.hid (new_any _ l w2 hS2 hx (by rw [HML.out]; exact hn))
      clear hS2
      unfold CutHere
      go_wp2_with (go_at_call 63; refine HNEW.out.mono ?_; rintro e w3 ⟨g, rfl, hR3, hg3, hb3⟩; refine cut_here ?_)
      have ho3 := ho2.kept hb3
      have hb23 : Below G w w3 := hb2.trans (hb3.mono (by have := hb2.size; have := HG.out; omega))
      have hgG : G < g := by
        have := ho2.lt G rfl
        omega
      unfold CutHere
      clear ho2 hb2 hb3 hg3 HNEW
      go_wp2
      go_loopw [30] (fun ii wr => ∃ i : Nat, i ≤ q ∧ ii = .int .i64 i ∧ Own wr G 3 (.slice (some ⟨G, 0, none⟩) q q) (ci ((unpk s l).take i ++ List.replicate (q - i) 0)) ∧ Below G w wr ∧ Hid (((unpk s l).take i).all (fun x => fitsB x n) = true) ∧ RdO wr g l (i * s) 0) (fun ii _ => q - (intOf ii).toNat)
      case atStart => exact ⟨0, by omega, rfl, by simpa [ci] using ho3, hb23, rfl, by simpa using hR3⟩
      case round =>
        clear ho3 hb23 hR3
        obtain ⟨i, hi, rfl, ho, hb, hall, hR⟩ := hrel
        by_cases hiq : i < q
        · have hqd : i < l.length / s := by rw [HML.out, HQ.out]; exact hiq
          have hat := unpk_at hqd
          have hil : i < (unpk s l).length := by rw [HUN.out]; exact hiq
          have htc := take_chunk (by rw [HML.out]; exact HMQ.out) hiq
          have hsm := rsmall_any hR (s : Int)
          rw [HCL.out, htc] at hsm
          simp only at hsm
          have hy : leV ((l.drop (i * s)).take s) < 2 ^ (8 * s) := by
            have h1 := leV_lt ((l.drop (i * s)).take s) (fun x h => hx x (List.mem_of_mem_drop (List.mem_of_mem_take h)))
            have h2 : ((l.drop (i * s)).take s).length ≤ s := by rw [List.length_take]; omega
            have h3 : 256 ^ ((l.drop (i * s)).take s).length ≤ 256 ^ s := Nat.pow_le_pow_right (by omega) h2
            rw [Nat.pow_mul]
            exact Nat.lt_of_lt_of_le h1 h3
          have hck : chunk s l i = sgnS s (leV ((l.drop (i * s)).take s)) := rfl
          generalize leV ((l.drop (i * s)).take s) = y at *
          have hsg := fun w => signed_any y s w hsz hy
          rw [← hck] at hsg
          generalize chunk s l i = x at *
          have hge : (unpk s l)[i] = x := by rw [List.getElem?_eq_getElem hil] at hat; injection hat
          have htk : ((unpk s l).take (i + 1)).all (fun x => fitsB x n) = (((unpk s l).take i).all (fun x => fitsB x n) && fitsB x n) := by rw [List.take_succ_eq_append_getElem hil, List.all_append, hge]; simp only [List.all_cons, List.all_nil, Bool.and_true]
          have hno : fitsB x n = false → (unpk s l).all (fun x => fitsB x n) = false := fun h => List.all_eq_false.2 ⟨x, by rw [← hge]; exact List.getElem_mem _, by rw [h]; simp⟩
          have HT := Lib.hid htk; have HNO := Lib.hid hno; have HAT := Lib.hid hat; have HSG := Lib.hid hsg; have HSM := Lib.hid hsm
          clear htk hno hat hsg hsm hy hck hge hil hqd htc
          have hfx := fun w => fits_any x n w
          cases hwx : fitsB x n
          · rw [hwx] at hfx
            have hf := Lib.hid (HNO.out hwx)
            have HX := Lib.hid hfx
            clear hfx hwx
            go_wp2_with (first
              | (go_at_call 65; refine HSM.out.mono ?_; rintro e w4 ⟨rfl, hR4, hg4⟩)
              | (go_at_call 64; refine (HSG.out _).mono ?_; rintro e w5 ⟨rfl, rfl⟩)
              | (go_at_call 55; refine (HX.out _).mono ?_; rintro e w5 ⟨rfl, rfl⟩))
            go_ret2
            rw [HBAD.out hf.out]
            exact ⟨_, rfl, Own.nil _ _ _, by rw [HG.out]; exact hb.trans (below_of_only hg4 (by omega) (by have := hb.size; have := HG.out; omega))⟩
          · rw [hwx] at hfx
            have ht := Lib.hid (HT.out.trans (by rw [hall.out, hwx, Bool.true_and]))
            have HX := Lib.hid hfx
            clear hfx hwx
            go_wp2_with (go_at_call 65; refine HSM.out.mono ?_; rintro e w4 ⟨rfl, hR4, hg4⟩; refine cut_here ?_)
            obtain ⟨cs, hblk⟩ := hR.blk
            have ho4 := ho.far hblk (by decide) hg4
            obtain ⟨cs4, hblk4⟩ := ho4.blk (k := G) rfl
            have hR5 := fun u => hR4.only hblk4 (by decide) (grown_set w4 G i u) (by omega)
            have hb4 : Below G w w4 := hb.trans (below_of_only hg4 (by omega) (by have := hb.size; have := HG.out; omega))
            obtain ⟨g2, cc, hv, hg2, _, _, hcells, hfro, hset⟩ := ho4.at_ (by rw [fillI_len HUN.out hi]; omega)
            injection hv with e1 e2 e3
            injection e1 with e1; injection e1 with e1
            subst e1; subst e3
            have hck := hcells i (by rw [fillI_len HUN.out hi]; exact hiq)
            rw [fillI_get HUN.out hiq] at hck
            have hst := hset i (.int .i64 x)
            rw [fillI_set HUN.out hiq HAT.out] at hst
            have HST := Lib.hid hst; have HR5 := Lib.hid hR5
            have hfi := hfro i
            clear hcells hfro hset hst e2 hblk hblk4 hR5
            unfold CutHere
            go_wp2_with (first
              | (go_at_call 64; refine (HSG.out _).mono ?_; rintro e w5 ⟨rfl, rfl⟩)
              | (go_at_call 55; refine (HX.out _).mono ?_; rintro e w5 ⟨rfl, rfl⟩))
            exact ⟨⟨i + 1, by omega, by simp, HST.out, hb4.setCell (p := ⟨G, i, none⟩) (Nat.le_refl _) _, ht, HR5.out _⟩, by simp [intOf]; omega⟩
        · go_wp2
          go_ret2
          have h1 : i = (unpk s l).length := by rw [HUN.out]; omega
          have h3 : (unpk s l).take i ++ List.replicate (q - i) 0 = unpk s l := by
            rw [show q - i = 0 by omega, List.replicate_zero, List.append_nil, h1, List.take_length]
          rw [h3] at ho
          rw [h1, List.take_length] at hall
          rw [HGOOD.out hall.out]
          exact ⟨_, rfl, by rw [HG.out]; exact ho, by rw [HG.out]; exact hb⟩
    · have hr : unpackR l n = ([], 3) := by rw [hdef, if_neg (by rw [hml]; exact hrem)]
      rw [hml] at hS hlc hn ⊢
      rw [hr]
      have hremI : ((m : Int) % (s : Int) != 0) = true := by
        rw [← Int.natCast_emod, bne_iff_ne]; omega
      clear hr hdef hml hsn hrem
      go_enter Try.func48, Try.ntmps48
      go_wp2_with (first
        | (go_at_call 53; refine (HS.out _).mono ?_; rintro e w1 ⟨rfl, rfl⟩)
        | (go_at_call 54; refine (HBY.out _).mono ?_; rintro e w1 ⟨rfl, rfl⟩))
      go_ret2
      exact ⟨_, rfl, Own.nil _ _ _, Below.refl _ _⟩
  · have hr : unpackR l n = ([], 1) := by unfold unpackR; rw [if_neg hsn]
    rw [Bool.eq_false_iff.2 hsn] at hs
    have HS := Lib.hid hs
    rw [hr]
    clear hs hr hsn
    go_enter Try.func48, Try.ntmps48
    go_wp2_with (go_at_call 53; refine (HS.out _).mono ?_; rintro e w1 ⟨rfl, rfl⟩)
    go_ret2
    exact ⟨_, rfl, Own.nil _ _ _, Below.refl _ _⟩
end Go.Proofs.Ytfbhiaoodompdaa
