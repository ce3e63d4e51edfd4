/- block: the reference's Weave; Pack. -/
import Derived.Test.YtfbhiaoodompdaaBloI
import Derived.Deep.RegionHeld3
namespace Go.Proofs.Ytfbhiaoodompdaa
open Go.RowKit
set_option maxRecDepth 100000
set_option maxHeartbeats 1600000

theorem qweaveBk_any (b : Int) (v : Value) (rs : List (List Int)) (w : World) (B : Nat) (hR : Rws w B v rs) (hB : B ≤ w.heap.size) :
    Calls Try.prog 24 #[.agg #[.int .i64 b, v]] w fun e w' => ∃ v', e = .returned v' ∧ Own w' w.heap.size 3 v' (ci (weaveR b rs)) ∧ Below w.heap.size w w' := by
  replace hR := hR.more hB
  obtain ⟨A, c, rfl, hlc, hcm⟩ := hR.form
  obtain ⟨wA, hwA⟩ : ∃ wA, w.alloc (.cells #[.int .i64 b, .slice A rs.length c] 26) = wA := ⟨_, rfl⟩
  have hX := Bx.start (b := b) hR
  rw [hwA] at hX
  have hmay := fun (w1 : World) (h : Bx w w1 w.heap.size b (.slice A rs.length c) rs) => qmayBk_any b _ rs w1 w.heap.size h.r h.size
  have hlen := fun (w1 : World) (h : Bx w w1 w.heap.size b (.slice A rs.length c) rs) => qlenBk_any b _ rs w1 w.heap.size h.r h.size
  have hwv : weaveR b rs = if mayBk b rs = true then weaveB rs (lenB rs) else [] := rfl
  have HWA := Lib.hid hwA; have HMAY := Lib.hid hmay; have HLEN := Lib.hid hlen
  clear hwA hmay hlen
  by_cases hm : mayBk b rs = true
  · have M := mayBk_of hm
    rw [if_pos hm] at hwv
    rw [hm] at HMAY
    rw [hwv]
    obtain ⟨n, hn⟩ : ∃ n, lenB rs = n := ⟨_, rfl⟩
    rw [hn] at M HLEN ⊢
    obtain ⟨m, hml⟩ : ∃ m, rs.length = m := ⟨_, rfl⟩
    rw [hml] at hX HMAY HLEN HWA hlc hR ⊢
    have hm8 : 1 ≤ m ∧ m ≤ 8 := by have := M.chans; omega
    have hn8 := M.size
    have HM := Lib.hid M; have HML := Lib.hid hml
    clear hwv hm M hn hml hR
    go_enter Try.func24, Try.ntmps24
    go_wp2_with fail
    rw [HWA.out]
    have x0 := hX.c0
    have x1 := hX.c1
    go_wp2_with fail
    refine (HMAY.out _ hX).mono ?_
    rintro e w1 ⟨rfl, hb1⟩
    have hX1 := hX.on hb1
    clear x0 x1 hX
    have x0 := hX1.c0
    have x1 := hX1.c1
    go_wp2
    clear x0 x1
    go_loopw [3, 4] (fun l ii wr => ∃ i : Nat, i ≤ n ∧ ii = .int .i64 i ∧ Own wr w1.heap.size 3 l (ci (weaveB rs i)) ∧ Below w1.heap.size w1 wr) (fun _ ii _ => n - (intOf ii).toNat)
    case atStart => exact ⟨0, Nat.zero_le _, rfl, Own.nil _ _ _, Below.refl _ _⟩
    case round =>
      obtain ⟨i, hi, rfl, ho, hb⟩ := hrel
      have hX4 := hX1.on hb
      have x0 := hX4.c0
      have x1 := hX4.c1
      by_cases hlt : i < n
      · have hst := weaveB_succ rs i
        have hsm := weaveB_small HM.out i (by omega)
        have HST := Lib.hid hst; have HSM := Lib.hid hsm
        clear hst hsm
        go_wp2_with (go_at_call 21; refine (HLEN.out _ hX4).mono ?_; rintro e w5 ⟨rfl, hb5⟩; refine cut_here ?_)
        have hX5 := hX4.on hb5
        have ho5 := ho.kept hb5
        have hb15 := bthen hb hb5 hb.size
        clear x0 x1 ho hb hb5 hX4
        unfold CutHere
        go_wp2
        go_loopw [3, 5] (fun l kk wr => ∃ k : Nat, k ≤ m ∧ kk = .int .i64 k ∧ Own wr w1.heap.size 3 l (ci (weaveB rs i ++ (colB rs i).take k)) ∧ Below w1.heap.size w1 wr) (fun _ kk _ => m - (intOf kk).toNat)
        case atStart => exact ⟨0, Nat.zero_le _, rfl, by simpa using ho5, hb15⟩
        case round =>
          clear ho5 hb15 hX5
          obtain ⟨k, hk, rfl, ho, hb⟩ := hrel
          have hX4 := hX1.on hb
          have x1 := hX4.c1
          by_cases hkm : k < m
          · have hkl : k < rs.length := by rw [HML.out]; exact hkm
            obtain ⟨b2, o, A', c', rfl, hb2, hcell, hS, g1, g2⟩ := hX4.r.get hkl
            have hrn := HM.out.rows _ (List.getElem_mem hkl)
            rw [hrn] at hcell hS g1
            have hil : i < rs[k].length := by rw [hrn]; exact hlt
            obtain ⟨b5, o5, rfl, hb5, hc5⟩ := hS.atI hil
            have hcs : weaveB rs i ++ (colB rs i).take (k + 1) = (weaveB rs i ++ (colB rs i).take k) ++ [rs[k][i]] := by
              rw [List.append_assoc, List.take_succ_eq_append_getElem (by rw [colB_len]; exact hkl)]
              simp [colB, hil]
            have hlen : (ci (weaveB rs i ++ (colB rs i).take k)).length + 1 ≤ 8796093022208 := by
              have h1 := HSM.out
              have h2 : ((colB rs i).take k).length ≤ 8 := by rw [List.length_take, colB_len, HML.out]; omega
              rw [ci_len, List.length_append]; omega
            have HCS := Lib.hid hcs; have HLN := Lib.hid hlen
            clear hcs hlen hS hX4 hrn
            generalize rs[k][i] = x at *
            have hltI : (i : Int) < (n : Int) := by omega
            go_wp2_with (at_builtin; refine wpl_app1 ho hb.size HLN.out Try.underlying37 info_int rfl (by decide) rfl rfl rfl rfl rfl (h := ?_); intro v5 w5 ho5 hb5)
            exact ⟨⟨k + 1, by omega, by simp, by rw [HCS.out, ci_app]; exact ho5, hb.trans hb5⟩, by simp [intOf]; omega⟩
          · have hkk : k = rs.length := by rw [HML.out]; omega
            rw [hkk, List.take_of_length_le (by rw [colB_len]; exact Nat.le_refl _), ← HST.out] at ho
            go_wp2
            exact ⟨⟨i + 1, by omega, by simp, ho, hb⟩, by simp [intOf]; omega⟩
      · have hin : i = n := by omega
        subst hin
        go_wp2_with (go_at_call 21; refine (HLEN.out _ hX4).mono ?_; rintro e w5 ⟨rfl, hb5⟩; refine cut_here ?_)
        have ho5 := ho.kept hb5
        have hb15 := bthen hb hb5 hb.size
        clear x0 x1 ho hb hb5 hX4
        unfold CutHere
        go_wp2
        go_ret
        exact ⟨_, rfl, ho5.mono hX1.size, hX1.be.trans (hb15.mono hX1.size)⟩
  · rw [if_neg hm] at hwv
    rw [Bool.eq_false_iff.2 hm] at HMAY
    rw [hwv]
    clear hwv hR hm
    go_enter Try.func24, Try.ntmps24
    go_wp2_with fail
    rw [HWA.out]
    have x0 := hX.c0
    have x1 := hX.c1
    go_wp2_with fail
    refine (HMAY.out _ hX).mono ?_
    rintro e w1 ⟨rfl, hb1⟩
    have hX1 := hX.on hb1
    clear x0 x1 hX
    go_wp2
    go_ret
    exact ⟨_, rfl, Own.nil _ _ _, hX1.be⟩

theorem weaveR_len (b : Int) (rs : List (List Int)) : (weaveR b rs).length ≤ 1099511627776 := by
  unfold weaveR; split
  · next h => have := weaveB_small (mayBk_of h) (lenB rs) (Nat.le_refl _); omega
  · simp
theorem packBk_any (b : Int) (v : Value) (rs : List (List Int)) (w : World) (B : Nat) (hR : Rws w B v rs) (hB : B ≤ w.heap.size) :
    Calls Try.prog 14 #[.agg #[.int .i64 b, v]] w (BytePost (packBl b rs) w) := by
  replace hR := hR.more hB
  obtain ⟨A, c, rfl, hlc, hcm⟩ := hR.form
  obtain ⟨wA, hwA⟩ : ∃ wA, w.alloc (.cells #[.int .i64 b, .slice A rs.length c] 26) = wA := ⟨_, rfl⟩
  have hX := Bx.start (b := b) hR
  rw [hwA] at hX
  have hmay := fun (w1 : World) (h : Bx w w1 w.heap.size b (.slice A rs.length c) rs) => mayBk_any b _ rs w1 w.heap.size h.r h.size
  have hwe := fun (w1 : World) (h : Bx w w1 w.heap.size b (.slice A rs.length c) rs) => weaveBk_any b _ rs w1 w.heap.size h.r h.size
  have hpk := fun (w1 : World) (v : Value) (h : Sli w1 w1.heap.size v (ci (weaveR b rs))) => pack_any v _ b w1 _ h (Nat.le_refl _) (weaveR_len b rs)
  have HWA := Lib.hid hwA; have HMAY := Lib.hid hmay
  clear hwA hmay
  by_cases hm : mayBk b rs = true
  · have hw : weaveR b rs = weaveB rs (lenB rs) := by unfold weaveR; rw [if_pos hm]
    have hpi := packBl_is hm
    rw [← hw] at hpi
    rw [hpi] at hpk
    rw [hm] at HMAY
    have HWE := Lib.hid hwe; have HPK := Lib.hid hpk
    clear hm hw hpi hwe hpk hR
    generalize packBl b rs = r at *
    go_enter Try.func14, Try.ntmps14
    go_wp2_with fail
    rw [HWA.out]
    have x0 := hX.c0
    have x1 := hX.c1
    go_wp2_with fail
    refine (HMAY.out _ hX).mono ?_
    rintro e w1 ⟨rfl, hb1⟩
    have hX1 := hX.on hb1
    clear x0 x1 hX
    have hX1d := hX1.drew
    have x0 := hX1.c0
    have x1 := hX1.c1
    go_wp2
    go_region_held3 (fun w' => w'.cell? ⟨w.heap.size, 0, none⟩ = some (.int .i64 b) ∧ w'.cell? ⟨w.heap.size, 1, none⟩ = some (.slice A rs.length c))
      (first | go_keep | exact ⟨hX2.c0, hX2.c1⟩ | exact ⟨hX3.c0, hX3.c1⟩)
      (first
        | (go_at_call 23; refine (HWE.out _ hX1d).mono ?_; rintro e w2 ⟨v2, rfl, ho2, hb2⟩; have hX2 := hX1d.on hb2)
        | (go_at_call 39; refine (HPK.out _ _ ho2.sli).mono ?_; rintro e w3 ⟨v3, rfl, ho3, hb3⟩; have hX3 := hX2.on hb3))
    all_goals
      go_wp2
      go_ret2
      exact ⟨_, rfl, ho3.mono hX2.size, hX3.be⟩
  · have hr : packBl b rs = ([], 1) := by unfold packBl; rw [if_neg hm]
    rw [Bool.eq_false_iff.2 hm] at HMAY
    rw [hr]
    clear hm hr hwe hpk hR
    go_enter Try.func14, Try.ntmps14
    go_wp2_with fail
    rw [HWA.out]
    have x0 := hX.c0
    have x1 := hX.c1
    go_wp2_with fail
    refine (HMAY.out _ hX).mono ?_
    rintro e w1 ⟨rfl, hb1⟩
    have hX1 := hX.on hb1
    clear x0 x1 hX
    go_wp2
    go_ret2
    exact ⟨_, rfl, Own.nil _ _ _, hX1.be⟩
end Go.Proofs.Ytfbhiaoodompdaa
