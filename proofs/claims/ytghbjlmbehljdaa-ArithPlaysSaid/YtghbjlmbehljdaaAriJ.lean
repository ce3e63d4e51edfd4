/- arith: a number is decoded. -/
import Derived.Test.YtghbjlmbehljdaaAriI
namespace Go.Proofs.Ytghbjlmbehljdaa
open Go.RowKit
set_option maxRecDepth 100000
set_option maxHeartbeats 16000000

theorem dones_s (c : Int) (s : De) (d f : Nat) : dones c s d (f + 1) = if (dget s (c + d)).2 = 1 then dones c (dget s (c + d)).1 (d + 1) f else ((dget s (c + d)).1, d) := rfl
theorem dnum_any {w : World} {F : Nat → Prop} {g n : Nat} {s : De} (hD : DeO w F g s) (hK : DOk s n) (hn : n ≤ 1048576) (c : Int) (most : Nat) :
    Calls Try.prog 28 #[.pointer (some ⟨g, 0, none⟩), .int .i64 c, .int .u64 most] w fun e w' => e = .returned (.int .u64 ((dnum s c most).2 : Nat)) ∧ DeO w' F g (dnum s c most).1 ∧ Chg w w' F F := by
  have HD := Lib.hid hD
  obtain ⟨b, vr, vo, hB, -⟩ := hD
  obtain ⟨c0, c1, c2, c3, c4, hf⟩ := blk5 hB.blk
  obtain ⟨A2, q2, rfl, _, _⟩ := hB.own.form
  rw [cn_len] at *
  have hl : s.od.length = n := hK.len
  have hH := fun (W : World) => ohaven_any (w := W) (A := A2) (n := s.od.length) (q := q2) (by omega) c
  by_cases he : s.er = 0
  · by_cases hh : haveB s.od.length c = true
    · have hci := have_iff.1 hh
      rw [hh] at hH
      have hr : dnum s c most = dnum2 (dones c s 0 32).1 (dones c s 0 32).2 most := by
        unfold dnum
        rw [if_neg (by omega), if_neg (by rw [hh]; simp)]
      have he' : (s.er : Int) = 0 := by omega
      have hc0 : 0 ≤ c := hci.1
      have hc1 : c ≤ 1048576 := by omega
      have HK := Lib.hid hK
      have HR0 := Lib.hid hr
      obtain ⟨M, hM⟩ : ∃ M : Int, ((most : Nat) : Int) = M := ⟨_, rfl⟩
      have HM := Lib.hid hM
      rw [hM]
      clear hB hK hr hh hci hn hl hM
      go_enter Try.func28, Try.ntmps28
      go_wp2_with (go_at_call 42; refine (hH _).mono ?_; rintro e w1 ⟨rfl, rfl⟩)
      clear hH c1 c2 c3 c4 hf
      go_loopw [7] (fun nn wr => ∃ (d : Nat) (sr : De), nn = .int .i64 d ∧ d ≤ 32 ∧ DeO wr F g sr ∧ Hid (DOk sr n) ∧ Hid (dones c sr d (32 - d) = dones c s 0 32) ∧ Chg w wr F F) (fun nn _ => 32 - (intOf nn).toNat)
      case atStart => exact ⟨0, s, rfl, by omega, HD.out, HK, Lib.hid rfl, Chg.refl _ _⟩
      case round =>
        obtain ⟨d, sr, rfl, hd32, hDr, HKr, HDN, hcr⟩ := hrel
        have HCX := Lib.hid hcr
        by_cases hdd : d = 32
        · have hDx := hDr
          have hKx := HKr.out
          obtain ⟨sx, hsx⟩ : ∃ sx, sr = sx := ⟨_, rfl⟩
          rw [hsx] at hDx hKx
          have HNUM : Hid (dnum s c most = dnum2 sx d most) := Lib.hid (by rw [HR0.out, ← HDN.out, hdd, hsx]; rfl)
          have hdI : ¬ (d : Int) < 32 := by omega
          clear hDr HKr HDN hcr hsx
          have hU := draw_any (w := World.drew wr) (hDx.below (Below.refl _ _).drew) hKx (d : Int) (by omega) (by omega)
          have hdk := draw_ok hKx (d : Int)
          rw [Int.toNat_natCast] at hdk
          have hp32 : 2 ^ d ≤ 2 ^ 32 := Nat.pow_le_pow_right (by omega) hd32
          have hp0 : 0 < 2 ^ d := Nat.pow_pos (by omega)
          have hpc := pow_castA d
          have hres : dnum s c most = if (draw sx d).1.er ≠ 0 then ((draw sx d).1, 0) else if most < 2 ^ d + (draw sx d).2 - 1 then (withE (draw sx d).1 2, 0) else ((draw sx d).1, 2 ^ d + (draw sx d).2 - 1) := HNUM.out
          generalize draw sx (d : Int) = t at *
          obtain ⟨P, hP⟩ : ∃ P : Int, (2 : Int) ^ d = P := ⟨_, rfl⟩
          obtain ⟨U, hUe⟩ : ∃ U : Int, ((t.2 : Nat) : Int) = U := ⟨_, rfl⟩
          obtain ⟨Z, hZ⟩ : ∃ Z : Int, P + U - 1 = Z := ⟨_, rfl⟩
          obtain ⟨z, hz⟩ : ∃ z : Nat, 2 ^ d + t.2 - 1 = z := ⟨_, rfl⟩
          rw [hz] at hres
          have q1 : 1 ≤ P := by rw [← hP, ← hpc]; omega
          have q2 : P ≤ 4294967296 := by rw [← hP, ← hpc]; omega
          have q3 : 0 ≤ U := by omega
          have q4 : U ≤ 4294967296 := by omega
          have q5 : (z : Int) = Z := by rw [← hZ, ← hUe, ← hP, ← hpc]; omega
          have q6 : 0 ≤ Z := by omega
          have q7 : Z ≤ 8589934592 := by omega
          have HQ5 := Lib.hid q5
          rw [hUe] at hU
          have HU := Lib.hid hU
          have hmin : min d 64 = d := by omega
          have HMIN := Lib.hid hmin; have HPE := Lib.hid hP
          have hmz : most < z ↔ M < Z := by have := HM.out; omega
          by_cases ht0 : t.1.er = 0
          · rw [if_neg (by omega)] at hres
            have ht1 : (t.1.er : Int) = 0 := by omega
            by_cases hm : most < z
            · rw [if_pos hm] at hres
              have HR := Lib.hid hres
              have hmI : M < Z := hmz.1 hm
              clear hU hdk hp32 hp0 hpc hUe q5 hm hres hKx hDx hz hP hmz hmin hdd
              go_wp2_with fail
              go_region_with (go_at_call 47; refine HU.out.mono ?_; rintro e w2 ⟨rfl, hD2, hc2⟩; have HD2 := Lib.hid hD2; obtain ⟨b3, vr3, vo3, hB3, -⟩ := hD2; obtain ⟨d0, d1, d2, d3, d4, hf2⟩ := blk5 hB3.blk; have HS := Lib.hid (HD2.out.setE 2); have e4 := (blk5 (heap_setCell_same w2 g 4 _ _ (.int .i64 2) hB3.blk)).2.2.2.2; obtain ⟨e4, e5⟩ := e4; clear hB3)
              all_goals
                have hPE := HPE.out
                go_wp2
                go_ret
                rw [HR.out]
                exact ⟨rfl, HS.out.1, (HCX.out.trans (Chg.trans (w1 := w2) ⟨hc2.os, hc2.tape, hc2.output, hc2.size, hc2.block, hc2.own⟩ HS.out.2))⟩
            · rw [if_neg hm] at hres
              have HR := Lib.hid hres
              have hmI : Z ≤ M := by have := hmz.2; omega
              clear hU hdk hp32 hp0 hpc hUe q5 hm hres hKx hDx hz hP hmz hmin hdd
              go_wp2_with fail
              go_region_with (go_at_call 47; refine HU.out.mono ?_; rintro e w2 ⟨rfl, hD2, hc2⟩; have HD2 := Lib.hid hD2; obtain ⟨b3, vr3, vo3, hB3, -⟩ := hD2; obtain ⟨d0, d1, d2, d3, d4, hf2⟩ := blk5 hB3.blk; clear hB3)
              all_goals
                have hPE := HPE.out
                go_wp2
                go_ret
                rw [HR.out]
                exact ⟨by first | rfl | (rw [← HQ5.out]; rfl) | exact congrArg (fun q => Ending.returned (Value.int .u64 q)) (hZ.trans HQ5.out.symm), HD2.out, HCX.out.trans ⟨hc2.os, hc2.tape, hc2.output, hc2.size, hc2.block, hc2.own⟩⟩
          · rw [if_pos ht0] at hres
            have HR := Lib.hid hres
            have ht1 : ((t.1.er : Int) == 0) = false := by rw [beq_eq_false_iff_ne]; omega
            have ht2 : ((t.1.er : Int) != 0) = true := by rw [bne_iff_ne]; omega
            clear hU hdk hp32 hp0 hpc hUe q5 hres hKx hDx hz hP hmz hmin ht0 hdd
            go_wp2_with fail
            go_region_with (go_at_call 47; refine HU.out.mono ?_; rintro e w2 ⟨rfl, hD2, hc2⟩; have HD2 := Lib.hid hD2; obtain ⟨b3, vr3, vo3, hB3, -⟩ := hD2; obtain ⟨d0, d1, d2, d3, d4, hf2⟩ := blk5 hB3.blk; clear hB3)
            all_goals
              have hPE := HPE.out
              go_wp2
              go_ret
              rw [HR.out]
              exact ⟨by first | rfl | (rw [← HQ5.out]; rfl) | exact congrArg (fun q => Ending.returned (Value.int .u64 q)) (hZ.trans HQ5.out.symm), HD2.out, HCX.out.trans ⟨hc2.os, hc2.tape, hc2.output, hc2.size, hc2.block, hc2.own⟩⟩
        · obtain ⟨q, hq⟩ : ∃ q, 32 - d = q + 1 := ⟨31 - d, by omega⟩
          have hg := dget_any hDr HKr.out (c + (d : Nat))
          have hgk := dget_ok HKr.out (c + (d : Nat))
          have hdn := HDN.out
          rw [hq, dones_s] at hdn
          generalize dget sr (c + (d : Nat)) = t0 at *
          have HG := Lib.hid hg
          have hdI : (d : Int) < 32 := by omega
          by_cases hone : t0.2 = 1
          · rw [if_pos hone] at hdn
            have HDN2 : Hid (dones c t0.1 (d + 1) (32 - (d + 1)) = dones c s 0 32) := Lib.hid (by rw [show 32 - (d + 1) = q by omega]; exact hdn)
            have HK2 := Lib.hid hgk.1
            have h1I : (t0.2 : Int) = 1 := by omega
            clear hDr HKr HDN hcr hg hgk hdn hone hq hdd
            go_wp2_with fail
            refine HG.out.mono ?_
            rintro e w2 ⟨rfl, hD2, hc2⟩
            have HD2 := Lib.hid hD2
            clear hD2
            go_wp2
            exact ⟨⟨d + 1, t0.1, rfl, by omega, HD2.out, HK2, HDN2, HCX.out.trans hc2⟩, by simp [intOf]; omega⟩
          · rw [if_neg hone] at hdn
            have hKx := hgk.1
            have h1I : ((t0.2 : Int) == 1) = false := by rw [beq_eq_false_iff_ne]; omega
            obtain ⟨sx, hsx⟩ : ∃ sx, t0.1 = sx := ⟨_, rfl⟩
            have HNUM : Hid (dnum s c most = dnum2 sx d most) := Lib.hid (by rw [HR0.out, ← hdn, hsx])
            rw [hsx] at hKx HG
            have HKX := Lib.hid hKx
            clear hDr HKr HDN hcr hg hgk hdn hone hq hdd hKx hsx
            go_wp2_with fail
            refine HG.out.mono ?_
            rintro e w4 ⟨rfl, hDx, hc4⟩
            have HCX0 := HCX
            have HCX := Lib.hid (HCX0.out.trans hc4)
            clear HCX0 hc4
            have HDX := Lib.hid hDx
            clear hDx
            go_upto_region 8 with (fail)
            have hKx := HKX.out
            have hDx := HDX.out
            have hU := draw_any (w := World.drew w4) (hDx.below (Below.refl _ _).drew) hKx (d : Int) (by omega) (by omega)
            have hdk := draw_ok hKx (d : Int)
            rw [Int.toNat_natCast] at hdk
            have hp32 : 2 ^ d ≤ 2 ^ 32 := Nat.pow_le_pow_right (by omega) hd32
            have hp0 : 0 < 2 ^ d := Nat.pow_pos (by omega)
            have hpc := pow_castA d
            have hres : dnum s c most = if (draw sx d).1.er ≠ 0 then ((draw sx d).1, 0) else if most < 2 ^ d + (draw sx d).2 - 1 then (withE (draw sx d).1 2, 0) else ((draw sx d).1, 2 ^ d + (draw sx d).2 - 1) := HNUM.out
            generalize draw sx (d : Int) = t at *
            obtain ⟨P, hP⟩ : ∃ P : Int, (2 : Int) ^ d = P := ⟨_, rfl⟩
            obtain ⟨U, hUe⟩ : ∃ U : Int, ((t.2 : Nat) : Int) = U := ⟨_, rfl⟩
            obtain ⟨Z, hZ⟩ : ∃ Z : Int, P + U - 1 = Z := ⟨_, rfl⟩
            obtain ⟨z, hz⟩ : ∃ z : Nat, 2 ^ d + t.2 - 1 = z := ⟨_, rfl⟩
            rw [hz] at hres
            have q1 : 1 ≤ P := by rw [← hP, ← hpc]; omega
            have q2 : P ≤ 4294967296 := by rw [← hP, ← hpc]; omega
            have q3 : 0 ≤ U := by omega
            have q4 : U ≤ 4294967296 := by omega
            have q5 : (z : Int) = Z := by rw [← hZ, ← hUe, ← hP, ← hpc]; omega
            have q6 : 0 ≤ Z := by omega
            have q7 : Z ≤ 8589934592 := by omega
            have HQ5 := Lib.hid q5
            rw [hUe] at hU
            have HU := Lib.hid hU
            have hmin : min d 64 = d := by omega
            have HMIN := Lib.hid hmin; have HPE := Lib.hid hP
            have hmz : most < z ↔ M < Z := by have := HM.out; omega
            by_cases ht0 : t.1.er = 0
            · rw [if_neg (by omega)] at hres
              have ht1 : (t.1.er : Int) = 0 := by omega
              by_cases hm : most < z
              · rw [if_pos hm] at hres
                have HR := Lib.hid hres
                have hmI : M < Z := hmz.1 hm
                clear hU hdk hp32 hp0 hpc hUe q5 hm hres hKx hDx hz hP hmz hmin 
                go_wp2_with fail
                go_region_with (go_at_call 47; refine HU.out.mono ?_; rintro e w2 ⟨rfl, hD2, hc2⟩; have HD2 := Lib.hid hD2; obtain ⟨b3, vr3, vo3, hB3, -⟩ := hD2; obtain ⟨d0, d1, d2, d3, d4, hf2⟩ := blk5 hB3.blk; have HS := Lib.hid (HD2.out.setE 2); have e4 := (blk5 (heap_setCell_same w2 g 4 _ _ (.int .i64 2) hB3.blk)).2.2.2.2; obtain ⟨e4, e5⟩ := e4; clear hB3)
                all_goals
                  have hPE := HPE.out
                  go_wp2
                  go_ret
                  rw [HR.out]
                  exact ⟨rfl, HS.out.1, (HCX.out.trans (Chg.trans (w1 := w2) ⟨hc2.os, hc2.tape, hc2.output, hc2.size, hc2.block, hc2.own⟩ HS.out.2))⟩
              · rw [if_neg hm] at hres
                have HR := Lib.hid hres
                have hmI : Z ≤ M := by have := hmz.2; omega
                clear hU hdk hp32 hp0 hpc hUe q5 hm hres hKx hDx hz hP hmz hmin 
                go_wp2_with fail
                go_region_with (go_at_call 47; refine HU.out.mono ?_; rintro e w2 ⟨rfl, hD2, hc2⟩; have HD2 := Lib.hid hD2; obtain ⟨b3, vr3, vo3, hB3, -⟩ := hD2; obtain ⟨d0, d1, d2, d3, d4, hf2⟩ := blk5 hB3.blk; clear hB3)
                all_goals
                  have hPE := HPE.out
                  go_wp2
                  go_ret
                  rw [HR.out]
                  exact ⟨by first | rfl | (rw [← HQ5.out]; rfl) | exact congrArg (fun q => Ending.returned (Value.int .u64 q)) (hZ.trans HQ5.out.symm), HD2.out, HCX.out.trans ⟨hc2.os, hc2.tape, hc2.output, hc2.size, hc2.block, hc2.own⟩⟩
            · rw [if_pos ht0] at hres
              have HR := Lib.hid hres
              have ht1 : ((t.1.er : Int) == 0) = false := by rw [beq_eq_false_iff_ne]; omega
              have ht2 : ((t.1.er : Int) != 0) = true := by rw [bne_iff_ne]; omega
              clear hU hdk hp32 hp0 hpc hUe q5 hres hKx hDx hz hP hmz hmin ht0 
              go_wp2_with fail
              go_region_with (go_at_call 47; refine HU.out.mono ?_; rintro e w2 ⟨rfl, hD2, hc2⟩; have HD2 := Lib.hid hD2; obtain ⟨b3, vr3, vo3, hB3, -⟩ := hD2; obtain ⟨d0, d1, d2, d3, d4, hf2⟩ := blk5 hB3.blk; clear hB3)
              all_goals
                have hPE := HPE.out
                go_wp2
                go_ret
                rw [HR.out]
                exact ⟨by first | rfl | (rw [← HQ5.out]; rfl) | exact congrArg (fun q => Ending.returned (Value.int .u64 q)) (hZ.trans HQ5.out.symm), HD2.out, HCX.out.trans ⟨hc2.os, hc2.tape, hc2.output, hc2.size, hc2.block, hc2.own⟩⟩
    · have hh' : haveB s.od.length c = false := by simpa using hh
      have hr : dnum s c most = (withE s 1, 0) := by unfold dnum; rw [if_neg (by omega), if_pos hh']
      rw [hr]
      rw [hh'] at hH
      have HS := Lib.hid (HD.out.setE 1)
      have d4 := (blk5 (heap_setCell_same w g 4 _ _ (.int .i64 1) hB.blk)).2.2.2.2
      obtain ⟨d4, d5⟩ := d4
      have he' : (s.er : Int) = 0 := by omega
      clear hB hr hK hh hh' hl
      go_enter Try.func28, Try.ntmps28
      go_wp2_with (go_at_call 42; refine (hH _).mono ?_; rintro e w1 ⟨rfl, rfl⟩)
      go_ret
      exact ⟨rfl, HS.out.1, HS.out.2⟩
  · have hr : dnum s c most = (s, 0) := by unfold dnum; rw [if_pos he]
    rw [hr]
    have he1 : ((s.er : Int) == 0) = false := by rw [beq_eq_false_iff_ne]; omega
    have he2 : ((s.er : Int) != 0) = true := by rw [bne_iff_ne]; omega
    clear hB hr hK he hl
    go_enter Try.func28, Try.ntmps28
    go_wp2_with (go_at_call 42; refine (hH _).mono ?_; rintro e w1 ⟨rfl, rfl⟩)
    go_ret
    exact ⟨rfl, HD.out, Chg.refl _ _⟩
end Go.Proofs.Ytghbjlmbehljdaa
