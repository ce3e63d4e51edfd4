/- arith: the decoder's methods: bits, numbers. -/
import Derived.Test.YtghbjlmbehljdaaAriH
import Derived.Test.YtghbjlmbehljdaaAriF
namespace Go.Proofs.Ytghbjlmbehljdaa
open Go.RowKit
set_option maxRecDepth 100000
set_option maxHeartbeats 400000

theorem draw_any {w : World} {F : Nat → Prop} {g n : Nat} {s : De} (hD : DeO w F g s) (hK : DOk s n) (k : Int) (_ : -9223372036854775808 ≤ k) (_ : k ≤ 9223372036854775807) :
    Calls Try.prog 47 #[.pointer (some ⟨g, 0, none⟩), .int .i64 k] w fun e w' => e = .returned (.int .u64 ((draw s k).2 : Nat)) ∧ DeO w' F g (draw s k).1 ∧ Chg w w' F F := by
  have HD := Lib.hid hD
  obtain ⟨b, vr, vo, hB, -⟩ := hD
  obtain ⟨c0, c1, c2, c3, c4, hf⟩ := blk5 hB.blk
  by_cases he : s.er = 0
  · by_cases hk : k < 0 ∨ 32 < k
    · have hr : draw s k = (withE s 1, 0) := by unfold draw; rw [if_neg (by omega), if_pos hk]
      rw [hr]
      have HS := Lib.hid (HD.out.setE 1)
      have d4 := (blk5 (heap_setCell_same w g 4 _ _ (.int .i64 1) hB.blk)).2.2.2.2
      obtain ⟨d4, d5⟩ := d4
      have he' : (s.er : Int) = 0 := by omega
      clear hB hr hK
      by_cases hk0 : k < 0
      · clear hk
        go_enter Try.func47, Try.ntmps47
        go_wp2
        go_loopw [6] (fun nn wr => nn = .int .i64 0 ∧ wr = w.setCell ⟨g, 4, none⟩ (.int .i64 1)) (fun _ _ => 0)
        case atStart => exact ⟨rfl, rfl⟩
        case round =>
          obtain ⟨rfl, rfl⟩ := hrel
          go_wp2
          go_ret
          exact ⟨rfl, HS.out.1, HS.out.2⟩
      · have hk1 : 32 < k := by omega
        clear hk
        go_enter Try.func47, Try.ntmps47
        go_wp2
        go_loopw [6] (fun nn wr => nn = .int .i64 0 ∧ wr = w.setCell ⟨g, 4, none⟩ (.int .i64 1)) (fun _ _ => 0)
        case atStart => exact ⟨rfl, rfl⟩
        case round =>
          obtain ⟨rfl, rfl⟩ := hrel
          go_wp2
          go_ret
          exact ⟨rfl, HS.out.1, HS.out.2⟩
    · obtain ⟨m, rfl⟩ := Int.eq_ofNat_of_zero_le (by omega : 0 ≤ k)
      have hr : draw s m = zeroE (drawN s m) := by unfold draw; rw [if_neg (by omega), if_neg hk, Int.toNat_natCast]
      rw [hr]
      have he' : (s.er : Int) = 0 := by omega
      have hm32 : m ≤ 32 := by omega
      have HK := Lib.hid hK
      clear hB hr hK hk
      go_enter Try.func47, Try.ntmps47
      go_wp2
      go_loopw [5, 6] (fun vv nn wr => ∃ i : Nat, vv = .int .u64 ((drawN s i).2 : Nat) ∧ nn = .int .i64 i ∧ i ≤ m ∧ DeO wr F g (drawN s i).1 ∧ Chg w wr F F) (fun _ nn _ => m - (intOf nn).toNat)
      case atStart => exact ⟨0, rfl, rfl, Nat.zero_le _, HD.out, Chg.refl _ _⟩
      case round =>
        obtain ⟨i, rfl, rfl, him, hDi, hci⟩ := hrel
        obtain ⟨hoki, hlti⟩ := drawN_ok HK.out i
        have hst := fun h => drawN_stop (s := s) (k := i) h m him
        have hsu : drawN s (i + 1) = if (drawN s i).1.er ≠ 0 then drawN s i else ((dec (drawN s i).1 ((drawN s i).1.w / 2)).1, (drawN s i).2 * 2 + (dec (drawN s i).1 ((drawN s i).1.w / 2)).2) := rfl
        have HI : Hid (True → i = m → drawN s m = drawN s i) := Lib.hid fun _ e => by rw [e]
        generalize drawN s i = t at *
        have HDI := Lib.hid hDi
        obtain ⟨b3, vr3, vo3, hB3, -⟩ := hDi
        obtain ⟨d0, d1, d2, d3, d4, hf2⟩ := blk5 hB3.blk
        by_cases ht : t.1.er = 0
        · have ht' : (t.1.er : Int) = 0 := by omega
          by_cases hie : i = m
          · have hfin := HI.out trivial hie
            have HFIN : Hid (zeroE (drawN s m) = t) := Lib.hid (by rw [hfin]; simp [zeroE, ht])
            subst hie
            clear hsu hst hB3 hoki hlti HI hfin
            go_wp2
            go_ret
            rw [HFIN.out]
            exact ⟨rfl, HDI.out, hci⟩
          · rw [if_neg (by omega)] at hsu
            obtain ⟨b1, b2⟩ := half_in hoki
            have hde := ddec_any HDI.out hoki (t.1.w / 2) b1 b2
            obtain ⟨_, hdb, _, _⟩ := dec_ok hoki b1 b2
            generalize dec t.1 (t.1.w / 2) = u at *
            have hw2 : ((t.1.w : Nat) : Int) / 2 = ((t.1.w / 2 : Nat) : Int) := by omega
            have hwl := hoki.whi
            have hpl : t.2 < 2 ^ 32 := Nat.lt_of_lt_of_le hlti (Nat.pow_le_pow_right (by omega) (by omega))
            have HSU := Lib.hid hsu
            obtain ⟨Wd, hWd⟩ : ∃ Wd : Int, ((t.1.w : Nat) : Int) = Wd := ⟨_, rfl⟩
            obtain ⟨hw, hhw⟩ : ∃ hw : Int, ((t.1.w / 2 : Nat) : Int) = hw := ⟨_, rfl⟩
            obtain ⟨V, hV⟩ : ∃ V : Int, ((t.2 : Nat) : Int) = V := ⟨_, rfl⟩
            rw [hWd, hhw] at hw2
            rw [hWd] at d2
            rw [hhw] at hde
            have HDE := Lib.hid hde
            have q1 : 0 ≤ V := by omega
            have q2 : V ≤ 4294967296 := by omega
            have q3 : 0 ≤ Wd := by omega
            have q4 : Wd ≤ 4294967296 := by omega
            have q5 : (u.2 : Int) ≤ 1 := by omega
            have HV := Lib.hid hV
            have hlt : (i : Int) < (m : Nat) := by omega
            rw [hV]
            clear hsu hst hB3 hoki hlti HI hde b1 b2 hwl hpl hWd hhw hV hdb
            go_wp2_with fail
            refine HDE.out.mono ?_
            rintro e w2 ⟨rfl, hD2, hc2⟩
            have HD2 := Lib.hid hD2
            clear hD2
            go_wp2
            refine ⟨⟨i + 1, ?_, rfl, by omega, by rw [HSU.out]; exact HD2.out, hci.trans hc2⟩, by simp [intOf]; omega⟩
            rw [HSU.out, ← HV.out]
            congr 1
        · have hfin := hst (by omega)
          have HFIN : Hid (zeroE (drawN s m) = (t.1, 0)) := Lib.hid (by rw [hfin]; simp [zeroE, ht])
          have ht1 : ((t.1.er : Int) == 0) = false := by rw [beq_eq_false_iff_ne]; omega
          have ht2 : ((t.1.er : Int) != 0) = true := by rw [bne_iff_ne]; omega
          by_cases hie : i = m
          · subst hie
            clear hsu hst hB3 hoki hlti HI hfin ht
            go_wp2
            go_ret
            rw [HFIN.out]
            exact ⟨rfl, HDI.out, hci⟩
          · have hlt : (i : Int) < (m : Nat) := by omega
            clear hsu hst hB3 hoki hlti HI hfin ht
            go_wp2
            go_ret
            rw [HFIN.out]
            exact ⟨rfl, HDI.out, hci⟩
  · have hr : draw s k = (s, 0) := by unfold draw; rw [if_pos he]
    rw [hr]
    have he1 : ((s.er : Int) == 0) = false := by rw [beq_eq_false_iff_ne]; omega
    have he2 : ((s.er : Int) != 0) = true := by rw [bne_iff_ne]; omega
    clear hB hr hK he
    go_enter Try.func47, Try.ntmps47
    go_wp2
    go_loopw [6] (fun nn wr => nn = .int .i64 0 ∧ wr = w) (fun _ _ => 0)
    case atStart => exact ⟨rfl, rfl⟩
    case round =>
      obtain ⟨rfl, rfl⟩ := hrel
      by_cases hk0 : 0 < k
      · go_wp2
        go_ret
        exact ⟨rfl, HD.out, Chg.refl _ _⟩
      · go_wp2
        go_ret
        exact ⟨rfl, HD.out, Chg.refl _ _⟩
end Go.Proofs.Ytghbjlmbehljdaa
