/- octet: a number has one form; a greater number never has fewer bytes. -/
import Derived.Test.YtcmlnjohjjibnaaOctK
import Derived.Test.YtcmlnjohjjibnaaOctP
import Derived.Test.YtcmlnjohjjibnaaLawKit
import Derived.Deep.RegionWith
namespace Go.Proofs.Ytcmlnjohjjibnaa
open Go.RowKit
set_option maxRecDepth 100000
set_option maxHeartbeats 400000

theorem octetLonger_walk (a b : Nat) (w : World) (ha : a < 18446744073709551616) (hb : b < 18446744073709551616) :
    Calls Try.prog 9 #[.int .u64 a, .int .u64 b] w fun e w' => e = .returned (.bool true) ∧ Below w.heap.size w w' := by
  have la := vput_len10 ha
  have lb := vput_len10 hb
  have pa := vput_pos a
  have pb := vput_pos b
  rcases Nat.lt_trichotomy b a with h | h | h
  · have hm := vput_mono b a (Nat.le_of_lt h)
    go_enter Try.func9, Try.ntmps9
    go_wp2_with (go_at_call 10; refine (known_any _).mono ?_; rintro e w1 ⟨rfl, hb1⟩)
    refine (put_one b w1 hb).mono ?_
    rintro e w2 ⟨v2, rfl, ho2, hb2⟩
    obtain ⟨A2, c2, rfl, _, _⟩ := ho2.form8
    go_wp2_with fail
    refine (put_one a w2 ha).mono ?_
    rintro e w3 ⟨v3, rfl, ho3, hb3⟩
    obtain ⟨A3, c3, rfl, _, _⟩ := ho3.form8
    go_wp2_with fail
    all_goals go_ret
    all_goals exact ⟨by simp; omega, bthen (bthen hb1 hb2 hb1.size) hb3 (Nat.le_trans hb1.size hb2.size)⟩
  · subst h
    have hm := Nat.le_refl (vput b).length
    go_enter Try.func9, Try.ntmps9
    go_wp2_with (go_at_call 10; refine (known_any _).mono ?_; rintro e w1 ⟨rfl, hb1⟩)
    refine (put_one b w1 hb).mono ?_
    rintro e w2 ⟨v2, rfl, ho2, hb2⟩
    obtain ⟨A2, c2, rfl, _, _⟩ := ho2.form8
    go_wp2_with fail
    refine (put_one b w2 hb).mono ?_
    rintro e w3 ⟨v3, rfl, ho3, hb3⟩
    obtain ⟨A3, c3, rfl, _, _⟩ := ho3.form8
    go_wp2_with fail
    all_goals go_ret
    all_goals exact ⟨by simp; omega, bthen (bthen hb1 hb2 hb1.size) hb3 (Nat.le_trans hb1.size hb2.size)⟩
  · have hm := vput_mono a b (Nat.le_of_lt h)
    go_enter Try.func9, Try.ntmps9
    go_wp2_with (go_at_call 10; refine (known_any _).mono ?_; rintro e w1 ⟨rfl, hb1⟩)
    refine (put_one a w1 ha).mono ?_
    rintro e w2 ⟨v2, rfl, ho2, hb2⟩
    obtain ⟨A2, c2, rfl, _, _⟩ := ho2.form8
    go_wp2_with fail
    refine (put_one b w2 hb).mono ?_
    rintro e w3 ⟨v3, rfl, ho3, hb3⟩
    obtain ⟨A3, c3, rfl, _, _⟩ := ho3.form8
    go_wp2_with fail
    all_goals go_ret
    all_goals exact ⟨by simp; omega, bthen (bthen hb1 hb2 hb1.size) hb3 (Nat.le_trans hb1.size hb2.size)⟩

theorem octetOne_walk (n : Nat) (cut : Int) (w : World) (hn : n < 18446744073709551616) :
    Calls Try.prog 5 #[.int .u64 n, .int .i64 cut] w fun e w' => e = .returned (.bool true) ∧ Below w.heap.size w w' := by
  have hl10 := vput_len10 hn
  have hpos := vput_pos n
  obtain ⟨y, hy1, hy2, hy3⟩ := vlong_last n
  have HY := Lib.hid hy1; have HY3 := Lib.hid hy3
  clear hy1 hy3
  go_enter Try.func5, Try.ntmps5
  go_wp2_with (first
      | (go_at_call 10; refine (known_any _).mono ?_; rintro e w1 ⟨rfl, hb1⟩)
      | (go_at_call 28; refine (put_one n w1 hn).mono ?_; rintro e w2 ⟨v2, rfl, ho2, hb2⟩; obtain ⟨A2, c2, rfl, hc2, hm2⟩ := ho2.form8))
  go_loop [6, 7] (fun sz x => ∃ s m : Nat, sz = .int .i64 s ∧ x = .int .u64 m ∧ s ≤ 10 ∧ m < 18446744073709551616 ∧ Hid (s + (if m = 0 then 0 else (vput m).length) = (vput n).length)) (fun _ x => (intOf x).toNat)
  case atStart =>
    refine ⟨1, n / 128, rfl, by simp, by omega, by omega, ?_⟩
    show 1 + _ = _
    by_cases h : n < 128
    · rw [vput_lt h, if_pos (by omega)]; rfl
    · rw [vput_ge h, if_neg (by omega), List.length_cons]; omega
  case round =>
    obtain ⟨s, m, rfl, rfl, hs, hm, hinv⟩ := hrel
    by_cases h0 : 0 < m
    · have hi := hinv.out
      rw [if_neg (by omega)] at hi
      have hvp := vput_pos m
      go_wp2
      refine ⟨⟨s + 1, m / 128, by simp, by simp, by omega, by omega, ?_⟩, by simp [intOf]; omega⟩
      show s + 1 + _ = _
      rw [← hi]
      by_cases h : m < 128
      · rw [vput_lt h, if_pos (by omega)]; rfl
      · rw [vput_ge h, if_neg (by omega)]; simp; omega
    · have hm0 : m = 0 := by omega
      have hi := hinv.out
      rw [if_pos hm0, Nat.add_zero] at hi
      subst hi
      clear h0 hinv
      have hk15 := i64_mask 4 (by omega) cut
      obtain ⟨r, hr, hr15⟩ : ∃ r : Nat, bits .and .i64 cut 15 = (r : Int) ∧ r ≤ 15 := ⟨(cut % 16).toNat, by rw [show (15 : Int) = ((2 ^ 4 - 1 : Nat) : Int) from rfl, hk15]; simp; omega, by omega⟩
      clear hk15
      obtain ⟨k, hk⟩ : ∃ k, k = r % (vput n).length := ⟨_, rfl⟩
      have hkl : k < (vput n).length := by rw [hk]; exact Nat.mod_lt _ hpos
      have hkm : ((r : Int) % ((vput n).length : Int)) = (k : Int) := by rw [hk]; simp
      clear hk
      have hcut := vrd_cut n 0 0 k (by simpa using hn) (.inl rfl) hkl
      have hN1 : rdNum ((vput n).take k) 0 0 18446744073709551615 = (0, 0, 3) := by simp [rdNum, hcut]
      have hlong := vrd_long n 0 0 (by simpa using hn)
      have hN2 : rdNum (vlong n ++ [0]) 0 0 18446744073709551615 = (0, 0, 2) := by simp [rdNum, hlong]
      have HN1 := Lib.hid hN1; have HN2 := Lib.hid hN2; clear hN1 hN2 hcut hlong
      subst hm0
      go_wp2_with fail
      have hS1 : Sli w2 w2.heap.size (.slice A2 k c2) (cu8 ((vput n).take k)) := by
        have := ho2.sli.head (k := k) (by omega)
        simpa [cu8, List.map_take] using this
      refine (new_any _ _ w2 hS1 (fun x hx => vput_byte n x (List.mem_of_mem_take hx)) (by simp; omega)).mono ?_
      rintro e w3 ⟨g, rfl, hR3, hg3, hb3⟩
      go_wp2_with (at_builtin; refine wpl_copy (ho2.sli.below hb3) hb3.size (by simp [cu8]; omega) Try.underlying22 info_u8 rfl (by decide) (cu8_one _) rfl rfl rfl rfl (h := ?_); intro v4 w4 ho4 hb4; obtain ⟨A4, c4, rfl, hc4, hm4⟩ := ho4.form8; refine cut_here ?_)
      obtain ⟨g4, c5, hv5, hg4, _, _, hcell, hfro, hset⟩ := ho4.at_ (by rw [cu8_len]; omega)
      injection hv5 with e1 e2 e3
      subst e1; subst e3
      have hcy := hcell ((vput n).length - 1) (by rw [cu8_len]; omega)
      rw [show (cu8 (vput n))[(vput n).length - 1]? = some (.int .u8 (y : Nat)) by simp [cu8, HY.out]] at hcy
      have hor : bits .or .u8 (y : Int) 128 = ((y + 128 : Nat) : Int) := or128' y hy2
      have hset' := hset ((vput n).length - 1) (.int .u8 ((y : Int) + 128))
      rw [show (.int .u8 ((y : Int) + 128) : Value) = .int .u8 ((y + 128 : Nat) : Int) from rfl, show (cu8 (vput n)).set ((vput n).length - 1) (.int .u8 ((y + 128 : Nat) : Int)) = cu8 (vlong n) by rw [← HY3.out]; simp [cu8, List.map_set]] at hset'
      have hidx : ((vput n).length : Int) - 1 = (((vput n).length - 1 : Nat) : Int) := by omega
      clear hcell hset e2
      have hvl := vlong_len n
      have HVL := Lib.hid hvl; clear hvl
      have hroom : (cu8 (vlong n)).length + 1 ≤ 8796093022208 := by rw [cu8_len, HVL.out]; omega
      have hb4' : Below w3.heap.size w3 (w4.setCell ⟨g4, (vput n).length - 1, none⟩ (.int .u8 ((y + 128 : Nat) : Int))) := hb4.setCell (p := ⟨g4, _, none⟩) hg4 _
      unfold CutHere
      go_wp2_with (at_builtin; go_loud (refine wpl_app1 hset' hb4'.size hroom Try.underlying22 info_u8 rfl (by decide) rfl rfl rfl rfl rfl (h := ?_)); intro v5 w5 ho5 hb5)
      rw [show cu8 (vlong n) ++ [.int .u8 0] = cu8 (vlong n ++ [0]) by simp [cu8]] at ho5
      have hb45 := hb4'.trans hb5
      have hby : ∀ x ∈ vlong n ++ [0], x < 256 := by
        intro x hx; rcases List.mem_append.1 hx with h | h
        · exact vlong_byte n x h
        · simp at h; omega
      refine (new_any _ _ w5 ho5.sli hby (by simp [HVL.out]; omega)).mono ?_
      rintro e w6 ⟨g6, rfl, hR6, hg6, hb6⟩
      have hR3' := (hR3.below hb45).below (hb6.mono (Nat.le_refl _))
      go_wp2_with fail
      refine (num_any hR3' 18446744073709551615).mono ?_
      rw [HN1.out]
      rintro e w7 ⟨rfl, hR7, hg7⟩
      obtain ⟨cs6, hblk⟩ := hR3'.blk
      have hne : g ≠ g6 := by have := hR3.lt; have := hb45.size; omega
      have hR67 := hR6.only hblk (by decide) hg7 (fun h => hne h.symm)
      go_wp2_with fail
      refine (num_any hR67 18446744073709551615).mono ?_
      rw [HN2.out]
      rintro e w8 ⟨rfl, hR8, hg8⟩
      obtain ⟨cs7, hblk7⟩ := hR67.blk
      have hR78 := hR7.only hblk7 (by decide) hg8 hne
      go_wp2_with (first
        | (go_at_call_of 27 (Value.pointer (some ⟨g, 0, none⟩)); refine (err_any hR78).mono ?_; rintro e w9 ⟨rfl, rfl⟩)
        | (go_at_call_of 27 (Value.pointer (some ⟨g6, 0, none⟩)); refine (err_any hR8).mono ?_; rintro e w9 ⟨rfl, rfl⟩)
        | (go_at_call 24; refine (at_any hR8).mono ?_; rintro e w9 ⟨rfl, rfl⟩))
      go_ret
      have s1 := hb1.size; have s2 := hb2.size; have s3 := hb3.size; have s4 := hb45.size; have s6 := hb6.size
      exact ⟨rfl, bonly (bonly (bthen (bthen (bthen (bthen hb1 hb2 (by omega)) hb3 (by omega)) hb45 (by omega)) hb6 (by omega)) hg7 (Nat.le_refl _) (by omega)) hg8 (Nat.le_refl _) (by omega)⟩

end Go.Proofs.Ytcmlnjohjjibnaa
