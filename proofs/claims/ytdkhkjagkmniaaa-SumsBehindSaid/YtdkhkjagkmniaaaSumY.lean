/- SumsOne, SumsBehind: the walks. -/
import Derived.Test.YtdkhkjagkmniaaaSumZ
import Derived.Test.YtdkhkjagkmniaaaFoot
namespace Go.Proofs.Ytdkhkjagkmniaaa
open Go.RowKit
set_option maxRecDepth 1000000
set_option maxHeartbeats 1000000

theorem sumsOne_walk (v : Value) (l : List Nat) (at_ : Int) (by_ : Nat) (w : World) (hl : Sli w w.heap.size v (cu8 l)) (hx : ∀ x ∈ l, x < 256) (_ : -9223372036854775808 ≤ at_) (_ : at_ ≤ 9223372036854775807) (hby : by_ < 256) :
    Calls Try.prog 6 #[v, .int .i64 at_, .int .u8 by_] w fun e w' => e = .returned (.bool true) ∧ Below w.heap.size w w' := by
  obtain ⟨A, c, rfl, hlc, hcm⟩ := hl.form8
  have h63 : l.length ≤ 9223372036854775807 := by unfold maxLen at hcm; omega
  clear hlc hcm
  by_cases h3 : 300 < l.length
  · clear hl hx
    go_enter Try.func6, Try.ntmps6
    go_wp2_with (go_at_call 11; refine (known_any _).mono ?_; rintro e w1 ⟨rfl, hb1⟩)
    go_ret
    exact ⟨rfl, hb1⟩
  by_cases h4 : l.length = 0
  · have e4 : ((l.length : Int) == 0) = true := by rw [beq_iff_eq]; omega
    clear hl hx h4 h3
    go_enter Try.func6, Try.ntmps6
    go_wp2_with (go_at_call 11; refine (known_any _).mono ?_; rintro e w1 ⟨rfl, hb1⟩)
    all_goals (go_ret; exact ⟨rfl, hb1⟩)
  have e4 : ((l.length : Int) == 0) = false := by rw [beq_eq_false_iff_ne]; omega
  have hp : 0 < l.length := by omega
  clear h4
  by_cases h5 : by_ = 0
  · have e5 : ((by_ : Int) == 0) = true := by rw [beq_iff_eq]; omega
    clear hl hx h5
    go_enter Try.func6, Try.ntmps6
    go_wp2_with (go_at_call 11; refine (known_any _).mono ?_; rintro e w1 ⟨rfl, hb1⟩)
    go_ret
    exact ⟨rfl, hb1⟩
  have e5 : ((by_ : Int) == 0) = false := by rw [beq_eq_false_iff_ne]; omega
  have hand : bits .and .i64 at_ 65535 = at_ % 65536 := i64_mask 16 (by omega) at_
  obtain ⟨t, ht⟩ : ∃ t : Nat, at_ % 65536 = (t : Nat) := ⟨(at_ % 65536).toNat, by omega⟩
  rw [ht] at hand
  have htl : t ≤ 65535 := by omega
  clear ht
  obtain ⟨n, hn⟩ : ∃ n, l.length = n := ⟨_, rfl⟩
  obtain ⟨i, hi⟩ : ∃ i, t % n = i := ⟨_, rfl⟩
  have hin : i < n := by rw [← hi]; exact Nat.mod_lt _ (by omega)
  have hil : i < l.length := by omega
  have hii : (t : Int) % (n : Int) = (i : Nat) := by rw [← hi]; simp
  have hli : l[i] < 256 := hx _ (List.getElem_mem hil)
  have hxr : bits .xor .u8 ((l[i] : Nat) : Int) (by_ : Int) = ((l[i] ^^^ by_ : Nat) : Int) := u8_xor_nat _ _ hli hby
  have hne : hs 0 (l.set i (l[i] ^^^ by_)) ≠ hs 0 l := by
    apply hs_one l i _ hil hx (Nat.xor_lt_two_pow (n := 8) hli hby)
    intro e
    have e2 := congrArg (fun z => l[i] ^^^ z) e
    simp only [Nat.xor_self, ← Nat.xor_assoc, Nat.zero_xor] at e2
    omega
  have hxs : ∀ x ∈ l.set i (l[i] ^^^ by_), x < 256 := by
    intro x h
    rcases List.mem_or_eq_of_mem_set h with h | h
    · exact hx x h
    · rw [h]; exact Nat.xor_lt_two_pow (n := 8) hli hby
  have hat := cu8_at hil
  have hset := cu8_set l i (l[i] ^^^ by_)
  obtain ⟨m, hm⟩ : ∃ m, l.set i (l[i] ^^^ by_) = m := ⟨_, rfl⟩
  have hml : m.length = n := by rw [← hm]; simp [hn]
  rw [hm] at hne hset hxs
  clear hm
  generalize l[i] = y at hli hxr hat hset
  generalize y ^^^ by_ = z at hxr hset
  have HX := Lib.hid hx; have HXS := Lib.hid hxs; have HAT := Lib.hid hat; have HSET := Lib.hid hset; have HNE := Lib.hid hne; have HML := Lib.hid hml
  have H0 : Hid (∀ w1, Below w.heap.size w w1 → Sli w1 w.heap.size (.slice A l.length c) (cu8 l)) := fun w1 hb => hl.below hb
  clear hx hxs hat hset hne hml hl hi
  have HN := Lib.hid hn
  rw [hn] at h63 h3 e4 hp H0 ⊢
  clear hn hil
  go_enter Try.func6, Try.ntmps6
  go_upto_region 5 with (go_at_call 11; refine (known_any _).mono ?_; rintro e w1 ⟨rfl, hb1⟩)
  have hS1 := H0.out w1 hb1
  go_wp2_with (at_builtin; refine wpl_copy hS1 hb1.size (by rw [cu8_len, HN.out]; omega) Try.underlying22 info_u8 rfl (by decide) (cu8_one _) rfl rfl rfl rfl (h := ?_); intro v2 w2 ho2 hb2; obtain ⟨g, c2, rfl, hg, hc2, hm2, hcell, hfro, hput⟩ := ho2.at_ (by rw [cu8_len, HN.out]; exact hp); rw [cu8_len, HN.out] at hcell; refine cut_here ?_)
  unfold CutHere
  have hc := hcell i hin
  rw [HAT.out] at hc
  have hfi := hfro i
  have hO := hput i (.int .u8 z)
  rw [HSET.out, cu8_len, HN.out] at hO
  rw [cu8_len, HN.out]
  have hb3 : Below w1.heap.size w1 (w2.setCell ⟨g, i, none⟩ (.int .u8 z)) := hb2.setCell hg _
  have P1 := Lib.hid (print_any _ m _ _ hO.sli HXS.out (by rw [HML.out]; omega))
  have P2 := Lib.hid (printN _ l (w2.setCell ⟨g, i, none⟩ (.int .u8 z)) _ (hS1.below (hb3.mono hb1.size)) HX.out (by rw [HN.out]; omega))
  have hd : (((hs 0 m : Nat) : Int) != ((hs 0 l : Nat) : Int)) = true := by
    have := HNE.out
    rw [bne_iff_ne]; omega
  generalize hs 0 m = p1 at P1 hd
  generalize hs 0 l = p2 at P2 hd
  have HB3 := Lib.hid (bthen hb1 hb3 hb1.size)
  clear hcell hfro hput hO hb3 hb2 hS1 hb1 ho2
  go_wp2_with fail
  refine (P1.out).mono ?_
  rintro e w3 ⟨rfl, n1, rfl⟩
  go_wp2_with fail
  refine (P2.out _).mono ?_
  rintro e w3 ⟨rfl, n2, rfl⟩
  go_wp2
  go_ret
  exact ⟨rfl, below_drewN HB3.out _⟩

theorem sumsBehind_walk (v : Value) (l : List Nat) (w : World) (hl : Sli w w.heap.size v (cu8 l)) (hx : ∀ x ∈ l, x < 256) :
    Calls Try.prog 9 #[v] w fun e w' => e = .returned (.bool true) ∧ Below w.heap.size w w' := by
  obtain ⟨A, c, rfl, hlc, hcm⟩ := hl.form8
  have h63 : l.length ≤ 9223372036854775807 := by unfold maxLen at hcm; omega
  clear hlc hcm
  by_cases h5 : 500 < l.length
  · clear hl hx
    go_enter Try.func9, Try.ntmps9
    go_wp2_with (go_at_call 11; refine (known_any _).mono ?_; rintro e w1 ⟨rfl, hb1⟩)
    go_ret
    exact ⟨rfl, hb1⟩
  have hn : l.length ≤ 1099511627776 := by omega
  have hn2 : l.length ≤ 4398046511104 := by omega
  have b8 := behind8 l
  have b16 := behind16 l
  have b32 := behind32 l hx
  have h8 := crc8_lt l hx
  have h16 := crc16_lt l hx
  have h32 := crc32_lt l
  have k8 := fun W B v => eight_any v l W B
  have k16 := fun W B v => sixteen_any v l W B
  have k32 := fun W B v => thirtytwo_any v l W B
  have HE : Hid (∀ W B v, Sli W B v (cu8 l) → Calls Try.prog 12 #[v] W fun e w' => e = .returned (.int .u8 (crc8 l : Nat)) ∧ W = w') := fun W B v h => eight_any v l W B h hx hn
  have HS : Hid (∀ W B v, Sli W B v (cu8 l) → Calls Try.prog 14 #[v] W fun e w' => e = .returned (.int .u16 (crc16 l : Nat)) ∧ W = w') := fun W B v h => sixteen_any v l W B h hx hn
  have HT : Hid (∀ W B v, Sli W B v (cu8 l) → Calls Try.prog 16 #[v] W fun e w' => e = .returned (.int .u32 (crc32 l : Nat)) ∧ W = w') := fun W B v h => thirtytwo_any v l W B h hx hn
  have HX := Lib.hid hx
  have H0 : Hid (∀ w1, Below w.heap.size w w1 → Sli w1 w.heap.size (.slice A l.length c) (cu8 l)) := fun w1 hb => hl.below hb
  generalize crc8 l = x at *
  generalize crc16 l = y at *
  generalize crc32 l = z at *
  have B8 := Lib.hid b8; have B16 := Lib.hid b16; have B32 := Lib.hid b32
  clear b8 b16 b32 hx hl k8 k16 k32
  go_enter Try.func9, Try.ntmps9
  go_upto_region 5 with (go_at_call 11; refine (known_any _).mono ?_; rintro e w1 ⟨rfl, hb1⟩)
  have hS1 := H0.out w1 hb1
  go_wp2_with (first
    | (go_at_call 12; refine (HE.out _ _ _ hS1).mono ?_; rintro e w2 ⟨rfl, rfl⟩)
    | (go_at_call 14; refine (HS.out _ _ _ hS1).mono ?_; rintro e w2 ⟨rfl, rfl⟩)
    | (go_at_call 16; refine (HT.out _ _ _ hS1).mono ?_; rintro e w2 ⟨rfl, rfl⟩)
    | (at_builtin; refine wpl_copy hS1 hb1.size (by rw [cu8_len]; omega) Try.underlying22 info_u8 rfl (by decide) (cu8_one _) rfl rfl rfl rfl (h := ?_); intro v2 w2 ho2 hb2; obtain ⟨A2, c2, rfl, hc2, hm2⟩ := ho2.form8; refine cut_here ?_))
  unfold CutHere
  go_wp2_with (at_builtin; refine wpl_app1 ho2 hb2.size (by rw [cu8_len]; omega) Try.underlying22 info_u8 rfl (by decide) rfl rfl rfl rfl rfl (h := ?_); intro v3 w3 ho3 hb3; refine cut_here ?_)
  unfold CutHere
  rw [show cu8 l ++ [Value.int .u8 (x : Nat)] = cu8 (l ++ [x]) by simp [cu8]] at ho3
  obtain ⟨A3, n3, c3, rfl⟩ := ho3.shape
  have hb13 := hb2.trans hb3
  have hbw3 := bthen hb1 hb13 hb1.size
  have hS3 := H0.out w3 hbw3
  obtain ⟨yh, hyh⟩ : ∃ yh, y / 256 = yh := ⟨_, rfl⟩
  obtain ⟨yl, hyl⟩ : ∃ yl, y % 256 = yl := ⟨_, rfl⟩
  have q1 : (y : Int) / 256 = (yh : Nat) := by omega
  have q2 : (y : Int) % 256 = (yl : Nat) := by omega
  have q3 : yh < 256 := by omega
  have q4 : yl < 256 := by omega
  rw [hyh, hyl] at B16
  clear hyh hyl
  go_wp2_with (at_builtin; refine wpl_copy hS3 hbw3.size (by rw [cu8_len]; omega) Try.underlying22 info_u8 rfl (by decide) (cu8_one _) rfl rfl rfl rfl (h := ?_); intro v4 w4 ho4 hb4; obtain ⟨A4, c4, rfl, hc4, hm4⟩ := ho4.form8; refine cut_here ?_)
  unfold CutHere
  go_wp2_with (at_builtin; refine wpl_appN (ho4.alloc _) (Sli.lit w4 #[.int .u8 yh, .int .u8 yl] 5 2 rfl (by decide : 2 ≤ maxLen)) (Nat.le_trans hb4.size (by simp)) (by simp [cu8]; omega) Try.underlying22 info_u8 rfl (by decide) (by intro u hu; simp at hu; rcases hu with rfl | rfl <;> rfl) rfl rfl rfl rfl (h := ?_); intro v5 w5 ho5 hb5; refine cut_here ?_)
  unfold CutHere
  rw [show cu8 l ++ #[Value.int .u8 (yh : Nat), .int .u8 (yl : Nat)].toList = cu8 (l ++ [yh, yl]) by simp [cu8]] at ho5
  obtain ⟨A5, n5, c5, rfl⟩ := ho5.shape
  have hb35 := hb4.trans (bthen ((Below.refl w3.heap.size w4).alloc hb4.size _) hb5 (by simp))
  have hb15 := bthen hb13 hb35 hb13.size
  have hbw5 := bthen hbw3 hb35 hbw3.size
  have hS5 := H0.out w5 hbw5
  obtain ⟨z0, hz0⟩ : ∃ z0, z % 256 = z0 := ⟨_, rfl⟩
  obtain ⟨z1, hz1⟩ : ∃ z1, z / 256 % 256 = z1 := ⟨_, rfl⟩
  obtain ⟨z2, hz2⟩ : ∃ z2, z / 65536 % 256 = z2 := ⟨_, rfl⟩
  obtain ⟨z3, hz3⟩ : ∃ z3, z / 16777216 = z3 := ⟨_, rfl⟩
  have r0 : (z : Int) % 256 = (z0 : Nat) := by omega
  have r1 : (z : Int) / 256 % 256 = (z1 : Nat) := by omega
  have r2 : (z : Int) / 65536 % 256 = (z2 : Nat) := by omega
  have r3 : (z : Int) / 16777216 = (z3 : Nat) := by omega
  have s0 : z0 < 256 := by omega
  have s1 : z1 < 256 := by omega
  have s2 : z2 < 256 := by omega
  have s3 : z3 < 256 := by omega
  rw [hz0, hz1, hz2, hz3] at B32
  clear hz0 hz1 hz2 hz3
  go_wp2_with (at_builtin; refine wpl_copy hS5 hbw5.size (by rw [cu8_len]; omega) Try.underlying22 info_u8 rfl (by decide) (cu8_one _) rfl rfl rfl rfl (h := ?_); intro v6 w6 ho6 hb6; obtain ⟨A6, c6, rfl, hc6, hm6⟩ := ho6.form8; refine cut_here ?_)
  unfold CutHere
  go_wp2_with (at_builtin; refine wpl_appN (ho6.alloc _) (Sli.lit w6 #[.int .u8 z0, .int .u8 z1, .int .u8 z2, .int .u8 z3] 5 4 rfl (by decide : 4 ≤ maxLen)) (Nat.le_trans hb6.size (by simp)) (by simp [cu8]; omega) Try.underlying22 info_u8 rfl (by decide) (by intro u hu; simp at hu; rcases hu with rfl | rfl | rfl | rfl <;> rfl) rfl rfl rfl rfl (h := ?_); intro v7 w7 ho7 hb7; refine cut_here ?_)
  unfold CutHere
  rw [show cu8 l ++ #[Value.int .u8 (z0 : Nat), .int .u8 (z1 : Nat), .int .u8 (z2 : Nat), .int .u8 (z3 : Nat)].toList = cu8 (l ++ [z0, z1, z2, z3]) by simp [cu8]] at ho7
  obtain ⟨A7, n7, c7, rfl⟩ := ho7.shape
  have hb57 := hb6.trans (bthen ((Below.refl w5.heap.size w6).alloc hb6.size _) hb7 (by simp))
  have hbw7 := bthen hbw5 hb57 hbw5.size
  have hb37 := bthen hb35 hb57 hb35.size
  have e8 := eight_any _ _ w7 _ (ho3.sli.below hb37) (by intro a ha; simp at ha; rcases ha with h | rfl; exact HX.out a h; exact h8) (by simp; omega)
  have e16 := sixteen_any _ _ w7 _ (ho5.sli.below hb57) (by intro a ha; simp at ha; rcases ha with h | rfl | rfl; exact HX.out a h; exact q3; exact q4) (by simp; omega)
  have e32 := thirtytwo_any _ _ w7 _ ho7.sli (by intro a ha; simp at ha; rcases ha with h | rfl | rfl | rfl | rfl; exact HX.out a h; exact s0; exact s1; exact s2; exact s3) (by simp; omega)
  rw [B8.out] at e8
  rw [B16.out] at e16
  rw [B32.out] at e32
  have E8 := Lib.hid e8; have E16 := Lib.hid e16; have E32 := Lib.hid e32
  clear e8 e16 e32
  go_wp2_with (first
    | (go_at_call 12; refine (E8.out).mono ?_; rintro e wz ⟨rfl, rfl⟩)
    | (go_at_call 14; refine (E16.out).mono ?_; rintro e wz ⟨rfl, rfl⟩)
    | (go_at_call 16; refine (E32.out).mono ?_; rintro e wz ⟨rfl, rfl⟩))
  go_ret
  exact ⟨rfl, hbw7⟩
end Go.Proofs.Ytdkhkjagkmniaaa
