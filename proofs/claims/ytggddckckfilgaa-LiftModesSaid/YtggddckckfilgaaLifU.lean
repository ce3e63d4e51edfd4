/- lift: the law LiftLeast. -/
import Derived.Test.YtggddckckfilgaaLifT
import Derived.Deep.RegionHeld3
namespace Go.Proofs.Ytggddckckfilgaa
open Go.RowKit
set_option maxRecDepth 100000
set_option maxHeartbeats 8000000

def bdR (M : Int) (rs : List (List Int)) : Prop := ∀ r ∈ rs, ∀ x ∈ r, -M ≤ x ∧ x ≤ M
theorem mem_getD {rs : List (List Int)} {i : Nat} {x : Int} (h : x ∈ rs.getD i []) : ∃ r ∈ rs, x ∈ r := by
  rw [List.getD_eq_getElem?_getD] at h
  cases hr : rs[i]? with
  | none => rw [hr] at h; simp at h
  | some r => rw [hr] at h; exact ⟨r, List.mem_of_getElem? hr, h⟩
theorem mem_zip {f : Int → Int → Int} : ∀ {a b : List Int} {z : Int}, z ∈ List.zipWith f a b → ∃ x ∈ a, ∃ y ∈ b, z = f x y
  | [], _, _, h => by simp at h
  | _ :: _, [], _, h => by simp at h
  | x :: a, y :: b, z, h => by
    rw [List.zipWith_cons_cons] at h
    rcases List.mem_cons.1 h with rfl | h
    · exact ⟨x, by simp, y, by simp, rfl⟩
    · obtain ⟨x', hx, y', hy, e⟩ := mem_zip h
      exact ⟨x', by simp [hx], y', by simp [hy], e⟩
theorem step_bd {M : Int} {rs : List (List Int)} {x : Li} (hM : 2 * M < 1073741824) (h0 : 0 ≤ M) (h : bdR M rs) (h1 : -256 ≤ x.gn) (h2 : x.gn ≤ 256) : ∃ r, stepR 1 rs x = some r ∧ bdR (2 * M) r := by
  have hall : ∀ z ∈ addL 1 x.gn (rs.getD x.to.toNat []) (rs.getD x.fr.toNat []), -(2 * M) ≤ z ∧ z ≤ 2 * M := by
    intro z hz
    obtain ⟨a, ha, b, hb, rfl⟩ := mem_zip hz
    obtain ⟨r1, hr1, ha1⟩ := mem_getD ha
    obtain ⟨r2, hr2, hb2⟩ := mem_getD hb
    have k1 := h r1 hr1 a ha1
    have k2 := h r2 hr2 b hb2
    have hG : -(256 * M) ≤ x.gn * b ∧ x.gn * b ≤ 256 * M := by
      have h3 : (x.gn * b).natAbs ≤ 256 * M.toNat := by
        rw [Int.natAbs_mul]
        exact Nat.mul_le_mul (by omega) (by omega)
      omega
    unfold addI
    omega
  refine ⟨_, by unfold stepR; rw [if_pos (List.all_eq_true.2 fun z hz => wideB_iff.2 (by have := hall z hz; omega))], ?_⟩
  intro r hr z hz
  rcases List.mem_or_eq_of_mem_set hr with h3 | h3
  · have := h r h3 z hz; omega
  · subst h3; exact hall z hz
theorem run_bd : ∀ (l : List Li) (M : Int) (rs : List (List Int)), (2 : Int) ^ l.length * M < 1073741824 → 0 ≤ M → bdR M rs → (∀ x ∈ l, -256 ≤ x.gn ∧ x.gn ≤ 256) → ∃ r, runR 1 l rs = some r
  | [], M, rs, _, _, _, _ => ⟨rs, rfl⟩
  | x :: l, M, rs, hM, h0, h, hl => by
    rw [List.length_cons, Int.pow_succ, Int.mul_assoc] at hM
    have hp : (1 : Int) ≤ 2 ^ l.length := by
      have : (1 : Nat) ≤ 2 ^ l.length := Nat.one_le_two_pow
      have e : (2 : Int) ^ l.length = ((2 ^ l.length : Nat) : Int) := by norm_cast
      rw [e]; omega
    have h2M : 2 * M ≤ 2 ^ l.length * (2 * M) := by
      have := Int.mul_le_mul_of_nonneg_right hp (show (0 : Int) ≤ 2 * M by omega)
      rw [Int.one_mul] at this
      exact this
    obtain ⟨r, h1, h2⟩ := step_bd (x := x) (by omega) h0 h (hl x (by simp)).1 (hl x (by simp)).2
    obtain ⟨r', h3⟩ := run_bd l (2 * M) r hM (by omega) h2 (fun y hy => hl y (by simp [hy]))
    exact ⟨r', by simp only [runR]; rw [h1]; exact h3⟩
theorem namedLi_gain (m : Int) : ∀ x ∈ namedLi m, -256 ≤ x.gn ∧ x.gn ≤ 256 := by
  unfold namedLi
  split
  · decide
  · split
    · decide
    · split
      · decide
      · split
        · decide
        · simp
/-- A block's samples are small. -/
theorem block_bd {b : Int} {rs : List (List Int)} {n : Nat} (M : MayBk b rs n) : bdR 8388608 rs ∧ RowsOk rs n := by
  have hb := packB_iff.1 M.bits
  have hp : (2 ^ (b - 1).toNat : Nat) ≤ 2 ^ 23 := Nat.pow_le_pow_right (by omega) (by omega)
  have hbd : bdR 8388608 rs := by
    intro r hr x hx
    have h1 := List.all_eq_true.1 (M.fits r hr) x hx
    obtain ⟨_, _, h2, h3⟩ := fits_iff.1 h1
    have h4 : ((2 ^ (b - 1).toNat : Nat) : Int) ≤ 8388608 := by
      have : (2 : Nat) ^ 23 = 8388608 := by decide
      omega
    omega
  exact ⟨hbd, M.chans, M.len, M.size.2, M.rows, fun r hr => List.all_eq_true.2 fun x hx => wideB_iff.2 (by have := hbd r hr x hx; omega)⟩
theorem do_mode {b : Int} {rs : List (List Int)} {n : Nat} (M : MayBk b rs n) (h2 : rs.length = 2) (m : Int) : ∃ r, doLi rs (namedLi m) = (r, 0) := by
  obtain ⟨hbd, hok⟩ := block_bd M
  have hl := namedLi_len m
  obtain ⟨r, hr⟩ := run_bd (namedLi m) 8388608 rs (by
    have : (2 : Int) ^ (namedLi m).length ≤ 8 := by
      have h3 : (2 : Nat) ^ (namedLi m).length ≤ 2 ^ 3 := Nat.pow_le_pow_right (by omega) hl
      have e : (2 : Int) ^ (namedLi m).length = ((2 ^ (namedLi m).length : Nat) : Int) := by norm_cast
      rw [e]; omega
    omega) (by omega) hbd (namedLi_gain m)
  exact ⟨r, opR_some (of_rowsOk hok) (by rw [h2]; exact namedLi_may m) hr⟩
theorem best_two {b : Int} {rs : List (List Int)} (hm : mayBk b rs = true) (h2 : rs.length = 2) : bestLi b rs = namedLi ((bestM rs 4 : Nat) : Int) := by
  unfold bestLi
  rw [if_pos hm, h2]
  have hp : pairAt rs (2 * 0) = rs := by unfold pairAt; rw [List.drop_zero, List.take_of_length_le (by omega)]
  simp only [bestsLi, List.nil_append]
  rw [hp]
  unfold bestOfLi
  rw [show ((2 * 0 : Nat) : Int) = 0 from rfl]
  have : shiftLi 0 = id := by funext x; simp [shiftLi]
  rw [this, List.map_id]
theorem wt_do (rs : List (List Int)) (m : Nat) (h : rowsW rs = true) (h2 : rs.length = 2) : weightLi (doLi rs (namedLi (m : Int))).1 = wtMode rs m := by
  unfold wtMode
  split
  next h0 =>
    subst h0
    have : doLi rs (namedLi ((0 : Nat) : Int)) = (rs, 0) := opR_some h (by rw [h2]; exact namedLi_may _) rfl
    rw [this]
  next => rfl
theorem i64_and255 (n : Int) : bits .and .i64 n 255 = n % 256 := by
  have h255 : (BitVec.ofInt 64 255).toNat = 2 ^ 8 - 1 := by decide
  have key : (BitVec.ofInt 64 n &&& BitVec.ofInt 64 255).toNat = (n % ((2 ^ 64 : Nat) : Int)).toNat % 2 ^ 8 := by
    rw [BitVec.toNat_and, BitVec.toNat_ofInt, h255, Nat.and_two_pow_sub_one_eq_mod]
  show IntKind.i64.wrap ((BitVec.ofInt 64 n &&& BitVec.ofInt 64 255).toNat : Nat) = n % 256
  rw [key, IntKind.wrap_i64]
  omega
theorem mode_of (n : Int) : ∃ m : Nat, (bits .and .i64 n 255).tmod 5 = (m : Nat) ∧ m < 5 := by
  rw [i64_and255]
  refine ⟨((n % 256).tmod 5).toNat, ?_, ?_⟩
  · have : 0 ≤ (n % 256).tmod 5 := Int.tmod_nonneg _ (by omega)
    omega
  · have h1 : (n % 256).tmod 5 = (n % 256) % 5 := Int.tmod_eq_emod_of_nonneg (by omega)
    omega
theorem liftLeast_walk (bo : Int) (bv : Value) (rs : List (List Int)) (mode : Int) (w : World) (hR : Rws w w.heap.size bv rs) :
    Calls Try.prog 9 #[.agg #[.int .i64 bo, bv], .int .i64 mode] w fun e w' => e = .returned (.bool true) ∧ Below w.heap.size w w' := by
  obtain ⟨A, c, rfl, hlc, hcm⟩ := hR.form
  have hX := Bx.start (b := bo) hR
  obtain ⟨wA, hwA⟩ : ∃ wA, w.alloc (.cells #[.int .i64 bo, .slice A rs.length c] 37) = wA := ⟨_, rfl⟩
  rw [hwA] at hX
  have HWA := Lib.hid hwA
  have hsm := fun (w1 : World) (h : Bx w w1 w.heap.size bo (.slice A rs.length c) rs) => smallBk_any bo _ rs 150 w1 _ h.r h.size
  have hmy := fun (w1 : World) (h : Bx w w1 w.heap.size bo (.slice A rs.length c) rs) => qmayBk_any bo _ rs w1 _ h.r h.size
  have hbs := fun (w1 : World) (h : Bx w w1 w.heap.size bo (.slice A rs.length c) rs) => bestL_any bo _ rs w1 _ h.r h.size
  obtain ⟨md, hmd, hmd5⟩ := mode_of mode
  clear hwA
  by_cases hs : smallB rs 150 = true
  · rw [hs] at hsm
    by_cases h2 : rs.length = 2
    · cases hmb : mayBk bo rs
      · rw [hmb] at hmy
        rw [h2] at HWA hX hsm hmy hlc ⊢
        have HSM := Lib.hid hsm; have HMY := Lib.hid hmy
        clear hsm hmy hbs h2 hs hR hmb
        go_enter Try.func9, Try.ntmps9
        go_wp2_with fail
        rw [HWA.out]
        refine (lknown_any wA).mono ?_
        rintro e w1 ⟨rfl, hb1⟩
        have hX1 := hX.on hb1
        have x0 := hX1.c0
        have x1 := hX1.c1
        go_wp2_with fail
        refine (HSM.out w1 hX1).mono ?_
        rintro e w2 ⟨rfl, hb2⟩
        have hX2 := hX1.on hb2
        clear x0 x1
        have x0 := hX2.c0
        have x1 := hX2.c1
        go_wp2_with fail
        refine (HMY.out w2 hX2).mono ?_
        rintro e w3 ⟨rfl, hb3⟩
        have hX3 := hX2.on hb3
        go_wp2
        go_ret
        exact ⟨rfl, hX3.be⟩
      · rw [hmb] at hmy
        have M := mayBk_of hmb
        have hbt := best_two hmb h2
        have hdo := fun m => do_mode M h2 m
        have hwd := fun m => wt_do rs m (of_rowsOk (block_bd M).2) h2
        have hls := fun m (h : m ≤ 4) => bestM_least rs 4 m h
        have hb4 := bestM_le rs 4
        rw [hbt] at hbs
        generalize bestM rs 4 = bm at *
        obtain ⟨r1, hr1⟩ := hdo (bm : Int)
        have hw1 := hwd bm
        rw [hr1] at hw1
        have hd1 := fun (w1 : World) (h : Bx w w1 w.heap.size bo (.slice A rs.length c) rs) u (hu : Lis w1 w1.heap.size u (namedLi (bm : Int))) => doL_any _ u rs _ w1 _ _ h.r h.size hu (Nat.le_refl _)
        rw [hr1] at hd1
        rw [h2] at HWA hX hsm hmy hbs hd1 hlc ⊢
        have HSM := Lib.hid hsm; have HMY := Lib.hid hmy; have HBS := Lib.hid hbs; have HD1 := Lib.hid hd1; have HDO := Lib.hid hdo; have HWD := Lib.hid hwd; have HLS := Lib.hid hls; have HW1 := Lib.hid hw1; have HB4 := Lib.hid hb4
        clear hsm hmy hbs hd1 hdo hwd hls hw1 hb4 M hmb h2 hs hr1 hbt hR
        go_enter Try.func9, Try.ntmps9
        go_wp2_with fail
        rw [HWA.out]
        refine (lknown_any wA).mono ?_
        rintro e w1 ⟨rfl, hb1⟩
        have hX1 := hX.on hb1
        have x0 := hX1.c0
        have x1 := hX1.c1
        go_wp2_with fail
        refine (HSM.out w1 hX1).mono ?_
        rintro e w2 ⟨rfl, hb2⟩
        have hX2 := hX1.on hb2
        clear x0 x1
        have x0 := hX2.c0
        have x1 := hX2.c1
        go_wp2_with fail
        refine (HMY.out w2 hX2).mono ?_
        rintro e w3 ⟨rfl, hb3⟩
        have hX3 := hX2.on hb3
        clear x0 x1
        have x0 := hX3.c0
        have x1 := hX3.c1
        go_wp2_with fail
        refine (HBS.out w3 hX3).mono ?_
        rintro e w4 ⟨u4, rfl, ho4, hb4⟩
        have hX4 := hX3.on hb4
        clear x0 x1
        have x0 := hX4.c0
        have x1 := hX4.c1
        obtain ⟨A4, n4, c4, rfl⟩ := ho4.shapeL
        go_wp2_with fail
        refine (HD1.out w4 hX4 _ ho4.lis).mono ?_
        rintro e w5 ⟨u5, vs5, rfl, hr5, hb5⟩
        have hX5 := hX4.on hb5
        have HO5 := Lib.hid (ho4.below hb5)
        have HR5 := Lib.hid hr5
        clear x0 x1 ho4 hr5
        have x0 := hX5.c0
        have x1 := hX5.c1
        obtain ⟨r2, hr2⟩ := HDO.out (md : Int)
        have hw2 := HWD.out md
        rw [hr2] at hw2
        have hd2 := fun (w1 : World) (h : Bx w w1 w.heap.size bo (.slice A 2 c) rs) u (hu : Lis w1 w1.heap.size u (namedLi (md : Int))) => doL_any _ u rs _ w1 _ _ h.r h.size hu (Nat.le_refl _)
        rw [hr2] at hd2
        have HD2 := Lib.hid hd2; have HW2 := Lib.hid hw2
        have HLE := Lib.hid (HLS.out md (by omega))
        have hX5d := hX5.drew
        have y0 := hX5d.c0
        have y1 := hX5d.c1
        clear hd2 hw2 hr2 HDO HWD HLS HD1 hmd5
        go_wp2_with fail
        go_region_held3 (fun w' => w'.cell? ⟨w.heap.size, 0, none⟩ = some (.int .i64 bo) ∧ w'.cell? ⟨w.heap.size, 1, none⟩ = some (.slice A 2 c))
          (first | go_keep | exact ⟨hX6.c0, hX6.c1⟩ | exact ⟨hX7.c0, hX7.c1⟩)
          (first
            | (go_at_call 16; refine (named_any (md : Int) w5.drew).mono ?_; rintro e w6 ⟨u6, rfl, ho6, hb6⟩; have hX6 := hX5d.on hb6)
            | (go_at_call 20; refine (HD2.out w6 hX6 u6 ho6.lis).mono ?_; rintro e w7 ⟨u7, vs7, rfl, hr7, hb7⟩; have hX7 := hX6.on hb7))
        all_goals
          have HB57 := Lib.hid ((Below.refl w5.heap.size w5).drew.trans (hb6.trans (hb7.mono hb6.size)))
          have HO7 := Lib.hid (HO5.out.below HB57.out)
          have HR57 := Lib.hid (HR5.out.kept HB57.out)
          have HR7 := Lib.hid hr7
          have hmay := mayL_any _ (namedLi (bm : Int)) 2 w7 _ HO7.out.lis (Nat.le_refl _)
          rw [namedLi_may] at hmay
          have HMAY := Lib.hid hmay
          have hle := HLE.out
          rw [← HW1.out, ← HW2.out] at hle
          have hwa := fun w1 (h : Below w7.heap.size w7 w1) => weightL_any u5 r1 w1 _ (HR57.out.kept h).rws
          have hwb := fun w1 (h : Below w7.heap.size w7 w1) => weightL_any u7 r2 w1 _ (HR7.out.kept h).rws
          generalize weightLi r1 = wt1 at *
          generalize weightLi r2 = wt2 at *
          have HWA2 := Lib.hid hwa; have HWB2 := Lib.hid hwb
          clear hmay hr7 hb7 hb6 ho6 hwa hwb HW1 HW2 HLE
          go_wp2_with fail
          refine HMAY.out.mono ?_
          rintro e w8 ⟨rfl, hb8⟩
          have hX8 := hX7.on hb8
          go_wp2_with fail
          refine (HWA2.out w8 hb8).mono ?_
          rintro e w9 ⟨rfl, q9, rfl⟩
          have hb9 := below_drewN hb8 q9
          have hX9 := hX8.drewN q9
          go_wp2_with fail
          refine (HWB2.out _ hb9).mono ?_
          rintro e wz ⟨rfl, qz, rfl⟩
          have hXz := hX9.drewN qz
          go_wp2
          go_ret
          exact ⟨rfl, by have := hXz.be; rw [World.drewN_drewN] at this; exact this⟩
    · have hne : ((rs.length : Int) != 2) = true := by rw [bne_iff_ne]; omega
      have HSM := Lib.hid hsm
      clear hsm hmy hbs hs hR h2
      go_enter Try.func9, Try.ntmps9
      go_wp2_with fail
      rw [HWA.out]
      refine (lknown_any wA).mono ?_
      rintro e w1 ⟨rfl, hb1⟩
      have hX1 := hX.on hb1
      have x0 := hX1.c0
      have x1 := hX1.c1
      go_wp2_with fail
      refine (HSM.out w1 hX1).mono ?_
      rintro e w2 ⟨rfl, hb2⟩
      have hX2 := hX1.on hb2
      clear x0 x1
      have x0 := hX2.c0
      have x1 := hX2.c1
      go_wp2
      go_ret
      exact ⟨rfl, hX2.be⟩
  · rw [Bool.eq_false_iff.2 hs] at hsm
    have HSM := Lib.hid hsm
    clear hsm hmy hbs hs hR
    go_enter Try.func9, Try.ntmps9
    go_wp2_with fail
    rw [HWA.out]
    refine (lknown_any wA).mono ?_
    rintro e w1 ⟨rfl, hb1⟩
    have hX1 := hX.on hb1
    have x0 := hX1.c0
    have x1 := hX1.c1
    go_wp2_with fail
    refine (HSM.out w1 hX1).mono ?_
    rintro e w2 ⟨rfl, hb2⟩
    have hX2 := hX1.on hb2
    clear x0 x1
    have x0 := hX2.c0
    have x1 := hX2.c1
    go_wp2
    go_ret
    exact ⟨rfl, hX2.be⟩
end Go.Proofs.Ytggddckckfilgaa
