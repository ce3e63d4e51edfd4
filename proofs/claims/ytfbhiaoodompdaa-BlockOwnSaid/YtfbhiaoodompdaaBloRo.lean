/- block: the law BlockRound. -/
import Derived.Test.YtfbhiaoodompdaaBloO
import Derived.Test.YtfbhiaoodompdaaBloD
import Derived.Test.YtfbhiaoodompdaaBloPa
import Derived.Deep.RegionHeld3
namespace Go.Proofs.Ytfbhiaoodompdaa
open Go.RowKit
set_option maxRecDepth 100000
set_option maxHeartbeats 8000000

/-- What stays where nothing below the heap's size turns. -/
def Stab (P : World → Prop) : Prop := ∀ w w', Below w.heap.size w w' → P w → P w'
theorem stab_box (g : Nat) (o : Obj) : Stab fun w => w.heap[g]? = some o := fun _ _ hb h => (hb.block _ (Array.getElem?_eq_some_iff.1 h).1).trans h
theorem stab_rws (B : Nat) (v : Value) (rs : List (List Int)) : Stab fun w => B ≤ w.heap.size ∧ Rws w B v rs := fun _ _ hb h => ⟨Nat.le_trans h.1 hb.size, h.2.below (hb.mono h.1)⟩
theorem stab_sli (B : Nat) (v : Value) (xs : List Value) : Stab fun w => B ≤ w.heap.size ∧ Sli w B v xs := fun _ _ hb h => ⟨Nat.le_trans h.1 hb.size, h.2.below (hb.mono h.1)⟩
theorem stab_be (w0 : World) : Stab fun w => Below w0.heap.size w0 w := fun _ _ hb h => bthen h hb h.size
theorem Stab.and {P Q : World → Prop} (h : Stab P) (k : Stab Q) : Stab fun w => P w ∧ Q w := fun w w' hb hp => ⟨h w w' hb hp.1, k w w' hb hp.2⟩
theorem Stab.drew {P : World → Prop} (h : Stab P) {w : World} (hp : P w) : P w.drew := h w w.drew (Below.refl w.heap.size w).drew hp
theorem Stab.drewN {P : World → Prop} (h : Stab P) {w : World} (n : Nat) (hp : P w) : P (w.drewN n) := h w (w.drewN n) (below_drewN (Below.refl w.heap.size w) n) hp

/-- A block that was returned just now is put in its box. -/
def Bxd (g B : Nat) (b : Int) (v : Value) (xs : List (List Int)) (w : World) : Prop := w.heap[g]? = some (.cells #[.int .i64 b, v] 26 (0, 0)) ∧ (B ≤ w.heap.size ∧ Rws w B v xs)
theorem stab_bxd (g B : Nat) (b : Int) (v : Value) (xs : List (List Int)) : Stab (Bxd g B b v xs) := fun w w' hb h => (stab_box _ _).and (stab_rws _ _ _) w w' hb h
theorem Bxd.new {w : World} {b : Int} {v : Value} {xs : List (List Int)} (h : Rws w w.heap.size v xs) : Bxd w.heap.size w.heap.size b v xs (w.alloc (.cells #[.int .i64 b, v] 26)) := ⟨boxed _ _ _, by simp, h.below (below_new _ _ _)⟩
theorem Bxd.cs {g B : Nat} {b : Int} {v : Value} {xs : List (List Int)} {w : World} (h : Bxd g B b v xs w) : w.cell? ⟨g, 0, none⟩ = some (.int .i64 b) ∧ w.cell? ⟨g, 1, none⟩ = some v := ⟨(two_in h.1).1, (two_in h.1).2.1⟩
theorem jn_hs (l m : List Nat) : jnI (hs 0 l) (hs 0 m) (m.length : Nat) = (hs 0 (l ++ m), true) := by
  rw [jnI_ok (hs_lt l 0 (by omega)) (hs_lt m 0 (by omega)), hs_join]
theorem cutR_ok {b : Int} {rs : List (List Int)} {n F T : Nat} (h : MayBk b rs n) (hF : F < T) (hT : T ≤ n) : cutR b rs (F : Nat) (T : Nat) = (b, cutB rs F (T - F), 0) := by
  unfold cutR
  rw [if_pos (of_mayBk h), h.len, if_pos ⟨by omega, by omega, by omega⟩, Int.toNat_natCast, show ((T : Int) - (F : Int)).toNat = T - F by omega]
theorem joinR_ok {b : Int} {rs ss : List (List Int)} {n k : Nat} (h : MayBk b rs n) (g : MayBk b ss k) (hl : rs.length = ss.length) (hnk : n + k ≤ 4096) : joinR b rs b ss = (b, joinB rs ss, 0) := by
  unfold joinR
  rw [if_pos ⟨of_mayBk h, of_mayBk g⟩, if_pos ⟨rfl, hl⟩, h.len, g.len, if_pos hnk]
theorem packBl_may {b : Int} {rs : List (List Int)} {n : Nat} (h : MayBk b rs n) : packBl b rs = (packL b (weaveB rs n), 0) := by rw [packBl_ok (of_mayBk h), h.len]
theorem printB_may {b : Int} {rs : List (List Int)} {n : Nat} (h : MayBk b rs n) : printB b rs = hs 0 (packL b (weaveB rs n)) := by unfold printB; rw [if_pos (of_mayBk h), h.len]
theorem cutB_len (rs : List (List Int)) (F n : Nat) : (cutB rs F n).length = rs.length := by simp [cutB]
theorem mask16 (c : Int) : bits .and .i64 c 65535 = c % 65536 := i64_mask 16 (by omega) c

theorem blockRound_walk (bo : Int) (bv : Value) (rs : List (List Int)) (at_ : Int) (w : World) (hR : Rws w w.heap.size bv rs) (ha1 : -9223372036854775808 ≤ at_) (ha2 : at_ ≤ 9223372036854775807) :
    Calls Try.prog 9 #[.agg #[.int .i64 bo, bv], .int .i64 at_] w fun e w' => e = .returned (.bool true) ∧ Below w.heap.size w w' := by
  obtain ⟨A, c, rfl, hlc, hcm⟩ := hR.form
  obtain ⟨m, hm⟩ : ∃ m, rs.length = m := ⟨_, rfl⟩
  rw [hm] at hR ⊢
  have st0 := ((stab_be w).and ((stab_box w.heap.size (.cells #[.int .i64 bo, .slice A m c] 26 (0, 0))).and (stab_rws w.heap.size (.slice A m c) rs)))
  have hP0 : (Below w.heap.size w (w.alloc (.cells #[.int .i64 bo, .slice A m c] 26)) ∧ (w.alloc (.cells #[.int .i64 bo, .slice A m c] 26)).heap[w.heap.size]? = some (.cells #[.int .i64 bo, .slice A m c] 26 (0, 0)) ∧ (w.heap.size ≤ (w.alloc (.cells #[.int .i64 bo, .slice A m c] 26)).heap.size ∧ Rws (w.alloc (.cells #[.int .i64 bo, .slice A m c] 26)) w.heap.size (.slice A m c) rs)) :=
    ⟨below_new _ _ _, boxed _ _ _, by simp, hR.below (below_new _ _ _)⟩
  obtain ⟨wA, hwA⟩ : ∃ wA, w.alloc (.cells #[.int .i64 bo, .slice A m c] 26) = wA := ⟨_, rfl⟩
  rw [hwA] at hP0
  have HWA := Lib.hid hwA
  clear hwA
  have hsm := fun (w1 : World) (h : Rws w1 w.heap.size (.slice A m c) rs) (h2 : w.heap.size ≤ w1.heap.size) => smallBk_any bo _ rs 300 w1 _ h h2
  have hmy := fun (w1 : World) (h : Rws w1 w.heap.size (.slice A m c) rs) (h2 : w.heap.size ≤ w1.heap.size) => qmayBk_any bo _ rs w1 _ h h2
  have HSM0 := Lib.hid hsm; have HMY0 := Lib.hid hmy
  clear hsm hmy
  by_cases hs : smallB rs 300 = true ∧ mayBk bo rs = true
  · obtain ⟨hs1, hs2⟩ := hs
    rw [hs1] at HSM0
    rw [hs2] at HMY0
    have M := mayBk_of hs2
    obtain ⟨n, hn⟩ : ∃ n, lenB rs = n := ⟨_, rfl⟩
    have hln := fun (w1 : World) (h : Rws w1 w.heap.size (.slice A m c) rs) (h2 : w.heap.size ≤ w1.heap.size) => lenBk_any bo _ rs w1 _ h h2
    rw [hn] at M hln
    have HLN := Lib.hid hln
    have hn8 := M.size
    by_cases hn2 : n < 2
    · clear hs1 hs2 hln M hm
      go_enter Try.func9, Try.ntmps9
      go_wp2_with fail
      rw [HWA.out]
      refine (knownBk_any wA).mono ?_
      rintro e w1 ⟨rfl, hb1⟩
      have hP1 := st0 _ _ hb1 hP0
      obtain ⟨x0, x1, xf⟩ := two_in hP1.2.1
      go_wp2_with fail
      refine (HSM0.out w1 hP1.2.2.2 hP1.2.2.1).mono ?_
      rintro e w2 ⟨rfl, hb2⟩
      have hP2 := st0 _ _ hb2 hP1
      clear x0 x1 xf
      obtain ⟨x0, x1, xf⟩ := two_in hP2.2.1
      go_wp2_with fail
      refine (HMY0.out w2 hP2.2.2.2 hP2.2.2.1).mono ?_
      rintro e w3 ⟨rfl, hb3⟩
      have hP3 := st0 _ _ hb3 hP2
      clear x0 x1 xf
      obtain ⟨x0, x1, xf⟩ := two_in hP3.2.1
      go_wp2_with fail
      refine (HLN.out w3 hP3.2.2.2 hP3.2.2.1).mono ?_
      rintro e w4 ⟨rfl, hb4⟩
      have hP4 := st0 _ _ hb4 hP3
      clear x0 x1 xf
      go_wp2
      go_ret
      exact ⟨rfl, hP4.1⟩
    · have hn3 : 2 ≤ n := by omega
      obtain ⟨a, ha⟩ : ∃ a : Nat, at_ % 65536 = (a : Int) := Int.eq_ofNat_of_zero_le (Int.emod_nonneg _ (by decide))
      have hmask := mask16 at_
      rw [ha] at hmask
      have ha16 : (a : Int) < 65536 := by rw [← ha]; exact Int.emod_lt_of_pos _ (by decide)
      obtain ⟨q, hq⟩ : ∃ q, a % (n - 1) = q := ⟨_, rfl⟩
      have hqn : q < n - 1 := by rw [← hq]; exact Nat.mod_lt _ (by omega)
      have hn1 : ((n : Int) - 1) = ((n - 1 : Nat) : Int) := by omega
      have hqI : (a : Int) % ((n - 1 : Nat) : Int) = (q : Nat) := by rw [← Int.natCast_emod, hq]
      obtain ⟨k, hk⟩ : ∃ k, 1 + q = k := ⟨_, rfl⟩
      have hkI : (1 : Int) + (q : Int) = (k : Nat) := by omega
      have hk1 : 1 ≤ k := by omega
      have hkn : k < n := by omega
      obtain ⟨n1, hnn1⟩ : ∃ n1, n - 1 = n1 := ⟨_, rfl⟩
      rw [hnn1] at hn1 hqI
      have hn1z : n1 ≠ 0 := by omega
      have X := cut_may M 0 k hk1 (by omega)
      have Y := cut_may M k (n - k) (by omega) (by omega)
      have hjc := join_cut M.rows k
      have hwj := weave_join (rs := cutB rs 0 k) (ss := cutB rs k (n - k)) X.rows (by rw [cutB_len, cutB_len]) (n - k)
      rw [hjc, show k + (n - k) = n by omega] at hwj
      have hc1 := cutR_ok M (F := 0) (T := k) (by omega) (by omega)
      have hc2 := cutR_ok M (F := k) (T := n) (by omega) (by omega)
      rw [Nat.sub_zero, show ((0 : Nat) : Int) = 0 from rfl] at hc1
      have hjr := joinR_ok X Y (by rw [cutB_len, cutB_len]) (by omega)
      rw [hjc] at hjr
      have hpY := packBl_may Y
      have hprX := printB_may X
      have hprY := printB_may Y
      have hprB := printB_may M
      rw [hwj, packL_app] at hprB
      have hlY : (packL bo (weaveB (cutB rs k (n - k)) (n - k))).length ≤ 98304 := by
        have := packBl_len bo (cutB rs k (n - k))
        rw [hpY] at this
        exact this
      have hbX := packL_byte bo (weaveB (cutB rs 0 k) k)
      have hcut1 := fun (w1 : World) (h : Rws w1 w.heap.size (.slice A m c) rs) (h2 : w.heap.size ≤ w1.heap.size) => cutBk_any bo _ rs 0 (k : Nat) w1 _ h h2
      have hcut2 := fun (w1 : World) (h : Rws w1 w.heap.size (.slice A m c) rs) (h2 : w.heap.size ≤ w1.heap.size) => cutBk_any bo _ rs (k : Nat) (n : Nat) w1 _ h h2
      rw [hc1] at hcut1
      rw [hc2] at hcut2
      generalize packL bo (weaveB (cutB rs 0 k) k) = px at *
      generalize packL bo (weaveB (cutB rs k (n - k)) (n - k)) = py at *
      have hlX := X.len
      have hsX := X.smb; have hsB := M.smb
      generalize cutB rs 0 k = xs at *
      generalize cutB rs k (n - k) = ys at *
      have hjn := fun (w1 : World) (v u : Value) (h : Rws w1 w1.heap.size v xs) (h2 : Rws w1 w1.heap.size u ys) => joinBk_any bo bo v u xs ys w1 _ h h2 (Nat.le_refl _)
      rw [hjr] at hjn
      have hpk := fun (w1 : World) (v : Value) (B : Nat) (h : Rws w1 B v ys) (h2 : B ≤ w1.heap.size) => packBk_any bo v ys w1 B h h2
      rw [hpY] at hpk
      have hp1 := fun (w1 : World) (v : Value) (B : Nat) (h : Rws w1 B v xs) (h2 : B ≤ w1.heap.size) => printBk_any bo v xs w1 B h h2
      rw [hprX] at hp1
      have hp2 := fun (w1 : World) (v : Value) (B : Nat) (h : Rws w1 B v ys) (h2 : B ≤ w1.heap.size) => printBk_any bo v ys w1 B h h2
      rw [hprY] at hp2
      have hp3 := fun (w1 : World) (h : Rws w1 w.heap.size (.slice A m c) rs) (h2 : w.heap.size ≤ w1.heap.size) => printBk_any bo _ rs w1 _ h h2
      rw [hprB] at hp3
      have hjs := fun w1 => join_any (hs 0 px) (hs 0 py) (py.length : Nat) w1 (by have := hs_lt px 0 (by omega); omega) (by have := hs_lt py 0 (by omega); omega) (by omega) (by omega)
      rw [jn_hs] at hjs
      have hlx := fun (w1 : World) (v : Value) (B : Nat) (h : Rws w1 B v xs) (h2 : B ≤ w1.heap.size) => lenBk_any bo v xs w1 B h h2
      rw [hlX] at hlx
      have hqq : ((((hs 0 (px ++ py) : Nat)) : Int) == (((hs 0 (px ++ py) : Nat)) : Int)) = true := by simp
      have hkk : ((k : Int) == (k : Int)) = true := by simp
      generalize hs 0 (px ++ py) = hz at *
      generalize hs 0 px = hx at *
      generalize hs 0 py = hy at *
      have H1 := Lib.hid hcut1; have H2 := Lib.hid hcut2; have H3 := Lib.hid hjn; have H4 := Lib.hid hpk; have H5 := Lib.hid hp1; have H6 := Lib.hid hp2; have H7 := Lib.hid hp3; have H8 := Lib.hid hjs; have H9 := Lib.hid hlx; have HSB := Lib.hid hsB; have HMASK := Lib.hid hmask
      clear hcut1 hcut2 hjn hpk hp1 hp2 hp3 hjs hlx hs1 hs2 hln M X Y hjc hwj hc1 hc2 hjr hpY hprX hprY hprB hbX hlX hsX hsB hm hR ha ha16 hnn1 hq hk
      go_enter Try.func9, Try.ntmps9
      go_wp2_with fail
      rw [HWA.out]
      refine (knownBk_any wA).mono ?_
      rintro e w1 ⟨rfl, hb1⟩
      have hP1 := st0 _ _ hb1 hP0
      obtain ⟨x0, x1, xf⟩ := two_in hP1.2.1
      go_wp2_with fail
      refine (HSM0.out w1 hP1.2.2.2 hP1.2.2.1).mono ?_
      rintro e w2 ⟨rfl, hb2⟩
      have hP2 := st0 _ _ hb2 hP1
      clear x0 x1 xf
      obtain ⟨x0, x1, xf⟩ := two_in hP2.2.1
      go_wp2_with fail
      refine (HMY0.out w2 hP2.2.2.2 hP2.2.2.1).mono ?_
      rintro e w3 ⟨rfl, hb3⟩
      have hP3 := st0 _ _ hb3 hP2
      clear x0 x1 xf
      obtain ⟨x0, x1, xf⟩ := two_in hP3.2.1
      go_wp2_with fail
      refine (HLN.out w3 hP3.2.2.2 hP3.2.2.1).mono ?_
      rintro e w4 ⟨rfl, hb4⟩
      have hP4 := st0 _ _ hb4 hP3
      clear x0 x1 xf
      obtain ⟨x0, x1, xf⟩ := two_in hP4.2.1
      have hm16 := HMASK.out
      go_wp2_with fail
      refine (H1.out w4 hP4.2.2.2 hP4.2.2.1).mono ?_
      rintro e w5 ⟨A5, n5, c5, vs5, rfl, hR5, hb5⟩
      have hP5 := st0 _ _ hb5 hP4
      have hbn5 := below_new w5 #[.int .i64 bo, .slice A5 n5 c5] 26
      have hX6 := Bxd.new (b := bo) hR5.rws
      have hP6 := st0 _ _ hbn5 hP5
      obtain ⟨w6, hw6⟩ : ∃ w6, w5.alloc (.cells #[.int .i64 bo, .slice A5 n5 c5] 26) = w6 := ⟨_, rfl⟩
      rw [hw6] at hX6 hP6
      clear x0 x1 xf hP5 hbn5 hR5
      obtain ⟨x0, x1, xf⟩ := two_in hP6.2.1
      go_wp2_with fail
      refine (H2.out w6 hP6.2.2.2 hP6.2.2.1).mono ?_
      rintro e w7 ⟨A7, n7, c7, vs7, rfl, hR7, hb7⟩
      have st1 := st0.and (stab_bxd w5.heap.size w5.heap.size bo (.slice A5 n5 c5) xs)
      have hP7 := st1 _ _ hb7 ⟨hP6, hX6⟩
      have hbn7 := below_new w7 #[.int .i64 bo, .slice A7 n7 c7] 26
      have hY8 := Bxd.new (b := bo) hR7.rws
      have hP8 := st1 _ _ hbn7 hP7
      obtain ⟨w8, hw8⟩ : ∃ w8, w7.alloc (.cells #[.int .i64 bo, .slice A7 n7 c7] 26) = w8 := ⟨_, rfl⟩
      rw [hw8] at hY8 hP8
      clear x0 x1 xf hP6 hX6 hP7 hbn7 hR7
      obtain ⟨x0, x1⟩ := hP8.2.cs
      obtain ⟨y0, y1⟩ := hY8.cs
      go_wp2_with fail
      refine (H3.out w8 _ _ (hP8.2.2.2.more hP8.2.2.1) (hY8.2.2.more hY8.2.1)).mono ?_
      rintro e w9 ⟨A9, n9, c9, vs9, rfl, hR9, hb9⟩
      have st2 := st1.and (stab_bxd w7.heap.size w7.heap.size bo (.slice A7 n7 c7) ys)
      have hP9 := st2 _ _ hb9 ⟨hP8, hY8⟩
      have hbn9 := below_new w9 #[.int .i64 bo, .slice A9 n9 c9] 26
      have hZ10 := Bxd.new (b := bo) hR9.rws
      have hP10 := st2 _ _ hbn9 hP9
      obtain ⟨w10, hw10⟩ : ∃ w10, w9.alloc (.cells #[.int .i64 bo, .slice A9 n9 c9] 26) = w10 := ⟨_, rfl⟩
      rw [hw10] at hZ10 hP10
      clear x0 x1 y0 y1 hP8 hY8 hP9 hbn9 hR9
      obtain ⟨y0, y1⟩ := hP10.2.cs
      go_wp2_with fail
      refine (H4.out w10 _ _ hP10.2.2.2 hP10.2.2.1).mono ?_
      rintro e w11 ⟨v11, rfl, ho11, hb11⟩
      have st3 := st2.and (stab_bxd w9.heap.size w9.heap.size bo (.slice A9 n9 c9) rs)
      have hP11 := st3 _ _ hb11 ⟨hP10, hZ10⟩
      obtain ⟨A11, c11, rfl, _, _⟩ := ho11.form
      rw [cu8_len]
      clear y0 y1 hP10 hZ10
      obtain ⟨x0, x1⟩ := hP11.1.1.2.cs
      obtain ⟨y0, y1⟩ := hP11.1.2.cs
      have hP11d := st3.drew hP11
      go_wp2_with fail
      go_region_held3 (fun w' => w'.cell? ⟨w5.heap.size, 0, none⟩ = some (.int .i64 bo) ∧ w'.cell? ⟨w5.heap.size, 1, none⟩ = some (.slice A5 n5 c5) ∧ w'.cell? ⟨w7.heap.size, 0, none⟩ = some (.int .i64 bo) ∧ w'.cell? ⟨w7.heap.size, 1, none⟩ = some (.slice A7 n7 c7))
        (first | go_keep | exact ⟨hP12.1.1.2.cs.1, hP12.1.1.2.cs.2, hP12.1.2.cs.1, hP12.1.2.cs.2⟩ | exact ⟨hP13.1.1.2.cs.1, hP13.1.1.2.cs.2, hP13.1.2.cs.1, hP13.1.2.cs.2⟩ | exact ⟨hP14.1.1.2.cs.1, hP14.1.1.2.cs.2, hP14.1.2.cs.1, hP14.1.2.cs.2⟩)
        (first
          | (go_at_call_of 26 (Value.agg #[.int .i64 bo, .slice A5 n5 c5]); refine (H5.out _ _ _ hP11d.1.1.2.2.2 hP11d.1.1.2.2.1).mono ?_; rintro e w12 ⟨rfl, hb12⟩; have hP12 := st3 _ _ hb12 hP11d)
          | (go_at_call_of 26 (Value.agg #[.int .i64 bo, .slice A7 n7 c7]); refine (H6.out _ _ _ hP12.1.2.2.2 hP12.1.2.2.1).mono ?_; rintro e w13 ⟨rfl, hb13⟩; have hP13 := st3 _ _ hb13 hP12)
          | (go_at_call 37; refine (H8.out _).mono ?_; rintro e w14 ⟨rfl, q14, rfl⟩; have hP14 := st3.drewN q14 hP13))
      all_goals
        obtain ⟨W, hW⟩ : ∃ W, w13.drewN q14 = W := ⟨_, rfl⟩
        rw [hW] at hP14 ⊢
        clear x0 x1 y0 y1 hW
        obtain ⟨x0, x1⟩ := hP14.1.1.2.cs
        go_wp2_with fail
        refine (H9.out _ _ _ hP14.1.1.2.2.2 hP14.1.1.2.2.1).mono ?_
        rintro e w15 ⟨rfl, hb15⟩
        have hP15 := st3 _ _ hb15 hP14
        clear x0 x1
        obtain ⟨x0, x1⟩ := hP15.2.cs
        obtain ⟨y0, y1, yf⟩ := two_in hP15.1.1.1.2.1
        go_wp2_with fail
        refine (same_two hP15.2.2.2 hP15.1.1.1.2.2.2 hP15.2.2.1 hP15.1.1.1.2.2.1 HSB.out).mono ?_
        rintro e w16 ⟨rfl, hb16⟩
        have hP16 := st3 _ _ hb16 hP15
        clear x0 x1 y0 y1 yf
        obtain ⟨y0, y1, yf⟩ := two_in hP16.1.1.1.2.1
        go_wp2_with fail
        refine (H7.out w16 hP16.1.1.1.2.2.2 hP16.1.1.1.2.2.1).mono ?_
        rintro e w17 ⟨rfl, hb17⟩
        have hP17 := st3 _ _ hb17 hP16
        clear y0 y1 yf
        go_wp2
        go_ret
        exact ⟨rfl, hP17.1.1.1.1⟩
  · by_cases hs1 : smallB rs 300 = true
    · have hs2 : ¬ mayBk bo rs = true := fun h => hs ⟨hs1, h⟩
      rw [hs1] at HSM0
      rw [Bool.eq_false_iff.2 hs2] at HMY0
      clear hs hs1 hs2 hm hR
      go_enter Try.func9, Try.ntmps9
      go_wp2_with fail
      rw [HWA.out]
      refine (knownBk_any wA).mono ?_
      rintro e w1 ⟨rfl, hb1⟩
      have hP1 := st0 _ _ hb1 hP0
      obtain ⟨x0, x1, xf⟩ := two_in hP1.2.1
      go_wp2_with fail
      refine (HSM0.out w1 hP1.2.2.2 hP1.2.2.1).mono ?_
      rintro e w2 ⟨rfl, hb2⟩
      have hP2 := st0 _ _ hb2 hP1
      clear x0 x1 xf
      obtain ⟨x0, x1, xf⟩ := two_in hP2.2.1
      go_wp2_with fail
      refine (HMY0.out w2 hP2.2.2.2 hP2.2.2.1).mono ?_
      rintro e w3 ⟨rfl, hb3⟩
      have hP3 := st0 _ _ hb3 hP2
      go_wp2
      go_ret
      exact ⟨rfl, hP3.1⟩
    · rw [Bool.eq_false_iff.2 hs1] at HSM0
      clear hs hs1 hm hR
      go_enter Try.func9, Try.ntmps9
      go_wp2_with fail
      rw [HWA.out]
      refine (knownBk_any wA).mono ?_
      rintro e w1 ⟨rfl, hb1⟩
      have hP1 := st0 _ _ hb1 hP0
      obtain ⟨x0, x1, xf⟩ := two_in hP1.2.1
      go_wp2_with fail
      refine (HSM0.out w1 hP1.2.2.2 hP1.2.2.1).mono ?_
      rintro e w2 ⟨rfl, hb2⟩
      have hP2 := st0 _ _ hb2 hP1
      go_wp2
      go_ret
      exact ⟨rfl, hP2.1⟩
end Go.Proofs.Ytfbhiaoodompdaa
