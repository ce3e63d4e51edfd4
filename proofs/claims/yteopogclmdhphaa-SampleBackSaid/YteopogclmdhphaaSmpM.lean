/- sample: the law SampleBack. -/
import Derived.Test.YteopogclmdhphaaSmpJ
namespace Go.Proofs.Yteopogclmdhphaa
open Go.RowKit
set_option maxRecDepth 100000
set_option maxHeartbeats 1600000

theorem leB_mod : ∀ k n, leB k (n % 256 ^ k) = leB k n
  | 0, _ => rfl
  | k + 1, n => by
    have e : n % 256 ^ (k + 1) = n % 256 + 256 * (n / 256 % 256 ^ k) := by
      rw [show 256 ^ (k + 1) = 256 * 256 ^ k by rw [Nat.pow_succ, Nat.mul_comm], Nat.mod_mul]
    rw [leB, leB, e]
    have h1 : (n % 256 + 256 * (n / 256 % 256 ^ k)) % 256 = n % 256 := by omega
    have h2 : (n % 256 + 256 * (n / 256 % 256 ^ k)) / 256 = n / 256 % 256 ^ k := by omega
    rw [h1, h2, leB_mod k]
theorem leB_leV : ∀ c : List Nat, (∀ x ∈ c, x < 256) → leB c.length (leV c) = c
  | [], _ => rfl
  | x :: r, h => by
    have hx := h x (by simp)
    rw [List.length_cons, leB, leV, show (x + 256 * leV r) % 256 = x by omega, show (x + 256 * leV r) / 256 = leV r by omega, leB_leV r fun y hy => h y (by simp [hy])]
/-- A sample of at most 8 s bits comes back. -/
theorem sgn_pk {s : Nat} {x n : Int} (hs : s = 1 ∨ s = 2 ∨ s = 3) (hn : n ≤ 8 * (s : Int)) (hf : fitsB x n = true) : sgnS s (leV (pk s x)) = x := by
  unfold pk
  rw [leV_leB]
  have h8 : -((2 ^ (8 * s - 1) : Nat) : Int) ≤ x ∧ x < ((2 ^ (8 * s - 1) : Nat) : Int) := by
    rw [fits_iff] at hf
    have hp : 2 ^ (n - 1).toNat ≤ 2 ^ (8 * s - 1) := Nat.pow_le_pow_right (by omega) (by omega)
    omega
  unfold sgnS u64I
  rcases hs with rfl | rfl | rfl
  all_goals
    simp only [Nat.reducePow, Nat.reduceMul, Nat.reduceSub] at h8 ⊢
    split <;> omega
theorem pk_sgn {s : Nat} (hs : s = 1 ∨ s = 2 ∨ s = 3) (c : List Nat) (hc : c.length = s) (hx : ∀ x ∈ c, x < 256) : pk s (sgnS s (leV c)) = c := by
  have hl := leV_lt c hx
  have hb := leB_leV c hx
  rw [hc] at hl hb
  have hm : u64I (sgnS s (leV c)) % 256 ^ s = leV c := by
    generalize leV c = v at *
    unfold sgnS u64I
    rcases hs with rfl | rfl | rfl
    all_goals
      simp only [Nat.reducePow, Nat.reduceMul, Nat.reduceSub] at hl ⊢
      split <;> omega
  unfold pk
  rw [← leB_mod, hm, hb]
theorem chunk_pk {s : Nat} {l : List Int} {i : Nat} (hi : i < l.length) : ((l.flatMap (pk s)).drop (i * s)).take s = pk s l[i] := by
  have e : l.flatMap (pk s) = (l.take i).flatMap (pk s) ++ (pk s l[i] ++ (l.drop (i + 1)).flatMap (pk s)) := by
    conv => lhs; rw [← List.take_append_drop i l, List.drop_eq_getElem_cons hi]
    rw [List.flatMap_append, List.flatMap_cons]
  have h1 : ((l.take i).flatMap (pk s)).length = i * s := by rw [pks_len, List.length_take, Nat.min_eq_left (by omega)]
  have h2 : (pk s l[i]).length = s := by unfold pk; rw [leB_len]
  rw [e, List.drop_left' h1, List.take_left' h2]
theorem back_one {l : List Int} {n : Int} (hp : packB n = true) (hf : l.all (fun x => fitsB x n) = true) : unpackR (l.flatMap (pk (szOf n))) n = (l, 0) := by
  have hs := szOf_cases hp
  have hn : n ≤ 8 * (szOf n : Int) := by rw [packB_iff] at hp; unfold szOf; omega
  generalize hsn : szOf n = s at *
  have hs0 : 0 < s := by omega
  have hlen : (l.flatMap (pk s)).length = l.length * s := pks_len s l
  have hu : unp s (l.flatMap (pk s)) = l := by
    apply List.ext_getElem
    · rw [unp_len, hlen, Nat.mul_div_cancel _ hs0]
    · intro i h1 h2
      have h3 : i < (l.flatMap (pk s)).length / s := by rw [hlen, Nat.mul_div_cancel _ hs0]; exact h2
      have h4 := unp_at h3
      rw [List.getElem?_eq_getElem h1] at h4
      injection h4 with h4
      rw [h4]
      unfold chunk
      rw [chunk_pk h2]
      exact sgn_pk hs hn (List.all_eq_true.1 hf _ (List.getElem_mem _))
  unfold unpackR
  rw [if_pos hp, hsn, if_pos (by rw [hlen, Nat.mul_mod_left]), hu, if_pos hf]
theorem unp_pk {s : Nat} (hs : s = 1 ∨ s = 2 ∨ s = 3) (b : List Nat) (hx : ∀ x ∈ b, x < 256) : ∀ k, k * s ≤ b.length → ((List.range k).map (chunk s b)).flatMap (pk s) = b.take (k * s)
  | 0, _ => by simp
  | k + 1, h => by
    rw [Nat.succ_mul] at h ⊢
    have hl : ((b.drop (k * s)).take s).length = s := by rw [List.length_take, List.length_drop]; omega
    rw [List.range_succ, List.map_append, List.flatMap_append, unp_pk hs b hx k (by omega), List.take_add]
    congr 1
    simp only [List.map_cons, List.map_nil, List.flatMap_cons, List.flatMap_nil, List.append_nil]
    unfold chunk
    exact pk_sgn hs _ hl fun x h => hx x (List.mem_of_mem_drop (List.mem_of_mem_take h))
/-- What Unpack gives, packed. -/
theorem back_two {b : List Nat} {n : Int} (hp : packB n = true) (hx : ∀ x ∈ b, x < 256) :
    ((unpackR b n).2 = 0 ∧ packR (unpackR b n).1 n = (b, 0)) ∨ (((unpackR b n).2 = 3 ∨ (unpackR b n).2 = 6) ∧ (unpackR b n).1 = []) := by
  have hs := szOf_cases hp
  unfold unpackR
  rw [if_pos hp]
  by_cases hr : b.length % szOf n = 0
  · rw [if_pos hr]
    cases hf : (unp (szOf n) b).all (fun x => fitsB x n)
    · right; simp
    · left
      refine ⟨by simp, ?_⟩
      simp only [if_true]
      unfold packR
      rw [if_pos hp, if_pos hf]
      have h1 : b.length / szOf n * szOf n = b.length := Nat.div_mul_cancel (Nat.dvd_of_mod_eq_zero hr)
      have h2 := unp_pk hs b hx (b.length / szOf n) (by omega)
      rw [h1, List.take_length] at h2
      unfold unp
      rw [h2]
  · rw [if_neg hr]; right; simp
theorem unp_small {b : List Nat} {n : Int} : (unpackR b n).1.length ≤ b.length := by
  unfold unpackR
  split
  · split
    · split
      · rw [unp_len]; exact Nat.div_le_self _ _
      · simp
    · simp
  · simp

theorem sampleBack_walk (va : Value) (l : List Int) (vb : Value) (b : List Nat) (n : Int) (w : World) (hA : Sli w w.heap.size va (ci l)) (hB : Sli w w.heap.size vb (cu8 b)) (hxb : ∀ x ∈ b, x < 256) (hn1 : -9223372036854775808 ≤ n) (hn2 : n ≤ 9223372036854775807) :
    Calls Try.prog 5 #[va, vb, .int .i64 n] w fun e w' => e = .returned (.bool true) ∧ Below w.heap.size w w' := by
  obtain ⟨A1, c1, rfl, hlc1, hcm1⟩ := hA.formI
  obtain ⟨A2, c2, rfl, hlc2, hcm2⟩ := hB.form8
  have hcm1' : l.length ≤ 9223372036854775807 := by unfold maxLen at hcm1; omega
  have hcm2' : b.length ≤ 9223372036854775807 := by unfold maxLen at hcm2; omega
  by_cases hall : l.length ≤ 300 ∧ b.length ≤ 900 ∧ 4 ≤ n ∧ n ≤ 24
  · obtain ⟨hl3, hb9, hn4, hn24⟩ := hall
    have hl40 : l.length ≤ 1099511627776 := by omega
    have hp : packB n = true := packB_iff.2 ⟨hn4, hn24⟩
    have hs7 : (n + 7) / 8 = (szOf n : Nat) := by unfold szOf; omega
    have hsz := szOf_cases hp
    have hG := back_two hp hxb
    have hub := unp_small (b := b) (n := n)
    have hpb := packR_byte l n
    have hpl := packR_len l n
    have hF : (l.all (fun x => fitsB x n) = true ∧ packR l n = (l.flatMap (pk (szOf n)), 0)) ∨ (l.all (fun x => fitsB x n) = false ∧ packR l n = ([], 6)) := by
      unfold packR
      rw [if_pos hp]
      cases h : l.all (fun x => fitsB x n) <;> simp
    have hF2 : (l.all (fun x => fitsB x n) = true ∧ (packR l n).2 = 0 ∧ (unpackR (packR l n).1 n).2 = 0 ∧ (unpackR (packR l n).1 n).1 = l ∧ (l.length : Int) * (szOf n : Nat) = (packR l n).1.length) ∨ (l.all (fun x => fitsB x n) = false ∧ (packR l n).2 = 6) := by
      rcases hF with ⟨h1, h2⟩ | ⟨h1, h2⟩
      · left
        have h3 := back_one hp h1
        rw [h2]
        simp only
        rw [h3]
        refine ⟨h1, ?_, ?_, ?_, ?_⟩
        · trivial
        · rfl
        · rfl
        · rw [pks_len]; simp
      · right; exact ⟨h1, by rw [h2]⟩
    have hk1 := fun w B (hS : Sli w B (.slice A1 l.length c1) (ci l)) (hB : B ≤ w.heap.size) => pack_any _ l n w B hS hB hl40
    have hk2 := fun v w B (hS : Sli w B v (cu8 (packR l n).1)) (hB : B ≤ w.heap.size) => unpack_any v (packR l n).1 n w B hS hB hpb (by omega)
    have hk3 := fun w B (hS : Sli w B (.slice A2 b.length c2) (cu8 b)) (hB : B ≤ w.heap.size) => unpack_any _ b n w B hS hB hxb (by omega)
    have hk4 := fun v w B (hS : Sli w B v (ci (unpackR b n).1)) (hB : B ≤ w.heap.size) => pack_any v (unpackR b n).1 n w B hS hB (by omega)
    have hpu := unp_small (b := (packR l n).1) (n := n)
    clear hF
    generalize unpackR (packR l n).1 n = rm at *
    generalize packR l n = rp at *
    generalize packR (unpackR b n).1 n = rc at *
    generalize unpackR b n = ru at *
    generalize hsn : szOf n = s at *
    obtain ⟨p, e⟩ := rp
    obtain ⟨m, f⟩ := rm
    obtain ⟨u, g⟩ := ru
    obtain ⟨c, h⟩ := rc
    simp only at hub hpl hpb hpu hF2 hG
    have hK1 : ∀ w B, Sli w B (.slice A1 l.length c1) (ci l) → B ≤ w.heap.size → Calls Try.prog 25 #[.slice A1 l.length c1, .int .i64 n] w (ByteP p e w) := hk1
    have hK2 : ∀ v w B, Sli w B v (cu8 p) → B ≤ w.heap.size → Calls Try.prog 26 #[v, .int .i64 n] w (RowP m f w) := hk2
    have hK3 : ∀ w B, Sli w B (.slice A2 b.length c2) (cu8 b) → B ≤ w.heap.size → Calls Try.prog 26 #[.slice A2 b.length c2, .int .i64 n] w (RowP u g w) := hk3
    have hK4 : ∀ v w B, Sli w B v (ci u) → B ≤ w.heap.size → Calls Try.prog 25 #[v, .int .i64 n] w (ByteP c h w) := hk4
    obtain ⟨F, hFd⟩ : ∃ F, l.all (fun x => fitsB x n) = F := ⟨_, rfl⟩
    obtain ⟨P, hPd⟩ : ∃ P, p.length = P := ⟨_, rfl⟩
    obtain ⟨L, hLd⟩ : ∃ L, l.length = L := ⟨_, rfl⟩
    obtain ⟨Nb, hNd⟩ : ∃ N, b.length = N := ⟨_, rfl⟩
    rw [hPd] at hpl
    rw [hFd, hPd, hLd] at hF2
    rw [hLd] at hpl hK1 hA hl3 hl40 hlc1 hcm1' ⊢
    rw [hNd] at hK3 hB hb9 hub hlc2 hcm2' ⊢
    have hP9 : P ≤ 900 := by omega
    have hm40 : l.length ≤ 1099511627776 := by omega
    have HFD := Lib.hid hFd; have HPD := Lib.hid hPd; have HLD := Lib.hid hLd; have HF := Lib.hid hF2; have HG := Lib.hid hG; have HXB := Lib.hid hxb
    have HK1 := Lib.hid hK1; have HK2 := Lib.hid hK2; have HK3 := Lib.hid hK3; have HK4 := Lib.hid hK4; have HM40 := Lib.hid hm40
    clear hFd hPd hLd hNd hF2 hG hxb hK1 hK2 hK3 hK4 hk1 hk2 hk3 hk4 hub hpb hpu hpl hsn hp hm40
    go_enter Try.func5, Try.ntmps5
    go_wp2_with (go_at_call 9; refine (known_any w).mono ?_; rintro e w1 ⟨rfl, hb1⟩; have hA1 := (hA.below hb1).more hb1.size; have hB1 := (hB.below hb1).more hb1.size)
    go_loop [7, 8] (fun va vi => ∃ i : Nat, i ≤ L ∧ vi = .int .i64 i ∧ va = .bool ((l.take i).all (fun x => fitsB x n))) (fun _ vi => L - (intOf vi).toNat)
    case atStart => exact ⟨0, by omega, rfl, rfl⟩
    case round =>
      obtain ⟨i, hi, rfl, rfl⟩ := hrel
      by_cases hil : i < L
      · have hll : i < l.length := by rw [HLD.out]; exact hil
        obtain ⟨bb, o, rfl, hbb, hcell⟩ := hA1.atI hll
        have htk : (l.take (i + 1)).all (fun x => fitsB x n) = ((l.take i).all (fun x => fitsB x n) && fitsB l[i] n) := by rw [List.take_succ_eq_append_getElem hll, List.all_append]; simp only [List.all_cons, List.all_nil, Bool.and_true]
        have hfx := fun w => fits_any l[i] n w
        have HT := Lib.hid htk
        clear htk
        generalize l[i] = x at *
        generalize fitsB x n = fx at *
        generalize (l.take i).all (fun x => fitsB x n) = a at *
        have HX := Lib.hid hfx
        clear hfx hll
        cases a
        · go_wp2
          exact ⟨⟨i + 1, by omega, by simp, by rw [HT.out]; rfl⟩, by simp [intOf]; omega⟩
        · go_wp2_with (go_at_call 14; refine (HX.out _).mono ?_; rintro e w2 ⟨rfl, rfl⟩)
          exact ⟨⟨i + 1, by omega, by simp, by rw [HT.out]; rfl⟩, by simp [intOf]; omega⟩
      · have h1 : l.take i = l := by rw [show i = l.length by rw [HLD.out]; omega, List.take_length]
        rw [h1, HFD.out]
        clear h1
        go_wp2_with (first
          | (go_at_call 25; refine (HK1.out w1 _ hA1 (Nat.le_refl _)).mono ?_; rintro e w4 ⟨v4, rfl, ho4, hb4⟩; obtain ⟨A4, c4, rfl, _, _⟩ := ho4.form8; rw [HPD.out] at ho4 ⊢)
          | (go_at_call 26; refine (HK2.out _ w4 _ ho4.sli (Nat.le_refl _)).mono ?_; rintro e w5 ⟨v5, rfl, ho5, hb5⟩; obtain ⟨A5, c5, rfl, _, _⟩ := ho5.formI; refine cut_here ?_))
        have hb15 := hb4.trans (hb5.mono hb4.size)
        have hA5 := hA1.below hb15
        have hB5 := hB1.below hb15
        have hs15 := hb15.size
        have hw5 : Below w5.heap.size w5 w5 := Below.refl _ _
        rcases HF.out with ⟨hF1, he, hf, hm, hLs⟩ | ⟨hF1, he⟩
        · subst hF1; subst he; subst hf
          rw [hm] at ho5 ⊢
          have Q1 := Lib.hid (sameInts_self _ _ l w5 _ _ hA5 ho5.sli HM40.out)
          rw [HLD.out] at ho5 Q1 ⊢
          clear hm
          unfold CutHere
          go_wp2_with (first
            | (go_at_call 24; refine Q1.out.mono ?_; rintro e w51 ⟨rfl, q, rfl⟩)
            | (go_at_call 26; refine (HK3.out (w5.drewN q) _ hB5 hs15).mono ?_; rintro e w6 ⟨v6, rfl, ho6, hb6⟩; obtain ⟨A6, c6, rfl, _, _⟩ := ho6.formI; refine cut_here ?_))
          have hb16 := hb15.trans ((below_drewN (Below.refl w5.heap.size w5) q).trans hb6 |>.mono hs15)
          have hbb := bthen hb1 hb16 hb1.size
          have hB6 := hB1.below hb16
          rcases HG.out with ⟨hg, hc⟩ | ⟨hg, hu⟩
          · subst hg
            obtain ⟨rfl, rfl⟩ := Prod.mk.inj hc
            unfold CutHere
            go_wp2_with (go_at_call 25; refine (HK4.out _ w6 _ ho6.sli (Nat.le_refl _)).mono ?_; rintro e w7 ⟨v7, rfl, ho7, hb7⟩; obtain ⟨A7, c7, rfl, _, _⟩ := ho7.form8; refine cut_here ?_)
            have hB7 := hB6.below (hb7.mono hb16.size)
            unfold CutHere
            go_wp2_with (go_at_call 27; refine (same_self _ _ _ _ _ _ ho7.sli hB7 HXB.out).mono ?_; rintro e w8 ⟨rfl, rfl⟩)
            go_ret
            exact ⟨rfl, bthen hbb hb7 hbb.size⟩
          · subst hu
            rcases hg with rfl | rfl
            all_goals
              unfold CutHere
              go_wp2
              go_ret
              exact ⟨rfl, hbb⟩
        · subst hF1; subst he
          unfold CutHere
          go_wp2_with (first
            | (go_at_call 26; refine (HK3.out w5 _ hB5 hs15).mono ?_; rintro e w6 ⟨v6, rfl, ho6, hb6⟩; obtain ⟨A6, c6, rfl, _, _⟩ := ho6.formI; refine cut_here ?_))
          have hb16 := hb15.trans (hb6.mono hs15)
          have hbb := bthen hb1 hb16 hb1.size
          have hB6 := hB1.below hb16
          rcases HG.out with ⟨hg, hc⟩ | ⟨hg, hu⟩
          · subst hg
            obtain ⟨rfl, rfl⟩ := Prod.mk.inj hc
            unfold CutHere
            go_wp2_with (go_at_call 25; refine (HK4.out _ w6 _ ho6.sli (Nat.le_refl _)).mono ?_; rintro e w7 ⟨v7, rfl, ho7, hb7⟩; obtain ⟨A7, c7, rfl, _, _⟩ := ho7.form8; refine cut_here ?_)
            have hB7 := hB6.below (hb7.mono hb16.size)
            unfold CutHere
            go_wp2_with (go_at_call 27; refine (same_self _ _ _ _ _ _ ho7.sli hB7 HXB.out).mono ?_; rintro e w8 ⟨rfl, rfl⟩)
            go_ret
            exact ⟨rfl, bthen hbb hb7 hbb.size⟩
          · subst hu
            rcases hg with rfl | rfl
            all_goals
              unfold CutHere
              go_wp2
              go_ret
              exact ⟨rfl, hbb⟩
  · have hor : (300 < l.length) ∨ (l.length ≤ 300 ∧ 900 < b.length) ∨ (l.length ≤ 300 ∧ b.length ≤ 900 ∧ n < 4) ∨ (l.length ≤ 300 ∧ b.length ≤ 900 ∧ 4 ≤ n ∧ 24 < n) := by omega
    rcases hor with h | ⟨h, h'⟩ | ⟨h, h', h''⟩ | ⟨h, h', h'', h3⟩
    all_goals
      go_enter Try.func5, Try.ntmps5
      go_wp2_with (go_at_call 9; refine (known_any w).mono ?_; rintro e w1 ⟨rfl, hb1⟩)
      go_ret
      exact ⟨rfl, hb1⟩
end Go.Proofs.Yteopogclmdhphaa
