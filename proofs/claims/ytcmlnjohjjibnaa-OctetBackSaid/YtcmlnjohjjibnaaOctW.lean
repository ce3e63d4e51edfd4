/- octet: what each function does. -/
import Derived.Test.YtcmlnjohjjibnaaRows
import Derived.Test.YtcmlnjohjjibnaaKit
import Derived.Test.YtcmlnjohjjibnaaOct
namespace Go.Proofs.Ytcmlnjohjjibnaa
open Go.RowKit
set_option maxRecDepth 100000
set_option maxHeartbeats 400000

theorem info_u8 : (Try.prog.info? 5).map (fun i => (i.zero, i.size, i.bytes)) = some (some (.int .u8 0), 1, 1) := by kernel_rfl

theorem put_any (vs : Value) (l : List Nat) (w : World) (hS : Sli w w.heap.size vs (cu64 l)) (hx : ∀ x ∈ l, x < 18446744073709551616) (hl36 : l.length ≤ 68719476736) :
    Calls Try.prog 28 #[vs] w fun e w' => ∃ v, e = .returned v ∧ Own w' w.heap.size 5 v (cu8 (vputs l)) ∧ Below w.heap.size w w' := by
  obtain ⟨A, c, rfl, hl, _, _, _⟩ := hS
  obtain ⟨n, hnn⟩ : ∃ n, n = (cu64 l).length := ⟨_, rfl⟩
  rw [← hnn] at hl ⊢
  have hn : n ≤ 68719476736 := by rw [hnn]; simpa [cu64] using hl36
  clear hnn
  go_enter Try.func28, Try.ntmps28
  go_wp2
  go_loopw [3, 8] (fun v i wr => ∃ k : Nat, k ≤ n ∧ i = .int .i64 k ∧ Own wr w.heap.size 5 v (cu8 (vputs (l.take k))) ∧ Below w.heap.size w wr) (fun _ i _ => n - (intOf i).toNat)
  case atStart => exact ⟨0, Nat.zero_le _, rfl, Own.nil _ _ _, Below.refl _ _⟩
  case round =>
    obtain ⟨k, hk, rfl, hown, hbel⟩ := hrel
    by_cases hlt : k < n
    · obtain ⟨b, o, u, rfl, hb, hcell, hu⟩ := (hl.below hbel).get hlt
      have hkl : k < l.length := by have := hl.1; simp [cu64] at this; omega
      obtain ⟨x, hxk⟩ : ∃ x, l[k]? = some x := ⟨_, List.getElem?_eq_getElem hkl⟩
      have hx' : x < 18446744073709551616 := hx x (List.mem_of_getElem? hxk)
      have hu' : u = .int .u64 (x : Nat) := by simpa [cu64, hxk] using hu.symm
      subst hu'
      have HX := Lib.hid hxk; clear hxk hu
      have hvl := vput_len10 hx'
      have htl := vputs_len10 l hx k (by omega)
      have htk : vputs (l.take (k + 1)) = vputs (l.take k) ++ vput x := by
        rw [List.take_succ_eq_append_getElem hkl, vputs_append]
        have : l[k] = x := by have := HX.out; rw [List.getElem?_eq_getElem hkl] at this; simpa using this
        rw [this]; simp [vputs]
      have HT := Lib.hid htk; clear htk
      go_wp2
      obtain ⟨wo, HW⟩ : ∃ wo : World, Hid (wo = wr) := ⟨_, rfl⟩
      go_loopw [3, 5] (fun v y wr => ∃ (d : List Nat) (m : Nat), y = .int .u64 m ∧ m ≤ x ∧ d.length ≤ 10 ∧ Hid (d ++ vput m = vput x) ∧ Own wr w.heap.size 5 v (cu8 (vputs (l.take k) ++ d)) ∧ Below w.heap.size w wr) (fun _ y _ => (intOf y).toNat)
      case atStart => exact ⟨[], x, rfl, Nat.le_refl _, by simp, rfl, by simpa using hown, hbel⟩
      case round =>
        obtain ⟨d, m, rfl, hmx, hdl, hdx, hown1, hbel1⟩ := hrel
        have hlen : (cu8 (vputs (l.take k) ++ d)).length + 1 ≤ 8796093022208 := by simp only [cu8, List.length_map, List.length_append]; omega
        by_cases hm : 128 ≤ m
        · go_wp2_with (at_builtin; refine wpl_app1 hown1 hbel1.size hlen Try.underlying22 info_u8 rfl (by decide) rfl rfl rfl rfl rfl (h := ?_); intro v2 w2 hown2 hbel2)
          rw [or128] at hown2
          have e := hdx.out
          rw [vput_ge (by omega)] at e
          refine ⟨⟨d ++ [m % 128 + 128], m / 128, by simp, by omega, ?_, by simpa [Hid] using e, by simpa [cu8] using hown2, hbel1.trans hbel2⟩, by simp [intOf]; omega⟩
          have := congrArg List.length e; simp at this ⊢; omega
        · go_wp2_with (at_builtin; refine wpl_app1 hown1 hbel1.size hlen Try.underlying22 info_u8 rfl (by decide) rfl rfl rfl rfl rfl (h := ?_); intro v2 w2 hown2 hbel2)
          have e := hdx.out
          rw [vput_lt (by omega)] at e
          refine ⟨⟨k + 1, by omega, by simp, ?_, hbel1.trans hbel2⟩, by simp [intOf]; omega⟩
          rw [HT.out, ← e]
          simpa [cu8, show (m : Int) % 256 = m by omega] using hown2
    · go_wp2
      go_ret
      have hkn : k = n := by omega
      have hln : n = l.length := by simpa [cu64] using hl.1
      subst hkn; subst hln
      rw [List.take_length] at hown
      exact ⟨_, rfl, hown, hbel⟩

theorem zig_any (n : Int) (w : World) (h : -9223372036854775808 ≤ n) (h2 : n ≤ 9223372036854775807) :
    Calls Try.prog 32 #[.int .i64 n] w fun e w' => e = .returned (.int .u64 (zigI n : Nat)) ∧ w = w' := by
  go_enter Try.func32, Try.ntmps32
  go_wp2
  go_ret
  refine ⟨?_, rfl⟩
  show Ending.returned (.int .u64 _) = _
  congr 2
  exact zig_pure n h h2

theorem zag_any (n : Nat) (w : World) (h2 : n < 18446744073709551616) :
    Calls Try.prog 33 #[.int .u64 (n : Nat)] w fun e w' => e = .returned (.int .i64 (zagI n)) ∧ w = w' := by
  go_enter Try.func33, Try.ntmps33
  go_wp2
  go_ret
  refine ⟨?_, rfl⟩
  show Ending.returned (.int .i64 _) = _
  congr 2
  exact zag_pure n h2

theorem clamp_any (n : Int) (w : World) :
    Calls Try.prog 37 #[.int .i64 n] w fun e w' => e = .returned (.int .i64 (clampN n : Nat)) ∧ w = w' := by
  go_enter Try.func37, Try.ntmps37
  go_wp2
  all_goals (go_ret; exact ⟨by simp [clampN]; omega, rfl⟩)

theorem varint_any (v : Value) (l : List Nat) (w : World) (B : Nat) (hS : Sli w B v (cu8 l)) (hx : ∀ x ∈ l, x < 256) (hn : l.length ≤ 1099511627776) :
    Calls Try.prog 35 #[v] w fun e w' => e = .returned (.tuple #[.int .u64 (vrd 0 0 l).1, .int .i64 (vrd 0 0 l).2.1, .int .i64 (vrd 0 0 l).2.2]) ∧ w = w' := by
  obtain ⟨A, c, rfl, hl, _, _, _⟩ := hS
  obtain ⟨n, hnn⟩ : ∃ n, n = (cu8 l).length := ⟨_, rfl⟩
  rw [← hnn] at hl ⊢
  have hnb : n ≤ 1099511627776 := by rw [hnn]; simpa [cu8] using hn
  clear hnn
  go_enter Try.func35, Try.ntmps35
  go_wp2
  go_loop [2, 11] (fun v i => ∃ (k acc : Nat), k ≤ n ∧ k ≤ 9 ∧ i = .int .i64 k ∧ v = .int .u64 acc ∧ acc < 2 ^ (7 * k) ∧ Hid (vrd k acc (l.drop k) = vrd 0 0 l)) (fun _ i => n - (intOf i).toNat)
  case atStart => exact ⟨0, 0, Nat.zero_le _, by omega, rfl, rfl, by simp, rfl⟩
  case round =>
    obtain ⟨k, acc, hk, hk9, rfl, rfl, hacc, hv⟩ := hrel
    by_cases hlt : k < n
    · obtain ⟨b, o, u, rfl, hb, hcell, hu⟩ := hl.get hlt
      have hkl : k < l.length := by have := hl.1; simp [cu8] at this; omega
      obtain ⟨x, hxk⟩ : ∃ x, l[k]? = some x := ⟨_, List.getElem?_eq_getElem hkl⟩
      have hx' : x < 256 := hx x (List.mem_of_getElem? hxk)
      have hu' : u = .int .u8 (x : Nat) := by simpa [cu8, hxk] using hu.symm
      subst hu'
      have HS := Lib.hid (vrd_cons (acc := acc) hxk); clear hxk hu
      have HO := Lib.hid (fun h9 => or_step (acc := acc) (k := k) hx' hk9 hacc h9)
      have hs := HS.out
      rw [hv.out] at hs
      by_cases hbad : (k = 9 ∧ 1 < x) ∨ (0 < k ∧ x = 0)
      · rw [if_pos hbad] at hs
        have HS2 := Lib.hid hs; clear hs HS HO
        go_wp2
        all_goals (try simp only [beq_iff_eq, beq_eq_false_iff_ne, ne_eq] at *)
        all_goals first | (exfalso; omega) | skip
        all_goals (go_ret3; exact ⟨by rw [HS2.out]; simp, rfl⟩)
      · rw [if_neg hbad] at hs
        obtain ⟨e1, e2, e3⟩ := HO.out (by omega)
        have E1 := Lib.hid e1; have HB := Lib.hid hbad
        by_cases h128 : x < 128
        · rw [if_pos h128] at hs
          have HS2 := Lib.hid hs; clear hs HS HO e1 e2 e3 hbad
          go_wp2
          all_goals (try simp only [beq_iff_eq, beq_eq_false_iff_ne, ne_eq] at *)
          all_goals first | (exfalso; have := HB.out; omega) | skip
          all_goals by_cases h9 : k = 9
          all_goals first | (exfalso; omega) | skip
          all_goals
            have e1 := E1.out
            have hs2 := HS2.out
            try subst h9
            go_ret3
            refine ⟨?_, rfl⟩
            rw [hs2]
            refine congrArg Ending.returned (congrArg Value.tuple ?_)
            rw [← e1]
            simp
        · rw [if_neg h128] at hs
          have HS2 := Lib.hid hs; clear hs HS HO e1 hbad e3
          have E2 := Lib.hid e2; clear e2
          go_wp2
          all_goals (try simp only [beq_eq_false_iff_ne, ne_eq] at *)
          all_goals first | (exfalso; have := HB.out; omega) | skip
          all_goals
            exact ⟨⟨k + 1, _, by omega, by have := HB.out; omega, by simp, by rw [E1.out], E2.out, HS2.out.symm⟩, by simp [intOf]; omega⟩
    · go_wp2
      go_ret3
      have hkn : l.drop k = [] := List.drop_eq_nil_of_le (by have := hl.1; simp [cu8] at this; omega)
      have hs := hv.out
      rw [hkn, vrd] at hs
      exact ⟨by rw [← hs]; simp, rfl⟩

theorem quietL {P : Program} {f : FuncId} {args : Array Value} {w : World} {v : Value} (h : Calls P f args w fun e w' => e = .returned v ∧ w = w') :
    Calls P f args w fun e w'' => e = .returned v ∧ ∃ m, w'' = w.drewN m := h.mono fun _ _ ⟨he, hm⟩ => ⟨he, 0, hm.symm⟩
theorem quietLN {P : Program} {f : FuncId} {args : Array Value} {w : World} {n : Nat} {v : Value} (h : Calls P f args (w.drewN n) fun e w' => e = .returned v ∧ w.drewN n = w') :
    Calls P f args (w.drewN n) fun e w'' => e = .returned v ∧ ∃ m, w'' = w.drewN m := h.mono fun _ _ ⟨he, hm⟩ => ⟨he, n, hm.symm⟩
theorem quietNN {P : Program} {f : FuncId} {args : Array Value} {w : World} {n : Nat} {v : Value} (h : Calls P f args (w.drewN n) fun e w' => e = .returned v ∧ ∃ m, w' = (w.drewN n).drewN m) :
    Calls P f args (w.drewN n) fun e w'' => e = .returned v ∧ ∃ m, w'' = w.drewN m := h.mono fun _ _ ⟨he, m, hm⟩ => ⟨he, n + m, by rw [hm, World.drewN_drewN]⟩
theorem cu8_one (l : List Nat) : ∀ u ∈ cu8 l, u.oneCell' = true := by
  intro u hu; obtain ⟨_, _, rfl⟩ := List.mem_map.1 hu; rfl

theorem clone_any (v : Value) (l : List Nat) (w : World) (hl : Sli w w.heap.size v (cu8 l)) (hn : l.length ≤ 1099511627776) :
    Calls Try.prog 34 #[v] w fun e w' => ∃ v', e = .returned v' ∧ Own w' w.heap.size 5 v' (cu8 l) ∧ Below w.heap.size w w' := by
  obtain ⟨A, c, rfl, hh, hlc, hcm, hnc⟩ := hl
  rcases A with _ | ad
  · have h0 : l = [] := by
      rcases hh.2 with h0 | ⟨b, o, e, _⟩
      · simpa [cu8] using h0
      · simp at e
    subst h0
    obtain rfl := hnc rfl
    clear hlc hcm hnc hh hn
    have hq := fun (W : World) (n : Nat) => Lib.run_eql_slice_nil (P := Try.prog) W 22 5 none n 0 0 0 Try.underlying22
    go_enter Try.func34, Try.ntmps34
    go_wp2
    go_ret
    exact ⟨_, rfl, Own.nil _ _ _, Below.refl _ _⟩
  · have hS : Sli (w.alloc (.cells #[] 5)) w.heap.size (.slice (some ad) (cu8 l).length c) (cu8 l) := ⟨_, c, rfl, hh.keep fun p hp => World.cell?_alloc_lt w _ p hp, hlc, hcm, by simp⟩
    have hO : Own (w.alloc (.cells #[] 5)) w.heap.size 5 (.slice (some ⟨w.heap.size, 0, none⟩) 0 0) [] := World.ownsRow_made w #[] 0 (Nat.le_refl _) (by simp [maxLen]) rfl
    have HH := Lib.hid hh; clear hh hnc hlc
    have hq := fun (W : World) (n : Nat) => Lib.run_eql_slice_nil (P := Try.prog) W 22 5 (some ad) n c 0 0 Try.underlying22
    go_enter Try.func34, Try.ntmps34
    go_wp2_with (at_builtin; go_loud (refine wpl_appN hO hS (by simp) (by simp [cu8]; omega) Try.underlying22 info_u8 rfl (by decide) (cu8_one l) rfl rfl rfl rfl ?_); intro v2 w2 hown2 hbel2)
    go_ret
    exact ⟨v2, rfl, hown2, ((Below.refl _ _).alloc (Nat.le_refl _) _).trans hbel2⟩

theorem cu8_app (a b : List Nat) : cu8 (a ++ b) = cu8 a ++ cu8 b := by simp [cu8]
theorem Sli.form8 {w : World} {B : Nat} {v : Value} {l : List Nat} (h : Sli w B v (cu8 l)) : ∃ A c, v = .slice A l.length c ∧ l.length ≤ c ∧ c ≤ maxLen := by
  obtain ⟨A, c, rfl, _, h1, h2, _⟩ := h
  have e : (cu8 l).length = l.length := by simp [cu8]
  rw [e] at h1 ⊢
  exact ⟨A, c, rfl, h1, h2⟩
theorem Sli.form64 {w : World} {B : Nat} {v : Value} {l : List Nat} (h : Sli w B v (cu64 l)) : ∃ A c, v = .slice A l.length c ∧ l.length ≤ c ∧ c ≤ maxLen := by
  obtain ⟨A, c, rfl, _, h1, h2, _⟩ := h
  have e : (cu64 l).length = l.length := by simp [cu64]
  rw [e] at h1 ⊢
  exact ⟨A, c, rfl, h1, h2⟩
theorem Own.form8 {w : World} {base : Nat} {e : TypeId} {v : Value} {l : List Nat} (h : Own w base e v (cu8 l)) : ∃ A c, v = .slice A l.length c ∧ l.length ≤ c ∧ c ≤ maxLen := h.sli.form8
/-- '[]byte{}'. -/
theorem Own.empty (w : World) (e : TypeId) : Own (w.alloc (.cells #[] e)) w.heap.size e (.slice (some ⟨w.heap.size, 0, none⟩) 0 0) [] := World.ownsRow_made w #[] 0 (Nat.le_refl _) (by simp [maxLen]) rfl
/-- 'Put(n)' of one number: its argument's literal. -/
theorem put_one (n : Nat) (w : World) (h : n < 18446744073709551616) :
    Calls Try.prog 28 #[.slice (some ⟨w.heap.size, 0, none⟩) 1 1] (w.alloc (.cells #[.int .u64 n] 29)) fun e w' => ∃ v, e = .returned v ∧ Own w' w.heap.size 5 v (cu8 (vput n)) ∧ Below w.heap.size w w' := by
  have hlit : Sli (w.alloc (.cells #[.int .u64 n] 29)) (w.alloc (.cells #[.int .u64 n] 29)).heap.size (.slice (some ⟨w.heap.size, 0, none⟩) 1 1) (cu64 [n]) := by
    have := Sli.lit w #[.int .u64 n] 29 1 rfl (by simp [maxLen])
    simpa [cu64] using this
  refine (put_any _ [n] _ hlit (by simpa using h) (by simp)).mono ?_
  rintro e w' ⟨v, rfl, ho, hb⟩
  have h0 : Below w.heap.size w (w.alloc (.cells #[.int .u64 n] 29)) := (Below.refl _ _).alloc (Nat.le_refl _) _
  exact ⟨v, rfl, (by simpa [vputs] using ho.mono (h0.size)), h0.trans (hb.mono h0.size)⟩

end Go.Proofs.Ytcmlnjohjjibnaa
