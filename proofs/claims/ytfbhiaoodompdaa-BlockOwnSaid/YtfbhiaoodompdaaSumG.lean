/- The reference's plus, times, base, Print, Power, Join. -/
import Derived.Test.YtfbhiaoodompdaaSumD
namespace Go.Proofs.Ytfbhiaoodompdaa
open Go.RowKit
set_option maxRecDepth 1000000
set_option maxHeartbeats 1000000

theorem qplus_any (a b : Nat) (w : World) (h : a + b < 18446744073709551616) :
    Calls Try.prog 61 #[.int .u64 a, .int .u64 b] w fun e w' => e = .returned (.int .u64 ((a + b) % 2305843009213693951 : Nat)) ∧ w = w' := by
  have hs : IntKind.u64.wrap ((a : Int) + (b : Int)) = ((a + b : Nat) : Int) := by rw [IntKind.wrap_u64]; omega
  have hb : a ≤ 18446744073709551615 := by omega
  clear h
  generalize hc : a + b = c at *
  have hm : (c : Int).tmod 2305843009213693951 = ((c % 2305843009213693951 : Nat) : Int) := rfl
  have hm2 : (c : Int) % 2305843009213693951 = ((c % 2305843009213693951 : Nat) : Int) := rfl
  generalize hd : c % 2305843009213693951 = d at *
  have hdl : d ≤ 2305843009213693950 := by omega
  have HC := Lib.hid hc; have HD := Lib.hid hd; clear hc hd
  go_enter Try.func61, Try.ntmps61
  go_wp2
  go_ret
  exact ⟨rfl, rfl⟩

theorem bit_one (b i : Nat) : bits .and .u64 ((b : Int) / 2 ^ i) 1 = ((b / 2 ^ i % 2 : Nat) : Int) := by
  have e : (b : Int) / 2 ^ i = ((b / 2 ^ i : Nat) : Int) := by simp
  rw [e]
  exact u64_mask 1 (by omega) _

theorem qbase_var (a a0 x lo g h s t y z r : Nat) (w : World)
    (e1 : bits .and .u64 (a : Int) 1099511627775 = (a0 : Nat)) (e2 : (a0 : Int) * 1000003 = (x : Nat)) (_ : a0 ≤ 1099511627775) (hl2 : x ≤ 1099514926309883325)
    (_ : (x : Int) % 2305843009213693951 = (lo : Nat)) (e3b : (x : Int).tmod 2305843009213693951 = (lo : Nat)) (_ : lo ≤ 2305843009213693950)
    (e4 : (a : Int) / 1099511627776 = (g : Nat)) (e5 : (g : Int) * 1000003 = (h : Nat)) (_ : g ≤ 2097151) (hl5 : h ≤ 2097157291453)
    (e6 : bits .and .u64 (IntKind.u64.wrap ((h : Int) * 1099511627776)) 2305843009213693951 = (s : Nat)) (e7 : (h : Int) / 2097152 = (t : Nat)) (e8 : (s : Int) + (t : Int) = (y : Nat))
    (_ : s ≤ 2305841909702066176) (_ : t ≤ 1000003) (hl8 : y ≤ 2305841909703066179)
    (e9 : (y : Int) % 2305843009213693951 = (z : Nat)) (e9b : (y : Int).tmod 2305843009213693951 = (z : Nat)) (_ : z ≤ 2305843009213693950)
    (HP : Hid (∀ W, Calls Try.prog 61 #[.int .u64 lo, .int .u64 z] W fun e w' => e = .returned (.int .u64 r) ∧ W = w')) :
    Calls Try.prog 62 #[.int .u64 a] w fun e w' => e = .returned (.int .u64 r) ∧ w = w' := by
  go_enter Try.func62, Try.ntmps62
  go_wp2_with (go_at_call 61; refine (HP.out _).mono ?_; rintro e w' ⟨rfl, rfl⟩)
  go_ret
  exact ⟨rfl, rfl⟩
theorem qbase_and (h : Nat) : bits .and .u64 (IntKind.u64.wrap ((h : Int) * 1099511627776)) 2305843009213693951 = ((h % 2097152 * 1099511627776 : Nat) : Int) := by
  rw [show IntKind.u64.wrap ((h : Int) * 1099511627776) = ((h * 1099511627776 % 18446744073709551616 : Nat) : Int) by rw [IntKind.wrap_u64]; omega]
  rw [show ((h % 2097152 * 1099511627776 : Nat) : Int) = ((h * 1099511627776 % 18446744073709551616 % 2 ^ 61 : Nat) : Int) by omega]
  exact u64_mask 61 (by omega) (h * 1099511627776 % 18446744073709551616)
theorem qbase_any (a : Nat) (w : World) (ha : a < 2305843009213693951) :
    Calls Try.prog 62 #[.int .u64 a] w fun e w' => e = .returned (.int .u64 (a * 1000003 % 2305843009213693951 : Nat)) ∧ w = w' := by
  rw [← base_step a]
  have h1 : a % 1099511627776 ≤ 1099511627775 := by omega
  have h4 : a / 1099511627776 ≤ 2097151 := by omega
  refine qbase_var a (a % 1099511627776) (a % 1099511627776 * 1000003) (a % 1099511627776 * 1000003 % 2305843009213693951) (a / 1099511627776) (a / 1099511627776 * 1000003) (a / 1099511627776 * 1000003 % 2097152 * 1099511627776) (a / 1099511627776 * 1000003 / 2097152) (a / 1099511627776 * 1000003 % 2097152 * 1099511627776 + a / 1099511627776 * 1000003 / 2097152) ((a / 1099511627776 * 1000003 % 2097152 * 1099511627776 + a / 1099511627776 * 1000003 / 2097152) % 2305843009213693951) _ w (u64_mask 40 (by omega) a) (by omega) h1 (by omega) rfl rfl ?_ (by omega) (by omega) h4 (by omega) (qbase_and _) (by omega) (Int.natCast_add _ _).symm ?_ ?_ ?_ rfl rfl ?_ ?_
  · have := Nat.mod_lt (a % 1099511627776 * 1000003) (show 0 < 2305843009213693951 by omega); omega
  · clear h1; omega
  · clear h1; omega
  · clear h1; omega
  · have := Nat.mod_lt (a / 1099511627776 * 1000003 % 2097152 * 1099511627776 + a / 1099511627776 * 1000003 / 2097152) (show 0 < 2305843009213693951 by omega); omega
  · intro W
    exact qplus_any _ _ W (by
      have := Nat.mod_lt (a % 1099511627776 * 1000003) (show 0 < 2305843009213693951 by omega)
      have := Nat.mod_lt (a / 1099511627776 * 1000003 % 2097152 * 1099511627776 + a / 1099511627776 * 1000003 / 2097152) (show 0 < 2305843009213693951 by omega)
      omega)

theorem qprint_any (v : Value) (l : List Nat) (w : World) (B : Nat) (hS : Sli w B v (cu8 l)) (hx : ∀ x ∈ l, x < 256) (hn : l.length ≤ 1099511627776) :
    Calls Try.prog 47 #[v] w (Drew (.int .u64 (hs 0 l : Nat)) w) := by
  obtain ⟨A, c, rfl, hl, _, _, _⟩ := hS
  obtain ⟨n, hnn⟩ : ∃ n, n = (cu8 l).length := ⟨_, rfl⟩
  rw [← hnn] at hl ⊢
  have hnb : n ≤ 1099511627776 := by rw [hnn]; simpa [cu8] using hn
  clear hnn
  go_enter Try.func47, Try.ntmps47
  go_wp2
  go_loopw [3, 4] (fun h i wr => ∃ (k q : Nat), k ≤ n ∧ i = .int .i64 k ∧ h = .int .u64 (hs 0 (l.take k) : Nat) ∧ wr = w.drewN q) (fun _ i _ => n - (intOf i).toNat)
  case atStart => exact ⟨0, 0, Nat.zero_le _, rfl, by simp [hs], rfl⟩
  case round =>
    obtain ⟨k, q, hk, rfl, rfl, hwr⟩ := hrel
    have hh := hs_lt (l.take k) 0 (by omega)
    by_cases hlt : k < n
    · obtain ⟨b, o, u, rfl, hb, hcell, hu⟩ := hl.get hlt
      have hkl : k < l.length := by have := hl.1; simp [cu8] at this; omega
      obtain ⟨x, hxk⟩ : ∃ x, l[k]? = some x := ⟨_, List.getElem?_eq_getElem hkl⟩
      have hx' : x < 256 := hx x (List.mem_of_getElem? hxk)
      have hu' : u = .int .u8 (x : Nat) := by simpa [cu8, hxk] using hu.symm
      subst hu'
      have hcell : wr.cell? ⟨b, o + k, none⟩ = some (.int .u8 (x : Nat)) := by rw [hwr]; exact hcell
      have HW := Lib.hid hwr; clear hwr
      have hsn : hs 0 (l.take (k + 1)) = (hs 0 (l.take k) * 1000003 % 2305843009213693951 + (x + 1)) % 2305843009213693951 := by
        rw [List.take_succ_eq_append_getElem hkl, hs_snoc]
        have : l[k] = x := by rw [List.getElem?_eq_getElem hkl] at hxk; simpa using hxk
        rw [this]; omega
      have ht := fun W => qbase_any (hs 0 (l.take k)) W hh
      have hm := Nat.mod_lt (hs 0 (l.take k) * 1000003) (show 0 < 2305843009213693951 by omega)
      have hp := fun W => qplus_any (hs 0 (l.take k) * 1000003 % 2305843009213693951) (x + 1) W (by omega)
      rw [← hsn, show ((x + 1 : Nat) : Int) = (x : Int) + 1 by omega] at hp
      obtain ⟨h2, hh2⟩ : ∃ h2, hs 0 (l.take (k + 1)) = h2 := ⟨_, rfl⟩
      rw [hh2] at hp
      generalize hs 0 (l.take k) * 1000003 % 2305843009213693951 = t at ht hp
      generalize hs 0 (l.take k) = h1 at ht ⊢
      have HT := Lib.hid ht; have HP := Lib.hid hp; have HH := Lib.hid hh2
      have hwr : IntKind.u64.wrap ((x : Int) + 1) = (x : Int) + 1 := IntWalk.u64_in _ (by omega)
      have hi1 : (k : Int) < n := by omega
      clear ht hp hh2 hsn hm hh hu hxk
      go_upto_region 5 with (fail)
      go_quiet ((first | (go_at_call 62; exact quietLN (HT.out _)) | (go_at_call 61; exact quietLN (HP.out _))))
      go_wp2
      exact ⟨⟨k + 1, q + nq, by omega, by simp, by rw [HH.out], by rw [HW.out, World.drewN_drewN]⟩, by simp [intOf]; omega⟩
    · go_wp2
      go_ret
      have hkn : k = n := by omega
      have hln : n = l.length := by simpa [cu8] using hl.1
      subst hkn; subst hln
      rw [List.take_length]
      exact ⟨rfl, q, rfl⟩
end Go.Proofs.Ytfbhiaoodompdaa
