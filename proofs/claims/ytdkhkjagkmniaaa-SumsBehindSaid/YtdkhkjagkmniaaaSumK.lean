/- sums: 'known'. -/
import Derived.Test.YtdkhkjagkmniaaaSumF
import Derived.Test.YtdkhkjagkmniaaaSumC
import Derived.Lib.SlBytesConst
import Derived.Deep.RegionWith
namespace Go.Proofs.Ytdkhkjagkmniaaa
open Go.RowKit
set_option maxRecDepth 1000000
set_option maxHeartbeats 1000000

theorem cu8_set (l : List Nat) (i x : Nat) : (cu8 l).set i (.int .u8 x) = cu8 (l.set i x) := by simp [cu8, List.map_set]
theorem cu8_at {l : List Nat} {i : Nat} (h : i < l.length) : (cu8 l)[i]? = some (.int .u8 (l[i] : Nat)) := by simp [cu8, h]

theorem printN (v : Value) (l : List Nat) (w : World) (B : Nat) (hS : Sli w B v (cu8 l)) (hx : ∀ x ∈ l, x < 256) (hn : l.length ≤ 1099511627776) (q : Nat) :
    Calls Try.prog 18 #[v] (w.drewN q) (Drew (.int .u64 (hs 0 l : Nat)) w) :=
  (print_any v l (w.drewN q) B hS hx hn).mono fun _ _ ⟨he, n, hn⟩ => ⟨he, q + n, by rw [hn, World.drewN_drewN]⟩
theorem powerN (n : Int) (w : World) (q : Nat) (hn1 : -9223372036854775808 ≤ n) (hn2 : n ≤ 9223372036854775807) :
    Calls Try.prog 22 #[.int .i64 n] (w.drewN q) (Drew (.int .u64 (pwI n : Nat)) w) :=
  (power_any n (w.drewN q) hn1 hn2).mono fun _ _ ⟨he, n, hn⟩ => ⟨he, q + n, by rw [hn, World.drewN_drewN]⟩
theorem joinN (a b : Nat) (n : Int) (w : World) (q : Nat) (ha : a < 18446744073709551616) (hb : b < 18446744073709551616) (hn1 : -9223372036854775808 ≤ n) (hn2 : n ≤ 9223372036854775807) :
    Calls Try.prog 20 #[.int .u64 a, .int .u64 b, .int .i64 n] (w.drewN q) (Drew (.tuple #[.int .u64 (jnI a b n).1, .bool (jnI a b n).2]) w) :=
  (join_any a b n (w.drewN q) ha hb hn1 hn2).mono fun _ _ ⟨he, n, hn⟩ => ⟨he, q + n, by rw [hn, World.drewN_drewN]⟩
theorem eightN (v : Value) (l : List Nat) (w : World) (B : Nat) (hS : Sli w B v (cu8 l)) (hx : ∀ x ∈ l, x < 256) (hn : l.length ≤ 1099511627776) (q : Nat) :
    Calls Try.prog 12 #[v] (w.drewN q) fun e w' => e = .returned (.int .u8 (crc8 l : Nat)) ∧ w.drewN q = w' := eight_any v l (w.drewN q) B hS hx hn
theorem sixteenN (v : Value) (l : List Nat) (w : World) (B : Nat) (hS : Sli w B v (cu8 l)) (hx : ∀ x ∈ l, x < 256) (hn : l.length ≤ 1099511627776) (q : Nat) :
    Calls Try.prog 14 #[v] (w.drewN q) fun e w' => e = .returned (.int .u16 (crc16 l : Nat)) ∧ w.drewN q = w' := sixteen_any v l (w.drewN q) B hS hx hn
theorem thirtytwoN (v : Value) (l : List Nat) (w : World) (B : Nat) (hS : Sli w B v (cu8 l)) (hx : ∀ x ∈ l, x < 256) (hn : l.length ≤ 1099511627776) (q : Nat) :
    Calls Try.prog 16 #[v] (w.drewN q) fun e w' => e = .returned (.int .u32 (crc32 l : Nat)) ∧ w.drewN q = w' := thirtytwo_any v l (w.drewN q) B hS hx hn

def nine : List Nat := [49, 50, 51, 52, 53, 54, 55, 56, 57]
theorem nine8 : crc8 nine = 244 := by decide +kernel
theorem nine16 : crc16 nine = 65256 := by decide +kernel
theorem nine32 : crc32 nine = 3421780262 := by decide +kernel
theorem nineJ : jnI (hs 0 [49, 50, 51, 52]) (hs 0 [53, 54, 55, 56, 57]) 5 = (hs 0 nine, true) := by decide +kernel

theorem known_any (w : World) : Calls Try.prog 11 #[] w fun e w' => e = .returned (.bool true) ∧ Below w.heap.size w w' := by
  have kc := fun (w : World) (C : Array Value) (n c : Nat) => Lib.run_convert_bytes_const (P := Try.prog) w 22 5 C n c Try.underlying22 Try.underlying5
  go_enter Try.func11, Try.ntmps11
  go_upto_region 2 with (fail)
  generalize hwa : w.alloc (.cells _ 5 (9, 10)) = wa
  have hS : Sli wa (w.heap.size + 1) (.slice (some ⟨w.heap.size, 0, none⟩) 9 9) (cu8 nine) := by
    refine ⟨_, 9, rfl, ⟨rfl, .inr ⟨w.heap.size, 0, rfl, by omega, fun j hj => ?_⟩⟩, by decide, by decide, by simp⟩
    rw [← hwa, Nat.zero_add, cell_of_row _ _ _ _ _ _ (heap_alloc_new w _), ← Array.getElem?_toList]
    rfl
  have hsz : wa.heap.size = w.heap.size + 1 := by rw [← hwa]; simp
  have hb : Below w.heap.size w wa := by rw [← hwa]; exact (Below.refl _ _).alloc (Nat.le_refl _) _
  have n256 : ∀ x ∈ nine, x < 256 := by decide
  have hP1 := printN _ [49, 50, 51, 52] wa _ (hS.head (k := 4) (by omega)) (by decide) (by decide)
  have hP2 := printN _ [53, 54, 55, 56, 57] wa _ (hS.mid2 4 5 (by omega)) (by decide) (by decide)
  have hP3 := printN _ nine wa _ hS n256 (by decide)
  have hJ := fun q => joinN (hs 0 [49, 50, 51, 52]) (hs 0 [53, 54, 55, 56, 57]) 5 wa q (by decide +kernel) (by decide +kernel) (by decide) (by decide)
  rw [nineJ] at hJ
  have h8 := eightN _ nine wa _ hS n256 (by decide)
  rw [nine8] at h8
  have h16 := sixteenN _ nine wa _ hS n256 (by decide)
  rw [nine16] at h16
  have h32 := thirtytwoN _ nine wa _ hS n256 (by decide)
  rw [nine32] at h32
  generalize hs 0 [49, 50, 51, 52] = p1 at hP1 hJ
  generalize hs 0 [53, 54, 55, 56, 57] = p2 at hP2 hJ
  generalize hs 0 nine = p3 at hP3 hJ
  have HP1 := Lib.hid hP1; have HP2 := Lib.hid hP2; have HP3 := Lib.hid hP3; have HJ := Lib.hid hJ; have H8 := Lib.hid h8; have H16 := Lib.hid h16; have H32 := Lib.hid h32
  have HB := Lib.hid hb
  have hZ : ∀ n, Calls Try.prog 18 #[.slice (some ⟨wa.heap.size, 0, none⟩) 1 1] ((wa.drewN n).alloc (.cells #[.int .u8 0] 5)) (Drew (.int .u64 1) ((wa.drewN n).alloc (.cells #[.int .u8 0] 5))) :=
    fun n => print_any _ [0] _ _ (Sli.lit (wa.drewN n) #[.int .u8 0] 5 1 rfl (by decide)) (by decide) (by decide)
  have HZ := Lib.hid hZ; clear hZ
  clear hP1 hP2 hP3 hJ h8 h16 h32 hS hwa hsz hb kc n256
  go_quiet ((first
    | (go_at_call_of 18 (Value.slice (some ⟨w.heap.size, 0, none⟩) 4 9); exact HP1.out _)
    | (go_at_call 18; exact HP2.out _)
    | (go_at_call 20; exact HJ.out _)))
  go_wp2_with (first
    | (go_at_call 12; refine (H8.out _).mono ?_; rintro e w1 ⟨rfl, rfl⟩)
    | (go_at_call 14; refine (H16.out _).mono ?_; rintro e w1 ⟨rfl, rfl⟩)
    | (go_at_call 16; refine (H32.out _).mono ?_; rintro e w1 ⟨rfl, rfl⟩)
    | (go_at_call_of 18 (Value.slice (some ⟨w.heap.size, 0, none⟩) 9 9); refine (HP3.out _).mono ?_; rintro e w1 ⟨rfl, n1, rfl⟩))
  refine (HZ.out n1).mono ?_
  rintro e w2 ⟨rfl, n2, rfl⟩
  go_wp2_with fail
  refine (powerN 1 _ _ (by decide) (by decide)).mono ?_
  rintro e w3 ⟨rfl, n3, rfl⟩
  rw [show pwI 1 = 1000003 from rfl]
  go_wp2
  go_ret
  exact ⟨rfl, below_drewN ((below_drewN HB.out n1).alloc HB.out.size _) n3⟩
end Go.Proofs.Ytdkhkjagkmniaaa
