/- math/bits.Len64. -/
import Derived.Test.YthecibabpcfoaaaByt
import Derived.Lib.Strings
import Derived.Lib.Slices
import Derived.Lib.Small
import Derived.Lib.Walk
import Derived.Lib.BitFns
import Derived.Deep.Light
namespace Go.Proofs.Ythecibabpcfoaaa
open Go.RowKit
set_option maxRecDepth 1000000
set_option maxHeartbeats 400000

theorem len8_at (y : Int) (h0 : 0 ≤ y) (h1 : y ≤ 255) (h : y.toNat < Lib.len8tab.size) : ((Lib.len8tab[y.toNat]'h).toNat : Int) = (Lib.bitLen y.toNat : Int) := by
  rw [← Lib.len8_of y h0 h1]
  unfold Lib.len8
  rw [getElem?_pos Lib.len8tab y.toNat h]
  rfl
theorem way (x y : Int) (k : Nat) (hk : k ≤ 56) (h0 : 0 ≤ y) (h1 : y ≤ 255) (h : y.toNat < Lib.len8tab.size) (hs : Lib.bitLen x.toNat = k + Lib.bitLen y.toNat) :
    wrap64 ((k : Int) + wrap64 ((Lib.len8tab[y.toNat]'h).toNat : Int)) = (Lib.bitLen x.toNat : Int) := by
  have := Lib.bitLen_le8' y h0 h1
  rw [len8_at y h0 h1 h, hs]
  unfold wrap64
  omega
theorem tab_size : (Lib.len8tab.size : Int) = 256 := by
  have : Lib.len8tab.size = 256 := by decide +kernel
  omega
set_option maxHeartbeats 4000000 in
theorem len64_int (x : Int) (w : World) (h0 : 0 ≤ x) (h1 : x ≤ 18446744073709551615) :
    Calls Try.prog 63 #[.int .u64 x] w fun e w' => e = .returned (.int .i64 (Lib.bitLen x.toNat)) ∧ w = w' := by
  go_enter Try.func63, Try.ntmps63
  go_wp2
  all_goals first
    | (go_ret; refine ⟨congrArg Ending.returned (congrArg (Value.int IntKind.i64) ?_), rfl⟩; go_light)
    | (exfalso; go_light; have hs := tab_size; omega)
  all_goals first
    | (refine way x (x / 4294967296 / 65536 / 256) 56 (by omega) (by omega) (by omega) _ ?_
       rw [show (x / 4294967296 / 65536 / 256).toNat = x.toNat / 72057594037927936 by omega]
       exact Lib.bitLen_shift56 x.toNat (by omega) (by omega))
    | (refine way x (x / 4294967296 / 65536) 48 (by omega) (by omega) (by omega) _ ?_
       rw [show (x / 4294967296 / 65536).toNat = x.toNat / 281474976710656 by omega]
       exact Lib.bitLen_shift48 x.toNat (by omega) (by omega))
    | (refine way x (x / 4294967296 / 256) 40 (by omega) (by omega) (by omega) _ ?_
       rw [show (x / 4294967296 / 256).toNat = x.toNat / 1099511627776 by omega]
       exact Lib.bitLen_shift40 x.toNat (by omega) (by omega))
    | (refine way x (x / 4294967296) 32 (by omega) (by omega) (by omega) _ ?_
       rw [show (x / 4294967296).toNat = x.toNat / 4294967296 by omega]
       exact Lib.bitLen_shift32 x.toNat (by omega) (by omega))
    | (refine way x (x / 65536 / 256) 24 (by omega) (by omega) (by omega) _ ?_
       rw [show (x / 65536 / 256).toNat = x.toNat / 16777216 by omega]
       exact Lib.bitLen_shift24 x.toNat (by omega) (by omega))
    | (refine way x (x / 65536) 16 (by omega) (by omega) (by omega) _ ?_
       rw [show (x / 65536).toNat = x.toNat / 65536 by omega]
       exact Lib.bitLen_shift16 x.toNat (by omega) (by omega))
    | (refine way x (x / 256) 8 (by omega) (by omega) (by omega) _ ?_
       rw [show (x / 256).toNat = x.toNat / 256 by omega]
       exact Lib.bitLen_shift8 x.toNat (by omega) (by omega))
    | (have := way x x 0 (by omega) (by omega) (by omega) (by have := tab_size; omega) (by omega); simpa using this)

theorem bitLen_gt {n : Nat} : ∀ {v : Nat}, v < 18446744073709551616 → 2 ^ n ≤ v → n < Lib.bitLen v := by
  induction n with
  | zero => intro v h h2; have := Lib.bitLen_half v (by omega) h; omega
  | succ n ih =>
    intro v h h2
    rw [Nat.pow_succ] at h2
    have h3 := Lib.bitLen_half v (by have := Nat.pow_pos (n := n) (show 0 < 2 by omega); omega) h
    have := ih (v := v / 2) (by omega) (by omega)
    omega
theorem len64_any (v : Nat) (w : World) (h : v < 18446744073709551616) :
    Calls Try.prog 63 #[.int .u64 v] w fun e w' => e = .returned (.int .i64 (Lib.bitLen v)) ∧ w = w' := by
  refine (len64_int v w (by omega) (by omega)).mono ?_
  rintro e w' ⟨rfl, h⟩
  exact ⟨by simp, h⟩
theorem bitLen_iff {n v : Nat} (h : v < 18446744073709551616) : n < Lib.bitLen v ↔ 2 ^ n ≤ v := by
  refine ⟨fun h2 => ?_, bitLen_gt h⟩
  rcases Nat.lt_or_ge v (2 ^ n) with h3 | h3
  · exfalso
    rcases Nat.lt_or_ge 64 n with h4 | h4
    · have := Lib.bitLen_le v 64 (by omega) h; omega
    · have := Lib.bitLen_le v n h4 h3; omega
  · exact h3
theorem bitLen_64 {v : Nat} (h : v < 18446744073709551616) : Lib.bitLen v ≤ 64 := Lib.bitLen_le v 64 (by omega) h

end Go.Proofs.Ythecibabpcfoaaa
