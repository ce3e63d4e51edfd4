/- math/bits: Div64, Rem64 by P3.2's P. -/
import Derived.Test.YtggddckckfilgaaSumU
import Derived.Deep.CutBlock
import Derived.Deep.DeepCutAuto
import Derived.Deep.QuietTactic
import Derived.BigQuiet
namespace Go.Proofs.Ytggddckckfilgaa
open Go.RowKit
set_option maxRecDepth 1000000
set_option maxHeartbeats 1000000

def DivPost (hi lo : Nat) (w : World) (e : Ending) (w' : World) : Prop := ∃ q n : Nat, e = .returned (.tuple #[.int .u64 q, .int .u64 ((hi * 18446744073709551616 + lo) % 2305843009213693951 : Nat)]) ∧ w' = w.drewN n

theorem bitLen_P : Lib.bitLen 2305843009213693951 = 61 := by decide +kernel

theorem or_low (a b : Nat) (hb : b < 8) : (8 * a) ||| b = 8 * a + b := by
  have := Nat.two_pow_add_eq_or_of_lt (i := 3) (b := b) hb a
  simpa using this.symm
theorem quo_le (U : Nat) (h : U < 18446744073709551608) : U / 4294967295 ≤ 4294967296 := by omega
theorem quo_first (U A : Nat) (h : U < 18446744073709551608) (hA : A < 4294967296) : (U * 4294967296 + A) / 18446744073709551608 ≤ U / 4294967295 := by omega
theorem quo_lt (U A : Nat) (h : U < 18446744073709551608) (hA : A < 4294967296) : (U * 4294967296 + A) / 18446744073709551608 < 4294967296 := by omega
theorem sub_wrap (U A Q : Nat) (h : Q = (U * 4294967296 + A) / 18446744073709551608) : IntKind.u64.wrap (IntKind.u64.wrap (IntKind.u64.wrap ((U : Int) * 4294967296) + A) - IntKind.u64.wrap ((Q : Int) * 18446744073709551608)) = (((U * 4294967296 + A) % 18446744073709551608 : Nat) : Int) := by
  rw [IntKind.wrap_u64, IntKind.wrap_u64, IntKind.wrap_u64, IntKind.wrap_u64]
  omega

/-- A digit of the quotient: what the loop leaves. -/
def Dig (U A q r : Nat) : Prop := q * 4294967295 + r = U ∧ (U * 4294967296 + A) / 18446744073709551608 ≤ q ∧ q ≤ 4294967296
theorem Dig.start (U A : Nat) (h : U < 18446744073709551608) (hA : A < 4294967296) : Dig U A (U / 4294967295) (U % 4294967295) := ⟨by omega, quo_first U A h hA, quo_le U h⟩
theorem Dig.down {U A q r : Nat} (h : Dig U A q r) (hU : U < 18446744073709551608) (hA : A < 4294967296) (hx : 4294967296 ≤ q ∨ 4294967296 * r + A < q * 4294967288) : Dig U A (q - 1) (r + 4294967295) ∧ 0 < q := by
  obtain ⟨h1, h2, h3⟩ := h
  obtain ⟨a, b, c⟩ := quo_down hU hA h1 h2 hx
  exact ⟨⟨b, a, by omega⟩, c⟩
theorem Dig.done {U A q r : Nat} (h : Dig U A q r) (hU : U < 18446744073709551608) (hA : A < 4294967296) (hx : (q < 4294967296 ∧ q * 4294967288 ≤ 4294967296 * r + A) ∨ 4294967296 ≤ r) : q = (U * 4294967296 + A) / 18446744073709551608 :=
  quo_ok hU hA h.1 h.2.1 hx

theorem Dig.int {U A : Nat} {q r : Int} (h : Dig U A (q.toNat - 1) (r.toNat + 4294967295)) (hq : 0 < q) (hr : 0 ≤ r) : Dig U A (q - 1).toNat (r + 4294967295).toNat := by
  rw [show (q - 1).toNat = q.toNat - 1 by omega, show (r + 4294967295).toNat = r.toNat + 4294967295 by omega]
  exact h
theorem Dig.eq {Q T : Nat} {q : Int} (h : q.toNat = T) (hQ : Q = T) (hq : 0 ≤ q) : Value.int .u64 q = .int .u64 Q := by congr 1; omega
theorem Dig.fin {U A Q r : Nat} {q : Int} (h : Dig U A (q.toNat - 1) r) (hU : U < 18446744073709551608) (hA : A < 4294967296) (hQ : Q = (U * 4294967296 + A) / 18446744073709551608) (hx : (q.toNat - 1 < 4294967296 ∧ (q.toNat - 1) * 4294967288 ≤ 4294967296 * r + A) ∨ 4294967296 ≤ r) (hq : 0 < q) : Value.int .u64 (q - 1) = .int .u64 Q := by
  have := h.done hU hA hx
  congr 1; omega

theorem wrapM' (a b : Nat) : IntKind.u64.wrap (IntKind.u64.wrap ((a : Int) * 4294967296) + b) = (((a * 4294967296 + b) % 18446744073709551616 : Nat) : Int) := by
  rw [IntKind.wrap_u64, IntKind.wrap_u64]; omega
/-- Returns v; only answers were drawn. -/
def Drew (v : Value) (w : World) (e : Ending) (w' : World) : Prop := e = .returned v ∧ ∃ n, w' = w.drewN n

end Go.Proofs.Ytggddckckfilgaa
