/- Rows of ints; results that are a row and an error. -/
import Derived.Test.YthecibabpcfoaaaRows
import Derived.Test.YthecibabpcfoaaaByt
import Derived.Test.YthecibabpcfoaaaLawKit
namespace Go.Proofs.Ythecibabpcfoaaa
open Go.RowKit
set_option maxRecDepth 100000

def ci (l : List Int) : List Value := l.map (Value.int .i64)
theorem ci_len (l : List Int) : (ci l).length = l.length := by simp [ci]
theorem ci_app (a b : List Int) : ci (a ++ b) = ci a ++ ci b := by simp [ci]
theorem ci_one (l : List Int) : ∀ u ∈ ci l, u.oneCell' = true := by
  intro u hu; obtain ⟨_, _, rfl⟩ := List.mem_map.1 hu; rfl
theorem ci_at {l : List Int} {i : Nat} (h : i < l.length) : (ci l)[i]? = some (.int .i64 l[i]) := by simp [ci, h]
theorem ci_set (l : List Int) (i : Nat) (x : Int) : (ci l).set i (.int .i64 x) = ci (l.set i x) := by simp [ci, List.map_set]
theorem Sli.formI {w : World} {B : Nat} {v : Value} {l : List Int} (h : Sli w B v (ci l)) : ∃ A c, v = .slice A l.length c ∧ l.length ≤ c ∧ c ≤ maxLen := by
  obtain ⟨A, c, rfl, _, h1, h2, _⟩ := h
  rw [ci_len] at h1 ⊢
  exact ⟨A, c, rfl, h1, h2⟩
theorem Own.formI {w : World} {base : Nat} {e : TypeId} {v : Value} {l : List Int} (h : Own w base e v (ci l)) : ∃ A c, v = .slice A l.length c ∧ l.length ≤ c ∧ c ≤ maxLen := h.sli.formI
/-- The element a loop looks at. -/
theorem Sli.atI {w : World} {B n c : Nat} {A : Option Addr} {l : List Int} (h : Sli w B (.slice A n c) (ci l)) {i : Nat} (hi : i < l.length) :
    ∃ b o, A = some ⟨b, o, none⟩ ∧ b < B ∧ w.cell? ⟨b, o + i, none⟩ = some (.int .i64 l[i]) := by
  have hh := h.hasn
  have hn : n = l.length := by rw [hh.1, ci_len]
  obtain ⟨b, o, u, hA, hb, hc, hu⟩ := hh.get (by omega : i < n)
  rw [ci_at hi] at hu
  injection hu with hu
  exact ⟨b, o, hA, hb, by rw [hc, hu]⟩
/-- Within an int64. -/
def i64s (l : List Int) : Prop := ∀ x ∈ l, -9223372036854775808 ≤ x ∧ x ≤ 9223372036854775807
def wideB (x : Int) : Bool := decide (-1073741824 ≤ x) && decide (x < 1073741824)
theorem wide_iff {x : Int} : wideB x = true ↔ -1073741824 ≤ x ∧ x < 1073741824 := by simp [wideB]
theorem pow_cast (n : Nat) : ((2 ^ n : Nat) : Int) = (2 : Int) ^ n := by simp
theorem info_int : (Try.prog.info? 3).map (fun i => (i.zero, i.size, i.bytes)) = some (some (.int .i64 0), 1, 8) := by kernel_rfl
theorem wrap_in {z : Int} (h1 : -9223372036854775808 ≤ z) (h2 : z ≤ 9223372036854775807) : wrap64 z = z := IntWalk.wrap64_in _ (by omega)
theorem and1 (c : Int) : bits .and .i64 c 1 = c % 2 := i64_mask 1 (by omega) c
/-- A row of ints of the call's own and an error. -/
def RowPost (r : List Int × Int) (w : World) (e : Ending) (w' : World) : Prop := ∃ v', e = .returned (.tuple #[v', .int .i64 r.2]) ∧ Own w' w.heap.size 3 v' (ci r.1) ∧ Below w.heap.size w w'
theorem fillI_get {L : List Int} {m k : Nat} (hL : L.length = m) (hk : k < m) : (ci (L.take k ++ List.replicate (m - k) 0))[k]? = some (.int .i64 0) := by
  unfold ci
  rw [List.getElem?_map, List.getElem?_append_right (by simp; omega), List.length_take, Nat.min_eq_left (by omega), Nat.sub_self, List.getElem?_replicate, if_pos (by omega)]; rfl
theorem fillI_len {L : List Int} {m k : Nat} (hL : L.length = m) (hk : k ≤ m) : (ci (L.take k ++ List.replicate (m - k) 0)).length = m := by
  simp [ci]; omega
theorem fillI_set {L : List Int} {m k : Nat} {x : Int} (hL : L.length = m) (hk : k < m) (hx : L[k]? = some x) : (ci (L.take k ++ List.replicate (m - k) 0)).set k (.int .i64 x) = ci (L.take (k + 1) ++ List.replicate (m - (k + 1)) 0) := by
  rw [ci_set, List.take_add_one, hx, show m - k = (m - (k + 1)) + 1 by omega, List.replicate_succ, List.set_append_right _ _ (by simp; omega)]
  simp [hL, Nat.min_eq_left (Nat.le_of_lt hk)]
/-- A row of bytes of the call's own and an error. -/
def BytePost (r : List Nat × Int) (w : World) (e : Ending) (w' : World) : Prop := ∃ v', e = .returned (.tuple #[v', .int .i64 r.2]) ∧ Own w' w.heap.size 5 v' (cu8 r.1) ∧ Below w.heap.size w w'
def u64I (x : Int) : Nat := (x % 18446744073709551616).toNat
theorem u64I_cast (x : Int) : IntKind.u64.wrap x = (u64I x : Nat) := by unfold u64I; rw [IntKind.wrap_u64]; omega
theorem u64I_lt (x : Int) : u64I x < 18446744073709551616 := by unfold u64I; omega
theorem ints_of_wf (zs : List Int) (h : ∀ n ∈ zs, (Lit.int .i64 n).wf = true) : ∃ l : List Int, zs.map (Value.int .i64) = ci l ∧ i64s l := ⟨zs, rfl, fun x hx => wf_i64_rng (h x hx)⟩
def RowP (d : List Int) (de : Int) (w : World) (e : Ending) (w' : World) : Prop := ∃ v', e = .returned (.tuple #[v', .int .i64 de]) ∧ Own w' w.heap.size 3 v' (ci d) ∧ Below w.heap.size w w'
def ByteP (d : List Nat) (de : Int) (w : World) (e : Ending) (w' : World) : Prop := ∃ v', e = .returned (.tuple #[v', .int .i64 de]) ∧ Own w' w.heap.size 5 v' (cu8 d) ∧ Below w.heap.size w w'
end Go.Proofs.Ythecibabpcfoaaa
