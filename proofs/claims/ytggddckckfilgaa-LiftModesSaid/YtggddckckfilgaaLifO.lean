/- lift: arguments: rows of ints, steps, int16. -/
import Derived.Test.YtggddckckfilgaaLifA
import Derived.Test.YtggddckckfilgaaBloM
namespace Go.Proofs.Ytggddckckfilgaa
open Go.ChangeShapes Go.WideShapes Go.ChangeAt Go.RowKit
set_option maxRecDepth 100000
set_option maxHeartbeats 1600000

section
variable {H : Type} {enc : TypeId × Value → H} {P : Program}
theorem nil_capL {W : World} {base : Nat} {t e : TypeId} {v : Value} {d : DataW H} {p : List MemPlace} (ht : P.underlying t = some (.slice e))
    (hv : Value.okWide P W .any base t v) (h : DataW.Trod enc P W 0 (fun _ => true) true t v d p) : ∀ n c, v = .slice none n c → c = 0 := by
  obtain ⟨a0, len, cap, rfl⟩ := okWide_slice ht hv
  obtain ⟨fuel, hf⟩ := h
  intro n c hvc
  rcases Go.Deep.open_slice ht hf with ⟨hcs, hx⟩ | ⟨a, len', cap', m, n', D, Pl, hcs, _⟩
  · simp [Value.cells] at hcs
    obtain ⟨rfl, rfl, rfl⟩ := hcs
    injection hvc with _ _ h3
    exact h3.symm
  · simp [Value.cells] at hcs
    obtain ⟨rfl, rfl, rfl⟩ := hcs
    injection hvc with h1
    simp at h1
/-- An argument that is a slice of slices of ints. -/
theorem open_irows {W : World} {base : Nat} {t e q : TypeId} {v : Value} {d : DataW H} {p : List MemPlace} (ht : P.underlying t = some (.slice e)) (he : P.underlying e = some (.slice q)) (hq : P.underlying q = some (.int .i64))
    (ce : P.cellsOf e = 1) (cq : P.cellsOf q = 1) (hv : Value.okWide P W .any base t v) (h : DataW.Trod enc P W 0 (fun _ => true) true t v d p) (hlt : ∀ x ∈ p, x.block < W.heap.size) :
    ∃ rs : List (List Int), Rws W W.heap.size v rs ∧ ∀ l ∈ rs, i64s l := by
  obtain ⟨a0, len, cap, rfl⟩ := okWide_slice ht hv
  obtain ⟨fuel, hf⟩ := h
  exact rws_of_trod ht he hq ce cq hf hlt
end
def ci16 (l : List Int) : List Value := l.map fun x => .int .i16 x
theorem ci16_len (l : List Int) : (ci16 l).length = l.length := by simp [ci16]
def i16I (x : Int) : Prop := -32768 ≤ x ∧ x ≤ 32767
theorem i16s_of_wf (zs : List Int) (h : ∀ n ∈ zs, (Lit.int .i16 n).wf = true) : ∃ l : List Int, zs.map (Value.int .i16) = ci16 l ∧ ∀ x ∈ l, i16I x := by
  refine ⟨zs, rfl, fun x hx => ?_⟩
  have := h x hx
  unfold i16I
  simpa [Lit.wf, IntKind.min, IntKind.max, IntKind.signed, IntKind.bits] using this
end Go.Proofs.Ytggddckckfilgaa
