/- Arguments that are structs of a number and a row of numbers. -/
import Derived.Test.YtohbpjehphmedaaLawKit
namespace Go.Proofs.Ytohbpjehphmedaa
open Go.ChangeShapes Go.WideShapes Go.ChangeAt Go.RowKit
section
variable {H : Type} {enc : TypeId × Value → H} {P : Program}
/-- The cells of a slice of numbers. -/
theorem sli_of_trod {W : World} {t e : TypeId} {k : IntKind} {s : Value} {fuel : Nat} {x : DataW H × List MemPlace} (ht : P.underlying t = some (.slice e)) (he : P.underlying e = some (.int k)) (hc : P.cellsOf e = 1)
    (h : DataW.trod enc P W 0 (fun _ => true) true fuel t [s] = some x) (hlt : ∀ y ∈ x.2, y.block < W.heap.size) :
    ∃ zs : List Int, Sli W W.heap.size s (zs.map (Value.int k)) ∧ ∀ n ∈ zs, (Lit.int k n).wf = true := by
  rcases open_ints ht he hc h with ⟨hcs, hx⟩ | ⟨a, len, cap, zs, hcs, _, hl, hm, hz, hx, hcell, hwz⟩
  · simp at hcs
    subst hcs
    exact ⟨[], Sli.nil _ _, by simp⟩
  · simp at hcs
    subst hcs
    subst hx
    simp only [if_true] at hz
    have hlen : ((zs.take len).map (Value.int k)).length = len := by simp; omega
    refine ⟨zs.take len, ⟨some a, cap, by rw [hlen], ⟨rfl, ?_⟩, by rw [hlen]; exact hl, hm, by simp⟩, fun n hn => hwz n (List.mem_of_mem_take hn)⟩
    rw [hlen]
    rcases Nat.eq_zero_or_pos len with h0 | h0
    · exact .inl h0
    · right
      obtain ⟨b, off, spot⟩ := a
      have hspot : spot = none := by simpa [Addr.add] using World.cell?_spot (hcell 0 (by omega))
      subst hspot
      have hbW : b < W.heap.size := hlt (.cell b off) (MemPlace.mem_row.2 ⟨0, by omega, by simp⟩)
      refine ⟨b, off, rfl, hbW, fun j hj => ?_⟩
      rw [← Addr.add_lit, hcell j (by omega)]
      rw [List.getElem?_map, List.getElem?_take, if_pos hj, List.getElem?_eq_getElem (by omega : j < zs.length)]
      simp [List.getD, List.getElem?_eq_getElem (by omega : j < zs.length)]
/-- An argument that is a struct of a number and a slice of numbers. -/
theorem open_numrow {W : World} {base : Nat} {t e : TypeId} {f0 f1 : Field} {k0 k : IntKind} {v : Value} {d : DataW H} {p : List MemPlace} (ht : P.underlying t = some (.struct #[f0, f1])) (h0 : P.underlying f0.type = some (.int k0)) (h1 : P.underlying f1.type = some (.slice e))
    (he : P.underlying e = some (.int k)) (hc : P.cellsOf e = 1) (hone : Go.Deep.oneCellFields P #[f0, f1] = true) (hC : P.cellsOf t = 2)
    (hv : Value.okWide P W .any base t v) (h : DataW.Trod enc P W 0 (fun _ => true) true t v d p) (hlt : ∀ x ∈ p, x.block < W.heap.size) :
    ∃ (o : Int) (s : Value) (zs : List Int), v = .agg #[.int k0 o, s] ∧ (Lit.int k0 o).wf = true ∧ Sli W W.heap.size s (zs.map (Value.int k)) ∧ ∀ n ∈ zs, (Lit.int k n).wf = true := by
  obtain ⟨cs, rfl, hcs⟩ := okWide_struct ht hv
  rw [hC] at hcs
  obtain ⟨a, b, rfl⟩ : ∃ a b, cs = #[a, b] := by
    obtain ⟨l⟩ := cs
    match l, hcs with
    | [a, b], _ => exact ⟨a, b, rfl⟩
  obtain ⟨fuel, hf⟩ := h
  obtain ⟨y0, y1, n, hx, _, g0, g1⟩ := trod_struct2 ht hf
  obtain ⟨o0, s0⟩ := Go.Deep.hone_of hone 0 f0 rfl
  obtain ⟨o1, s1⟩ := Go.Deep.hone_of hone 1 f1 rfl
  rw [o0, s0] at g0
  rw [o1, s1] at g1
  simp [Value.cells] at g0 g1
  injection hx with hx1 hx2
  obtain ⟨z, hz, _, hw⟩ := DataW.trod_int h0 g0
  simp at hz
  subst hz
  obtain ⟨zs, hS, hwz⟩ := sli_of_trod h1 he hc g1 fun y hy => hlt y (by rw [hx2]; exact List.mem_append_right _ hy)
  exact ⟨z, b, zs, rfl, hw, hS, hwz⟩
end
end Go.Proofs.Ytohbpjehphmedaa
