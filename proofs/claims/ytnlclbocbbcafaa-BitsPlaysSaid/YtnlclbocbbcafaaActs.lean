/- Slices of structs {int, uint64, int}. -/
import Derived.Test.YtnlclbocbbcafaaLawKit
namespace Go.Proofs.Ytnlclbocbbcafaa
open Go.RowKit
set_option maxRecDepth 100000
set_option maxHeartbeats 400000

/-- A slice of acts, three cells each. -/
def Acts (w : World) (B : Nat) (v : Value) (acts : List (Int × Nat × Int)) : Prop :=
  ∃ A c, v = .slice A acts.length c ∧ acts.length ≤ c ∧ c ≤ maxLen ∧ (acts.length = 0 ∨ ∃ b o, A = some ⟨b, o, none⟩ ∧ b < B ∧ ∀ j x, acts[j]? = some x →
    w.cell? ⟨b, o + j * 3, none⟩ = some (.int .i64 x.1) ∧ w.cell? ⟨b, o + j * 3 + 1, none⟩ = some (.int .u64 (x.2.1 : Nat)) ∧ w.cell? ⟨b, o + j * 3 + 2, none⟩ = some (.int .i64 x.2.2))
theorem Acts.below {w w' : World} {B : Nat} {v : Value} {acts : List (Int × Nat × Int)} (h : Acts w B v acts) (hb : Below B w w') : Acts w' B v acts := by
  obtain ⟨A, c, e, h1, h2, h3⟩ := h
  refine ⟨A, c, e, h1, h2, ?_⟩
  rcases h3 with h0 | ⟨b, o, hA, hlt, hc⟩
  · exact .inl h0
  · refine .inr ⟨b, o, hA, hlt, fun j x hx => ?_⟩
    obtain ⟨c0, c1, c2⟩ := hc j x hx
    exact ⟨(hb.cell (p := ⟨b, _, none⟩) hlt).trans c0, (hb.cell (p := ⟨b, _, none⟩) hlt).trans c1, (hb.cell (p := ⟨b, _, none⟩) hlt).trans c2⟩

theorem acts_of_recs {w : World} {B : Nat} {v : Value} {rows : List (List Int)} (h : Recs w B v [.i64, .u64, .i64] rows) :
    ∃ acts, Acts w B v acts ∧ ∀ x ∈ acts, x.2.1 < 18446744073709551616 ∧ -9223372036854775808 ≤ x.2.2 ∧ x.2.2 ≤ 9223372036854775807 := by
  obtain ⟨A, c, rfl, h1, h2, hlen, hwf, h3⟩ := h
  have get : ∀ (i : Nat) (r : List Int), rows[i]? = some r → ∃ a b d : Int, r = [a, b, d] := by
    intro i r hr
    have := hlen r (List.mem_of_getElem? hr)
    match r, this with
    | [a, b, d], _ => exact ⟨a, b, d, rfl⟩
  let f : List Int → Int × Nat × Int := fun r => (r.getD 0 0, (r.getD 1 0).toNat, r.getD 2 0)
  refine ⟨rows.map f, ⟨A, c, by simp, by simpa using h1, h2, ?_⟩, ?_⟩
  · rcases h3 with h0 | ⟨b, o, hA, hb, hc⟩
    · left; simpa using h0
    · refine .inr ⟨b, o, hA, hb, fun j x hx => ?_⟩
      rw [List.getElem?_map] at hx
      obtain ⟨r, hr, rfl⟩ := Option.map_eq_some_iff.1 hx
      obtain ⟨a, m, d, rfl⟩ := get j r hr
      have wm := wf_u64_rng (hwf j _ 1 .u64 m hr rfl rfl)
      have e0 := hc j _ 0 .i64 a hr rfl rfl
      have e1 := hc j _ 1 .u64 m hr rfl rfl
      have e2 := hc j _ 2 .i64 d hr rfl rfl
      refine ⟨e0, ?_, e2⟩
      show w.cell? ⟨b, o + j * 3 + 1, none⟩ = some (.int .u64 ((m.toNat : Nat) : Int))
      rw [Int.toNat_of_nonneg wm.1]
      exact e1
  · intro x hx
    obtain ⟨r, hr, rfl⟩ := List.mem_map.1 hx
    obtain ⟨i, hi, e⟩ := List.mem_iff_getElem.1 hr
    have hri : rows[i]? = some r := by rw [List.getElem?_eq_getElem hi, e]
    obtain ⟨a, m, d, rfl⟩ := get i r hri
    have wm := wf_u64_rng (hwf i _ 1 .u64 m hri rfl rfl)
    have wd := wf_i64_rng (hwf i _ 2 .i64 d hri rfl rfl)
    show m.toNat < _ ∧ _ ≤ d ∧ d ≤ _
    omega

theorem Acts.get {w : World} {B k : Nat} {v : Value} {acts : List (Int × Nat × Int)} (h : Acts w B v acts) (hk : k < acts.length) {wh nn : Int} {x : Nat} (he : acts[k]? = some (wh, x, nn)) :
    ∃ b o c, v = .slice (some ⟨b, o, none⟩) acts.length c ∧ w.cell? ⟨b, o + k * 3, none⟩ = some (.int .i64 wh) ∧ w.cell? ⟨b, o + k * 3 + 1, none⟩ = some (.int .u64 x) ∧ w.cell? ⟨b, o + k * 3 + 2, none⟩ = some (.int .i64 nn) ∧ b < B := by
  obtain ⟨A, c, rfl, _, _, h3⟩ := h
  rcases h3 with h0 | ⟨b, o, rfl, hbB, hc⟩
  · omega
  · obtain ⟨c0, c1, c2⟩ := hc k _ he
    exact ⟨b, o, c, rfl, c0, c1, c2, hbB⟩
end Go.Proofs.Ytnlclbocbbcafaa
