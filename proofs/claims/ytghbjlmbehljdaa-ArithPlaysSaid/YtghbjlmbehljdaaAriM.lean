/- Arguments that are slices of bools, of uint32, of structs {int, int, int, int, uint64}. -/
import Derived.Test.YtghbjlmbehljdaaLawKit
import Derived.Deep.Grids
namespace Go.Proofs.Ytghbjlmbehljdaa
open Go.ChangeShapes Go.WideShapes Go.ChangeAt Go.RowKit
set_option maxRecDepth 100000
set_option maxHeartbeats 400000

def cb (l : List Bool) : List Value := l.map Value.bool
theorem cb_len (l : List Bool) : (cb l).length = l.length := by simp [cb]
theorem Sli.formB {w : World} {B : Nat} {v : Value} {l : List Bool} (h : Sli w B v (cb l)) : ∃ A c, v = .slice A l.length c ∧ l.length ≤ c ∧ c ≤ maxLen := by
  obtain ⟨A, c, rfl, _, h1, h2, _⟩ := h
  rw [cb_len] at h1 ⊢
  exact ⟨A, c, rfl, h1, h2⟩
theorem Sli.atB {w : World} {B n c : Nat} {A : Option Addr} {l : List Bool} (h : Sli w B (.slice A n c) (cb l)) {i : Nat} {x : Bool} (hi : l[i]? = some x) :
    ∃ b o, A = some ⟨b, o, none⟩ ∧ b < B ∧ w.cell? ⟨b, o + i, none⟩ = some (.bool x) := by
  have hh := h.hasn
  have hl := (List.getElem?_eq_some_iff.1 hi).1
  have hn : n = l.length := by rw [hh.1, cb_len]
  obtain ⟨b, o, u, hA, hb, hc, hu⟩ := hh.get (by omega : i < n)
  refine ⟨b, o, hA, hb, hc.trans ?_⟩
  rw [← hu, cb, List.getElem?_map, hi]; rfl
def cu32 (l : List Nat) : List Value := l.map fun x => .int .u32 (x : Nat)
theorem cu32_len (l : List Nat) : (cu32 l).length = l.length := by simp [cu32]
theorem Sli.form32 {w : World} {B : Nat} {v : Value} {l : List Nat} (h : Sli w B v (cu32 l)) : ∃ A c, v = .slice A l.length c ∧ l.length ≤ c ∧ c ≤ maxLen := by
  obtain ⟨A, c, rfl, _, h1, h2, _⟩ := h
  rw [cu32_len] at h1 ⊢
  exact ⟨A, c, rfl, h1, h2⟩
theorem Sli.at32 {w : World} {B n c : Nat} {A : Option Addr} {l : List Nat} (h : Sli w B (.slice A n c) (cu32 l)) {i x : Nat} (hi : l[i]? = some x) :
    ∃ b o, A = some ⟨b, o, none⟩ ∧ b < B ∧ w.cell? ⟨b, o + i, none⟩ = some (.int .u32 (x : Nat)) := by
  have hh := h.hasn
  have hl := (List.getElem?_eq_some_iff.1 hi).1
  have hn : n = l.length := by rw [hh.1, cu32_len]
  obtain ⟨b, o, u, hA, hb, hc, hu⟩ := hh.get (by omega : i < n)
  refine ⟨b, o, hA, hb, hc.trans ?_⟩
  rw [← hu, cu32, List.getElem?_map, hi]; rfl
theorem u32s_of_wf (zs : List Int) (h : ∀ n ∈ zs, (Lit.int .u32 n).wf = true) : ∃ l : List Nat, zs.map (Value.int .u32) = cu32 l ∧ ∀ x ∈ l, x < 4294967296 := by
  obtain ⟨l, e, hl⟩ := nat_of_wf (k := .u32) (M := 4294967295) (fun n hn => wf_u32_rng hn) zs h
  exact ⟨l, e, fun x hx => by have := hl x hx; omega⟩
section
variable {H : Type} {enc : TypeId × Value → H} {P : Program}
/-- An argument that is a slice of bools. -/
theorem open_slb {W : World} {base : Nat} {t e : TypeId} {v : Value} {d : DataW H} {p : List MemPlace} (ht : P.underlying t = some (.slice e)) (he : P.underlying e = some .bool) (hc : P.cellsOf e = 1)
    (hv : Value.okWide P W .any base t v) (h : DataW.Trod enc P W 0 (fun _ => true) true t v d p) (hlt : ∀ x ∈ p, x.block < W.heap.size) :
    ∃ l : List Bool, Sli W W.heap.size v (cb l) := by
  obtain ⟨a0, len, cap, rfl⟩ := okWide_slice ht hv
  obtain ⟨fuel, hf⟩ := h
  rcases Go.Deep.open_bools ht he hc hf with ⟨hcs, hx⟩ | ⟨a, len', cap', B, hcs, _, hl, hm, hx, hcell⟩
  · simp [Value.cells] at hcs
    obtain ⟨rfl, rfl, rfl⟩ := hcs
    exact ⟨[], Sli.nil _ _⟩
  · simp [Value.cells] at hcs
    obtain ⟨rfl, rfl, rfl⟩ := hcs
    simp only [Prod.mk.injEq] at hx
    obtain ⟨rfl, rfl⟩ := hx
    have hlen : (cb ((List.range len).map B)).length = len := by simp [cb]
    refine ⟨(List.range len).map B, some a, cap, by rw [hlen], ⟨rfl, ?_⟩, by rw [hlen]; exact hl, hm, by simp⟩
    rw [hlen]
    rcases Nat.eq_zero_or_pos len with h0 | h0
    · exact .inl h0
    · right
      obtain ⟨b, off, spot⟩ := a
      have hspot : spot = none := by simpa [Addr.add] using World.cell?_spot (hcell 0 (by omega))
      subst hspot
      have hbW : b < W.heap.size := hlt (.cell b off) (MemPlace.mem_row.2 ⟨0, by omega, by simp⟩)
      refine ⟨b, off, rfl, hbW, fun j hj => ?_⟩
      rw [← Addr.add_lit, hcell j (by omega)]
      simp [cb, List.getElem?_range hj]
end
/-- A step. -/
structure Ac where
  what : Int
  ctx : Int
  bit : Int
  n : Int
  v : Nat
def acCells (x : Ac) : Array Value := #[.int .i64 x.what, .int .i64 x.ctx, .int .i64 x.bit, .int .i64 x.n, .int .u64 (x.v : Nat)]
def AcAt (w : World) (b o : Nat) (x : Ac) : Prop := w.cell? ⟨b, o, none⟩ = some (.int .i64 x.what) ∧ w.cell? ⟨b, o + 1, none⟩ = some (.int .i64 x.ctx) ∧ w.cell? ⟨b, o + 2, none⟩ = some (.int .i64 x.bit) ∧ w.cell? ⟨b, o + 3, none⟩ = some (.int .i64 x.n) ∧ w.cell? ⟨b, o + 4, none⟩ = some (.int .u64 (x.v : Nat))
def Acs (w : World) (B : Nat) (v : Value) (acts : List Ac) : Prop :=
  ∃ A c, v = .slice A acts.length c ∧ acts.length ≤ c ∧ c ≤ maxLen ∧ (acts.length = 0 ∨ ∃ b o, A = some ⟨b, o, none⟩ ∧ b < B ∧ ∀ j x, acts[j]? = some x → AcAt w b (o + j * 5) x)
theorem Acs.below {w w' : World} {B : Nat} {v : Value} {acts : List Ac} (h : Acs w B v acts) (hb : Below B w w') : Acs w' B v acts := by
  obtain ⟨A, c, e, h1, h2, h3⟩ := h
  refine ⟨A, c, e, h1, h2, ?_⟩
  rcases h3 with h0 | ⟨b, o, hA, hlt, hc⟩
  · exact .inl h0
  · refine .inr ⟨b, o, hA, hlt, fun j x hx => ?_⟩
    obtain ⟨c0, c1, c2, c3, c4⟩ := hc j x hx
    exact ⟨(hb.cell (p := ⟨b, _, none⟩) hlt).trans c0, (hb.cell (p := ⟨b, _, none⟩) hlt).trans c1, (hb.cell (p := ⟨b, _, none⟩) hlt).trans c2, (hb.cell (p := ⟨b, _, none⟩) hlt).trans c3, (hb.cell (p := ⟨b, _, none⟩) hlt).trans c4⟩
theorem Acs.more {w : World} {B B' : Nat} {v : Value} {acts : List Ac} (h : Acs w B v acts) (hB : B ≤ B') : Acs w B' v acts := by
  obtain ⟨A, c, e, h1, h2, h3⟩ := h
  refine ⟨A, c, e, h1, h2, ?_⟩
  rcases h3 with h0 | ⟨b, o, hA, hlt, hc⟩
  · exact .inl h0
  · exact .inr ⟨b, o, hA, Nat.lt_of_lt_of_le hlt hB, hc⟩
theorem Acs.form {w : World} {B : Nat} {v : Value} {acts : List Ac} (h : Acs w B v acts) : ∃ A c, v = .slice A acts.length c ∧ acts.length ≤ c ∧ c ≤ maxLen := by
  obtain ⟨A, c, e, h1, h2, _⟩ := h; exact ⟨A, c, e, h1, h2⟩
theorem Acs.get {w : World} {B n c : Nat} {A : Option Addr} {acts : List Ac} (h : Acs w B (.slice A n c) acts) {k : Nat} {x : Ac} (he : acts[k]? = some x) : ∃ b o, A = some ⟨b, o, none⟩ ∧ AcAt w b (o + k * 5) x ∧ b < B := by
  obtain ⟨A', c', hv, _, _, h3⟩ := h
  injection hv with e1 e2 e3
  subst e1
  have hl := (List.getElem?_eq_some_iff.1 he).1
  rcases h3 with h0 | ⟨b, o, rfl, hbB, hc⟩
  · omega
  · exact ⟨b, o, rfl, hc k _ he, hbB⟩
/-- Within Go's types. -/
def AcOk (x : Ac) : Prop := (-9223372036854775808 ≤ x.what ∧ x.what ≤ 9223372036854775807) ∧ (-9223372036854775808 ≤ x.ctx ∧ x.ctx ≤ 9223372036854775807) ∧ (-9223372036854775808 ≤ x.bit ∧ x.bit ≤ 9223372036854775807) ∧ (-9223372036854775808 ≤ x.n ∧ x.n ≤ 9223372036854775807) ∧ x.v < 18446744073709551616
theorem acs_of_recs {w : World} {B : Nat} {v : Value} {rows : List (List Int)} (h : Recs w B v [.i64, .i64, .i64, .i64, .u64] rows) :
    ∃ acts, Acs w B v acts ∧ ∀ x ∈ acts, AcOk x := by
  obtain ⟨A, c, rfl, h1, h2, hlen, hwf, h3⟩ := h
  have get : ∀ (i : Nat) (r : List Int), rows[i]? = some r → ∃ a b d e f : Int, r = [a, b, d, e, f] := by
    intro i r hr
    have := hlen r (List.mem_of_getElem? hr)
    match r, this with
    | [a, b, d, e, f], _ => exact ⟨a, b, d, e, f, rfl⟩
  let f : List Int → Ac := fun r => ⟨r.getD 0 0, r.getD 1 0, r.getD 2 0, r.getD 3 0, (r.getD 4 0).toNat⟩
  refine ⟨rows.map f, ⟨A, c, by simp, by simpa using h1, h2, ?_⟩, ?_⟩
  · rcases h3 with h0 | ⟨b, o, hA, hb, hc⟩
    · left; simpa using h0
    · refine .inr ⟨b, o, hA, hb, fun j x hx => ?_⟩
      rw [List.getElem?_map] at hx
      obtain ⟨r, hr, rfl⟩ := Option.map_eq_some_iff.1 hx
      obtain ⟨a, p, d, e, m, rfl⟩ := get j r hr
      have wm := wf_u64_rng (hwf j _ 4 .u64 m hr rfl rfl)
      have e0 := hc j _ 0 .i64 a hr rfl rfl
      have e1 := hc j _ 1 .i64 p hr rfl rfl
      have e2 := hc j _ 2 .i64 d hr rfl rfl
      have e3 := hc j _ 3 .i64 e hr rfl rfl
      have e4 := hc j _ 4 .u64 m hr rfl rfl
      refine ⟨e0, e1, e2, e3, ?_⟩
      show w.cell? ⟨b, o + j * 5 + 4, none⟩ = some (.int .u64 ((m.toNat : Nat) : Int))
      rw [Int.toNat_of_nonneg wm.1]
      exact e4
  · intro x hx
    obtain ⟨r, hr, rfl⟩ := List.mem_map.1 hx
    obtain ⟨i, hi, e⟩ := List.mem_iff_getElem.1 hr
    have hri : rows[i]? = some r := by rw [List.getElem?_eq_getElem hi, e]
    obtain ⟨a, p, d, q, m, rfl⟩ := get i r hri
    have wm := wf_u64_rng (hwf i _ 4 .u64 m hri rfl rfl)
    refine ⟨wf_i64_rng (hwf i _ 0 .i64 a hri rfl rfl), wf_i64_rng (hwf i _ 1 .i64 p hri rfl rfl), wf_i64_rng (hwf i _ 2 .i64 d hri rfl rfl), wf_i64_rng (hwf i _ 3 .i64 q hri rfl rfl), ?_⟩
    show m.toNat < _
    omega
end Go.Proofs.Ytghbjlmbehljdaa
