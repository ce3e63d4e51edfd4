/- lift: places, plain; parts of rows in memory. -/
import Derived.Test.YtggddckckfilgaaLifN
namespace Go.Proofs.Ytggddckckfilgaa
open Go.RowKit
set_option maxRecDepth 100000
set_option maxHeartbeats 8000000

theorem getD_cut (rs : List (List Int)) (a d i : Nat) : (cutB rs a d).getD i [] = ((rs.getD i []).drop a).take d := by
  unfold cutB
  rw [List.getD_eq_getElem?_getD, List.getD_eq_getElem?_getD, List.getElem?_map]
  cases rs[i]? <;> simp
theorem step_cut {s : Int} {rs r : List (List Int)} {x : Li} (a d : Nat) (h : stepR s rs x = some r) : stepR s (cutB rs a d) x = some (cutB r a d) := by
  unfold stepR at h ⊢
  rw [getD_cut, getD_cut]
  split at h
  next hw =>
    injection h with h
    have e : addL s x.gn (((rs.getD x.to.toNat []).drop a).take d) (((rs.getD x.fr.toNat []).drop a).take d) = ((addL s x.gn (rs.getD x.to.toNat []) (rs.getD x.fr.toNat [])).drop a).take d := by
      unfold addL
      rw [List.drop_zipWith, List.take_zipWith]
    rw [e, if_pos (List.all_eq_true.2 fun z hz => List.all_eq_true.1 hw z (List.mem_of_mem_drop (List.mem_of_mem_take hz)))]
    subst h
    unfold cutB
    rw [List.map_set]
  next => simp at h
theorem run_cut {s : Int} (a d : Nat) : ∀ {l : List Li} {rs r : List (List Int)}, runR s l rs = some r → runR s l (cutB rs a d) = some (cutB r a d)
  | [], rs, r, h => by
    injection h with h
    subst h; rfl
  | x :: l, rs, r, h => by
    simp only [runR] at h ⊢
    cases hs : stepR s rs x with
    | none => rw [hs] at h; simp at h
    | some q =>
      rw [hs] at h
      rw [step_cut a d hs]
      exact run_cut a d h
theorem rowsOk_cut {rs : List (List Int)} {n : Nat} (M : RowsOk rs n) (a d : Nat) (h : a + d ≤ n) : RowsOk (cutB rs a d) d := by
  refine rowsOk_new (by simp [cutB]; exact M.chans) (by have := M.size; omega) (fun r hr => ?_) (fun r hr => ?_)
  · obtain ⟨q, hq, rfl⟩ := List.mem_map.1 hr
    rw [List.length_take, List.length_drop, M.rows q hq]; omega
  · obtain ⟨q, hq, rfl⟩ := List.mem_map.1 hr
    exact List.all_eq_true.2 fun z hz => List.all_eq_true.1 (M.wide q hq) z (List.mem_of_mem_drop (List.mem_of_mem_take hz))
/-- Rows that are parts of others, in a row of one's own. -/
def Prt (w : World) (base B : Nat) (u : Value) (ls : List (List Int)) : Prop :=
  ∃ vs, Own w base 43 u vs ∧ vs.length = ls.length ∧ ∀ (j : Nat) (x : Value) (l : List Int), vs[j]? = some x → ls[j]? = some l → Sli w B x (ci l)
theorem Prt.nil (w : World) (base B : Nat) : Prt w base B (.slice none 0 0) [] := ⟨[], Own.nil _ _ _, rfl, fun j x l h => by simp at h⟩
theorem Prt.kept {w w' : World} {base B : Nat} {u : Value} {ls : List (List Int)} (h : Prt w base B u ls) (hB : B ≤ w.heap.size) (hb : Below w.heap.size w w') : Prt w' base B u ls := by
  obtain ⟨vs, h1, h2, h3⟩ := h
  exact ⟨vs, h1.kept hb, h2, fun j x l hx hl => (h3 j x l hx hl).below (hb.mono hB)⟩
theorem Prt.rws {w : World} {base B : Nat} {u : Value} {ls : List (List Int)} (h : Prt w base B u ls) (hB : B ≤ w.heap.size) : Rws w w.heap.size u ls := by
  obtain ⟨vs, h1, h2, h3⟩ := h
  exact ⟨vs, h1.sli, h2, fun j x l hx hl => (h3 j x l hx hl).more hB⟩
theorem Prt.push {w w' : World} {base B : Nat} {u u' x : Value} {vs : List Value} {ls : List (List Int)} {l : List Int} (h1 : Own w base 43 u vs) (h2 : vs.length = ls.length) (h3 : ∀ (j : Nat) (x : Value) (l : List Int), vs[j]? = some x → ls[j]? = some l → Sli w B x (ci l)) (hB : B ≤ base) (hb : base ≤ w.heap.size) (ho : Own w' base 43 u' (vs ++ [x])) (hm : ∀ g, Mov w w' g u u') (hx : Sli w B x (ci l)) :
    Prt w' base B u' (ls ++ [l]) ∧ Below base w w' := by
  have hbe : Below base w w' := Mov.belowK hm (fun k hk => (h1.lt k hk).1) hb
  refine ⟨⟨_, ho, by simp [h2], fun j y q hy hq => ?_⟩, hbe⟩
  rcases Nat.lt_trichotomy j vs.length with hj | hj | hj
  · rw [List.getElem?_append_left hj] at hy
    rw [List.getElem?_append_left (by omega)] at hq
    exact (h3 j y q hy hq).below (hbe.mono hB)
  · rw [hj, List.getElem?_append_right (Nat.le_refl _), Nat.sub_self] at hy
    rw [hj, h2, List.getElem?_append_right (Nat.le_refl _), Nat.sub_self] at hq
    simp at hy hq
    subst hy; subst hq
    exact hx.below (hbe.mono hB)
  · rw [List.getElem?_eq_none (by simp; omega)] at hy
    simp at hy
/-- A part that lies behind the whole capacity: its address does not move. -/
theorem Sli.void {w : World} {B n c : Nat} {A : Option Addr} {xs : List Value} (_h : Sli w B (.slice A n c) xs) : Sli w B (.slice A 0 0) [] :=
  ⟨A, 0, rfl, ⟨rfl, .inl rfl⟩, Nat.le_refl _, by simp [maxLen], fun _ => rfl⟩
theorem i64_andFF (n : Int) : bits .and .i64 n 65535 = n % 65536 := by
  have h255 : (BitVec.ofInt 64 65535).toNat = 2 ^ 16 - 1 := by decide
  have key : (BitVec.ofInt 64 n &&& BitVec.ofInt 64 65535).toNat = (n % ((2 ^ 64 : Nat) : Int)).toNat % 2 ^ 16 := by
    rw [BitVec.toNat_and, BitVec.toNat_ofInt, h255, Nat.and_two_pow_sub_one_eq_mod]
  show IntKind.i64.wrap ((BitVec.ofInt 64 n &&& BitVec.ofInt 64 65535).toNat : Nat) = n % 65536
  rw [key, IntKind.wrap_i64]
  omega
theorem place_of (f : Int) (k : Nat) : ∃ a : Nat, (bits .and .i64 f 65535).tmod ((k : Int) + 1) = (a : Nat) ∧ a ≤ k := by
  rw [i64_andFF]
  refine ⟨((f % 65536).tmod ((k : Int) + 1)).toNat, ?_, ?_⟩
  · have : 0 ≤ (f % 65536).tmod ((k : Int) + 1) := Int.tmod_nonneg _ (by omega)
    omega
  · have h1 : (f % 65536).tmod ((k : Int) + 1) = (f % 65536) % ((k : Int) + 1) := Int.tmod_eq_emod_of_nonneg (by omega)
    have h2 : (f % 65536) % ((k : Int) + 1) < (k : Int) + 1 := Int.emod_lt_of_pos _ (by omega)
    omega
end Go.Proofs.Ytggddckckfilgaa
