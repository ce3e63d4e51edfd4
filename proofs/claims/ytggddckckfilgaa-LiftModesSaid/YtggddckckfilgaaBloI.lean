/- block: Weave, and the reference's. -/
import Derived.Test.YtggddckckfilgaaBloH
import Derived.Deep.RegionHeld3
import Derived.Deep.RegionWith
import Derived.Deep.DeepCutAuto
import Derived.Deep.CutBlock
import Derived.Laws.MakeOwn
namespace Go.Proofs.Ytggddckckfilgaa
open Go.RowKit
set_option maxRecDepth 100000
set_option maxHeartbeats 1600000

/-- A block in its box at g, its rows below w0's size. -/
structure Bx (w0 w : World) (g : Nat) (b : Int) (v : Value) (rs : List (List Int)) : Prop where
  be : Below w0.heap.size w0 w
  r : Rws w w0.heap.size v rs
  box : w.heap[g]? = some (.cells #[.int .i64 b, v] 37 (0, 0))
theorem Bx.on {w0 w w' : World} {g : Nat} {b : Int} {v : Value} {rs : List (List Int)} (h : Bx w0 w g b v rs) (hb : Below w.heap.size w w') : Bx w0 w' g b v rs :=
  ⟨bthen h.be hb h.be.size, h.r.below (hb.mono h.be.size), (hb.block _ (Array.getElem?_eq_some_iff.1 h.box).1).trans h.box⟩
theorem Bx.drewN {w0 w : World} {g : Nat} {b : Int} {v : Value} {rs : List (List Int)} (h : Bx w0 w g b v rs) (n : Nat) : Bx w0 (w.drewN n) g b v rs := ⟨below_drewN h.be n, h.r.drewN n, h.box⟩
theorem Bx.drew {w0 w : World} {g : Nat} {b : Int} {v : Value} {rs : List (List Int)} (h : Bx w0 w g b v rs) : Bx w0 w.drew g b v rs := ⟨h.be.drew, h.r.keep fun _ _ => rfl, h.box⟩
theorem Bx.c0 {w0 w : World} {g : Nat} {b : Int} {v : Value} {rs : List (List Int)} (h : Bx w0 w g b v rs) : w.cell? ⟨g, 0, none⟩ = some (.int .i64 b) := (two_in h.box).1
theorem Bx.c1 {w0 w : World} {g : Nat} {b : Int} {v : Value} {rs : List (List Int)} (h : Bx w0 w g b v rs) : w.cell? ⟨g, 1, none⟩ = some v := (two_in h.box).2.1
theorem Bx.start {w : World} {b : Int} {v : Value} {rs : List (List Int)} (hR : Rws w w.heap.size v rs) : Bx w (w.alloc (.cells #[.int .i64 b, v] 37)) w.heap.size b v rs :=
  ⟨below_new _ _ _, hR.below (below_new _ _ _), boxed _ _ _⟩
theorem Bx.size {w0 w : World} {g : Nat} {b : Int} {v : Value} {rs : List (List Int)} (h : Bx w0 w g b v rs) : w0.heap.size ≤ w.heap.size := h.be.size
theorem two_set {w : World} {R : Nat} {x y a b : Value} {t : TypeId} (h : w.heap[R]? = some (.cells #[x, y] t (0, 0))) : ((w.setCell ⟨R, 0, none⟩ a).setCell ⟨R, 1, none⟩ b).heap[R]? = some (.cells #[a, b] t (0, 0)) :=
  heap_setCell_same _ R 1 _ _ _ (heap_setCell_same w R 0 _ _ _ h)
theorem two_gr (w : World) (R : Nat) (a b : Value) : w.grownBy ((w.setCell ⟨R, 0, none⟩ a).setCell ⟨R, 1, none⟩ b) (some R) := grown_trans (grown_set w R 0 a) (grown_set _ R 1 b)
theorem results_two {P : Program} {fn : Func} {p u : Tmp} {ty : TypeId} (h : fn.results = #[.cell p ty, .tmp u]) (tmps : Array Value) (w : World) (g : Nat) (t : TypeId) (cs : Array Value) (fr : Nat × Nat) (d : TypeDesc)
    (hp : tmps.getD p undef = .pointer (some ⟨g, 0, none⟩)) (hg : w.heap[g]? = some (.cells cs t fr))
    (hu : P.underlying ty = some d) (hd : (match d with | .struct _ | .array _ _ => true | _ => false) = true) (hi : (P.info? ty).map (·.size) = some cs.size) :
    (results fn tmps).run P w = .ok (.tuple #[.agg cs, tmps.getD u undef]) w := by
  have hp' : tmps[p]?.getD undef = .pointer (some ⟨g, 0, none⟩) := by simpa using hp
  simp [results, h, hp', asAddr, run_loadVar_row w g t ty cs fr d hg hu hd hi]
/-- A block of the call's own and an error. -/
def BkPost (r : Int × List (List Int) × Int) (w : World) (e : Ending) (w' : World) : Prop := ∃ (A : Option Addr) (n c : Nat) (vs : List Value), e = .returned (.tuple #[.agg #[.int .i64 r.1, .slice A n c], .int .i64 r.2.2]) ∧ RwG w' w.heap.size (.slice A n c) vs r.2.1 ∧ Below w.heap.size w w'
theorem weaveB_small {b : Int} {rs : List (List Int)} {n : Nat} (h : MayBk b rs n) (i : Nat) (hi : i ≤ n) : (weaveB rs i).length ≤ 32768 := by
  rw [weaveB_len]
  have h1 := h.chans; have h2 := h.size
  exact Nat.mul_le_mul (show i ≤ 4096 by omega) h1.2

/-- 'make([]int, 0, n)', in any world. -/
theorem make_cap (n : Nat) (hn : n ≤ 1099511627776) : ∃ mk : World → World, ∀ W, (Instr.makeSlice 43 (.int .i64 0) (.int .i64 (n : Int))).run Try.prog W = .ok (.slice (some ⟨W.heap.size, 0, none⟩) 0 n) (mk W) ∧ Own (mk W) W.heap.size 3 (.slice (some ⟨W.heap.size, 0, none⟩) 0 n) [] ∧ Below W.heap.size W (mk W) := by
  obtain ⟨i, hi, hz0, hz1, hz2⟩ := info_parts info_int
  refine ⟨fun W => Classical.choose (run_make_own (w := W) W.heap.size 43 3 i _ 1 Try.underlying43 hi hz0 hz1 .i64 .i64 n (by rw [hz2]; omega) (by unfold maxLen; omega) (Nat.le_refl _)), fun W => ?_⟩
  have h := Classical.choose_spec (run_make_own (w := W) W.heap.size 43 3 i _ 1 Try.underlying43 hi hz0 hz1 .i64 .i64 n (by rw [hz2]; omega) (by unfold maxLen; omega) (Nat.le_refl _))
  exact ⟨h.1, h.2.1, ⟨h.2.2.os, h.2.2.tape, h.2.2.output, h.2.2.size, fun k hk => h.2.2.block k hk (by simp)⟩⟩

end Go.Proofs.Ytggddckckfilgaa
