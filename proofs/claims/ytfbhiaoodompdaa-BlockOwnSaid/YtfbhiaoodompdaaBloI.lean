/- block: Weave, and the reference's. -/
import Derived.Test.YtfbhiaoodompdaaBloH
import Derived.Deep.RegionHeld3
import Derived.Deep.RegionWith
import Derived.Deep.DeepCutAuto
import Derived.Deep.CutBlock
import Derived.Laws.MakeOwn
namespace Go.Proofs.Ytfbhiaoodompdaa
open Go.RowKit
set_option maxRecDepth 100000
set_option maxHeartbeats 1600000

/-- A block in its box at g, its rows below w0's size. -/
structure Bx (w0 w : World) (g : Nat) (b : Int) (v : Value) (rs : List (List Int)) : Prop where
  be : Below w0.heap.size w0 w
  r : Rws w w0.heap.size v rs
  box : w.heap[g]? = some (.cells #[.int .i64 b, v] 26 (0, 0))
theorem Bx.on {w0 w w' : World} {g : Nat} {b : Int} {v : Value} {rs : List (List Int)} (h : Bx w0 w g b v rs) (hb : Below w.heap.size w w') : Bx w0 w' g b v rs :=
  ⟨bthen h.be hb h.be.size, h.r.below (hb.mono h.be.size), (hb.block _ (Array.getElem?_eq_some_iff.1 h.box).1).trans h.box⟩
theorem Bx.drewN {w0 w : World} {g : Nat} {b : Int} {v : Value} {rs : List (List Int)} (h : Bx w0 w g b v rs) (n : Nat) : Bx w0 (w.drewN n) g b v rs := ⟨below_drewN h.be n, h.r.drewN n, h.box⟩
theorem Bx.drew {w0 w : World} {g : Nat} {b : Int} {v : Value} {rs : List (List Int)} (h : Bx w0 w g b v rs) : Bx w0 w.drew g b v rs := ⟨h.be.drew, h.r.keep fun _ _ => rfl, h.box⟩
theorem Bx.c0 {w0 w : World} {g : Nat} {b : Int} {v : Value} {rs : List (List Int)} (h : Bx w0 w g b v rs) : w.cell? ⟨g, 0, none⟩ = some (.int .i64 b) := (two_in h.box).1
theorem Bx.c1 {w0 w : World} {g : Nat} {b : Int} {v : Value} {rs : List (List Int)} (h : Bx w0 w g b v rs) : w.cell? ⟨g, 1, none⟩ = some v := (two_in h.box).2.1
theorem Bx.start {w : World} {b : Int} {v : Value} {rs : List (List Int)} (hR : Rws w w.heap.size v rs) : Bx w (w.alloc (.cells #[.int .i64 b, v] 26)) w.heap.size b v rs :=
  ⟨below_new _ _ _, hR.below (below_new _ _ _), boxed _ _ _⟩
theorem Bx.size {w0 w : World} {g : Nat} {b : Int} {v : Value} {rs : List (List Int)} (h : Bx w0 w g b v rs) : w0.heap.size ≤ w.heap.size := h.be.size
theorem two_set {w : World} {R : Nat} {x y a b : Value} {t : TypeId} (h : w.heap[R]? = some (.cells #[x, y] t (0, 0))) : ((w.setCell ⟨R, 0, none⟩ a).setCell ⟨R, 1, none⟩ b).heap[R]? = some (.cells #[a, b] t (0, 0)) :=
  heap_setCell_same _ R 1 _ _ _ (heap_setCell_same w R 0 _ _ _ h)
theorem two_gr (w : World) (R : Nat) (a b : Value) : w.grownBy ((w.setCell ⟨R, 0, none⟩ a).setCell ⟨R, 1, none⟩ b) (some R) := grown_trans (grown_set w R 0 a) (grown_set _ R 1 b)
theorem results_two {P : Program} {fn : Func} {p u : Tmp} {ty : TypeId} (h : fn.results = #[.cell p ty, .tmp u]) (tmps : Array Value) (w : World) (g : Nat) (t : TypeId) (cs : Array Value) (fr : Nat × Nat) (d : TypeDesc)
    (hp : tmps.getD p undef = .pointer (some ⟨g, 0, none⟩)) (hg : w.heap[g]? = some (.cells cs t fr))
    (hu : P.underlying ty = some d) (hd : (match d with | .struct _ | .array _ _ => true | _ => false) = true) (hi : (P.info? ty).map (·.size) = some cs.size) :
    (results fn tmps).run P w = .ok (.tuple #[.agg cs, tmps.getD u undef]) w := by
  have hp' : tmps[p]?.getD undef = .pointer (some ⟨g, 0, none⟩) := by simpa using hp
  simp [results, h, hp', asAddr, run_loadVar_row w g t ty cs fr d hg hu hd hi]
/-- A block of the call's own and an error. -/
def BkPost (r : Int × List (List Int) × Int) (w : World) (e : Ending) (w' : World) : Prop := ∃ (A : Option Addr) (n c : Nat) (vs : List Value), e = .returned (.tuple #[.agg #[.int .i64 r.1, .slice A n c], .int .i64 r.2.2]) ∧ RwG w' w.heap.size (.slice A n c) vs r.2.1 ∧ Below w.heap.size w w'
theorem weaveB_small {b : Int} {rs : List (List Int)} {n : Nat} (h : MayBk b rs n) (i : Nat) (hi : i ≤ n) : (weaveB rs i).length ≤ 32768 := by
  rw [weaveB_len]
  have h1 := h.chans; have h2 := h.size
  exact Nat.mul_le_mul (show i ≤ 4096 by omega) h1.2

/-- 'make([]int, 0, n)', in any world. -/
theorem make_cap (n : Nat) (hn : n ≤ 1099511627776) : ∃ mk : World → World, ∀ W, (Instr.makeSlice 37 (.int .i64 0) (.int .i64 (n : Int))).run Try.prog W = .ok (.slice (some ⟨W.heap.size, 0, none⟩) 0 n) (mk W) ∧ Own (mk W) W.heap.size 3 (.slice (some ⟨W.heap.size, 0, none⟩) 0 n) [] ∧ Below W.heap.size W (mk W) := by
  obtain ⟨i, hi, hz0, hz1, hz2⟩ := info_parts info_int
  refine ⟨fun W => Classical.choose (run_make_own (w := W) W.heap.size 37 3 i _ 1 Try.underlying37 hi hz0 hz1 .i64 .i64 n (by rw [hz2]; omega) (by unfold maxLen; omega) (Nat.le_refl _)), fun W => ?_⟩
  have h := Classical.choose_spec (run_make_own (w := W) W.heap.size 37 3 i _ 1 Try.underlying37 hi hz0 hz1 .i64 .i64 n (by rw [hz2]; omega) (by unfold maxLen; omega) (Nat.le_refl _))
  exact ⟨h.1, h.2.1, ⟨h.2.2.os, h.2.2.tape, h.2.2.output, h.2.2.size, fun k hk => h.2.2.block k hk (by simp)⟩⟩

theorem weaveBk_any (b : Int) (v : Value) (rs : List (List Int)) (w : World) (B : Nat) (hR : Rws w B v rs) (hB : B ≤ w.heap.size) :
    Calls Try.prog 23 #[.agg #[.int .i64 b, v]] w fun e w' => ∃ v', e = .returned v' ∧ Own w' w.heap.size 3 v' (ci (weaveR b rs)) ∧ Below w.heap.size w w' := by
  replace hR := hR.more hB
  obtain ⟨A, c, rfl, hlc, hcm⟩ := hR.form
  obtain ⟨wA, hwA⟩ : ∃ wA, w.alloc (.cells #[.int .i64 b, .slice A rs.length c] 26) = wA := ⟨_, rfl⟩
  have hX := Bx.start (b := b) hR
  rw [hwA] at hX
  have hmay := fun (w1 : World) (h : Bx w w1 w.heap.size b (.slice A rs.length c) rs) => mayBk_any b _ rs w1 w.heap.size h.r h.size
  have hlen := fun (w1 : World) (h : Bx w w1 w.heap.size b (.slice A rs.length c) rs) => lenBk_any b _ rs w1 w.heap.size h.r h.size
  have hwv : weaveR b rs = if mayBk b rs = true then weaveB rs (lenB rs) else [] := rfl
  have HWA := Lib.hid hwA; have HMAY := Lib.hid hmay; have HLEN := Lib.hid hlen
  clear hwA hmay hlen
  by_cases hm : mayBk b rs = true
  · have M := mayBk_of hm
    rw [if_pos hm] at hwv
    rw [hm] at HMAY
    rw [hwv]
    obtain ⟨n, hn⟩ : ∃ n, lenB rs = n := ⟨_, rfl⟩
    rw [hn] at M HLEN ⊢
    obtain ⟨m, hml⟩ : ∃ m, rs.length = m := ⟨_, rfl⟩
    rw [hml] at hX HMAY HLEN HWA hlc hR ⊢
    have hm8 : 1 ≤ m ∧ m ≤ 8 := by have := M.chans; omega
    have hn8 := M.size
    obtain ⟨N, hN⟩ : ∃ N, n * m = N := ⟨_, rfl⟩
    have hN2 : N ≤ 32768 := by rw [← hN]; exact Nat.mul_le_mul hn8.2 hm8.2
    have hNI : (n : Int) * (m : Int) = (N : Nat) := by rw [← hN]; simp
    have HM := Lib.hid M; have HML := Lib.hid hml
    clear hwv hm M hn hml hN hR
    go_enter Try.func23, Try.ntmps23
    go_wp2_with fail
    rw [HWA.out]
    have x0 := hX.c0
    have x1 := hX.c1
    go_wp2_with fail
    refine (HMAY.out _ hX).mono ?_
    rintro e w1 ⟨rfl, hb1⟩
    have hX1 := hX.on hb1
    clear x0 x1 hX
    have hX1d := hX1.drew
    have x0 := hX1.c0
    have x1 := hX1.c1
    go_upto_region 3 with (fail)
    obtain ⟨mk, hmk⟩ := make_cap N (by omega)
    have hrun := fun W => (hmk W).1
    have hwr : IntKind.i64.wrap (N : Int) = (N : Int) := by rw [IntKind.wrap_i64]; omega
    go_cut [3] (fun l wx => ∃ G2, l = .slice (some ⟨G2, 0, none⟩) 0 N ∧ Own wx w1.heap.size 3 l [] ∧ Below w1.heap.size w1 wx)
    case first =>
      go_region_with (go_at_call 20; refine (HLEN.out _ hX1d).mono ?_; rintro e w2 ⟨rfl, hb2⟩; have hX2 := hX1d.on hb2; have y0 := hX2.c0; have y1 := hX2.c1)
      all_goals
        go_wp2_with fail
        go_meet
        case rel =>
          obtain ⟨h1, h2, h3⟩ := hmk w2
          have hb12 : Below w1.heap.size w1 w2 := (Below.refl _ w1).drew.trans hb2
          exact ⟨_, rfl, h2.mono hb12.size, hb12.trans (h3.mono hb12.size)⟩
    case rest =>
      obtain ⟨G2, rfl, ho2, hb2⟩ := hcut
      have hX2 := hX1.on hb2
      clear hX1d x0 x1 hmk hrun hwr
      have x0 := hX2.c0
      have x1 := hX2.c1
      go_wp2_with (go_at_call 20; refine (HLEN.out _ hX2).mono ?_; rintro e w3 ⟨rfl, hb3⟩; refine cut_here ?_)
      have hX3 := hX2.on hb3
      have ho3 := ho2.kept hb3
      have hb13 := bthen hb2 hb3 hb2.size
      clear ho2 hb2 hb3 hX2 x0 x1
      unfold CutHere
      go_wp2
      go_loopw [3, 19] (fun l ii wr => ∃ i : Nat, i ≤ n ∧ ii = .int .i64 i ∧ Own wr w1.heap.size 3 l (ci (weaveB rs i)) ∧ Below w1.heap.size w1 wr) (fun _ ii _ => n - (intOf ii).toNat)
      case atStart => exact ⟨0, Nat.zero_le _, rfl, by simpa [weaveB, ci] using ho3, hb13⟩
      case round =>
        clear ho3 hb13 hX3
        obtain ⟨i, hi, rfl, ho, hb⟩ := hrel
        by_cases hlt : i < n
        · have hX4 := hX1.on hb
          have x1 := hX4.c1
          have hst := weaveB_succ rs i
          have hsm := weaveB_small HM.out i (by omega)
          have HST := Lib.hid hst; have HSM := Lib.hid hsm
          clear hst hsm hX4
          go_wp2
          go_loopw [3, 25] (fun l kk wr => ∃ k : Nat, k ≤ m ∧ kk = .int .i64 k ∧ Own wr w1.heap.size 3 l (ci (weaveB rs i ++ (colB rs i).take k)) ∧ Below w1.heap.size w1 wr) (fun _ kk _ => m - (intOf kk).toNat)
          case atStart => exact ⟨0, Nat.zero_le _, rfl, by simpa using ho, hb⟩
          case round =>
            clear ho hb x1
            obtain ⟨k, hk, rfl, ho, hb⟩ := hrel
            by_cases hkm : k < m
            · have hkl : k < rs.length := by rw [HML.out]; exact hkm
              have hX4 := hX1.on hb
              obtain ⟨b2, o, A', c', rfl, hb2, hcell, hS, g1, g2⟩ := hX4.r.get hkl
              have hrn := HM.out.rows _ (List.getElem_mem hkl)
              rw [hrn] at hcell hS g1
              have hil : i < rs[k].length := by rw [hrn]; exact hlt
              obtain ⟨b5, o5, rfl, hb5, hc5⟩ := hS.atI hil
              have hcs : weaveB rs i ++ (colB rs i).take (k + 1) = (weaveB rs i ++ (colB rs i).take k) ++ [rs[k][i]] := by
                rw [List.append_assoc, List.take_succ_eq_append_getElem (by rw [colB_len]; exact hkl)]
                simp [colB, hil]
              have hlen : (ci (weaveB rs i ++ (colB rs i).take k)).length + 1 ≤ 8796093022208 := by
                have h1 := HSM.out
                have h2 : ((colB rs i).take k).length ≤ 8 := by rw [List.length_take, colB_len, HML.out]; omega
                rw [ci_len, List.length_append]; omega
              have HCS := Lib.hid hcs; have HLN := Lib.hid hlen
              clear hcs hlen hS hX4 hrn
              generalize rs[k][i] = x at *
              have hltI : (i : Int) < (n : Int) := by omega
              go_wp2_with (at_builtin; refine wpl_app1 ho hb.size HLN.out Try.underlying37 info_int rfl (by decide) rfl rfl rfl rfl rfl (h := ?_); intro v5 w5 ho5 hb5)
              exact ⟨⟨k + 1, by omega, by simp, by rw [HCS.out, ci_app]; exact ho5, hb.trans hb5⟩, by simp [intOf]; omega⟩
            · have hkk : k = rs.length := by rw [HML.out]; omega
              rw [hkk, List.take_of_length_le (by rw [colB_len]; exact Nat.le_refl _), ← HST.out] at ho
              go_wp2
              exact ⟨⟨i + 1, by omega, by simp, ho, hb⟩, by simp [intOf]; omega⟩
        · have hin : i = n := by omega
          subst hin
          go_wp2
          go_ret
          exact ⟨_, rfl, ho.mono hX1.size, hX1.be.trans (hb.mono hX1.size)⟩
  · rw [if_neg hm] at hwv
    rw [Bool.eq_false_iff.2 hm] at HMAY
    rw [hwv]
    clear hwv hR hm
    go_enter Try.func23, Try.ntmps23
    go_wp2_with fail
    rw [HWA.out]
    have x0 := hX.c0
    have x1 := hX.c1
    go_wp2_with fail
    refine (HMAY.out _ hX).mono ?_
    rintro e w1 ⟨rfl, hb1⟩
    have hX1 := hX.on hb1
    clear x0 x1 hX
    go_wp2
    go_ret
    exact ⟨_, rfl, Own.nil _ _ _, hX1.be⟩
end Go.Proofs.Ytfbhiaoodompdaa
