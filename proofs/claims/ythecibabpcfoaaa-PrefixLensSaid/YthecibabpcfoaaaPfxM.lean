/- prefix: sorting a row of elements. -/
import Derived.Test.YthecibabpcfoaaaPfxJ
import Derived.Test.YthecibabpcfoaaaSrtF
namespace Go.Proofs.Ythecibabpcfoaaa
open Go.RowKit Go.Shelf Go.Lib
set_option maxRecDepth 100000
set_option maxHeartbeats 4000000

theorem ce_set : ∀ (es : List (Nat × Bool)) (i : Nat) (e : Nat × Bool), i < es.length → ((ce es).set (i * 2) (.int .i64 (e.1 : Nat))).set (i * 2 + 1) (.bool e.2) = ce (es.set i e)
  | [], i, e, h => absurd h (by simp)
  | a :: es, 0, e, _ => by simp [ce, celE]
  | a :: es, i + 1, e, h => by
    have ih := ce_set es i e (by simpa using h)
    have e1 : (i + 1) * 2 = i * 2 + 1 + 1 := by omega
    rw [List.set_cons_succ]
    simp only [ce, List.flatMap_cons, celE, List.cons_append, List.nil_append] at ih ⊢
    rw [e1, List.set_cons_succ, List.set_cons_succ, List.set_cons_succ, List.set_cons_succ, ih]
def rowE (n : Nat) (f : Nat → (Nat × Bool) × Nat) : List (Nat × Bool) := (List.range n).map fun k => (f k).1
theorem rowE_len (n : Nat) (f : Nat → (Nat × Bool) × Nat) : (rowE n f).length = n := by simp [rowE]
theorem rowE_at {n : Nat} {f : Nat → (Nat × Bool) × Nat} {i : Nat} (h : i < n) : (rowE n f)[i]'(by rw [rowE_len]; exact h) = (f i).1 := by simp [rowE]
theorem rowE_xch {n : Nat} {f : Nat → (Nat × Bool) × Nat} {i j : Nat} (hi : i < n) (hj : j < n) (hij : i ≠ j) : ((rowE n f).set i (f j).1).set j (f i).1 = rowE n (xch f i j) := by
  apply List.ext_getElem
  · simp [rowE]
  · intro k h1 h2
    simp [rowE] at h1 h2
    rw [List.getElem_set, List.getElem_set]
    simp only [rowE, List.getElem_map, List.getElem_range, xch]
    (repeat' split) <;> first | rfl | (exfalso; omega) | (subst_vars; rfl)
theorem rowE_plcd (xs : List (Nat × Bool)) : rowE xs.length (plcd xs) = xs := by
  apply List.ext_getElem
  · simp [rowE]
  · intro k h1 h2
    simp [rowE, plcd, h2]

noncomputable def ieE : TypeInfo := (Try.prog.info? 68).getD default
noncomputable def isE : TypeInfo := (Try.prog.info? 65).getD default
noncomputable def iuE : TypeInfo := (Try.prog.info? 67).getD default
theorem ieE_is : Try.prog.info? 68 = some ieE := by kernel_rfl
theorem isE_is : Try.prog.info? 65 = some isE := by kernel_rfl
theorem iuE_is : Try.prog.info? 67 = some iuE := by kernel_rfl
theorem isE_desc : isE.desc = .slice 68 := by kernel_rfl
theorem sElt_unpacked : Try.prog.packed 65 = false := by kernel_rfl
theorem elt_info : ieE.size = 2 ∧ ieE.hasPointers = false ∧ ieE.bytes = 16 := ⟨by kernel_rfl, by kernel_rfl, by kernel_rfl⟩
def isNamed (d : TypeDesc) (u : Nat) : Bool := match d with | .named _ u' => u' == u | _ => false
def isStruct (d : TypeDesc) : Bool := match d with | .struct _ => true | _ => false
theorem named_of {d : TypeDesc} {u : Nat} (h : isNamed d u = true) : ∃ q, d = .named q u := by
  cases d <;> simp [isNamed] at h
  subst h; exact ⟨_, rfl⟩
theorem struct_of {d : TypeDesc} (h : isStruct d = true) : ∃ q, d = .struct q := by
  cases d <;> simp [isStruct] at h
  exact ⟨_, rfl⟩
theorem elt_kind : ∃ ke, ∀ w, (Extern.Rtype.kind 68).run Try.prog w = .ok ke w := by
  refine ⟨25, fun w => ?_⟩
  obtain ⟨q, hd⟩ := named_of (d := ieE.desc) (u := 67) (by kernel_rfl)
  obtain ⟨fs, hu⟩ := struct_of (d := iuE.desc) (by kernel_rfl)
  simp [Extern.Rtype.kind, Extern.Rtype.under, rl_info 68 ieE ieE_is, rl_info 67 iuE iuE_is, hd, hu, Result.andThen]
theorem elt_swapK (n ke : Nat) : swapperK n ieE ke = if n = 0 then 1 else if n = 1 then 2 else 9 := by
  unfold swapperK
  rw [elt_info.2.1, elt_info.2.2]
  by_cases h0 : n = 0
  · subst h0; simp
  · by_cases h1 : n = 1
    · subst h1; simp
    · simp [h0, h1]
theorem elt_lit (n ke : Nat) : ∃ s, Try.prog.funcs.findIdx? (·.name == "internal/reflectlite" ++ ".Swapper$" ++ toString (swapperK n ieE ke)) = some s ∧ (2 ≤ n → s = 82) := by
  rw [elt_swapK]
  by_cases h0 : n = 0
  · rw [if_pos h0]; exact ⟨74, by kernel_rfl, fun h => by omega⟩
  · rw [if_neg h0]
    by_cases h1 : n = 1
    · rw [if_pos h1]; exact ⟨75, by kernel_rfl, fun h => by omega⟩
    · rw [if_neg h1]; exact ⟨82, by kernel_rfl, fun _ => rfl⟩
theorem elt_sbound {n : Nat} (h : 2 ≤ n) (ke : Nat) (p : Option Addr) (c : Nat) : sbound 68 ieE ke p n c = #[.slice p n c, typeHandle Try.prog 68] := by
  unfold sbound
  have e : swapperK n ieE ke = 9 := by rw [elt_swapK, if_neg (show ¬ n = 0 by omega), if_neg (show ¬ n = 1 by omega)]
  rw [e, if_neg (by omega)]

def Relt (w : World) (base : Nat) (v : Value) (n : Nat) (f : Nat → (Nat × Bool) × Nat) (W : World) : Prop := w.grownBy W v.ownBlock ∧ Els W base v (rowE n f)
theorem sort_els {w : World} {base gr c n : Nat} {xs : List (Nat × Bool)} (hO : Els w base (.slice (some ⟨gr, 0, none⟩) n c) xs) (hn : n < 1048576) (g : Nat) (lb : Array Value)
    (eg : ∀ args w, (callFunc g args).run Try.prog w = .ok (.enter g args) w)
    (hless : ∀ W (ys : List (Nat × Bool)), w.grownBy W (some gr) → Els W base (.slice (some ⟨gr, 0, none⟩) n c) ys → ∀ (i j : Nat) (hi : i < ys.length) (hj : j < ys.length),
      Calls Try.prog g (#[.int .i64 i, .int .i64 j] ++ lb) W fun e w' => e = .returned (.bool (decide (((ys[i]).1 : Int) < ((ys[j]).1 : Int)))) ∧ ∃ q, w' = W.drewN q) :
    Calls Try.prog 53 #[.iface 65 (.slice (some ⟨gr, 0, none⟩) n c), .func (.func g) #[] lb] w fun e w' => e = .returned (.tuple #[]) ∧ ∃ ys, Stably (fun x : Nat × Bool => (x.1 : Int)) xs ys ∧ Els w' base (.slice (some ⟨gr, 0, none⟩) n c) ys ∧ w.grownBy w' (some gr) := by
  have hnl : xs.length = n := by
    obtain ⟨A, c', e, _⟩ := hO.form
    injection e with _ e2 _
    exact e2.symm
  obtain ⟨ke, hke⟩ := elt_kind
  obtain ⟨s, hs, hs2⟩ := elt_lit n ke
  have hR0 : Relt w base (.slice (some ⟨gr, 0, none⟩) n c) n (plcd xs) w := by
    refine ⟨⟨rfl, rfl, rfl, Nat.le_refl _, fun _ _ _ => rfl⟩, ?_⟩
    rw [← hnl, rowE_plcd, hnl]; exact hO
  have hb1 := (hO.lt gr (by simp [Value.ownBlock])).2
  have S : Sorter (fun x : (Nat × Bool) × Nat => (x.1.1 : Int)) n gr g s lb (sbound 68 ieE ke (some ⟨gr, 0, none⟩) n c) (Relt w base (.slice (some ⟨gr, 0, none⟩) n c) n) := by
    refine ⟨fun f W h => Nat.lt_of_lt_of_le hb1 h.1.size, fun f W q h => ⟨grown_drewN h.1 q, h.2⟩, fun f W o h => ⟨grown_trans h.1 (grown_of_below ((Below.refl _ _).alloc (Nat.le_refl _) o) _), World.ownsRow.alloc h.2 o⟩, fun f W i j h hi hj => ?_, fun f W i j h hi hj hij => ?_, eg⟩
    · have := hless W (rowE n f) h.1 h.2 i j (by rw [rowE_len]; exact hi) (by rw [rowE_len]; exact hj)
      rw [rowE_at hi, rowE_at hj] at this
      exact this
    · have hs5 := hs2 (by omega)
      subst hs5
      rw [elt_sbound (by omega)]
      have hW := h.2
      have hl := rowE_len n f
      unfold Els at hW
      rw [hl] at hW
      have ci0 := ce_at (rowE n f) i (by rw [hl]; exact hi)
      have cj0 := ce_at (rowE n f) j (by rw [hl]; exact hj)
      rw [rowE_at hi] at ci0
      rw [rowE_at hj] at cj0
      have two : ∀ (k : Nat) (e : Nat × Bool), k < n → (ce (rowE n f))[k * 2]? = some (.int .i64 (e.1 : Nat)) ∧ (ce (rowE n f))[k * 2 + 1]? = some (.bool e.2) → ∀ t v, (celE e)[t]? = some v → W.cell? ⟨gr, 0 + k * 2 + t, none⟩ = some v := by
        intro k e hk hc t v ht
        match t, ht with
        | 0, ht => simp [celE] at ht; subst ht; rw [Nat.zero_add, Nat.add_zero, hW.cellAt _ (by omega), hc.1]
        | 1, ht => simp [celE] at ht; subst ht; rw [Nat.zero_add, hW.cellAt _ (by omega), hc.2]
        | t + 2, ht => simp [celE] at ht
      have hr := run_swap_cells (P := Try.prog) false 68 ieE ieE_is Try.isAgg68 gr 0 n c i j hi hj (celE (f i).1) (celE (f j).1) (by rw [elt_info.1]; rfl) (by rw [elt_info.1]; rfl) (by intro u hu; simp [celE] at hu; rcases hu with rfl | rfl <;> rfl) (by intro u hu; simp [celE] at hu; rcases hu with rfl | rfl <;> rfl) W
        (by rw [elt_info.1]; exact two i _ hi ci0) (by rw [elt_info.1]; exact two j _ hj cj0) (by intro k _; exact hW.frozenAt _) (by intro k _; exact hW.frozenAt _)
      rw [elt_info.1, Nat.zero_add, Nat.zero_add] at hr
      simp only [celE, World.setCells] at hr
      have h1 := hW.stored (i * 2) (.int .i64 ((f j).1.1 : Nat))
      have h2 := h1.1.stored (i * 2 + 1) (.bool (f j).1.2)
      have h3 := h2.1.stored (j * 2) (.int .i64 ((f i).1.1 : Nat))
      have h4 := h3.1.stored (j * 2 + 1) (.bool (f i).1.2)
      rw [ce_set (rowE n f) i (f j).1 (by rw [hl]; exact hi), ce_set _ j (f i).1 (by simp [hl]; exact hj), rowE_xch hi hj hij] at h4
      refine ⟨_, ?_, ⟨grown_trans h.1 (grown_trans h1.2 (grown_trans h2.2 (grown_trans h3.2 h4.2))), ?_⟩, ?_, fun p hp => ?_⟩
      · rw [run_callFunc_extern Try.func82 (by kernel_rfl) (by kernel_rfl) (by kernel_rfl) (e := Extern.ReflectliteSwapper.swap false) (by kernel_rfl)]
        rw [show (#[Value.int .i64 (i : Int), Value.int .i64 (j : Int)] ++ #[Value.slice (some ⟨gr, 0, none⟩) n c, typeHandle Try.prog 68]) = #[.int .i64 i, .int .i64 j, .slice (some ⟨gr, 0, none⟩) n c, typeHandle Try.prog 68] from rfl, hr]
        rfl
      · unfold Els; rw [rowE_len]; exact h4.1
      · simp
      · rw [World.cell?_setCell_other _ _ _ _ (fun e => hp (by rw [← e])), World.cell?_setCell_other _ _ _ _ (fun e => hp (by rw [← e])), World.cell?_setCell_other _ _ _ _ (fun e => hp (by rw [← e])), World.cell?_setCell_other _ _ _ _ (fun e => hp (by rw [← e]))]
  have hc := sorted_any 65 68 isE ieE isE_is isE_desc sElt_unpacked ieE_is ke hke (some ⟨gr, 0, none⟩) n c (by omega) s hs S (fun x => x.2) (plcd xs) w hR0 (fun i j hij _ => hij)
  refine hc.mono ?_
  rintro e w' ⟨rfl, f', hR', hs', ho'⟩
  refine ⟨rfl, rowE n f', ?_, hR'.2, hR'.1⟩
  rw [← hnl] at hs' ho' ⊢
  exact stably_of hs' ho'

theorem less2_any (W : World) {gr br o n c i j : Nat} {x y : Int} (h2 : W.cell? ⟨gr, 0, none⟩ = some (.slice (some ⟨br, o, none⟩) n c))
    (hi : i < n) (hj : j < n) (c1 : W.cell? ⟨br, o + i * 2, none⟩ = some (.int .i64 x)) (c2 : W.cell? ⟨br, o + j * 2, none⟩ = some (.int .i64 y)) :
    Calls Try.prog 58 #[.int .i64 i, .int .i64 j, .pointer (some ⟨gr, 0, none⟩)] W fun e w' => e = .returned (.bool (decide (x < y))) ∧ ∃ q, w' = W.drewN q := by
  go_enter Try.func58, Try.ntmps58
  go_wp2
  go_region
  go_wp2
  go_ret
  exact ⟨rfl, _, rfl⟩
end Go.Proofs.Ythecibabpcfoaaa
