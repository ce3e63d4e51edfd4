/- package sort: SliceStable of a row of ints of one's own. -/
import Derived.Test.YthecibabpcfoaaaSrtE
import Derived.Laws.OwnMore
namespace Go.Proofs.Ythecibabpcfoaaa
open Go.RowKit Go.Shelf Go.Lib
set_option maxRecDepth 100000
set_option maxHeartbeats 4000000

/-- The row of a sort's state. -/
def rowI (n : Nat) (f : Nat → Int × Nat) : List Int := (List.range n).map fun k => (f k).1
theorem rowI_len (n : Nat) (f : Nat → Int × Nat) : (rowI n f).length = n := by simp [rowI]
theorem rowI_at {n : Nat} {f : Nat → Int × Nat} {i : Nat} (h : i < n) : (rowI n f)[i]? = some (f i).1 := by simp [rowI, h]
theorem rowI_xch {n : Nat} {f : Nat → Int × Nat} {i j : Nat} (hi : i < n) (hj : j < n) (hij : i ≠ j) : ((ci (rowI n f)).set i (.int .i64 (f j).1)).set j (.int .i64 (f i).1) = ci (rowI n (xch f i j)) := by
  rw [ci_set, ci_set]
  congr 1
  apply List.ext_getElem
  · simp [rowI]
  · intro k h1 h2
    simp [rowI] at h1 h2
    rw [List.getElem_set, List.getElem_set]
    simp only [rowI, List.getElem_map, List.getElem_range, xch]
    (repeat' split) <;> first | rfl | (exfalso; omega) | (subst_vars; rfl) | skip
theorem rowI_plcd (xs : List Int) : rowI xs.length (plcd xs) = xs := by
  apply List.ext_getElem
  · simp [rowI]
  · intro k h1 h2
    simp [rowI, plcd, h2]

noncomputable def ieI : TypeInfo := (Try.prog.info? 3).getD default
noncomputable def isI : TypeInfo := (Try.prog.info? 22).getD default
theorem ieI_is : Try.prog.info? 3 = some ieI := by kernel_rfl
theorem isI_is : Try.prog.info? 22 = some isI := by kernel_rfl
theorem isI_desc : isI.desc = .slice 3 := by kernel_rfl
theorem sInt_unpacked : Try.prog.packed 22 = false := by kernel_rfl
theorem int_info : Try.prog.info? 3 = some ieI ∧ ieI.size = 1 ∧ ieI.hasPointers = false ∧ ieI.bytes = 8 := ⟨ieI_is, by kernel_rfl, by kernel_rfl, by kernel_rfl⟩
theorem int_kind : ∀ w, (Extern.Rtype.kind 3).run Try.prog w = .ok 2 w := by
  intro w
  have hd : ieI.desc = .int .i64 := by kernel_rfl
  have hs : ieI.str = "int" := by kernel_rfl
  simp [Extern.Rtype.kind, Extern.Rtype.under, rl_info 3 ieI ieI_is, hd, hs, Result.andThen]
theorem int_swapK (n : Nat) : swapperK n ieI 2 = if n = 0 then 1 else if n = 1 then 2 else 5 := by
  unfold swapperK
  rw [int_info.2.2.1, int_info.2.2.2]
  by_cases h0 : n = 0
  · subst h0; simp
  · by_cases h1 : n = 1
    · subst h1; simp
    · simp [h0, h1]
theorem int_lit (n : Nat) : ∃ s, Try.prog.funcs.findIdx? (·.name == "internal/reflectlite" ++ ".Swapper$" ++ toString (swapperK n ieI 2)) = some s ∧ (2 ≤ n → s = 78) := by
  rw [int_swapK]
  by_cases h0 : n = 0
  · rw [if_pos h0]; exact ⟨74, by kernel_rfl, fun h => by omega⟩
  · rw [if_neg h0]
    by_cases h1 : n = 1
    · rw [if_pos h1]; exact ⟨75, by kernel_rfl, fun h => by omega⟩
    · rw [if_neg h1]; exact ⟨78, by kernel_rfl, fun _ => rfl⟩
theorem int_sbound {n : Nat} (h : 2 ≤ n) (p : Option Addr) (c : Nat) : sbound 3 ieI 2 p n c = #[.slice p n c, typeHandle Try.prog 3] := by
  unfold sbound
  have e : swapperK n ieI 2 = 5 := by rw [int_swapK, if_neg (show ¬ n = 0 by omega), if_neg (show ¬ n = 1 by omega)]
  rw [e, if_neg (by omega)]

/-- A row of ints of one's own: what sorting makes of it. -/
def Rint (w : World) (base : Nat) (v : Value) (n : Nat) (P : Int → Prop) (f : Nat → Int × Nat) (W : World) : Prop := w.grownBy W v.ownBlock ∧ Own W base 3 v (ci (rowI n f)) ∧ ∀ k, k < n → P (f k).1
theorem sort_ints {w : World} {base : Nat} {v : Value} {xs : List Int} (hO : Own w base 3 v (ci xs)) (hpos : 0 < w.heap.size) (hn : xs.length < 2305843009213693952) (key : Int → Int) (P : Int → Prop) (hP : ∀ x ∈ xs, P x) (g : Nat) (lb : Array Value)
    (eg : ∀ args w, (callFunc g args).run Try.prog w = .ok (.enter g args) w)
    (hless : ∀ W (ys : List Int), w.grownBy W v.ownBlock → Own W base 3 v (ci ys) → ys.length = xs.length → (∀ y ∈ ys, P y) → ∀ (i j : Nat) (x y : Int), ys[i]? = some x → ys[j]? = some y →
      Calls Try.prog g (#[.int .i64 i, .int .i64 j] ++ lb) W fun e w' => e = .returned (.bool (decide (key x < key y))) ∧ ∃ q, w' = W.drewN q) :
    Calls Try.prog 53 #[.iface 22 v, .func (.func g) #[] lb] w fun e w' => e = .returned (.tuple #[]) ∧ ∃ ys, Stably key xs ys ∧ Own w' base 3 v (ci ys) ∧ w.grownBy w' v.ownBlock := by
  obtain ⟨A, c, rfl, hlc, hcm⟩ := hO.formI
  obtain ⟨n, hnl⟩ : ∃ n, xs.length = n := ⟨_, rfl⟩
  obtain ⟨s, hs, hs2⟩ := int_lit n
  have hR0 : Rint w base (.slice A n c) n P (plcd xs) w := by
    refine ⟨⟨rfl, rfl, rfl, Nat.le_refl _, fun _ _ _ => rfl⟩, ?_, fun k hk => ?_⟩
    · rw [← hnl, rowI_plcd]; exact hO
    · have : k < xs.length := by omega
      simp only [plcd]
      rw [List.getD_eq_getElem?_getD, List.getElem?_eq_getElem this]
      exact hP _ (List.getElem_mem this)
  rw [hnl] at hless hO hn ⊢
  have hblk : ∃ blk, blk < w.heap.size ∧ (∀ b o, A = some ⟨b, o, none⟩ → blk = b) := by
    rcases A with _ | ⟨b, o, t⟩
    · exact ⟨0, hpos, by simp⟩
    · rcases hO.2 with ⟨h', _⟩ | ⟨g', cap', cur, h', _, hg, _⟩
      · simp at h'
      · simp only [Value.slice.injEq, Option.some.injEq, Addr.mk.injEq] at h'
        refine ⟨g', (Array.getElem?_eq_some_iff.1 hg).1, fun b' o' e => ?_⟩
        simp only [Option.some.injEq, Addr.mk.injEq] at e
        rw [← e.1, h'.1.1]
  obtain ⟨blk, hb1, hb2⟩ := hblk
  have S : Sorter (fun x : Int × Nat => key x.1) n blk g s lb (sbound 3 ieI 2 A n c) (Rint w base (.slice A n c) n P) := by
    refine ⟨fun f W h => Nat.lt_of_lt_of_le hb1 h.1.size, fun f W q h => ⟨grown_drewN h.1 q, h.2.1.drewN q, h.2.2⟩, fun f W o h => ⟨grown_trans h.1 (grown_of_below ((Below.refl _ _).alloc (Nat.le_refl _) o) _), h.2.1.alloc o, h.2.2⟩, fun f W i j h hi hj => ?_, fun f W i j h hi hj hij => ?_, eg⟩
    · exact hless W (rowI n f) h.1 h.2.1 (rowI_len n f) (fun y hy => by
        obtain ⟨k, hk, rfl⟩ := List.mem_map.1 hy
        exact h.2.2 k (List.mem_range.1 hk)) i j _ _ (rowI_at hi) (rowI_at hj)
    · have hs5 := hs2 (by omega)
      subst hs5
      rw [int_sbound (by omega)]
      have hW := h.2.1
      obtain ⟨g0, rfl⟩ : ∃ g0, A = some ⟨g0, 0, none⟩ := by
        rcases hW.2 with ⟨h', h0⟩ | ⟨g', cap', cur, h', _, hg, _⟩
        · exfalso; rw [ci_len, rowI_len] at h0; omega
        · simp only [Value.slice.injEq] at h'; exact ⟨g', h'.1⟩
      have hbg := hb2 g0 0 rfl
      subst hbg
      have hl : (ci (rowI n f)).length = n := by rw [ci_len, rowI_len]
      unfold Own at hW
      rw [hl] at hW
      have cx := hW.cellAt i (by omega)
      have cy := hW.cellAt j (by omega)
      unfold ci at cx cy
      rw [List.getElem?_map, rowI_at hi] at cx
      rw [List.getElem?_map, rowI_at hj] at cy
      have hr := run_swap_one (P := Try.prog) true 3 ieI ieI_is int_info.2.1 Try.isAgg3 blk 0 n c i j hi hj (.int .i64 (f i).1) (.int .i64 (f j).1) rfl rfl W (by rw [Nat.zero_add]; exact cx) (by rw [Nat.zero_add]; exact cy) (by rw [Nat.zero_add]; exact hW.frozenAt i) (by rw [Nat.zero_add]; exact hW.frozenAt j)
      rw [Nat.zero_add, Nat.zero_add] at hr
      have h1 := hW.stored i (.int .i64 (f j).1)
      have h2 := h1.1.stored j (.int .i64 (f i).1)
      rw [rowI_xch hi hj hij] at h2
      refine ⟨_, ?_, ⟨grown_trans h.1 (grown_trans h1.2 h2.2), ?_, fun k hk => ?_⟩, ?_, fun p hp => ?_⟩
      · rw [run_callFunc_extern Try.func78 (by kernel_rfl) (by kernel_rfl) (by kernel_rfl) (e := Extern.ReflectliteSwapper.swap true) (by kernel_rfl)]
        rw [show (#[Value.int .i64 (i : Int), Value.int .i64 (j : Int)] ++ #[Value.slice (some ⟨blk, 0, none⟩) n c, typeHandle Try.prog 3]) = #[.int .i64 i, .int .i64 j, .slice (some ⟨blk, 0, none⟩) n c, typeHandle Try.prog 3] from rfl, hr]
        rfl
      · unfold Own; rw [ci_len, rowI_len]; exact h2.1
      · simp only [xch]
        (repeat' split) <;> first | exact h.2.2 j hj | exact h.2.2 i hi | exact h.2.2 k hk
      · simp
      · rw [World.cell?_setCell_other _ _ _ _ (fun e => hp (by rw [← e])), World.cell?_setCell_other _ _ _ _ (fun e => hp (by rw [← e]))]
  have hc := sorted_any 22 3 isI ieI isI_is isI_desc sInt_unpacked ieI_is 2 int_kind A n c hn s hs S (fun x => x.2) (plcd xs) w hR0 (fun i j hij _ => hij)
  refine hc.mono ?_
  rintro e w' ⟨rfl, f', hR', hs', ho'⟩
  refine ⟨rfl, rowI n f', ?_, hR'.2.1, hR'.1⟩
  rw [← hnl] at hs' ho' ⊢
  exact stably_of hs' ho'
end Go.Proofs.Ythecibabpcfoaaa
