/- prefix: the used symbols in their order. -/
import Derived.Test.YthecibabpcfoaaaSrtF
import Derived.Test.YthecibabpcfoaaaPfxF
namespace Go.Proofs.Ythecibabpcfoaaa
open Go.RowKit Go.Shelf
set_option maxRecDepth 100000
set_option maxHeartbeats 1600000

/-- Numbers as ints. -/
def ni (l : List Nat) : List Int := l.map fun (x : Nat) => (x : Int)
theorem ni_len (l : List Nat) : (ni l).length = l.length := by simp [ni]
theorem ni_at {l : List Nat} {i : Nat} (h : i < l.length) : (ni l)[i]'(by rw [ni_len]; exact h) = ((atN l i : Nat) : Int) := by
  simp [ni, atN, h]
theorem ni_app (a b : List Nat) : ni (a ++ b) = ni a ++ ni b := by simp [ni]
theorem ni_inj {a b : List Nat} (h : ni a = ni b) : a = b := by
  have := congrArg (List.map Int.toNat) h
  simpa [ni, List.map_map, Function.comp_def] using this
theorem ni_of {l : List Int} (h : ∀ x ∈ l, 0 ≤ x) : ∃ fs : List Nat, l = ni fs := by
  refine ⟨l.map Int.toNat, ?_⟩
  unfold ni
  rw [List.map_map]
  conv => lhs; rw [← List.map_id l]
  refine List.map_congr_left fun x hx => ?_
  have := h x hx
  simp; omega
/-- The used symbols by number, those of one number in their order. -/
def Ascd (fs ss : List Nat) : Prop := ss.Perm (usedN fs) ∧ ss.Pairwise (fun a b => atN fs a < atN fs b ∨ atN fs a = atN fs b ∧ a < b)
theorem Ascd.one {fs s1 s2 : List Nat} (h : Ascd fs s1) (k : Ascd fs s2) : s1 = s2 := coined_one h.1 k.1 h.2 k.2
theorem Ascd.order {ls : List Nat} {M : Nat} (h : ∀ x ∈ ls, x ≤ M) : Ascd ls (orderN ls M) := ⟨orderN_perm h, orderN_sorted ls M⟩
theorem Ascd.coined {fs ss : List Nat} (h : Ascd fs ss) : Coined fs ss := ⟨h.1, h.2.imp fun {a b} h => by omega⟩
theorem Ascd.is (fs : List Nat) : ∃ ss, Ascd fs ss := by
  have : ∃ M, ∀ x ∈ fs, x ≤ M := by
    induction fs with
    | nil => exact ⟨0, by simp⟩
    | cons a l ih => obtain ⟨M, h⟩ := ih; exact ⟨max a M, fun x hx => by
        rcases List.mem_cons.1 hx with rfl | hx
        · exact Nat.le_max_left _ _
        · exact Nat.le_trans (h x hx) (Nat.le_max_right _ _)⟩
  obtain ⟨M, h⟩ := this
  exact ⟨_, .order h⟩
/-- What the stable sort of the used symbols gives. -/
theorem ascd_of {fs : List Nat} {ys : List Int} (h : Stably (fun x => ((atN fs x.toNat : Nat) : Int)) (ni (usedN fs)) ys) : ∃ ss, ys = ni ss ∧ Ascd fs ss := by
  obtain ⟨zs, hp, ho, rfl⟩ := h
  have hmem : ∀ z ∈ zs, ∃ s, z.1 = ((s : Nat) : Int) ∧ (usedN fs)[z.2]? = some s := fun z hz => by
    have := hp.mem_iff.1 hz
    obtain ⟨x, i⟩ := z
    rw [List.mk_mem_zipIdx_iff_getElem?] at this
    simp only [ni, List.getElem?_map, Option.map_eq_some_iff] at this
    obtain ⟨s, hs, rfl⟩ := this
    exact ⟨s, rfl, hs⟩
  refine ⟨zs.map (fun z => z.1.toNat), ?_, ?_, ?_⟩
  · unfold ni
    rw [List.map_map]
    refine List.map_congr_left fun z hz => ?_
    obtain ⟨s, hs, _⟩ := hmem z hz
    simp [hs]
  · have e : usedN fs = (ni (usedN fs)).zipIdx.map (fun z => z.1.toNat) := by
      rw [show (fun z : Int × Nat => z.1.toNat) = Int.toNat ∘ Prod.fst from rfl, ← List.map_map, List.zipIdx_map_fst]
      unfold ni
      rw [List.map_map]
      conv => lhs; rw [← List.map_id (usedN fs)]
      exact List.map_congr_left fun x _ => (Int.toNat_natCast x).symm
    rw [e]
    exact hp.map _
  · rw [List.pairwise_map]
    refine ho.imp_of_mem fun {a b} ha hb hab => ?_
    obtain ⟨s, hs, hs'⟩ := hmem a ha
    obtain ⟨t, ht, ht'⟩ := hmem b hb
    have e1 : a.1.toNat = s := by rw [hs]; simp
    have e2 : b.1.toNat = t := by rw [ht]; simp
    show atN fs a.1.toNat < atN fs b.1.toNat ∨ atN fs a.1.toNat = atN fs b.1.toNat ∧ a.1.toNat < b.1.toNat
    have hab' : ((atN fs a.1.toNat : Nat) : Int) < ((atN fs b.1.toNat : Nat) : Int) ∨ ((atN fs a.1.toNat : Nat) : Int) = ((atN fs b.1.toNat : Nat) : Int) ∧ a.2 < b.2 := hab
    rw [e1, e2] at hab' ⊢
    clear hab
    rcases hab' with h | ⟨h1, h2⟩
    · exact .inl (by omega)
    · refine .inr ⟨by omega, ?_⟩
      have hsrt : (usedN fs).Pairwise (· < ·) := List.pairwise_lt_range.filter _
      obtain ⟨hla, rfl⟩ := List.getElem?_eq_some_iff.1 hs'
      obtain ⟨hlb, rfl⟩ := List.getElem?_eq_some_iff.1 ht'
      exact List.pairwise_iff_getElem.1 hsrt _ _ hla hlb h2

theorem less_any (W : World) {gl gu bl ol m cl br o n c i j a b : Nat} {x y : Int} (h1 : W.cell? ⟨gl, 0, none⟩ = some (.slice (some ⟨bl, ol, none⟩) m cl)) (h2 : W.cell? ⟨gu, 0, none⟩ = some (.slice (some ⟨br, o, none⟩) n c))
    (hi : i < n) (hj : j < n) (ha : a < m) (hb : b < m) (c1 : W.cell? ⟨br, o + i, none⟩ = some (.int .i64 (a : Nat))) (c2 : W.cell? ⟨br, o + j, none⟩ = some (.int .i64 (b : Nat))) (c3 : W.cell? ⟨bl, ol + a, none⟩ = some (.int .i64 x)) (c4 : W.cell? ⟨bl, ol + b, none⟩ = some (.int .i64 y)) :
    Calls Try.prog 54 #[.int .i64 i, .int .i64 j, .pointer (some ⟨gl, 0, none⟩), .pointer (some ⟨gu, 0, none⟩)] W fun e w' => e = .returned (.bool (decide (x < y))) ∧ ∃ q, w' = W.drewN q := by
  go_enter Try.func54, Try.ntmps54
  go_wp2
  go_region
  go_wp2
  go_ret
  exact ⟨rfl, _, rfl⟩
end Go.Proofs.Ythecibabpcfoaaa
