/- lift: modes, plain; two rows made. -/
import Derived.Test.YtggddckckfilgaaLifU
import Derived.Test.YtggddckckfilgaaLifO
import Derived.Deep.OwnRows
namespace Go.Proofs.Ytggddckckfilgaa
open Go.RowKit
set_option maxRecDepth 100000
set_option maxHeartbeats 8000000

theorem stepR_eq {s : Int} {rs r : List (List Int)} {x : Li} (h : stepR s rs x = some r) : r = rs.set x.to.toNat (addL s x.gn (rs.getD x.to.toNat []) (rs.getD x.fr.toNat [])) := by
  unfold stepR at h
  split at h
  next => injection h with h; exact h.symm
  next => simp at h
/-- The three modes on two rows of small samples. -/
theorem modes_plain {c0 c1 : List Int} {n : Nat} (h0 : c0.length = n) (h1 : c1.length = n) (hn : n ≤ 4096) (b0 : ∀ x ∈ c0, i16I x) (b1 : ∀ x ∈ c1, i16I x) :
    RowsOk [c0, c1] n ∧ doLi [c0, c1] (namedLi 1) = ([c0, addL 1 (-256) c1 c0], 0) ∧ doLi [c0, c1] (namedLi 2) = ([addL 1 (-256) c0 c1, c1], 0) ∧
    doLi [c0, c1] (namedLi 3) = ([addL 1 (-256) c0 c1, addL 1 128 c1 (addL 1 (-256) c0 c1)], 0) := by
  have hbd : bdR 32768 [c0, c1] := by
    intro r hr x hx
    simp only [List.mem_cons, List.not_mem_nil, or_false] at hr
    rcases hr with rfl | rfl
    · have := b0 x hx; unfold i16I at this; omega
    · have := b1 x hx; unfold i16I at this; omega
  have hok : RowsOk [c0, c1] n := rowsOk_new ⟨by simp, by simp⟩ hn
    (fun r hr => by
      simp only [List.mem_cons, List.not_mem_nil, or_false] at hr
      rcases hr with rfl | rfl
      · exact h0
      · exact h1)
    (fun r hr => List.all_eq_true.2 fun x hx => wideB_iff.2 (by have := hbd r hr x hx; omega))
  have hrun := fun (m : Int) (hm : (namedLi m).length ≤ 2) => run_bd (namedLi m) 32768 [c0, c1] (by
    have h3 : (2 : Nat) ^ (namedLi m).length ≤ 2 ^ 2 := Nat.pow_le_pow_right (by omega) hm
    have e : (2 : Int) ^ (namedLi m).length = ((2 ^ (namedLi m).length : Nat) : Int) := by norm_cast
    rw [e]; omega) (by omega) hbd (namedLi_gain m)
  refine ⟨hok, ?_, ?_, ?_⟩
  · obtain ⟨r, hr⟩ := hrun 1 (by decide)
    have he : r = [c0, addL 1 (-256) c1 c0] := by
      have := stepR_eq ((runR_one 1 ⟨0, 1, -256⟩ [c0, c1]).symm.trans hr)
      rw [this]; rfl
    rw [he] at hr
    exact opR_some (of_rowsOk hok) (namedLi_may 1) hr
  · obtain ⟨r, hr⟩ := hrun 2 (by decide)
    have he : r = [addL 1 (-256) c0 c1, c1] := by
      have := stepR_eq ((runR_one 1 ⟨1, 0, -256⟩ [c0, c1]).symm.trans hr)
      rw [this]; rfl
    rw [he] at hr
    exact opR_some (of_rowsOk hok) (namedLi_may 2) hr
  · obtain ⟨r, hr⟩ := hrun 3 (by decide)
    have he : r = [addL 1 (-256) c0 c1, addL 1 128 c1 (addL 1 (-256) c0 c1)] := by
      have h2 : (stepR 1 [c0, c1] ⟨1, 0, -256⟩).bind (runR 1 [⟨0, 1, 128⟩]) = some r := hr
      cases hs : stepR 1 [c0, c1] ⟨1, 0, -256⟩ with
      | none => rw [hs] at h2; simp at h2
      | some q =>
        rw [hs] at h2
        have hq := stepR_eq hs
        have h3 := stepR_eq ((runR_one 1 ⟨0, 1, 128⟩ q).symm.trans h2)
        rw [h3, hq]; rfl
    rw [he] at hr
    exact opR_some (of_rowsOk hok) (namedLi_may 3) hr
theorem addI_diff (a b : Int) : addI 1 (-256) b a = b - a := by unfold addI; omega
theorem addI_mid (a b : Int) : addI 1 128 b (a - b) = (a + b) / 2 := by unfold addI; omega
end Go.Proofs.Ytggddckckfilgaa
