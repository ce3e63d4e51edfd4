/- arith: plain: a decoder of bytes that lack their last ones. -/
import Derived.Test.YtghbjlmbehljdaaAriN
namespace Go.Proofs.Ytghbjlmbehljdaa

theorem dec_cut (d : De) (bd j : Nat) (he : d.er = 0) (hne : (dec d bd).1.er = 0) :
    ((dec d bd).1.rest = d.rest ∧ dec ⟨d.rest.take j, d.v, d.w, d.od, d.er⟩ bd = (⟨d.rest.take j, (dec d bd).1.v, (dec d bd).1.w, (dec d bd).1.od, (dec d bd).1.er⟩, (dec d bd).2)) ∨
    (∃ x, d.rest = x :: (dec d bd).1.rest ∧ (j = 0 → dec ⟨d.rest.take j, d.v, d.w, d.od, d.er⟩ bd = (⟨d.rest.take j, d.v, d.w, d.od, 3⟩, 0)) ∧
      (0 < j → dec ⟨d.rest.take j, d.v, d.w, d.od, d.er⟩ bd = (⟨(dec d bd).1.rest.take (j - 1), (dec d bd).1.v, (dec d bd).1.w, (dec d bd).1.od, (dec d bd).1.er⟩, (dec d bd).2))) := by
  obtain ⟨rest, v, w, od, er⟩ := d
  simp only at he
  subst he
  by_cases hs : (if v < bd then bd else w - bd) < 16777216
  · cases rest with
    | nil => unfold dec at hne; simp only [hs, if_true] at hne; simp at hne
    | cons x r =>
      right
      refine ⟨x, ?_, fun hj => ?_, fun hj => ?_⟩
      · unfold dec; simp only [hs, if_true]
      · subst hj; unfold dec; simp only [hs, if_true, List.take_zero]
      · obtain ⟨j', rfl⟩ : ∃ j', j = j' + 1 := ⟨j - 1, by omega⟩
        unfold dec; simp only [hs, if_true, List.take_succ_cons, Nat.add_sub_cancel]
  · left
    unfold dec
    simp only [hs, if_false]
    exact ⟨trivial, trivial⟩
/-- The decoder of the first m bytes. -/
def SyT (f s : Co) (m : Nat) : De := ⟨(Sy f s).rest.take (m - s.k), (Sy f s).v, (Sy f s).w, (Sy f s).od, 0⟩
theorem SyT.ok {f s : Co} {n m : Nat} (h : DOk (Sy f s) n) : DOk (SyT f s m) n := ⟨h.len, h.odd, h.wlo, h.whi, h.vw, fun x hx => h.byte x (List.mem_of_mem_take hx)⟩
theorem syT_get {f s : Co} {n c b m : Nat} (h : Ok s n) (hc : c < n) (hb : b ≤ 1) (hi : In f (step s (some c, b))) (hm : s.k ≤ m) :
    (dget (SyT f s m) c).1.er = 3 ∨ ((dget (SyT f s m) c).1 = SyT f (step s (some c, b)) m ∧ (step s (some c, b)).k ≤ m) := by
  have hg : good n (some c, b) := ⟨hb, fun c' e => by injection e with e; omega⟩
  have hd := In.dec h (x := (some c, b)) hg hi
  obtain ⟨q, hq, _⟩ := hi
  have hk : f.k = (step s (some c, b)).k + q := hq
  obtain ⟨_, q2, _, hq3, _, _⟩ := step_in h hg
  have hbd : boundOf (SyT f s m).w (SyT f s m).od (some c) = boundOf s.w s.od (some c) := rfl
  have hcut := dec_cut (Sy f s) (boundOf s.w s.od (some c)) (m - s.k) rfl (by rw [hd])
  rw [hd] at hcut
  simp only at hcut
  have hh : hasB (SyT f s m).od.length (c : Int) = true := has_iff.2 ⟨by omega, by show (c : Int) < (s.od.length : Nat); rw [h.len]; omega⟩
  have hun : dget (SyT f s m) c = if (dec (SyT f s m) (boundOf s.w s.od (some c))).1.er ≠ 0 then ((dec (SyT f s m) (boundOf s.w s.od (some c))).1, 0)
      else (withO (dec (SyT f s m) (boundOf s.w s.od (some c))).1 (learnt s.od c (dec (SyT f s m) (boundOf s.w s.od (some c))).2), (dec (SyT f s m) (boundOf s.w s.od (some c))).2) := by
    unfold dget
    rw [if_neg (by simp [SyT]), if_neg (by rw [hh]; simp), Int.toNat_natCast]
    rfl
  rw [hun]
  have hl1 : (Sy f s).rest.length = f.k - s.k := by show ((digs f.k f.lo).drop s.k).length = _; rw [List.length_drop, digs_len]
  have hl2 : (Sy f (step s (some c, b))).rest.length = f.k - (step s (some c, b)).k := by show ((digs f.k f.lo).drop _).length = _; rw [List.length_drop, digs_len]
  rcases hcut with ⟨e1, e2⟩ | ⟨x, e1, e2, e3⟩
  · have hkk : (step s (some c, b)).k = s.k := by rw [e1] at hl2; omega
    rw [show dec (SyT f s m) (boundOf s.w s.od (some c)) = _ from e2]
    right
    rw [if_neg (by simp)]
    refine ⟨?_, by omega⟩
    unfold SyT
    rw [hkk, e1]
    rfl
  · have hkk : (step s (some c, b)).k = s.k + 1 := by rw [e1, List.length_cons, hl2] at hl1; omega
    by_cases hj : m - s.k = 0
    · left
      rw [show dec (SyT f s m) (boundOf s.w s.od (some c)) = _ from e2 hj]
      rw [if_pos (by simp)]
    · right
      rw [show dec (SyT f s m) (boundOf s.w s.od (some c)) = _ from e3 (by omega)]
      rw [if_neg (by simp)]
      refine ⟨?_, by omega⟩
      unfold SyT
      rw [hkk, show m - (s.k + 1) = m - s.k - 1 by omega]
      rfl
end Go.Proofs.Ytghbjlmbehljdaa
