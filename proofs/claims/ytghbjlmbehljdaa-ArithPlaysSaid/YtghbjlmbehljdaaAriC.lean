/- arith: the odds. -/
import Derived.Test.YtghbjlmbehljdaaAriA
import Derived.Test.YtghbjlmbehljdaaAriU
import Derived.Laws.CopyOwn
namespace Go.Proofs.Ytghbjlmbehljdaa
open Go.RowKit
set_option maxRecDepth 100000
set_option maxHeartbeats 400000

theorem mmul_any (x y : Nat) (hx : x < 18446744073709551616) (hy : y < 18446744073709551616) (w : World) :
    Calls Try.prog 52 #[.int .u64 x, .int .u64 y] w fun e w' => e = .returned (.tuple #[.int .u64 ((x * y / 18446744073709551616 : Nat) : Int), .int .u64 ((x * y % 18446744073709551616 : Nat) : Int)]) ∧ w = w' := by
  have hM := mul64A_any x y hx hy
  generalize x * y / 18446744073709551616 = h at *
  generalize x * y % 18446744073709551616 = l at *
  have HM := Lib.hid hM; clear hM
  go_enter Try.func52, Try.ntmps52
  go_wp2_with (go_at_call 54; refine (HM.out _).mono ?_; rintro e w1 ⟨rfl, rfl⟩)
  go_ret2
  exact ⟨rfl, rfl⟩

theorem info_odd : (Try.prog.info? 3).map (fun i => (i.zero, i.size, i.bytes)) = some (some (.int .i64 0), 1, 8) := by kernel_rfl
theorem size_odd : (Try.prog.info? 3).map (·.size) = some 1 := by kernel_rfl
theorem cn_one (l : List Nat) : ∀ u ∈ cn l, u.oneCell' = true := by
  intro u hu; obtain ⟨_, _, rfl⟩ := List.mem_map.1 hu; rfl
/-- So many are laid, the others are 0. -/
def laid (m n : Nat) : List Value := cn (List.replicate m 2048 ++ List.replicate (n - m) 0)
theorem laid_len {m n : Nat} (h : m ≤ n) : (laid m n).length = n := by simp [laid, cn]; omega
theorem laid_splice {m n k : Nat} (h : m + k ≤ n) : splice (laid m n) m (cn (List.replicate k 2048)) = laid (m + k) n := by
  unfold splice laid cn
  simp only [List.map_append, List.map_replicate, List.length_replicate, List.take_append, List.drop_append, List.take_replicate, List.drop_replicate]
  rw [show min m m = m by omega, show m - m = 0 by omega, show min 0 (n - m) = 0 by omega, show m - (m + k) = 0 by omega, show m + k - m = k by omega, show n - m - k = n - (m + k) by omega]
  simp only [List.replicate_zero, List.append_nil, List.nil_append]
  rw [← List.append_assoc, List.replicate_append_replicate]
theorem laid_at {m n j : Nat} (h : j < m) : (laid m n)[j]? = some (.int .i64 2048) := by
  unfold laid cn
  rw [List.getElem?_map, List.getElem?_append_left (by simpa using h), List.getElem?_replicate, if_pos h]
  rfl
theorem rep_at {k j : Nat} {v : Value} (h : (cn (List.replicate k 2048))[j]? = some v) : j < k ∧ v = .int .i64 2048 := by
  unfold cn at h
  rw [List.getElem?_map, List.getElem?_replicate] at h
  by_cases hj : j < k
  · rw [if_pos hj] at h; injection h with h; exact ⟨hj, h.symm⟩
  · rw [if_neg hj] at h; simp at h

theorem heap_full {w : World} {base g n : Nat} {e : TypeId} {xs : List Value} (h : Own w base e (.slice (some ⟨g, 0, none⟩) n n) xs) : w.heap[g]? = some (.cells xs.toArray e (0, 0)) := by
  rcases h.2 with ⟨h0, _⟩ | ⟨g', cap, cur, hv, _, hg, _, _, hs, ht⟩
  · simp at h0
  · injection hv with e1 e2 e3
    injection e1 with e1; injection e1 with e1
    subst e1; subst e3
    rw [← e2, Nat.mul_one, List.take_of_length_le (by simp; omega)] at ht
    rw [hg, ← ht]
theorem full_heap {w : World} {base g n : Nat} {e : TypeId} {xs : List Value} (h : w.heap[g]? = some (.cells xs.toArray e (0, 0))) (hb : base ≤ g) (hn : xs.length = n) (hm : n ≤ maxLen) : Own w base e (.slice (some ⟨g, 0, none⟩) n n) xs := by
  subst hn
  exact ⟨by simp, .inr ⟨g, xs.length, xs.toArray, rfl, hb, h, Nat.le_refl _, hm, by simp, by simp⟩⟩

theorem rep_any {w : World} {v : Value} (n : Nat) (hS : Sli w w.heap.size v (cn [2048])) (h1 : 1 ≤ n) (hn : n ≤ 1048576) :
    Calls Try.prog 49 #[v, .int .i64 n] w fun e w' => ∃ v', e = .returned v' ∧ Own w' w.heap.size 3 v' (cn (List.replicate n 2048)) ∧ Below w.heap.size w w' := by
  obtain ⟨A, c, rfl, hh, _, _, _⟩ := hS
  have hM := mmul_any 1 n (by omega) (by omega)
  rw [show 1 * n / 18446744073709551616 = 0 by omega, show 1 * n % 18446744073709551616 = n by omega] at hM
  have HM := Lib.hid hM; clear hM
  have HH := Lib.hid hh; clear hh
  obtain ⟨b, o, u, rfl, hb, hcell, hu⟩ := HH.out.get (j := 0) (by simp [cn])
  have hu : u = .int .i64 2048 := by simpa [cn] using hu.symm
  subst hu
  rw [show (cn [2048]).length = 1 from rfl] at *
  have HB := Lib.hid hb
  have HC := Lib.hid hcell
  clear hcell HH hb
  go_enter Try.func49, Try.ntmps49
  go_upto_region 6 with (go_at_call 52; refine (HM.out _).mono ?_; rintro e w1 ⟨rfl, rfl⟩)
  obtain ⟨S0, hS0⟩ : ∃ S0, w.heap.size = S0 := ⟨_, rfl⟩
  have HS0 := Lib.hid hS0
  have HB' : Hid (b < S0) := Lib.hid (hS0 ▸ HB.out)
  clear hS0
  go_wp2_with (at_make; refine wpl_make (n := n) Try.underlying60 info_odd rfl (by decide) (by omega) rfl rfl rfl rfl ?_; intro w1 ho1 hb1; rw [HS0.out] at ho1 hb1; have HG1 := Lib.hid (heap_full ho1); rw [HS0.out]; refine cut_here ?_)
  unfold CutHere
  have hL1 := laid_len (m := 0) (n := n) (Nat.zero_le _)
  have HL1 := Lib.hid hL1
  have HGL : Hid (w1.heap[S0]? = some (.cells (laid 0 n).toArray 3 (0, 0))) := Lib.hid (by rw [HG1.out, laid, List.replicate_zero, List.nil_append, Nat.sub_zero, cn, List.map_replicate]; rfl)
  clear hL1 HG1 ho1
  have hx1 : ∀ (j : Nat) (x : Value), (cn [2048])[j]? = some x → w1.cell? ((⟨b, o, none⟩ : Addr).add j) = some x := fun j x hj => by
    obtain ⟨hj0, rfl⟩ := rep_at (k := 1) (by simpa using hj)
    obtain rfl : j = 0 := by omega
    exact (hb1.cell (p := ⟨b, o + 0, none⟩) HB'.out).trans HC.out
  have HX1 := Lib.hid hx1
  have hx2 : 0 + (cn [2048]).length ≤ (laid 0 n).length := by rw [HL1.out]; simp [cn]; omega
  have hx3 : (cn [2048]).length = Nat.min 1 n := by show 1 = _; exact (Nat.min_eq_left h1).symm
  have HX2 := Lib.hid hx2; have HX3 := Lib.hid hx3
  clear hx1 hx2 hx3
  go_wp2_with (refine wpList_copy_splice rfl (.tmp 31) (.tmp 32) 60 60 rfl 3 Try.underlying60 size_odd _ _ _ _ _ _ rfl rfl S0 0 (laid 0 n) 3 HGL.out (cn [2048]) HX3.out (fun _ => ⟨rfl, _, rfl, HX1.out⟩) HX2.out (cn_one _) S0 w hb1 (Nat.le_refl _) ?_; intro w2 HG2 hb2)
  rw [show splice (laid 0 n) 0 (cn [2048]) = laid 1 n from laid_splice (m := 0) (k := 1) (by omega)] at HG2
  go_loopw [8] (fun nn wr => ∃ m : Nat, nn = .int .i64 m ∧ 1 ≤ m ∧ m ≤ n ∧ Hid (wr.heap[S0]? = some (.cells (laid m n).toArray 3 (0, 0))) ∧ Below S0 w wr) (fun nn _ => n - (intOf nn).toNat)
  case atStart => exact ⟨1, by rw [cn_len]; rfl, Nat.le_refl _, h1, HG2, hb2⟩
  case round =>
    obtain ⟨m, rfl, hm1, hmn, HG, hb⟩ := hrel
    by_cases hme : m = n
    · subst hme
      go_wp2
      go_ret
      exact ⟨_, rfl, full_heap (by have := HG.out; rwa [laid, Nat.sub_self, List.replicate_zero, List.append_nil] at this) (by rw [HS0.out]; exact Nat.le_refl _) (by simp [cn]) (by simp [maxLen]; omega), by rw [HS0.out]; exact hb⟩
    · obtain ⟨k, hk⟩ : ∃ k, min m (n - m) = k := ⟨_, rfl⟩
      have hk1 : 1 ≤ k := by omega
      have hk2 : m + k ≤ n := by omega
      have HXK : Hid (∀ (j : Nat) (x : Value), (cn (List.replicate k 2048))[j]? = some x → wr.drew.cell? ((⟨S0, 0, none⟩ : Addr).add j) = some x) := Lib.hid fun j x hj => by
        obtain ⟨hj0, rfl⟩ := rep_at hj
        rw [Addr.add_lit]
        show wr.cell? ⟨S0, 0 + j, none⟩ = _
        rw [cell_of_row wr S0 _ _ _ _ HG.out, List.getElem?_toArray, Nat.zero_add]
        exact laid_at (by omega)
      have HXN : Hid ((cn (List.replicate k 2048)).length = Nat.min m (n - m)) := Lib.hid (by rw [cn_len, List.length_replicate]; exact hk.symm)
      have HXF : Hid (m + (cn (List.replicate k 2048)).length ≤ (laid m n).length) := Lib.hid (by rw [laid_len hmn, cn_len, List.length_replicate]; exact hk2)
      have HGD : Hid (wr.drew.heap[S0]? = some (.cells (laid m n).toArray 3 (0, 0))) := Lib.hid HG.out
      have HBD : Hid (Below S0 w wr.drew) := Lib.hid hb.drew
      have HK2 := Lib.hid hk2
      have HL : Hid ((cn (List.replicate k 2048)).length = k) := Lib.hid (by rw [cn_len, List.length_replicate])
      clear hk HGL hb1 hb2 HG2 HC HG hb HX1 HX2 HX3 HL1
      have q1 : ((m : Nat) : Int) < (n : Nat) := by omega
      have hne : ¬ n = m := fun h => hme h.symm
      go_wp2
      go_region_law (refine step_copy_splice rfl (.tmp 41) (.tmp 44) 60 60 rfl 3 Try.underlying60 size_odd (some ⟨S0, m, none⟩) (some ⟨S0, 0, none⟩) (n - m) (n - m) m n (by simp [Act.eval, Act.put, hne]) (by simp [Act.eval, Act.put]) S0 m (laid m n) 3 HGD.out (cn (List.replicate k 2048)) HXN.out (fun _ => ⟨rfl, _, rfl, HXK.out⟩) HXF.out (cn_one _) S0 w HBD.out (Nat.le_refl _) ?_; intro w3 HG3 hb3)
      all_goals
        rw [laid_splice HK2.out] at HG3
        rw [HL.out]
        have hk2 := HK2.out
        go_wp2
        have hwr : IntKind.i64.wrap ((m : Int) + (k : Int)) = ((m + k : Nat) : Int) := by rw [IntKind.wrap_i64]; omega
        rw [hwr]
        go_roundw
        case measure =>
          change n - ((m + k : Nat) : Int).toNat < n - ((m : Nat) : Int).toNat
          omega
        case rel => exact ⟨_, _, _, _, _, _, _, _, _, _, _, _, _, _, ⟨m + k, rfl, by omega, by omega, HG3, hb3⟩, rfl⟩
end Go.Proofs.Ytghbjlmbehljdaa
