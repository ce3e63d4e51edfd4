/- octet: numbers of a fixed size. -/
import Derived.Test.YtcmlnjohjjibnaaOctK
import Derived.Test.YtcmlnjohjjibnaaOctP
import Derived.Test.YtcmlnjohjjibnaaLawKit
import Derived.Deep.RegionWith
namespace Go.Proofs.Ytcmlnjohjjibnaa
open Go.RowKit
set_option maxRecDepth 100000
set_option maxHeartbeats 400000

theorem leB_len : ∀ k n, (leB k n).length = k
  | 0, _ => rfl
  | k + 1, n => by rw [leB, List.length_cons, leB_len]
theorem leB_get : ∀ k n i, i < k → (leB k n)[i]? = some (n / 256 ^ i % 256)
  | k + 1, n, 0, _ => by simp [leB]
  | k + 1, n, i + 1, h => by
    rw [leB, List.getElem?_cons_succ, leB_get k _ i (by omega), Nat.div_div_eq_div_mul, Nat.pow_succ, Nat.mul_comm]
theorem leB_byte : ∀ k n, ∀ x ∈ leB k n, x < 256
  | 0, _, x, h => by simp [leB] at h
  | k + 1, n, x, h => by
    rw [leB] at h
    rcases List.mem_cons.1 h with rfl | h
    · omega
    · exact leB_byte k _ x h
theorem leV_leB : ∀ k n, leV (leB k n) = n % 256 ^ k
  | 0, n => by simp [leB, leV]; omega
  | k + 1, n => by
    rw [leB, leV, leV_leB, show 256 ^ (k + 1) = 256 * 256 ^ k by rw [Nat.pow_succ, Nat.mul_comm], Nat.mod_mul]
theorem fill_get {L : List Nat} {m k : Nat} (hL : L.length = m) (hk : k < m) : (L.take k ++ List.replicate (m - k) 0)[k]? = some 0 := by
  rw [List.getElem?_append_right (by simp; omega), List.length_take, Nat.min_eq_left (by omega), Nat.sub_self, List.getElem?_replicate, if_pos (by omega)]
theorem fill_set {L : List Nat} {m k x : Nat} (hL : L.length = m) (hk : k < m) (hx : L[k]? = some x) : (L.take k ++ List.replicate (m - k) 0).set k x = L.take (k + 1) ++ List.replicate (m - (k + 1)) 0 := by
  rw [List.take_add_one, hx, show m - k = (m - (k + 1)) + 1 by omega, List.replicate_succ, List.set_append_right _ _ (by simp; omega)]
  simp [hL, Nat.min_eq_left (Nat.le_of_lt hk)]
theorem beV_rev (l : List Nat) : beV l.reverse = leV l := by
  induction l with
  | nil => rfl
  | cons x r ih => rw [List.reverse_cons, beV_snoc, ih, leV]; omega

theorem osmall_any (n : Nat) (size : Int) (w : World) (_ : n < 18446744073709551616) :
    Calls Try.prog 31 #[.int .u64 n, .int .i64 size] w fun e w' => ∃ g c, e = .returned (.slice (some ⟨g, 0, none⟩) (clampN size) c) ∧ Own w' w.heap.size 5 (.slice (some ⟨g, 0, none⟩) (clampN size) c) (cu8 (leB (clampN size) n)) ∧ Below w.heap.size w w' := by
  have hcl := clampN_le size
  have hcm := fun W => clamp_any size W
  generalize clampN size = m at *
  have HC := Lib.hid hcm; clear hcm
  go_enter Try.func31, Try.ntmps31
  go_wp2_with (first
    | (go_at_call 37; refine (HC.out _).mono ?_; rintro e w0 ⟨rfl, rfl⟩)
    | (at_make; refine wpl_make Try.underlying22 info_u8 rfl (by decide) (by omega) rfl rfl rfl rfl ?_; intro w1 ho1 hb1))
  go_loopw [12] (fun i wr => ∃ k : Nat, k ≤ m ∧ i = .int .i64 k ∧ Own wr w.heap.size 5 (.slice (some ⟨w.heap.size, 0, none⟩) m m) (cu8 ((leB m n).take k ++ List.replicate (m - k) 0)) ∧ Below w.heap.size w wr) (fun i _ => m - (intOf i).toNat)
  case atStart => exact ⟨0, Nat.zero_le _, rfl, by simpa [cu8] using ho1, hb1⟩
  case round =>
    obtain ⟨k, hk, rfl, ho, hb⟩ := hrel
    by_cases hlt : k < m
    · have hlen : (cu8 ((leB m n).take k ++ List.replicate (m - k) 0)).length = m := by simp [cu8, leB_len]; omega
      obtain ⟨g, c, hv, hg, _, _, hcell, hfro, hset⟩ := ho.at_ (by omega)
      injection hv with e1 e2 e3
      injection e1 with e1; injection e1 with e1; subst e1
      have hck := hcell k (by omega)
      rw [show (cu8 ((leB m n).take k ++ List.replicate (m - k) 0))[k]? = some (.int .u8 (0 : Nat)) by unfold cu8; rw [List.getElem?_map, fill_get (leB_len m n) hlt]; rfl] at hck
      have hs := hset k (.int .u8 ((n / 256 ^ k % 256 : Nat) : Int))
      have he : (cu8 ((leB m n).take k ++ List.replicate (m - k) 0)).set k (.int .u8 ((n / 256 ^ k % 256 : Nat) : Int)) = cu8 ((leB m n).take (k + 1) ++ List.replicate (m - (k + 1)) 0) := by
        unfold cu8; rw [← fill_set (leB_len m n) hlt (leB_get m n k hlt), List.map_set]
      rw [he] at hs
      have hval : (n : Int) / 2 ^ (8 * k) % 256 = ((n / 256 ^ k % 256 : Nat) : Int) := by
        rw [pow256]; simp
      have HV := Lib.hid hval; have HS := Lib.hid hs
      clear hcell hset hs he hval e2 e3 hlen
      go_wp2
      rw [HV.out]
      exact ⟨⟨k + 1, by omega, by simp, HS.out, hb.setCell (p := ⟨w.heap.size, k, none⟩) (Nat.le_refl _) _⟩, by simp [intOf]; omega⟩
    · have hkm : k = m := by omega
      subst hkm
      go_wp2
      go_ret
      rw [List.take_of_length_le (by rw [leB_len]; exact Nat.le_refl _), Nat.sub_self, List.replicate_zero, List.append_nil] at ho
      exact ⟨w.heap.size, k, rfl, ho, hb⟩

/-- How far a row is turned. -/
def turned (l : List Nat) (n i : Nat) (cur : List Nat) : Prop := cur.length = n ∧ ∀ t, t < n → cur[t]? = if t < i ∨ n - i ≤ t then l[n - 1 - t]? else l[t]?
theorem turned_start (l : List Nat) : turned l l.length 0 l := ⟨rfl, fun t ht => by rw [if_neg (by omega)]⟩
theorem turned_end {l cur : List Nat} {i : Nat} (h : turned l l.length i cur) (hi : l.length ≤ 2 * i + 1) : cur = l.reverse := by
  apply List.ext_getElem?
  intro t
  by_cases ht : t < l.length
  · rw [h.2 t ht, List.getElem?_reverse ht]
    split
    · rfl
    · congr 1; omega
  · rw [List.getElem?_eq_none (by rw [h.1]; omega), List.getElem?_eq_none (by simp; omega)]
theorem turned_step {l cur : List Nat} {i x y : Nat} (h : turned l l.length i cur) (hi : 2 * i + 1 < l.length) (hx : cur[i]? = some x) (hy : cur[l.length - 1 - i]? = some y) :
    turned l l.length (i + 1) ((cur.set i y).set (l.length - 1 - i) x) := by
  have hx' := h.2 i (by omega)
  have hy' := h.2 (l.length - 1 - i) (by omega)
  rw [if_neg (by omega), hx] at hx'
  rw [if_neg (by omega), hy] at hy'
  refine ⟨by simp [h.1], fun t ht => ?_⟩
  have hl := h.1
  rw [List.getElem?_set, List.getElem?_set]
  by_cases h1 : l.length - 1 - i = t
  · rw [if_pos h1, if_pos (by simp; omega), if_pos (by omega), hx']
    congr 1; omega
  · rw [if_neg h1]
    by_cases h2 : i = t
    · rw [if_pos h2, if_pos (by omega), if_pos (by omega), hy']
      congr 1; omega
    · rw [if_neg h2, h.2 t ht]
      by_cases h3 : t < i ∨ l.length - i ≤ t
      · rw [if_pos h3, if_pos (by omega)]
      · rw [if_neg h3, if_neg (by omega)]

theorem rev_any (v : Value) (l : List Nat) (base : Nat) (w : World) (ho : Own w base 5 v (cu8 l)) (hb : base ≤ w.heap.size) (hn : l.length ≤ 1099511627776) :
    Calls Try.prog 38 #[v] w fun e w' => e = .returned (.tuple #[]) ∧ Own w' base 5 v (cu8 l.reverse) ∧ Below base w w' := by
  obtain ⟨A, c, rfl, hlc, hcm⟩ := ho.form8
  go_enter Try.func38, Try.ntmps38
  go_wp2
  go_loopw [2, 3] (fun i j wr => ∃ (k : Nat) (cur : List Nat), k ≤ l.length ∧ i = .int .i64 k ∧ j = .int .i64 ((l.length : Int) - 1 - k) ∧ turned l l.length k cur ∧ Own wr base 5 (.slice A l.length c) (cu8 cur) ∧ Below base w wr) (fun i _ _ => l.length - (intOf i).toNat)
  case atStart => exact ⟨0, l, Nat.zero_le _, rfl, by simp, turned_start l, ho, Below.refl _ _⟩
  case round =>
    obtain ⟨k, cur, hk, rfl, rfl, ht, ho1, hb1⟩ := hrel
    by_cases hlt : 2 * k + 1 < l.length
    · have hcl := ht.1
      obtain ⟨x, hx⟩ : ∃ x, cur[k]? = some x := ⟨_, List.getElem?_eq_getElem (by omega)⟩
      obtain ⟨y, hy⟩ : ∃ y, cur[l.length - 1 - k]? = some y := ⟨_, List.getElem?_eq_getElem (by omega)⟩
      have hst := turned_step ht hlt hx hy
      obtain ⟨g, c', hv, hg, _, _, hcell, hfro, hset⟩ := ho1.at_ (by rw [cu8_len]; omega)
      injection hv with e1 e2 e3
      subst e1
      have hcx := hcell k (by rw [cu8_len]; omega)
      have hcy := hcell (l.length - 1 - k) (by rw [cu8_len]; omega)
      rw [show (cu8 cur)[k]? = some (.int .u8 (x : Nat)) by simp [cu8, hx]] at hcx
      rw [show (cu8 cur)[l.length - 1 - k]? = some (.int .u8 (y : Nat)) by simp [cu8, hy]] at hcy
      have hj : ((l.length : Int) - 1 - (k : Int)) = ((l.length - 1 - k : Nat) : Int) := by omega
      rw [hj]
      obtain ⟨q, hq⟩ : ∃ q, q = l.length - 1 - k := ⟨_, rfl⟩
      rw [← hq] at hcy hst hj ⊢
      have hqk : k < q := by omega
      have hql : q < l.length := by omega
      have HQ := Lib.hid hq; have HST := Lib.hid hst
      clear hcell hset e2 e3 hst hq hj hx hy hcl
      have hne : k ≠ q := by omega
      have hne' : q ≠ k := by omega
      go_wp2
      go_region
      go_wp2
      have h2 := (ho1.put k (.int .u8 (y : Nat))).put q (.int .u8 (x : Nat))
      rw [show ((cu8 cur).set k (.int .u8 (y : Nat))).set q (.int .u8 (x : Nat)) = cu8 ((cur.set k y).set q x) by simp [cu8, List.map_set]] at h2
      have hq := HQ.out
      exact ⟨⟨k + 1, _, by omega, by simp, by simp; omega, HST.out, h2, ((hb1.setCell (p := ⟨g, k, none⟩) hg _).setCell (p := ⟨g, q, none⟩) hg _).drew⟩, by simp [intOf]; omega⟩
    · have he := turned_end ht (by omega)
      have HE := Lib.hid he; clear he ht
      go_wp2
      go_end0
      exact ⟨rfl, by rw [← HE.out]; exact ho1, hb1⟩

theorem obig_any (n : Nat) (size : Int) (w : World) (hn : n < 18446744073709551616) :
    Calls Try.prog 30 #[.int .u64 n, .int .i64 size] w fun e w' => ∃ g c, e = .returned (.slice (some ⟨g, 0, none⟩) (clampN size) c) ∧ Own w' w.heap.size 5 (.slice (some ⟨g, 0, none⟩) (clampN size) c) (cu8 (leB (clampN size) n).reverse) ∧ Below w.heap.size w w' := by
  have hcl := clampN_le size
  have hll := leB_len (clampN size) n
  go_enter Try.func30, Try.ntmps30
  go_wp2_with (go_at_call 31; refine (osmall_any n size w hn).mono ?_; rintro e w1 ⟨g, c, rfl, ho1, hb1⟩; refine cut_here ?_)
  have HL := Lib.hid hll; clear hll
  unfold CutHere
  go_wp2_with (go_at_call 38; refine (rev_any _ _ w.heap.size w1 ho1 hb1.size (by rw [HL.out]; omega)).mono ?_; rintro e w2 ⟨rfl, ho2, hb2⟩)
  go_ret
  exact ⟨g, c, rfl, ho2, hb1.trans hb2⟩

end Go.Proofs.Ytcmlnjohjjibnaa
