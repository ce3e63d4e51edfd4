/- arith: the odds, on. -/
import Derived.Test.YtghbjlmbehljdaaAriC
import Derived.Test.YtghbjlmbehljdaaLawKit
import Derived.Test.YtghbjlmbehljdaaAriN
namespace Go.Proofs.Ytghbjlmbehljdaa
open Go.RowKit
set_option maxRecDepth 100000
set_option maxHeartbeats 400000

theorem newod_any (n : Nat) (w : World) (h1 : 1 ≤ n) (hn : n ≤ 1048576) :
    Calls Try.prog 33 #[.int .i64 n] w fun e w' => ∃ v', e = .returned v' ∧ Own w' w.heap.size 3 v' (cn (List.replicate n 2048)) ∧ Below w.heap.size w w' := by
  have hS := Sli.lit w #[.int .i64 2048] 3 1 rfl (by simp [maxLen])
  have hw1 : (w.alloc (.cells #[.int .i64 2048] 3)).heap.size = w.heap.size + 1 := by simp
  have hR := rep_any (w := w.alloc (.cells #[.int .i64 2048] 3)) n (hS.more (by omega)) h1 hn
  have HR := Lib.hid hR
  clear hS hw1 hR
  go_enter Try.func33, Try.ntmps33
  go_wp2_with (go_at_call 49; refine (HR.out).mono ?_; rintro e w1 ⟨v1, rfl, ho1, hb1⟩; obtain ⟨A1, n1, c1, rfl⟩ := ho1.shape)
  go_ret
  have hb0 : Below w.heap.size w (w.alloc (.cells #[.int .i64 2048] 3)) := (Below.refl _ _).alloc (Nat.le_refl _) _
  exact ⟨_, rfl, ho1.mono (by simp), hb0.trans (hb1.mono (by simp))⟩

def areB (n : Int) : Bool := decide (1 ≤ n) && decide (n ≤ 4096)
theorem arec_any (n : Int) (w : World) : Calls Try.prog 32 #[.int .i64 n] w fun e w' => e = .returned (.bool (areB n)) ∧ w = w' := by
  unfold areB
  by_cases h1 : 1 ≤ n
  · by_cases h2 : n ≤ 4096
    · go_enter Try.func32, Try.ntmps32
      go_wp2
      go_ret
      simp [h1, h2]
    · go_enter Try.func32, Try.ntmps32
      go_wp2
      go_ret
      simp [h1, h2]
  · go_enter Try.func32, Try.ntmps32
    go_wp2
    go_ret
    simp; omega

theorem ohas_any {w : World} {A : Option Addr} {n q : Nat} (c : Int) : Calls Try.prog 35 #[.slice A n q, .int .i64 c] w fun e w' => e = .returned (.bool (hasB n c)) ∧ w = w' := by
  unfold hasB
  by_cases h1 : 0 ≤ c
  · by_cases h2 : c < n
    · go_enter Try.func35, Try.ntmps35
      go_wp2
      go_ret
      simp [h1, h2]
    · go_enter Try.func35, Try.ntmps35
      go_wp2
      go_ret
      simp [h1, h2]
  · go_enter Try.func35, Try.ntmps35
    go_wp2
    go_ret
    simp; omega
theorem ohaven_any {w : World} {A : Option Addr} {n q : Nat} (hn : n ≤ 1048576) (c : Int) : Calls Try.prog 42 #[.slice A n q, .int .i64 c] w fun e w' => e = .returned (.bool (haveB n c)) ∧ w = w' := by
  unfold haveB
  by_cases h1 : 0 ≤ c
  · by_cases h2 : c < (n : Int) - 32
    · go_enter Try.func42, Try.ntmps42
      go_wp2
      go_ret
      simp [h1, h2]
    · go_enter Try.func42, Try.ntmps42
      go_wp2
      go_ret
      simp [h1, h2]
  · go_enter Try.func42, Try.ntmps42
    go_wp2
    go_ret
    simp; omega

def atO (od : List Nat) (c : Int) : Nat := if hasB od.length c then od.getD c.toNat 0 else 0
theorem Own.cnAt {w : World} {base n q : Nat} {e : TypeId} {A : Option Addr} {od : List Nat} (h : Own w base e (.slice A n q) (cn od)) {i : Nat} (hi : i < od.length) :
    n = od.length ∧ ∃ b, A = some ⟨b, 0, none⟩ ∧ b < w.heap.size ∧ w.cell? ⟨b, i, none⟩ = some (.int .i64 (od.getD i 0 : Nat)) ∧ (∀ j, w.frozen? ⟨b, j, none⟩ = false) ∧ ∀ x : Nat, Own (w.setCell ⟨b, i, none⟩ (.int .i64 x)) base e (.slice A n q) (cn (od.set i x)) := by
  obtain ⟨g, c, hv, hg, h1, h2, hcell, hf, hset⟩ := h.at_ (by rw [cn_len]; omega)
  injection hv with e1 e2 e3
  rw [cn_len] at e2 hcell
  have hlt := h.own_lt (k := g) (by rw [e1]; rfl)
  exact ⟨e2, g, e1, hlt, by rw [hcell i hi, cn_at hi], hf, fun x => by rw [← cn_set]; exact hset i _⟩
theorem oat_any {w : World} {base : Nat} {e : TypeId} {v : Value} {od : List Nat} (ho : Own w base e v (cn od)) (c : Int) : Calls Try.prog 44 #[v, .int .i64 c] w fun e w' => e = .returned (.int .i64 (atO od c : Nat)) ∧ w = w' := by
  obtain ⟨A, q, rfl, hq1, hq2⟩ := ho.form
  rw [cn_len] at *
  have hH := fun (W : World) => ohas_any (w := W) (A := A) (n := od.length) (q := q) c
  unfold atO
  generalize hb : hasB od.length c = b at *
  cases b with
  | false =>
    clear ho
    go_enter Try.func44, Try.ntmps44
    go_wp2_with (go_at_call 35; refine (hH _).mono ?_; rintro e w1 ⟨rfl, rfl⟩)
    go_ret
    simp
  | true =>
    have h1 : 0 ≤ c ∧ c < od.length := by simpa [hasB] using hb
    obtain ⟨i, rfl⟩ := Int.eq_ofNat_of_zero_le h1.1
    have hi : i < od.length := by omega
    obtain ⟨_, b, rfl, hbw, hc, _, _⟩ := ho.cnAt hi
    clear ho hb h1
    go_enter Try.func44, Try.ntmps44
    go_wp2_with (go_at_call 35; refine (hH _).mono ?_; rintro e w1 ⟨rfl, rfl⟩)
    go_ret
    simp
theorem obound_any {w : World} {base : Nat} {e : TypeId} {v : Value} {od : List Nat} (ho : Own w base e v (cn od)) (W i : Nat) (hi : i < od.length) (hw : W < 4294967296) (hod : od.getD i 0 ≤ 4096) :
    Calls Try.prog 37 #[v, .int .u64 W, .int .i64 i] w fun e w' => e = .returned (.int .u64 (boundOf W od (some i) : Nat)) ∧ w = w' := by
  obtain ⟨A, q, rfl, hq1, hq2⟩ := ho.form
  rw [cn_len] at *
  obtain ⟨_, b, rfl, hbw, hc, _, _⟩ := ho.cnAt hi
  rw [show boundOf W od (some i) = W / 4096 * od.getD i 0 from rfl]
  generalize od.getD i 0 = o at *
  obtain ⟨m, hm⟩ : ∃ m, W / 4096 = m := ⟨_, rfl⟩
  have hmI : (W : Int) / 4096 = (m : Nat) := by omega
  rw [hm]
  have hP : m * o < 18446744073709551616 := by
    have : m * o ≤ m * 4096 := Nat.mul_le_mul_left _ hod
    omega
  obtain ⟨P, hPe⟩ : ∃ P, m * o = P := ⟨_, rfl⟩
  rw [hPe] at hP ⊢
  have hPI : (m : Int) * (o : Int) = (P : Nat) := by rw [← hPe]; simp
  have HP := Lib.hid hPe; have HM := Lib.hid hm
  clear ho hPe hm
  go_enter Try.func37, Try.ntmps37
  go_wp2
  go_ret
  simp
theorem olearn_any {w : World} {base : Nat} {e : TypeId} {v : Value} {od : List Nat} (ho : Own w base e v (cn od)) (i b : Nat) (hi : i < od.length) (hb : b ≤ 1) (hod : od.getD i 0 ≤ 4096) :
    Calls Try.prog 38 #[v, .int .i64 i, .int .i64 b] w fun e' w' => e' = .returned (.tuple #[]) ∧ Own w' base e v (cn (learnt od i b)) ∧ w.grownBy w' v.ownBlock := by
  obtain ⟨A, q, rfl, hq1, hq2⟩ := ho.form
  rw [cn_len] at *
  obtain ⟨_, bk, rfl, hbw, hc, hf, hset⟩ := ho.cnAt hi
  unfold learnt odd'
  generalize od.getD i 0 = o at *
  rcases (by omega : b = 0 ∨ b = 1) with rfl | rfl
  · obtain ⟨z, hz⟩ : ∃ z, o + (4096 - o) / 32 = z := ⟨_, rfl⟩
    have hS := hset z
    simp only [if_true]
    rw [hz]
    have hzI : (o : Int) + ((4096 : Int) - (o : Int)) / 32 = (z : Nat) := by omega
    have HS := Lib.hid hS; have HG := Lib.hid (grown_set w bk i (.int .i64 (z : Nat)))
    have HZ := Lib.hid hz
    have h0 : (0 : Int) ≤ 4096 - (o : Int) := by omega
    clear hset hS ho hz
    go_enter Try.func38, Try.ntmps38
    go_wp2
    go_region
    go_wp2
    go_end0
    exact ⟨rfl, HS.out.drew, grown_drew HG.out⟩
  · obtain ⟨z, hz⟩ : ∃ z, o - o / 32 = z := ⟨_, rfl⟩
    have hS := hset z
    simp only [Nat.one_ne_zero, if_false]
    rw [hz]
    have hzI : (o : Int) - (o : Int) / 32 = (z : Nat) := by omega
    have HS := Lib.hid hS; have HG := Lib.hid (grown_set w bk i (.int .i64 (z : Nat)))
    have HZ := Lib.hid hz
    clear hset hS ho hz
    go_enter Try.func38, Try.ntmps38
    go_wp2
    go_region
    go_wp2
    go_end0
    exact ⟨rfl, HS.out.drew, grown_drew HG.out⟩
end Go.Proofs.Ytghbjlmbehljdaa
