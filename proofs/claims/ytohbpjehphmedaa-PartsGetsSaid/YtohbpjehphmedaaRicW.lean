/- rice: what is written, the reference's beside it. -/
import Derived.Test.YtohbpjehphmedaaRicT
import Derived.Test.YtohbpjehphmedaaBitV
import Derived.Test.YtohbpjehphmedaaBitQ
import Derived.Test.YtohbpjehphmedaaBitM
namespace Go.Proofs.Ytohbpjehphmedaa
open Go.RowKit
set_option maxRecDepth 100000
set_option maxHeartbeats 400000

theorem areWide_any (v : Value) (l : List Int) (w : World) (B : Nat) (hS : Sli w B v (ci l)) (hn : l.length ≤ 1099511627776) :
    Calls Try.prog 87 #[v] w fun e w' => e = .returned (.bool (l.all wideB)) ∧ w = w' := by
  obtain ⟨A, c, rfl, hlc, hcm⟩ := hS.formI
  obtain ⟨n, hnl⟩ : ∃ n, l.length = n := ⟨_, rfl⟩
  rw [hnl] at hS hlc hn ⊢
  have HNL := Lib.hid hnl; clear hnl
  go_enter Try.func87, Try.ntmps87
  go_wp2
  go_loop [7] (fun i => ∃ j : Nat, j ≤ n ∧ i = .int .i64 j ∧ Hid ((l.take j).all wideB = true)) (fun i => n - (intOf i).toNat)
  case atStart => exact ⟨0, Nat.zero_le _, rfl, rfl⟩
  case round =>
    obtain ⟨j, hj, rfl, hall⟩ := hrel
    by_cases hlt : j < n
    · have hjl : j < l.length := by rw [HNL.out]; exact hlt
      obtain ⟨b, o, rfl, hb, hcell⟩ := hS.atI hjl
      have htk : (l.take (j + 1)).all wideB = ((l.take j).all wideB && wideB l[j]) := by rw [List.take_succ_eq_append_getElem hjl, List.all_append]; simp only [List.all_cons, List.all_nil, Bool.and_true]
      have hno : wideB l[j] = false → l.all wideB = false := fun h => List.all_eq_false.2 ⟨l[j], List.getElem_mem _, by simp [h]⟩
      have HT := Lib.hid htk; have HNO := Lib.hid hno; clear htk hno
      generalize l[j] = x at *
      have hx := fun w => isWide_any x w
      cases hwx : wideB x
      · rw [hwx] at hx
        have hf := Lib.hid (HNO.out hwx)
        have HX := Lib.hid hx
        clear hx hjl hwx
        go_wp2_with (go_at_call 81; refine (HX.out _).mono ?_; rintro e w1 ⟨rfl, rfl⟩)
        go_ret
        exact ⟨by rw [hf.out]; rfl, rfl⟩
      · rw [hwx] at hx
        have ht := Lib.hid (HT.out.trans (by rw [hall.out, hwx, Bool.and_self]))
        have HX := Lib.hid hx
        clear hx hjl hwx
        go_wp2_with (go_at_call 81; refine (HX.out _).mono ?_; rintro e w1 ⟨rfl, rfl⟩)
        exact ⟨⟨j + 1, by omega, by simp, ht⟩, by simp [intOf]; omega⟩
    · have : j = l.length := by rw [HNL.out]; omega
      subst this
      rw [List.take_length] at hall
      go_wp2
      go_ret
      exact ⟨by rw [hall.out]; rfl, rfl⟩

theorem wUnary_ok (L : List Bool) {n : Nat} (h : n ≤ 4096) : wUnary L (n : Int) = (L ++ msb 1 (n + 1), 0) := by
  unfold wUnary; rw [if_neg (by omega), Int.toNat_natCast]
theorem wPut_ok (L : List Bool) {x n : Nat} (h : n ≤ 64) (hx : x < 2 ^ n) : wPut L x (n : Int) = (L ++ msb x n, 0) := by
  unfold wPut; rw [if_neg (by rw [Int.toNat_natCast]; omega), Int.toNat_natCast]
theorem divmod_cast (u k : Nat) : (u : Int) - ((u / 2 ^ k * 2 ^ k : Nat) : Int) = ((u % 2 ^ k : Nat) : Int) := by
  have h := Nat.div_add_mod u (2 ^ k)
  rw [Nat.mul_comm] at h
  omega

theorem putCode_any {w : World} {base g : Nat} {v : Value} {L : List Bool} (hR : WrO w base g v L) (hlen : L.length ≤ 1099511600000) (hb : base ≤ w.heap.size) (k u : Nat) (hk : k ≤ 25) (hu : u < 2147483648) :
    Calls Try.prog 88 #[.pointer (some ⟨g, 0, none⟩), .int .i64 k, .int .u64 u] w fun e w' => e = .returned (.tuple #[]) ∧ ∃ v', WrO w' base g v' (L ++ code k u) ∧ Mov w w' g v v' := by
  have h25 := two_pow_le hk
  by_cases hq32 : u / 2 ^ k < 32
  · have hc : L ++ code k u = (L ++ msb 1 (u / 2 ^ k + 1)) ++ msb (u % 2 ^ k) k := by unfold code; rw [if_pos hq32, msb_mod, List.append_assoc]
    rw [hc]
    clear hc
    have hP := divmod_cast u k
    have hqI := shr_cast u k
    have hr : u % 2 ^ k < 2 ^ k := Nat.mod_lt _ (Nat.pow_pos (by omega))
    have hPm : ((u / 2 ^ k : Nat) : Int) * 2 ^ k = ((u / 2 ^ k * 2 ^ k : Nat) : Int) := by simp
    have hPu : u / 2 ^ k * 2 ^ k ≤ u := Nat.div_mul_le_self u (2 ^ k)
    generalize u % 2 ^ k = r at *
    generalize u / 2 ^ k * 2 ^ k = P at *
    generalize u / 2 ^ k = q at *
    have e1 := wUnary_ok L (n := q) (by omega)
    have e2 := wPut_ok (L ++ msb 1 (q + 1)) (x := r) (n := k) (by omega) hr
    have h1 := wunary_any hR (by omega) hb q (by omega) (by omega)
    rw [e1] at h1
    have h2 : ∀ (w1 : World) (v1 : Value), WrO w1 base g v1 (L ++ msb 1 (q + 1)) → base ≤ w1.heap.size → _ := fun w1 v1 h hb1 => wput_any h (by rw [List.length_append, msb_len]; omega) hb1 r k (by omega) (by omega) (by omega)
    rw [e2] at h2
    have H1 := Lib.hid h1; have H2 := Lib.hid h2; have HR := Lib.hid hR
    have hr2 : r < 33554432 := by omega
    clear h1 h2 e1 e2 hR h25 hr
    go_enter Try.func88, Try.ntmps88
    go_wp2_with (first
      | (go_at_call 99; refine (H1.out).mono ?_; rintro e w1 ⟨rfl, v1, hR1, hm1⟩)
      | (go_at_call 39; refine (H2.out w1 v1 hR1 (Nat.le_trans hb hm1.size)).mono ?_; rintro e w2 ⟨rfl, v2, hR2, hm2⟩))
    first | go_end0 | refine bodyPost_ret (results_none rfl _ _ _) rfl ?_
    exact ⟨rfl, v2, hR2, hm1.trans hm2⟩
  · have hc : L ++ code k u = (L ++ msb 1 (32 + 1)) ++ msb u 32 := by unfold code; rw [if_neg hq32, List.append_assoc]
    rw [hc]
    clear hc
    have hqI := shr_cast u k
    have hqu : u / 2 ^ k ≤ u := Nat.div_le_self _ _
    generalize u / 2 ^ k = q at *
    have e1 := wUnary_ok L (n := 32) (by omega)
    have e2 := wPut_ok (L ++ msb 1 (32 + 1)) (x := u) (n := 32) (by omega) (by omega)
    have h1 := wunary_any hR (by omega) hb (32 : Nat) (by omega) (by omega)
    rw [e1] at h1
    have h2 : ∀ (w1 : World) (v1 : Value), WrO w1 base g v1 (L ++ msb 1 (32 + 1)) → base ≤ w1.heap.size → _ := fun w1 v1 h hb1 => wput_any h (by rw [List.length_append, msb_len]; omega) hb1 u (32 : Nat) (by omega) (by omega) (by omega)
    rw [e2] at h2
    have H1 := Lib.hid h1; have H2 := Lib.hid h2; have HR := Lib.hid hR
    clear h1 h2 e1 e2 hR h25
    go_enter Try.func88, Try.ntmps88
    go_wp2_with (first
      | (go_at_call 99; refine (H1.out).mono ?_; rintro e w1 ⟨rfl, v1, hR1, hm1⟩)
      | (go_at_call 39; refine (H2.out w1 v1 hR1 (Nat.le_trans hb hm1.size)).mono ?_; rintro e w2 ⟨rfl, v2, hR2, hm2⟩))
    first | go_end0 | refine bodyPost_ret (results_none rfl _ _ _) rfl ?_
    exact ⟨rfl, v2, hR2, hm1.trans hm2⟩

def putR (k : Int) (l : List Int) (L : List Bool) : List Bool × Int := if paramB k = true ∧ l.all wideB = true then (L ++ codes k.toNat l, 0) else (L, 1)
theorem codes_snoc {k : Nat} {l : List Int} {j : Nat} (h : j < l.length) : codes k (l.take (j + 1)) = codes k (l.take j) ++ code k (foldN l[j]) := by
  rw [List.take_succ_eq_append_getElem h, codes_app]; simp [codes]
theorem codes_le {k : Nat} (hk : k ≤ 25) (l : List Int) : (codes k l).length ≤ 65 * l.length := by
  unfold codes
  induction l with
  | nil => simp
  | cons x l ih =>
    have := (codeN_le (u := foldN x) hk).2
    rw [List.flatMap_cons, List.length_append, code_len, List.length_cons]; omega
/-- A row that stays while the object at block g, whose row is v, is written. -/
def Stays (w : World) (g : Nat) (v : Value) (va : Value) (xs : List Value) : Prop := ∀ w' v', Mov w w' g v v' → ∃ B, Sli w' B va xs
theorem Stays.now {w : World} {g : Nat} {v va : Value} {xs : List Value} (h : Stays w g v va xs) : ∃ B, Sli w B va xs := h w v (Mov.refl _ _ _)
theorem Stays.on {w w1 : World} {g : Nat} {v v1 va : Value} {xs : List Value} (h : Stays w g v va xs) (hm : Mov w w1 g v v1) : Stays w1 g v1 va xs := fun _ _ h2 => h _ _ (hm.trans h2)
theorem Stays.of_sli {w : World} {B g : Nat} {v va : Value} {xs : List Value} (h : Sli w B va xs) (hg : B ≤ g) (hv : ∀ k, v.ownBlock = some k → B ≤ k) (hB : B ≤ w.heap.size) : Stays w g v va xs :=
  fun _ _ hm => ⟨B, h.below (hm.below hg hv hB)⟩

theorem rput_any {w : World} {base g : Nat} {v : Value} {L : List Bool} (hR : WrO w base g v L) (k : Int) (va : Value) (l : List Int) (hS : Stays w g v va (ci l)) (hlen : L.length + 65 * l.length ≤ 1099511600000) (hb : base ≤ w.heap.size) :
    Calls Try.prog 71 #[.pointer (some ⟨g, 0, none⟩), .int .i64 k, va] w fun e w' => e = .returned (.int .i64 (putR k l L).2) ∧ ∃ v', WrO w' base g v' (putR k l L).1 ∧ Mov w w' g v v' := by
  have hp := fun w => isPar_any k w
  obtain ⟨B0, hS0⟩ := hS.now
  have hA := areWide_any va l w B0 hS0 (by omega)
  obtain ⟨A, c, rfl, hlc, hcm⟩ := hS0.formI
  clear hS0
  by_cases hk : paramB k = true
  · rw [hk] at hp
    cases hall : l.all wideB
    · have hr : putR k l L = (L, 1) := by unfold putR; rw [if_neg (by simp [hall])]
      rw [hr]; rw [hall] at hA
      have HP := Lib.hid hp; have HA := Lib.hid hA; have HR := Lib.hid hR
      clear hp hA hk hall hr hS hR
      go_enter Try.func71, Try.ntmps71
      go_wp2_with (first
        | (go_at_call 80; refine (HP.out _).mono ?_; rintro e w1 ⟨rfl, rfl⟩)
        | (go_at_call 87; refine (HA.out).mono ?_; rintro e w1 ⟨rfl, rfl⟩))
      go_ret
      exact ⟨rfl, v, HR.out, Mov.refl _ _ _⟩
    · obtain ⟨hk0, hk25⟩ := paramB_iff.1 hk
      obtain ⟨m, rfl⟩ := Int.eq_ofNat_of_zero_le hk0
      have hm25 : m ≤ 25 := by omega
      have hr : putR m l L = (L ++ codes m l, 0) := by unfold putR; rw [if_pos ⟨hk, hall⟩, Int.toNat_natCast]
      rw [hr]; rw [hall] at hA
      obtain ⟨n, hnl⟩ : ∃ n, l.length = n := ⟨_, rfl⟩
      rw [hnl] at hlen hlc hA hS ⊢
      have HP := Lib.hid hp; have HA := Lib.hid hA; have HR := Lib.hid hR; have HS := Lib.hid hS; have HNL := Lib.hid hnl
      clear hp hA hk hall hr hS hR hnl hk0 hk25
      go_enter Try.func71, Try.ntmps71
      go_wp2_with (first
        | (go_at_call 80; refine (HP.out _).mono ?_; rintro e w1 ⟨rfl, rfl⟩)
        | (go_at_call 87; refine (HA.out).mono ?_; rintro e w1 ⟨rfl, rfl⟩))
      go_loopw [19] (fun i wr => ∃ (j : Nat) (v1 : Value), j ≤ n ∧ i = .int .i64 j ∧ WrO wr base g v1 (L ++ codes m (l.take j)) ∧ Mov w wr g v v1) (fun i _ => n - (intOf i).toNat)
      case atStart => exact ⟨0, v, Nat.zero_le _, rfl, by simpa [codes] using HR.out, Mov.refl _ _ _⟩
      case round =>
        obtain ⟨j, v1, hj, rfl, hR1, hm1⟩ := hrel
        by_cases hlt : j < n
        · have hjl : j < l.length := by rw [HNL.out]; exact hlt
          obtain ⟨B1, hS1⟩ := HS.out _ _ hm1
          obtain ⟨b, o, rfl, hbB, hcell⟩ := hS1.atI hjl
          have hcs := codes_snoc (k := m) hjl
          have hle := codes_le hm25 (l.take j)
          have hl2 : (l.take j).length ≤ j := by rw [List.length_take]; omega
          have hF := fun w => fold_any l[j] w
          have hlt2 := foldN_lt l[j]
          generalize foldN l[j] = u at *
          generalize l[j] = x at *
          have hpc := putCode_any hR1 (by rw [List.length_append]; omega) (Nat.le_trans hb hm1.size) m u hm25 hlt2
          rw [List.append_assoc, ← hcs] at hpc
          have HF := Lib.hid hF; have HPC := Lib.hid hpc
          clear hF hpc hcs hS1 hjl hle hl2 hR1
          go_wp2_with (first
            | (go_at_call 82; refine (HF.out _).mono ?_; rintro e w1 ⟨rfl, rfl⟩)
            | (go_at_call 88; refine (HPC.out).mono ?_; rintro e w2 ⟨rfl, v2, hR2, hm2⟩))
          exact ⟨⟨j + 1, v2, by omega, by simp, hR2, hm1.trans hm2⟩, by simp [intOf]; omega⟩
        · have : j = l.length := by rw [HNL.out]; omega
          subst this
          rw [List.take_length] at hR1
          go_wp2
          go_ret
          exact ⟨rfl, v1, hR1, hm1⟩
  · have hr : putR k l L = (L, 1) := by unfold putR; rw [if_neg (fun h => hk h.1)]
    rw [hr]; rw [Bool.eq_false_iff.2 hk] at hp
    have HP := Lib.hid hp; have HR := Lib.hid hR
    clear hp hA hk hr hS hR
    go_enter Try.func71, Try.ntmps71
    go_wp2_with (go_at_call 80; refine (HP.out _).mono ?_; rintro e w1 ⟨rfl, rfl⟩)
    go_ret
    exact ⟨rfl, v, HR.out, Mov.refl _ _ _⟩
end Go.Proofs.Ytohbpjehphmedaa
