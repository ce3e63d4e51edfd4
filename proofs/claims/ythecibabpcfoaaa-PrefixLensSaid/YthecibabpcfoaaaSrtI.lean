/- package sort: insertionSort. -/
import Derived.Test.YthecibabpcfoaaaSrtR
namespace Go.Proofs.Ythecibabpcfoaaa
open Go.RowKit Go.Shelf
set_option maxRecDepth 100000
set_option maxHeartbeats 1600000

section
variable {α : Type} {key : α → Int} {n blk g s : Nat} {lb sb : Array Value} {R : (Nat → α) → World → Prop}

theorem rot_at {f : Nat → α} {j i : Nat} (h : j ≤ i) : rot f j i (i + 1) j = f i := by
  simp only [rot]; rw [if_pos (by omega)]; congr 1; omega
theorem rot_before {f : Nat → α} {j i k : Nat} (h : k < j) : rot f j i (i + 1) k = f k := by
  simp only [rot]; rw [if_neg (by omega), if_neg (by omega)]
theorem ins_any (S : Sorter key n blk g s lb sb R) (ord : α → Nat) (hn : n < 4611686018427387904) (f : Nat → α) (W : World) (a b : Nat) (hR : R f W) (h1 : a ≤ b) (h2 : b ≤ n) (ho : ∀ i j, a ≤ i → i < j → j < b → ord (f i) < ord (f j)) :
    Calls Try.prog 83 #[.agg #[.func (.func g) #[] lb, .func (.func s) #[] sb], .int .i64 a, .int .i64 b] W fun e w' => e = .returned (.tuple #[]) ∧ ∃ f', R f' w' ∧ Sws a b f f' ∧ Sor key ord f' a b ∧ Kp blk W w' := by
  have hblk := S.hb f W hR
  have HB := Bx.new W (.func (.func g) #[] lb) (.func (.func s) #[] sb) 112
  have HK := (Kp.refl blk W).alloc (.cells #[.func (.func g) #[] lb, .func (.func s) #[] sb] 112)
  have HR := S.alloc f W (.cells #[.func (.func g) #[] lb, .func (.func s) #[] sb] 112) hR
  have hsz : (W.alloc (.cells #[.func (.func g) #[] lb, .func (.func s) #[] sb] 112)).heap.size = W.heap.size + 1 := by simp
  have eg := S.eg
  go_enter Try.func83, Try.ntmps83
  go_wp2
  generalize hw1 : W.alloc (.cells #[.func (.func g) #[] lb, .func (.func s) #[] sb] 112) = w1 at *
  have HSZ := Lib.hid hsz; have HW1 := Lib.hid hw1
  clear hsz hw1
  go_loopw [6] (fun vi wr => ∃ (i : Nat) (q : Nat → α), vi = .int .i64 i ∧ a < i ∧ i ≤ b + 1 ∧ R q wr ∧ Sws a (min i b) f q ∧ Sor key ord q a (min i b) ∧ Bx W.heap.size (.func (.func g) #[] lb) (.func (.func s) #[] sb) wr ∧ Kp blk w1 wr) (fun vi _ => b + 1 - (intOf vi).toNat)
  case atStart => exact ⟨a + 1, f, by simp, by omega, by omega, HR, .refl, Sor.one (by omega), HB, Kp.refl _ _⟩
  case round =>
    obtain ⟨i, q, rfl, hai, hib, hRq, hsq, hso, hBi, hKi⟩ := hrel
    by_cases hlt : i < b
    · rw [Nat.min_eq_left (by omega)] at hsq hso
      have hord : ∀ k, a ≤ k → k < i → ord (q k) < ord (q i) := fun k k1 k2 => by
        obtain ⟨k', e1, e2, e3⟩ := hsq.mem k k1 k2
        rw [e3, hsq.out i (by omega)]
        exact ho k' i e1 e2 hlt
      have HO := Lib.hid hord
      clear hord HB HR
      go_wp2
      go_loopw [7] (fun vj w2 => ∃ j : Nat, vj = .int .i64 j ∧ a ≤ j ∧ j ≤ i ∧ R (rot q j i (i + 1)) w2 ∧ Sws a (i + 1) q (rot q j i (i + 1)) ∧ (∀ h, j ≤ h → h < i → Tk key ord (q i) (q h)) ∧ Bx W.heap.size (.func (.func g) #[] lb) (.func (.func s) #[] sb) w2 ∧ Kp blk w1 w2) (fun vj _ => (intOf vj).toNat)
      case atStart => exact ⟨i, rfl, by omega, Nat.le_refl _, by rw [rot_same]; exact hRq, by rw [rot_same]; exact .refl, fun h k1 k2 => by omega, hBi, hKi⟩
      case round =>
        obtain ⟨j, rfl, haj, hji, hRj, hsj, hT, hBj, hKj⟩ := hrel
        have c0 := hBj.c0
        have c1 := hBj.c1
        have HT := Lib.hid hT
        clear hT hBi hKi hRq
        have out : ∀ p, (j ≤ a ∨ ¬ key (q i) < key (q (j - 1))) → ∃ (i' : Nat) (q' : Nat → α), Value.int .i64 ((i : Int) + 1) = .int .i64 (i' : Nat) ∧ a < i' ∧ i' ≤ b + 1 ∧ R q' (wr.drewN p) ∧ Sws a (min i' b) f q' ∧ Sor key ord q' a (min i' b) ∧ Bx W.heap.size (.func (.func g) #[] lb) (.func (.func s) #[] sb) (wr.drewN p) ∧ Kp blk w1 (wr.drewN p) := by
          intro p hp
          refine ⟨i + 1, rot q j i (i + 1), by simp, by omega, by omega, S.drew _ _ _ hRj, ?_, ?_, ⟨c0, c1⟩, hKj.drewN p⟩
          · rw [Nat.min_eq_left (by omega)]
            exact (hsq.mono (Nat.le_refl _) (by omega)).trans hsj
          · rw [Nat.min_eq_left (by omega)]
            refine ins_last hso haj hji (fun h k1 k2 => ?_) HT.out
            have := hso
            have hk : ¬ key (q i) < key (q (j - 1)) := by rcases hp with hp | hp; · omega
                                                          · exact hp
            have ht := Tk.ge (HO.out (j - 1) (by omega) (by omega)) hk
            exact Tk.le_trans hso k1 (by omega : h ≤ j - 1) (by omega) ht
        have OUT := Lib.hid out
        have HSZ' := HSZ.out
        have HSO := Lib.hid hso; have HSQ := Lib.hid hsq; have HSJ := Lib.hid hsj
        clear out hso hsq hsj
        by_cases hja : a < j
        · have hl := S.less _ _ j (j - 1) hRj (by omega) (by omega)
          rw [rot_at hji, rot_before (show j - 1 < j by omega)] at hl
          rw [show (((j - 1 : Nat) : Int)) = (j : Int) - 1 by omega] at hl
          by_cases hlv : key (q i) < key (q (j - 1))
          · rw [decide_eq_true hlv] at hl
            have hsw := fun p => S.swap _ _ j (j - 1) (S.drew _ _ p hRj) (by omega) (by omega) (by omega)
            rw [rot_down q j i (by omega) hji, show (((j - 1 : Nat) : Int)) = (j : Int) - 1 by omega] at hsw
            have hbk := fun w' (k : Kp blk wr w') => hBj.keep k (by have := hKj.size; omega) (by omega)
            have HSW := Lib.hid hsw; have HHL := Lib.hid hl; have HBK := Lib.hid hbk
            clear hsw hl hbk hRj hBj HSZ'
            go_wp2_with (go_at_fn g; refine HHL.out.mono ?_; rintro e w' ⟨rfl, p, rfl⟩)
            obtain ⟨W', hs, hR', hz, hc⟩ := HSW.out p
            have hB' := HBK.out W' ((Kp.refl blk wr).drewN p |>.trans (kp_swap hz hc))
            have hK' := (hKj.drewN p).trans (kp_swap hz hc)
            rw [hs, Oper.upon_value]
            go_wp2
            refine ⟨⟨j - 1, by congr 1; omega, by omega, by omega, hR', ?_, ?_, hB', hK'⟩, by simp [intOf]; omega⟩
            · rw [← rot_down q j i (by omega) hji]
              exact HSJ.out.step _ _ ⟨by omega, by omega⟩ ⟨by omega, by omega⟩
            · intro h k1 k2
              rcases Nat.lt_or_ge h j with k3 | k3
              · have : h = j - 1 := by omega
                subst this
                exact .inl hlv
              · exact HT.out h k3 k2
          · rw [decide_eq_false hlv] at hl
            have HHL := Lib.hid hl
            clear hl hRj hBj HSZ'
            go_wp2_with (go_at_fn g; refine HHL.out.mono ?_; rintro e w' ⟨rfl, p, rfl⟩)
            exact ⟨OUT.out p (.inr hlv), by simp [intOf]; omega⟩
        · clear hRj hBj HSZ'
          go_wp2
          exact ⟨OUT.out 0 (.inl (by omega)), by simp [intOf]; omega⟩
    · rw [Nat.min_eq_right (by omega)] at hsq hso
      clear HB HR
      go_wp2
      go_end0
      exact ⟨rfl, q, hRq, hsq, hso, HK.trans hKi⟩
end
end Go.Proofs.Ythecibabpcfoaaa
