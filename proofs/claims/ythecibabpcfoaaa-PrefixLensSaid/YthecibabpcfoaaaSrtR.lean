/- package sort: what a sort by exchanges asks of 'less' and 'swap'; swapRange, rotate. -/
import Derived.Test.YthecibabpcfoaaaSrtQ
import Derived.Test.YthecibabpcfoaaaFoot
import Derived.Test.YthecibabpcfoaaaByt
import Derived.Shelf.Abstract
import Derived.Deep.DeepCutAuto
namespace Go.Proofs.Ythecibabpcfoaaa
open Go.RowKit
set_option maxRecDepth 100000
set_option maxHeartbeats 1600000

/-- The row R f: what 'less' (function g) and 'swap' (function s) do to it; it lies in block blk. -/
structure Sorter {α : Type} (key : α → Int) (n blk g s : Nat) (lb sb : Array Value) (R : (Nat → α) → World → Prop) : Prop where
  hb : ∀ f W, R f W → blk < W.heap.size
  drew : ∀ f W q, R f W → R f (W.drewN q)
  alloc : ∀ f W o, R f W → R f (W.alloc o)
  less : ∀ f W (i j : Nat), R f W → i < n → j < n → Calls Try.prog g (#[.int .i64 i, .int .i64 j] ++ lb) W fun e w' => e = .returned (.bool (decide (key (f i) < key (f j)))) ∧ ∃ q, w' = W.drewN q
  swap : ∀ f W (i j : Nat), R f W → i < n → j < n → i ≠ j → ∃ W', (callFunc s (#[.int .i64 i, .int .i64 j] ++ sb)).run Try.prog W = .ok (.value (.tuple #[])) W' ∧ R (xch f i j) W' ∧ W'.heap.size = W.heap.size ∧ ∀ p : Addr, p.block ≠ blk → W'.cell? p = W.cell? p
  eg : ∀ args w, (callFunc g args).run Try.prog w = .ok (.enter g args) w
/-- Outside block blk the cells are as they were. -/
structure Kp (blk : Nat) (w w' : World) : Prop where
  size : w.heap.size ≤ w'.heap.size
  cell : ∀ p : Addr, p.block < w.heap.size → p.block ≠ blk → w'.cell? p = w.cell? p
theorem Kp.refl (blk : Nat) (w : World) : Kp blk w w := ⟨Nat.le_refl _, fun _ _ _ => rfl⟩
theorem Kp.trans {blk : Nat} {a b c : World} (h : Kp blk a b) (k : Kp blk b c) : Kp blk a c :=
  ⟨Nat.le_trans h.size k.size, fun p h1 h2 => (k.cell p (Nat.lt_of_lt_of_le h1 h.size) h2).trans (h.cell p h1 h2)⟩
theorem Kp.alloc {blk : Nat} {a b : World} (h : Kp blk a b) (o : Obj) : Kp blk a (b.alloc o) :=
  h.trans ⟨by simp, fun p h1 _ => by
    have := (Below.refl b.heap.size b).alloc (Nat.le_refl _) o
    exact this.cell h1⟩
theorem Kp.drewN {blk : Nat} {a b : World} (h : Kp blk a b) (q : Nat) : Kp blk a (b.drewN q) := ⟨h.size, h.cell⟩
/-- The two functions in their box. -/
structure Bx (b : Nat) (x y : Value) (w : World) : Prop where
  c0 : w.cell? ⟨b, 0, none⟩ = some x
  c1 : w.cell? ⟨b, 1, none⟩ = some y
theorem Bx.keep {b blk : Nat} {x y : Value} {w w' : World} (h : Bx b x y w) (k : Kp blk w w') (hb : b < w.heap.size) (hn : b ≠ blk) : Bx b x y w' := ⟨(k.cell _ hb hn).trans h.c0, (k.cell _ hb hn).trans h.c1⟩
theorem Bx.new (w : World) (x y : Value) (t : TypeId) : Bx w.heap.size x y (w.alloc (.cells #[x, y] t)) := by
  constructor <;> (rw [cell_of_row _ _ _ _ _ _ (heap_alloc_new w _)]; rfl)
theorem kp_swap {blk : Nat} {w w' : World} (h1 : w'.heap.size = w.heap.size) (h2 : ∀ p : Addr, p.block ≠ blk → w'.cell? p = w.cell? p) : Kp blk w w' := ⟨by omega, fun p _ h => h2 p h⟩

section
variable {α : Type} {key : α → Int} {n blk g s : Nat} {lb sb : Array Value} {R : (Nat → α) → World → Prop}

theorem range_any (S : Sorter key n blk g s lb sb R) (hn : n < 4611686018427387904) (f : Nat → α) (W : World) (a b m : Nat) (hR : R f W) (h1 : a + m ≤ b) (h2 : b + m ≤ n) :
    Calls Try.prog 86 #[.agg #[.func (.func g) #[] lb, .func (.func s) #[] sb], .int .i64 a, .int .i64 b, .int .i64 m] W fun e w' => e = .returned (.tuple #[]) ∧ R (swr f a b m) w' ∧ Kp blk W w' := by
  have hblk := S.hb f W hR
  have HB := Bx.new W (.func (.func g) #[] lb) (.func (.func s) #[] sb) 112
  have HK := (Kp.refl blk W).alloc (.cells #[.func (.func g) #[] lb, .func (.func s) #[] sb] 112)
  have HR := S.alloc f W (.cells #[.func (.func g) #[] lb, .func (.func s) #[] sb] 112) hR
  have hsz : (W.alloc (.cells #[.func (.func g) #[] lb, .func (.func s) #[] sb] 112)).heap.size = W.heap.size + 1 := by simp
  go_enter Try.func86, Try.ntmps86
  go_wp2
  generalize hw1 : W.alloc (.cells #[.func (.func g) #[] lb, .func (.func s) #[] sb] 112) = w1 at *
  have HSZ := Lib.hid hsz; have HW1 := Lib.hid hw1
  clear hsz hw1
  go_loopw [8] (fun vi wr => ∃ i : Nat, vi = .int .i64 i ∧ i ≤ m ∧ R (swr f a b i) wr ∧ Bx W.heap.size (.func (.func g) #[] lb) (.func (.func s) #[] sb) wr ∧ Kp blk w1 wr) (fun vi _ => m - (intOf vi).toNat)
  case atStart => exact ⟨0, rfl, Nat.zero_le _, by rw [swr_zero]; exact HR, HB, Kp.refl _ _⟩
  case round =>
    obtain ⟨i, rfl, him, hRi, hBi, hKi⟩ := hrel
    by_cases hlt : i < m
    · have hst := swr_step f a b i (by omega)
      obtain ⟨W', hs, hR', hz, hc⟩ := S.swap _ _ (a + i) (b + i) hRi (by omega) (by omega) (by omega)
      rw [hst] at hR'
      have HSZ' := HSZ.out
      have hB' := hBi.keep (kp_swap hz hc) (by have := hKi.size; omega) (by omega)
      have hK' := hKi.trans (kp_swap hz hc)
      rw [show (((a + i : Nat) : Int)) = (a : Int) + i by omega, show (((b + i : Nat) : Int)) = (b : Int) + i by omega] at hs
      have c1 := hBi.c1
      clear hst hz hc HB HR hRi hBi hKi HSZ'
      go_wp2
      exact ⟨⟨i + 1, by simp, by omega, hR', hB', hK'⟩, by simp [intOf]; omega⟩
    · have : i = m := by omega
      subst this
      go_wp2
      go_end0
      exact ⟨rfl, hRi, HK.trans hKi⟩

theorem sws_swr {f : Nat → α} {lo hi a b m : Nat} (h : a + m ≤ b) (ha : lo ≤ a) (hb : b + m ≤ hi) : ∀ i, i ≤ m → Sws lo hi f (swr f a b i)
  | 0, _ => by rw [swr_zero]; exact .refl
  | i + 1, hi' => by
    rw [← swr_step f a b i (by omega)]
    exact (sws_swr h ha hb i (by omega)).step _ _ (by omega) (by omega)

theorem rotate_any (S : Sorter key n blk g s lb sb R) (hn : n < 4611686018427387904) (f : Nat → α) (W : World) (a m b : Nat) (hR : R f W) (h1 : a < m) (h2 : m < b) (h3 : b ≤ n) :
    Calls Try.prog 85 #[.agg #[.func (.func g) #[] lb, .func (.func s) #[] sb], .int .i64 a, .int .i64 m, .int .i64 b] W fun e w' => e = .returned (.tuple #[]) ∧ R (rot f a m b) w' ∧ Sws a b f (rot f a m b) ∧ Kp blk W w' := by
  have hblk := S.hb f W hR
  have HB := Bx.new W (.func (.func g) #[] lb) (.func (.func s) #[] sb) 112
  have HK := (Kp.refl blk W).alloc (.cells #[.func (.func g) #[] lb, .func (.func s) #[] sb] 112)
  have HR := S.alloc f W (.cells #[.func (.func g) #[] lb, .func (.func s) #[] sb] 112) hR
  have hsz : (W.alloc (.cells #[.func (.func g) #[] lb, .func (.func s) #[] sb] 112)).heap.size = W.heap.size + 1 := by simp
  obtain ⟨F, hF⟩ : ∃ F, rot f a m b = F := ⟨_, rfl⟩
  rw [hF]
  go_enter Try.func85, Try.ntmps85
  go_wp2
  generalize hw1 : W.alloc (.cells #[.func (.func g) #[] lb, .func (.func s) #[] sb] 112) = w1 at *
  have HSZ := Lib.hid hsz; have HW1 := Lib.hid hw1; have HF := Lib.hid hF
  clear hsz hw1 hF
  go_loopw [8, 9] (fun vi vj wr => ∃ (i j : Nat) (q : Nat → α), vi = .int .i64 i ∧ vj = .int .i64 j ∧ 0 < i ∧ 0 < j ∧ a + i ≤ m ∧ m + j ≤ b ∧ R q wr ∧ rot q (m - i) m (m + j) = F ∧ Sws a b f q ∧ Bx W.heap.size (.func (.func g) #[] lb) (.func (.func s) #[] sb) wr ∧ Kp blk w1 wr) (fun vi vj _ => (intOf vi).toNat + (intOf vj).toNat)
  case atStart => exact ⟨m - a, b - m, f, by congr 1; omega, by congr 1; omega, by omega, by omega, by omega, by omega, HR, by rw [← HF.out]; congr 1 <;> omega, .refl, HB, Kp.refl _ _⟩
  case round =>
    obtain ⟨i, j, q, rfl, rfl, hi0, hj0, hi, hj, hRq, hrot, hsq, hBi, hKi⟩ := hrel
    have HS := Lib.hid HSZ.out
    have hkb := fun w' (k : Kp blk wr w') => hBi.keep k
    have c0 := hBi.c0
    have c1 := hBi.c1
    have HROT := Lib.hid hrot
    clear hrot
    by_cases hij : i = j
    · subst hij
      have hc := range_any S hn q wr (m - i) m i hRq (by omega) (by omega)
      rw [show (((m - i : Nat) : Int)) = (m : Int) - i by omega] at hc
      rw [rot_even q i m (by omega), HROT.out] at hc
      have hsw : Sws a b f F := by
        have e := rot_even q i m (by omega)
        rw [HROT.out] at e
        rw [← e]
        exact hsq.trans (sws_swr (by omega) (by omega) (by omega) i (Nat.le_refl _))
      clear HB HR
      go_wp2_with fail
      refine hc.mono ?_
      rintro e w2 ⟨rfl, hR2, hK2⟩
      go_wp2
      go_end0
      exact ⟨rfl, hR2, hsw, HK.trans (hKi.trans hK2)⟩
    · by_cases hlt : j < i
      · have hc := range_any S hn q wr (m - i) m j hRq (by omega) (by omega)
        rw [show (((m - i : Nat) : Int)) = (m : Int) - i by omega] at hc
        have e := rot_more q i j m (by omega) hlt
        have hsw := hsq.trans (sws_swr (f := q) (lo := a) (hi := b) (a := m - i) (b := m) (m := j) (by omega) (by omega) (by omega) j (Nat.le_refl _))
        have HE := Lib.hid e
        clear HB HR e
        go_wp2_with fail
        refine hc.mono ?_
        rintro e w2 ⟨rfl, hR2, hK2⟩
        go_wp2
        refine ⟨⟨i - j, j, _, by congr 1; omega, rfl, by omega, hj0, by omega, hj, hR2, by rw [HE.out]; exact HROT.out, hsw, hkb _ hK2 (by have := hKi.size; have := HS.out; omega) (by omega), hKi.trans hK2⟩, by simp [intOf]; omega⟩
      · have hc := range_any S hn q wr (m - i) (m + j - i) i hRq (by omega) (by omega)
        rw [show (((m - i : Nat) : Int)) = (m : Int) - i by omega, show (((m + j - i : Nat) : Int)) = (m : Int) + j - i by omega] at hc
        have e := rot_less q i j m (by omega) (by omega)
        have hsw := hsq.trans (sws_swr (f := q) (lo := a) (hi := b) (a := m - i) (b := m + j - i) (m := i) (by omega) (by omega) (by omega) i (Nat.le_refl _))
        have HE := Lib.hid e
        clear HB HR e
        go_wp2_with fail
        refine hc.mono ?_
        rintro e w2 ⟨rfl, hR2, hK2⟩
        go_wp2
        refine ⟨⟨i, j - i, _, rfl, by congr 1; omega, hi0, by omega, hi, by omega, hR2, by rw [HE.out]; exact HROT.out, hsw, hkb _ hK2 (by have := hKi.size; have := HS.out; omega) (by omega), hKi.trans hK2⟩, by simp [intOf]; omega⟩
end
end Go.Proofs.Ythecibabpcfoaaa
