/- package sort: stable. -/
import Derived.Test.YthecibabpcfoaaaSrtM
namespace Go.Proofs.Ythecibabpcfoaaa
open Go.RowKit Go.Shelf
set_option maxRecDepth 100000
set_option maxHeartbeats 4000000

section
variable {α : Type} {key : α → Int} {n blk g sw : Nat} {lb sb : Array Value} {R : (Nat → α) → World → Prop}

theorem stable_any (S : Sorter key n blk g sw lb sb R) (ord : α → Nat) (hn : n < 2305843009213693952) (f : Nat → α) (W : World) (hR : R f W) (ho : ∀ i j, i < j → j < n → ord (f i) < ord (f j)) :
    Calls Try.prog 69 #[.agg #[.func (.func g) #[] lb, .func (.func sw) #[] sb], .int .i64 n] W fun e w' => e = .returned (.tuple #[]) ∧ ∃ f', R f' w' ∧ Sws 0 n f f' ∧ Sor key ord f' 0 n ∧ Kp blk W w' := by
  have hblk := S.hb f W hR
  have HB := Bx.new W (.func (.func g) #[] lb) (.func (.func sw) #[] sb) 112
  have HK := (Kp.refl blk W).alloc (.cells #[.func (.func g) #[] lb, .func (.func sw) #[] sb] 112)
  have HR := S.alloc f W (.cells #[.func (.func g) #[] lb, .func (.func sw) #[] sb] 112) hR
  have hsz : (W.alloc (.cells #[.func (.func g) #[] lb, .func (.func sw) #[] sb] 112)).heap.size = W.heap.size + 1 := by simp
  have HI := Lib.hid (fun f W a b => ins_any S ord (by omega) f W a b)
  have HM := Lib.hid (fun f W a m b => merge_any S ord (by omega) (b - a) f W a m b (Nat.le_refl _))
  have HF0 := Lib.hid (Fst.start (key := key) (B := 20) ho)
  clear ho
  go_enter Try.func69, Try.ntmps69
  go_wp2
  generalize hw1 : W.alloc (.cells #[.func (.func g) #[] lb, .func (.func sw) #[] sb] 112) = w1 at *
  have HSZ := Lib.hid hsz; have HW1 := Lib.hid hw1
  clear hsz hw1
  go_loopw [5, 6] (fun va vb wr => ∃ (A t : Nat) (q : Nat → α), va = .int .i64 A ∧ vb = .int .i64 (A + 20 : Nat) ∧ Hid (A = 20 * t) ∧ A ≤ n ∧ R q wr ∧ Hid (Fst key ord 20 n t q) ∧ Hid (Sws 0 n f q) ∧ Bx W.heap.size (.func (.func g) #[] lb) (.func (.func sw) #[] sb) wr ∧ Kp blk w1 wr) (fun va _ _ => n + 20 - (intOf va).toNat)
  case atStart => exact ⟨0, 0, f, rfl, rfl, Lib.hid rfl, Nat.zero_le _, HR, HF0, Lib.hid .refl, HB, Kp.refl _ _⟩
  case round =>
    obtain ⟨A, t, q, rfl, rfl, hA, hAn, hRq, hfs, hsq, hBq, hKq⟩ := hrel
    have c0 := hBq.c0
    have c1 := hBq.c1
    have HSZ' : W.heap.size < wr.heap.size := by have := hKq.size; have := HSZ.out; omega
    by_cases hlt : A + 20 ≤ n
    · have hc := HI.out q wr A (A + 20) hRq (by omega) hlt (fun i j k1 k2 k3 => hfs.out.rest i j (by have := hA.out; omega) k2 (by omega))
      clear HR HB
      go_wp2_with fail
      refine hc.mono ?_
      rintro e w2 ⟨rfl, f2, hR2, hs2, ho2, hK2⟩
      have hB2 := hBq.keep hK2 HSZ' (by omega)
      go_wp2
      refine ⟨⟨A + 20, t + 1, f2, rfl, by simp, Lib.hid (by have := hA.out; omega), hlt, hR2, ?_, Lib.hid (hsq.out.trans (hs2.mono (Nat.zero_le _) hlt)), hB2, hKq.trans hK2⟩, by simp [intOf]; omega⟩
      have e := hA.out
      rw [e] at hs2 ho2 hlt
      exact Lib.hid (hfs.out.step hlt hs2 ho2)
    · have hc := HI.out q wr A n hRq hAn (Nat.le_refl _) (fun i j k1 k2 k3 => hfs.out.rest i j (by have := hA.out; omega) k2 (by omega))
      clear HR HB
      go_wp2_with fail
      refine hc.mono ?_
      rintro e w2 ⟨rfl, f2, hR2, hs2, ho2, hK2⟩
      have hB2 := hBq.keep hK2 HSZ' (by omega)
      have hbl : Hid (Blo key ord 20 n f2) := by
        have e := hA.out
        rw [e] at hs2 ho2 hAn hlt
        exact Lib.hid (hfs.out.all hAn (by omega) hs2 ho2)
      have hs02 := Lib.hid (hsq.out.trans (hs2.mono (Nat.zero_le _) (Nat.le_refl _)))
      have hK02 := hKq.trans hK2
      clear hfs hsq hs2 ho2 hBq hKq hK2 hRq hc c0 c1 HSZ' hA hlt hAn
      go_wp2
      go_loopw [4] (fun vB wr => ∃ (B : Nat) (q : Nat → α), vB = .int .i64 B ∧ 20 ≤ B ∧ R q wr ∧ Hid (Blo key ord B n q) ∧ Hid (Sws 0 n f q) ∧ Bx W.heap.size (.func (.func g) #[] lb) (.func (.func sw) #[] sb) wr ∧ Kp blk w1 wr) (fun vB _ => n - (intOf vB).toNat)
      case atStart => exact ⟨20, f2, rfl, Nat.le_refl _, hR2, hbl, hs02, hB2, hK02⟩
      case round =>
        obtain ⟨B, q, rfl, hB20, hRq, hbq, hsq, hBq, hKq⟩ := hrel
        clear hR2 hbl hs02 hB2 hK02
        by_cases hlt : B < n
        · go_wp2
          go_loopw [5, 6] (fun va vb w3 => ∃ (A s : Nat) (q3 : Nat → α), va = .int .i64 A ∧ vb = .int .i64 (A + 2 * B : Nat) ∧ Hid (A = 2 * B * s) ∧ A ≤ n ∧ R q3 w3 ∧ Hid (Mer key ord B n s q3) ∧ Hid (Sws 0 n f q3) ∧ Bx W.heap.size (.func (.func g) #[] lb) (.func (.func sw) #[] sb) w3 ∧ Kp blk w1 w3) (fun va _ _ => n + 2 * B - (intOf va).toNat)
          case atStart => exact ⟨0, 0, q, rfl, by simp, Lib.hid (by simp), Nat.zero_le _, hRq, Lib.hid hbq.out.start, hsq, hBq, hKq⟩
          case round =>
            obtain ⟨A, s, q3, rfl, rfl, hA, hAn, hR3, hmr, hs3, hB3, hK3⟩ := hrel
            have c0 := hB3.c0
            have c1 := hB3.c1
            have HSZ3 : W.heap.size < wr.heap.size := by have := hK3.size; have := HSZ.out; omega
            clear hRq hbq hsq hBq hKq
            by_cases hl2 : A + 2 * B ≤ n
            · obtain ⟨k1, k2, k3⟩ := hmr.out.asks (A + 2 * B) (by have := hA.out; omega) (by have := hA.out; omega) hl2 (.inr (by have := hA.out; omega))
              rw [← hA.out] at k1 k2 k3
              have hc := HM.out q3 wr A (A + B) (A + 2 * B) hR3 (by omega) (by omega) hl2 k1 k2 k3
              clear k1 k2 k3 hR3
              go_wp2_with fail
              refine hc.mono ?_
              rintro e w4 ⟨rfl, f4, hR4, hs4, ho4, hK4⟩
              have hB4 := hB3.keep hK4 HSZ3 (by omega)
              go_wp2
              refine ⟨⟨A + 2 * B, s + 1, f4, rfl, by congr 1 <;> omega, Lib.hid (by have := hA.out; rw [Nat.mul_add, Nat.mul_one]; omega), hl2, hR4, ?_, Lib.hid (hs3.out.trans (hs4.mono (Nat.zero_le _) hl2)), hB4, hK3.trans hK4⟩, by simp [intOf]; omega⟩
              have e := hA.out
              rw [e] at hs4 ho4 hl2
              exact Lib.hid (hmr.out.step hl2 hs4 ho4)
            · by_cases hm : A + B < n
              · obtain ⟨k1, k2, k3⟩ := hmr.out.asks n (by have := hA.out; omega) (by have := hA.out; omega) (Nat.le_refl _) (.inl rfl)
                rw [← hA.out] at k1 k2 k3
                have hc := HM.out q3 wr A (A + B) n hR3 (by omega) hm (Nat.le_refl _) k1 k2 k3
                clear k1 k2 k3 hR3
                go_wp2_with fail
                refine hc.mono ?_
                rintro e w4 ⟨rfl, f4, hR4, hs4, ho4, hK4⟩
                have hB4 := hB3.keep hK4 HSZ3 (by omega)
                go_wp2
                refine ⟨⟨2 * B, f4, by congr 1 <;> omega, by omega, hR4, ?_, Lib.hid (hs3.out.trans (hs4.mono (Nat.zero_le _) (Nat.le_refl _))), hB4, hK3.trans hK4⟩, by simp [intOf]; omega⟩
                have e := hA.out
                rw [e] at hs4 ho4 hl2 hAn
                exact Lib.hid (hmr.out.all hAn (by omega) hs4 ho4)
              · go_wp2
                refine ⟨⟨2 * B, q3, by congr 1 <;> omega, by omega, hR3, ?_, hs3, hB3, hK3⟩, by simp [intOf]; omega⟩
                have e := hA.out
                rw [e] at hl2 hm hAn
                exact Lib.hid (hmr.out.all hAn (by omega) .refl (hmr.out.last (by omega)))
        · go_wp2
          first | go_end0 | refine bodyPost_ret (results_none rfl _ _ _) rfl ?_
          exact ⟨rfl, q, hRq, hsq.out, hbq.out.done (by omega), HK.trans hKq⟩
end
end Go.Proofs.Ythecibabpcfoaaa
