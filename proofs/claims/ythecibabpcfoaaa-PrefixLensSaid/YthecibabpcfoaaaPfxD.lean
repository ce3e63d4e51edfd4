/- prefix: Put. -/
import Derived.Test.YthecibabpcfoaaaPfxI
import Derived.Test.YthecibabpcfoaaaBitW
import Derived.Test.YthecibabpcfoaaaBitK
import Derived.Deep.RegionWith
namespace Go.Proofs.Ythecibabpcfoaaa
open Go.RowKit
set_option maxRecDepth 100000
set_option maxHeartbeats 1600000

/-- A row that stays while the object at block g, whose row is v, is written. -/
def StayP (w : World) (g : Nat) (v va : Value) (xs : List Value) : Prop := ∀ w' v', Mov w w' g v v' → ∃ B, Sli w' B va xs ∧ B ≤ w'.heap.size
theorem StayP.now {w : World} {g : Nat} {v va : Value} {xs : List Value} (h : StayP w g v va xs) : ∃ B, Sli w B va xs ∧ B ≤ w.heap.size := h w v (Mov.refl _ _ _)
theorem StayP.on {w w1 : World} {g : Nat} {v v1 va : Value} {xs : List Value} (h : StayP w g v va xs) (hm : Mov w w1 g v v1) : StayP w1 g v1 va xs := fun _ _ h2 => h _ _ (hm.trans h2)
theorem StayP.of_sli {w : World} {B g : Nat} {v va : Value} {xs : List Value} (h : Sli w B va xs) (hg : B ≤ g) (hv : ∀ k, v.ownBlock = some k → B ≤ k) (hB : B ≤ w.heap.size) : StayP w g v va xs :=
  fun _ _ hm => ⟨B, h.below (hm.below hg hv hB), Nat.le_trans hB hm.size⟩

/-- The words of symbols. -/
def putS (row ls : List Nat) (sy : List Nat) : List Bool := sy.flatMap fun s => msb (atN row s) (atN ls s)
theorem putS_len {row ls : List Nat} (h : ∀ s, atN ls s ≤ 24) : ∀ sy : List Nat, (putS row ls sy).length ≤ 24 * sy.length
  | [] => by simp [putS]
  | s :: sy => by
    have ih := putS_len (row := row) h sy
    have := h s
    unfold putS at ih ⊢
    rw [List.flatMap_cons, List.length_append, msb_len, List.length_cons]; omega
theorem putS_snoc {row ls sy : List Nat} {j : Nat} (h : j < sy.length) : putS row ls (sy.take (j + 1)) = putS row ls (sy.take j) ++ msb (atN row (atN sy j)) (atN ls (atN sy j)) := by
  unfold putS
  rw [List.take_succ_eq_append_getElem h, List.flatMap_append, atN_get h]; simp

theorem Cod.fits {ls ss row : List Nat} (hc : Cod ls ss row) (hf : Fulls ls ss) {s : Nat} (hs : s < ls.length) (hp : 0 < atN ls s) : atN row s < 2 ^ atN ls s := by
  have hm : s ∈ ss := hf.asc.1.mem_iff.2 (usedN_mem.2 ⟨hs, hp⟩)
  obtain ⟨k, hk, rfl⟩ := List.getElem_of_mem hm
  have := hc.word k hk
  rw [atN_get hk] at this
  rw [this]
  have h2 := hf.fits hk
  rw [atN_get hk] at h2
  exact h2

theorem pput_any {w : World} {base g : Nat} {v va vb : Value} {L : List Bool} {ls ss sy : List Nat} (hR : WrO w base g v L) (hSa : StayP w g v va (ci (ni ls))) (hSb : StayP w g v vb (ci (ni sy)))
    (hlen : L.length + 24 * sy.length ≤ 1099511600000) (hb : base ≤ w.heap.size) (hf : Fulls ls ss) (hgood : ∀ s ∈ sy, s < ls.length ∧ 0 < atN ls s) :
    Calls Try.prog 30 #[.pointer (some ⟨g, 0, none⟩), va, vb] w fun e w' => e = .returned (.int .i64 0) ∧ ∃ v' row, Cod ls ss row ∧ WrO w' base g v' (L ++ putS row ls sy) ∧ Mov w w' g v v' := by
  obtain ⟨B0, hS0, hB0⟩ := hSa.now
  have HC := Lib.hid (codes_any hS0 hB0 hf)
  obtain ⟨A, c, rfl, hlc, hcm⟩ := hS0.formI
  obtain ⟨B2, hS2, hB2⟩ := hSb.now
  obtain ⟨Ab, cb, rfl, hlb, hcb⟩ := hS2.formI
  clear hS0 hS2
  obtain ⟨n, hnl⟩ : ∃ n, ls.length = n := ⟨_, rfl⟩
  obtain ⟨m, hml⟩ : ∃ m, sy.length = m := ⟨_, rfl⟩
  have hn1 := hf.len1; have hn2 := hf.len2
  rw [ni_len, hnl] at hSa HC hlc ⊢
  rw [ni_len, hml] at hSb hlb ⊢
  rw [hml] at hlen
  rw [hnl] at hn1 hn2
  have h24 := fun s => hf.le s
  have HR := Lib.hid hR; have HSA := Lib.hid hSa; have HSB := Lib.hid hSb; have HF := Lib.hid hf; have HG := Lib.hid hgood; have HNL := Lib.hid hnl; have HML := Lib.hid hml; have H24 := Lib.hid h24
  clear hR hSa hSb hf hgood hnl hml h24
  go_enter Try.func30, Try.ntmps30
  go_wp2_with fail
  refine HC.out.mono ?_
  rintro e w1 ⟨vc, row, rfl, ho1, hcod, hb1⟩
  have hrl := hcod.len
  rw [HNL.out] at hrl
  obtain ⟨gc, cc, rfl, hgc, hcc1, hcc2, _⟩ := ho1.at_ (by rw [cu64_len, hrl]; omega)
  rw [cu64_len, hrl] at ho1 hcc1 ⊢
  have hm1 : Mov w w1 g v v := Mov.of_below hb1
  have hR1 := HR.out.below hb1
  obtain ⟨_, hg1, lw, how, _⟩ := hR1
  have hap : Apart v (.slice (some ⟨gc, 0, none⟩) n cc) := fun k hk => by
    obtain ⟨cs, hcs⟩ := how.blk hk
    exact ho1.ne hcs (by decide)
  have HO1 := Lib.hid ho1; have HM1 := Lib.hid hm1; have HR1 := Lib.hid (HR.out.below hb1); have HCOD := Lib.hid hcod; have HAP := Lib.hid hap; have HG1 := Lib.hid hg1
  have HSA1 := Lib.hid (HSA.out.on hm1); have HSB1 := Lib.hid (HSB.out.on hm1)
  have hs1 : base ≤ w1.heap.size := Nat.le_trans hb hb1.size
  clear ho1 hm1 hcod hap hg1 how hb1 hrl HC
  go_wp2_with fail
  go_loopw [23] (fun vi wr => ∃ j : Nat, j ≤ m ∧ vi = .int .i64 j ∧ Hid (w1 = wr)) (fun vi _ => m - (intOf vi).toNat)
  case atStart => exact ⟨0, Nat.zero_le _, rfl, Lib.hid rfl⟩
  case round =>
    obtain ⟨j, hj, rfl, hw⟩ := hrel
    replace hw := hw.out
    subst hw
    by_cases hlt : j < m
    · have hjl : j < sy.length := by rw [HML.out]; exact hlt
      obtain ⟨Bb, hSb1, _⟩ := HSB1.out.now
      obtain ⟨b, o, rfl, hbB, r1⟩ := hSb1.atI (i := j) (by rw [ni_len]; exact hjl)
      rw [ni_at hjl] at r1
      have hgd := HG.out _ (List.getElem_mem hjl)
      rw [← atN_get hjl, HNL.out] at hgd
      obtain ⟨Ba, hSa1, _⟩ := HSA1.out.now
      obtain ⟨b2, o2, rfl, hbB2, r2⟩ := hSa1.atI (i := atN sy j) (by rw [ni_len, HNL.out]; exact hgd.1)
      rw [ni_at (by rw [HNL.out]; exact hgd.1)] at r2
      obtain ⟨s, hs⟩ : ∃ s, atN sy j = s := ⟨_, rfl⟩
      rw [hs] at r1 r2 hgd
      obtain ⟨y, hy⟩ : ∃ y, atN ls s = y := ⟨_, rfl⟩
      rw [hy] at r2 hgd
      have hy0 : (((y : Nat) : Int) == 0) = false := by simp; omega
      obtain ⟨hgd1, hgd2⟩ := hgd
      clear hSb1 hSa1 hs hy
      go_wp2_with fail
      all_goals exact ⟨⟨j + 1, by omega, by simp, Lib.hid trivial⟩, by simp [intOf]; omega⟩
    · have : j = m := by omega
      subst this
      go_wp2_with fail
      go_loopw [45] (fun vi wr => ∃ (i : Nat) (v1 : Value), i ≤ j ∧ vi = .int .i64 i ∧ WrO wr base g v1 (L ++ putS row ls (sy.take i)) ∧ Mov w1 wr g v v1) (fun vi _ => j - (intOf vi).toNat)
      case atStart => exact ⟨0, v, Nat.zero_le _, rfl, by simpa [putS] using HR1.out, Mov.refl _ _ _⟩
      case round =>
        obtain ⟨i, v1, hi, rfl, hRi, hmi⟩ := hrel
        by_cases hlt2 : i < j
        · have hjl : i < sy.length := by rw [HML.out]; exact hlt2
          obtain ⟨Bb, hSb1, _⟩ := (HSB1.out.on hmi).now
          obtain ⟨b, o, rfl, hbB, r1⟩ := hSb1.atI (i := i) (by rw [ni_len]; exact hjl)
          rw [ni_at hjl] at r1
          have hgd := HG.out _ (List.getElem_mem hjl)
          rw [← atN_get hjl] at hgd
          have hfit := HCOD.out.fits HF.out hgd.1 hgd.2
          rw [HNL.out] at hgd
          obtain ⟨Ba, hSa1, _⟩ := (HSA1.out.on hmi).now
          obtain ⟨b2, o2, rfl, hbB2, r2⟩ := hSa1.atI (i := atN sy i) (by rw [ni_len, HNL.out]; exact hgd.1)
          rw [ni_at (by rw [HNL.out]; exact hgd.1)] at r2
          have hoi := HO1.out.moved hmi HG1.out (by decide) HAP.out
          obtain ⟨gc', cc', hv', _, _, _, hcell, _⟩ := hoi.at_ (by rw [cu64_len, HCOD.out.len, HNL.out]; omega)
          injection hv' with hv' hx1 hx2; clear hx1 hx2; injection hv' with hv'; injection hv' with hv' hx3 hx4; clear hx3 hx4; subst hv'
          have r3 := hcell (atN sy i) (by rw [cu64_len, HCOD.out.len, HNL.out]; exact hgd.1)
          have hrs : atN sy i < row.length := by rw [HCOD.out.len, HNL.out]; exact hgd.1
          have e3 : (cu64 row)[atN sy i]? = some (.int .u64 (atN row (atN sy i) : Nat)) := by
            rw [atN_get hrs]; simp [cu64, hrs]
          rw [e3] at r3
          have hsn := putS_snoc (row := row) (ls := ls) hjl
          have hln := putS_len (row := row) H24.out (sy.take i)
          have hl2 : (sy.take i).length ≤ i := by rw [List.length_take]; omega
          have hy24 := H24.out (atN sy i)
          have hx64 : atN row (atN sy i) < 18446744073709551616 := by
            have : 2 ^ atN ls (atN sy i) ≤ 2 ^ 24 := Nat.pow_le_pow_right (by omega) hy24
            omega
          have hwp := wput_any (w := wr.drew) (v := v1) (base := base) (g := g) (L := L ++ putS row ls (sy.take i)) hRi (by rw [List.length_append]; omega) (Nat.le_trans hs1 hmi.size) (atN row (atN sy i)) (atN ls (atN sy i)) hx64 (by omega) (by omega)
          have ew : wPut (L ++ putS row ls (sy.take i)) (atN row (atN sy i)) (atN ls (atN sy i) : Nat) = (L ++ putS row ls (sy.take (i + 1)), 0) := by
            unfold wPut
            rw [if_neg (by simp; omega), hsn, Int.toNat_natCast, List.append_assoc]
          rw [ew] at hwp
          obtain ⟨s, hs⟩ : ∃ s, atN sy i = s := ⟨_, rfl⟩
          rw [hs] at r1 r2 r3 hgd hwp
          obtain ⟨y, hy⟩ : ∃ y, atN ls s = y := ⟨_, rfl⟩
          rw [hy] at r2 hgd hwp
          obtain ⟨x, hx⟩ : ∃ x, atN row s = x := ⟨_, rfl⟩
          rw [hx] at r3 hwp
          obtain ⟨hgd1, hgd2⟩ := hgd
          have HWP := Lib.hid hwp
          clear hSb1 hSa1 hs hy hx hfit hoi hcell e3 hsn hln hl2 hy24 hx64 hwp ew hRi hrs
          go_wp2_with fail
          go_region_with (go_at_call 50; refine (HWP.out).mono ?_; rintro e w2 ⟨rfl, v2, hR2, hm2⟩)
          all_goals go_wp2
          all_goals exact ⟨⟨i + 1, v2, by omega, by simp, hR2, hmi.trans ((Mov.refl _ _ _).drew.trans hm2)⟩, by simp [intOf]; omega⟩
        · have : i = sy.length := by rw [HML.out]; omega
          subst this
          rw [List.take_length] at hRi
          go_wp2_with fail
          go_ret
          exact ⟨rfl, v1, row, HCOD.out, hRi, HM1.out.trans hmi⟩
end Go.Proofs.Ythecibabpcfoaaa
