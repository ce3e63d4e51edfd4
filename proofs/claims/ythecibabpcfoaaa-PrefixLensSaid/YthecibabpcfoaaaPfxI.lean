/- prefix: Codes, its walk. -/
import Derived.Test.YthecibabpcfoaaaPfxH
namespace Go.Proofs.Ythecibabpcfoaaa
open Go.RowKit
set_option maxRecDepth 100000
set_option maxHeartbeats 1600000

theorem shl_in {a d : Nat} (h : a * 2 ^ d ≤ 16777216) : IntKind.u64.wrap ((a : Int) * (2 : Int) ^ d) = ((a * 2 ^ d : Nat) : Int) := by
  have e : (a : Int) * (2 : Int) ^ d = ((a * 2 ^ d : Nat) : Int) := by rw [Int.natCast_mul, pow_cast]
  rw [e]; exact IntWalk.u64_in _ (by omega)

theorem codes_bad {w : World} {B : Nat} {v : Value} {l : List Int} (hS : Sli w B v (ci l)) (hf : fullB l = false) :
    Calls Try.prog 12 #[v] w fun e w' => e = .returned (.tuple #[.slice none 0 0, .int .i64 1]) ∧ w = w' := by
  have hc := full_any hS
  rw [hf] at hc
  obtain ⟨A, c, rfl, hlc, hcm⟩ := hS.formI
  go_enter Try.func12, Try.ntmps12
  go_wp2_with fail
  refine hc.mono ?_
  rintro e w1 ⟨rfl, rfl⟩
  go_wp2
  go_ret2
  exact ⟨rfl, rfl⟩

theorem codes_any {w : World} {B : Nat} {v : Value} {ls ss : List Nat} (hS : Sli w B v (ci (ni ls))) (hB : B ≤ w.heap.size) (hf : Fulls ls ss) :
    Calls Try.prog 12 #[v] w fun e w' => ∃ v' row, e = .returned (.tuple #[v', .int .i64 0]) ∧ Own w' w.heap.size 40 v' (cu64 row) ∧ Cod ls ss row ∧ Below w.heap.size w w' := by
  have hc := full_any hS
  rw [full_iff.2 ⟨⟨hf.len1, hf.len2⟩, hf.full⟩] at hc
  have hl1 := hf.len1; have hl2 := hf.len2
  have HASC := Lib.hid (fun (w1 : World) (h : Sli w1 B v (ci (ni ls))) (hb : B ≤ w1.heap.size) => asc_any h hb (by omega) hf.asc)
  obtain ⟨A, c, rfl, hlc, hcm⟩ := hS.formI
  rw [ni_len] at hlc
  obtain ⟨n, hnl⟩ : ∃ n, ls.length = n := ⟨_, rfl⟩
  obtain ⟨u, hul⟩ : ∃ u, ss.length = u := ⟨_, rfl⟩
  have hun := hf.ssLen
  rw [hnl] at hlc hl1 hl2 hun
  rw [hul] at hun
  obtain ⟨S0, hs0⟩ : ∃ S0, w.heap.size = S0 := ⟨_, rfl⟩
  rw [hs0] at hB
  have HNL := Lib.hid hnl; have HUL := Lib.hid hul; have HS0 := Lib.hid hs0; have HF := Lib.hid hf
  have hSl : Sli w B (.slice A n c) (ci (ni ls)) := by rw [ni_len, hnl] at hS; exact hS
  rw [ni_len, hnl] at hc
  rw [ni_len, hnl] at HASC
  clear hnl hul hf hS
  rw [ni_len, HNL.out]
  go_enter Try.func12, Try.ntmps12
  go_wp2_with fail
  refine hc.mono ?_
  rintro e w1 ⟨rfl, hw1⟩
  subst hw1
  have HSL := Lib.hid hSl
  go_wp2_with (at_make; refine wpl_make Try.underlying24 info_u64 rfl (by decide) (by omega) rfl rfl rfl rfl (n := n) (h := ?_); intro w2 ho2 hb2; refine cut_here ?_)
  rw [cu64_rep, hs0] at ho2
  rw [hs0] at hb2
  unfold CutHere
  clear hc hSl
  have hb2' := hb2
  have hsz2 : S0 < w2.heap.size := by
    have := (ho2.lt S0 (by simp [Value.ownBlock])).2; exact this
  have HC2 := HASC.out w2 (HSL.out.below (hb2.mono hB)) (by omega)
  go_wp2_with fail
  refine HC2.mono ?_
  rintro e w3 ⟨v3, rfl, ho3, hb3⟩
  obtain ⟨A3, c3, rfl, hlc3, hcm3⟩ := ho3.formI
  rw [ni_len, HUL.out] at ho3 hlc3
  have ho2' := ho2.kept hb3
  have hb03 : Below S0 w w3 := hb2.trans (hb3.mono (by omega))
  have HO3 := Lib.hid ho3
  obtain ⟨ms, hms⟩ : ∃ ms, ss.map (atN ls) = ms := ⟨_, rfl⟩
  have HMS := Lib.hid hms
  clear hms
  have hsz3 := hb3.size
  clear hs0 hb2 hb2' HC2 ho3
  rw [ni_len, HUL.out]
  go_wp2
  go_loopw [5, 6, 18] (fun vn vl vi wr => ∃ (k : Nat) (row : List Nat), vi = .int .i64 k ∧ k ≤ u ∧ vl = .int .i64 (lenK ms k) ∧ vn = .int .u64 (nextK ms k) ∧ Own wr S0 40 (.slice (some ⟨S0, 0, none⟩) n n) (cu64 row) ∧ row.length = n ∧ Hid (∀ j, j < k → atN row (atN ss j) = atN (codesC ms) j) ∧ Hid (∀ s, s ∉ ss.take k → atN row s = 0) ∧ w3.grownBy wr (some S0)) (fun _ _ vi _ => u - (intOf vi).toNat)
  case atStart => exact ⟨0, List.replicate n 0, rfl, Nat.zero_le _, rfl, rfl, ho2', by simp, Lib.hid fun j hj => by omega, Lib.hid fun s _ => atN_rep n s, rfl, rfl, rfl, Nat.le_refl _, fun _ _ _ => rfl⟩
  case round =>
    obtain ⟨k, row, rfl, hk, rfl, rfl, hor, hrl, hw, hz, hgr⟩ := hrel
    by_cases hlt : k < u
    · have hks : k < ss.length := by rw [HUL.out]; exact hlt
      have hb0r : Below S0 w wr := hb03.trans (below_of_only hgr (Nat.le_refl _) (by omega))
      obtain ⟨cs, hcs⟩ := ho2'.blk (k := S0) rfl
      have ho3r := HO3.out.far hcs (by decide) hgr
      obtain ⟨b3, o3, rfl, _, k1⟩ := ho3r.sli.atI (i := k) (by rw [ni_len]; exact hks)
      rw [ni_at hks] at k1
      have hsl := HF.out.lt hks
      rw [HNL.out] at hsl
      obtain ⟨b, o, rfl, _, k2⟩ := (HSL.out.below (hb0r.mono hB)).atI (i := atN ss k) (by rw [ni_len, HNL.out]; exact hsl)
      rw [ni_at (by rw [HNL.out]; exact hsl)] at k2
      have hl24 := HF.out.le (atN ss k)
      have hlk := HF.out.lenK hks
      have hnk := HF.out.nextK (Nat.le_of_lt hks)
      have hcn := codesC_next (ss.map (atN ls)) k (by simpa using hks)
      have hsm := HF.out.small hks
      rw [map_at hks] at hcn
      rw [HMS.out] at hlk hnk hcn hsm
      have hmk : atN ms k = atN ls (atN ss k) := by rw [← HMS.out, map_at hks]
      have hss := atN_get hks
      obtain ⟨g4, c4, hv4, _, _, _, hcell, hfro, _⟩ := hor.at_ (by rw [cu64_len]; omega)
      injection hv4 with hv4 _ _; injection hv4 with hv4; injection hv4 with hv4 _ _; subst hv4
      obtain ⟨s, hs⟩ : ∃ s, atN ss k = s := ⟨_, rfl⟩
      rw [hs] at hsl k1 k2 hl24 hlk hcn hmk hss
      obtain ⟨x, hx⟩ : ∃ x, atN ls s = x := ⟨_, rfl⟩
      rw [hx] at k2 hl24 hlk hcn hmk
      have hck := hcell s (by rw [cu64_len]; omega)
      rw [show (cu64 row)[s]? = some (.int .u64 (atN row s : Nat)) by unfold cu64; rw [List.getElem?_map, List.getElem?_eq_getElem (by omega), atN_get (by omega)]; rfl] at hck
      obtain ⟨W, hW⟩ : ∃ W, atN (codesC ms) k = W := ⟨_, rfl⟩
      obtain ⟨l0, hl0⟩ : ∃ l0, lenK ms k = l0 := ⟨_, rfl⟩
      obtain ⟨nx, hnx⟩ : ∃ nx, nextK ms k = nx := ⟨_, rfl⟩
      rw [hW] at hcn hsm; rw [hl0] at hlk hcn; rw [hnx] at hnk hcn
      obtain ⟨d, hd⟩ : ∃ d : Nat, (x : Int) - (l0 : Int) = (d : Nat) := ⟨x - l0, by omega⟩
      have hdx : x - l0 = d := by omega
      rw [hdx] at hcn
      have hshl := shl_in (a := nx) (d := d) (by rw [← hcn]; omega)
      rw [← hcn] at hshl
      have hset : ((cu64 row).set s (.int .u64 (W : Nat))) = cu64 (row.set s W) := cu64_set row s W
      have hput := hor.put s (.int .u64 (W : Nat))
      rw [hset] at hput
      have hnd : ∀ j, j < k → atN ss j ≠ s := fun j hj e => by
        have h1 := atN_get (l := ss) (k := j) (by omega)
        rw [h1] at e
        have h2 := List.pairwise_iff_getElem.1 HF.out.asc.2 j k (by omega) hks hj
        rw [e, ← hss] at h2
        omega
      rw [hl0, hnx]
      have HCN := Lib.hid hcn; have HD := Lib.hid hdx; have HND := Lib.hid hnd; have HPUT := Lib.hid hput; have HMK := Lib.hid hmk; have HWW := Lib.hid hW; have HSS := Lib.hid hss; have HSE := Lib.hid hs
      have hgs := grown_trans hgr (grown_set wr S0 s (.int .u64 (W : Nat)))
      have HGS := Lib.hid hgs
      clear hcn hdx hnd hput hmk hW hss hs hx hl0 hnx hset hcell hor hgs hcs ho3r hsm
      have htk : ∀ y, y ∉ ss.take (k + 1) → y ∉ ss.take k ∧ y ≠ s := fun y hy => by
        have e := List.take_succ_eq_append_getElem hks
        rw [e] at hy
        rw [HSS.out]
        simp only [List.mem_append, List.mem_singleton, not_or] at hy
        exact hy
      have HTK := Lib.hid htk
      clear htk
      go_wp2
      refine ⟨⟨k + 1, row.set s W, rfl, by omega, ?_, ?_, HPUT.out, by simp [hrl], ?_, ?_, HGS.out⟩, by simp [intOf]; omega⟩
      · show _ = Value.int .i64 ((atN ms k : Nat) : Int)
        rw [HMK.out]
      · show _ = Value.int .u64 ((atN (codesC ms) k + 1 : Nat) : Int)
        have hsm := HF.out.small hks
        rw [HMS.out, HWW.out] at hsm
        rw [HWW.out]
        simp
        exact IntWalk.u64_in _ (by omega)
      · refine Lib.hid fun j hj => ?_
        rw [atN_set (by omega)]
        rcases Nat.lt_or_eq_of_le (Nat.le_of_lt_succ hj) with h | rfl
        · rw [if_neg (HND.out j h)]; exact hw.out j h
        · rw [if_pos HSE.out, HWW.out]
      · refine Lib.hid fun y hy => ?_
        obtain ⟨h1, h2⟩ := HTK.out y hy
        rw [atN_set (by omega), if_neg h2]
        exact hz.out y h1
    · have : k = u := by omega
      subst this
      have hb0r : Below S0 w wr := hb03.trans (below_of_only hgr (Nat.le_refl _) (by omega))
      have HB0 := Lib.hid hb0r
      clear hb0r
      go_wp2
      go_ret2
      rw [HS0.out]
      refine ⟨_, row, rfl, hor, ⟨by rw [HNL.out, hrl], fun j hj => ?_, fun s hs => ?_⟩, HB0.out⟩
      · rw [HMS.out]; exact hw.out j (by rw [← HUL.out]; exact hj)
      · refine hz.out s fun h => hs (List.mem_of_mem_take h)
end Go.Proofs.Ythecibabpcfoaaa
