/- parts: what is written. -/
import Derived.Test.YtohbpjehphmedaaParD
import Derived.Test.YtohbpjehphmedaaRicW
namespace Go.Proofs.Ytohbpjehphmedaa
open Go.RowKit
set_option maxRecDepth 100000
set_option maxHeartbeats 1600000

theorem twos_snoc {d : Nat} {l : List Int} {j : Nat} (h : j < l.length) : (l.take (j + 1)).flatMap (twos d) = (l.take j).flatMap (twos d) ++ twos d l[j] := by
  rw [List.take_succ_eq_append_getElem h, List.flatMap_append]; simp
theorem putPart_any {w : World} {base g : Nat} {v : Value} {L : List Bool} (hR : WrO w base g v L) (k : Int) (va : Value) (l : List Int) (hS : Stays w g v va (ci l)) (hk : kB k = true) (hw : l.all wideB = true) (hlen : L.length + 10 + 65 * l.length ≤ 1099511600000) (hb : base ≤ w.heap.size) :
    Calls Try.prog 50 #[.pointer (some ⟨g, 0, none⟩), .int .i64 k, va] w fun e w' => e = .returned (.tuple #[]) ∧ ∃ v', WrO w' base g v' (L ++ (msb k.toNat 5 ++ partBits k l)) ∧ Mov w w' g v v' := by
  have hkk := kB_iff.1 hk
  obtain ⟨m, rfl⟩ := Int.eq_ofNat_of_zero_le (by omega : 0 ≤ k)
  rw [Int.toNat_natCast]
  have hm5 : m < 2 ^ 5 := by omega
  have hum : IntKind.u64.wrap ((m : Nat) : Int) = (m : Nat) := IntWalk.u64_in _ (by omega)
  have e1 := wPut_ok L (x := m) (n := 5) (by omega) hm5
  have h1 := wput_any hR (by omega) hb m (5 : Nat) (by omega) (by omega) (by omega)
  rw [e1] at h1
  by_cases h31 : m = 31
  · subst h31
    have hpb : partBits ((31 : Nat) : Int) l = msb (widN l) 5 ++ l.flatMap (twos (widN l)) := by unfold partBits; rw [if_pos (by omega)]
    rw [hpb]
    have hd31 := widN_le hw
    have hwid := fun (w1 : World) (B : Nat) (h : Sli w1 B va (ci l)) => width_wid h (by omega)
    generalize widN l = d at *
    have hud : IntKind.u64.wrap ((d : Nat) : Int) = (d : Nat) := IntWalk.u64_in _ (by omega)
    have hmask := mask_eq (n := d) (by omega)
    have h2p : 2 ^ d ≤ 2147483648 := Nat.pow_le_pow_right (n := 2) (by omega) hd31
    have h2p0 := Nat.two_pow_pos d
    obtain ⟨M, hM⟩ : ∃ M, 2 ^ d - 1 = M := ⟨_, rfl⟩
    rw [hM] at hmask
    have hand := fun x : Int => u64_mask d (by omega) (u64I x)
    rw [hM] at hand
    have hl31 : (L ++ msb 31 5).length ≤ 1099511600000 := by rw [List.length_append, msb_len]; omega
    have hpre : L ++ (msb 31 5 ++ (msb d 5 ++ l.flatMap (twos d))) = ((L ++ msb 31 5) ++ msb d 5) ++ l.flatMap (twos d) := by simp only [List.append_assoc]
    rw [hpre]
    have hl2 : ((L ++ msb 31 5) ++ msb d 5).length + 65 * l.length ≤ 1099511600000 := by rw [List.length_append, List.length_append, msb_len, msb_len]; omega
    have e2 := wPut_ok (L ++ msb 31 5) (x := d) (n := 5) (by omega) (by omega)
    obtain ⟨n, hnl⟩ : ∃ n, l.length = n := ⟨_, rfl⟩
    have H1 := Lib.hid h1; have E2 := Lib.hid e2; have HAND := Lib.hid hand; have HS := Lib.hid hS; have HWID := Lib.hid hwid; have HNL := Lib.hid hnl; have H2P := Lib.hid (And.intro h2p h2p0)
    rw [hnl] at hlen hl2
    clear h1 e1 e2 hand hwid hpb hpre hM hnl hS hm5 hkk hk hw h2p h2p0
    obtain ⟨B0, hS0⟩ := HS.out.now
    obtain ⟨A, c, rfl, hlc, hcm⟩ := hS0.formI
    rw [HNL.out] at hlc
    clear hS0
    go_enter Try.func50, Try.ntmps50
    go_wp2_with fail
    refine H1.out.mono ?_
    rintro e w1 ⟨rfl, v1, hR1, hm1⟩
    have HS1 := Lib.hid (HS.out.on hm1)
    obtain ⟨B1, hS1⟩ := HS1.out.now
    go_wp2_with fail
    refine (HWID.out w1 B1 hS1).mono ?_
    rintro e w2 ⟨rfl, rfl⟩
    have hb1 := Nat.le_trans hb hm1.size
    have HP2 := Lib.hid (wput_any hR1 (by omega) hb1 d (5 : Nat) (by omega) (by omega) (by omega))
    rw [E2.out] at HP2
    clear hS1
    go_wp2_with fail
    refine HP2.out.mono ?_
    rintro e w2 ⟨rfl, v2, hR2, hm2⟩
    have HS2 := Lib.hid (HS1.out.on hm2)
    have hm02 := hm1.trans hm2
    have hb2 := Nat.le_trans hb1 hm2.size
    obtain ⟨L2, hL2⟩ : ∃ L2, (L ++ msb 31 5) ++ msb d 5 = L2 := ⟨_, rfl⟩
    rw [hL2] at hR2 hl2
    have HL2 := Lib.hid hL2
    clear hL2
    clear hm1 hm2 hR1 HP2 H1 HS1 hb1
    rw [HNL.out]
    go_wp2
    go_loopw [31] (fun ii wr => ∃ (j : Nat) (v3 : Value), j ≤ n ∧ ii = .int .i64 j ∧ WrO wr base g v3 (L2 ++ (l.take j).flatMap (twos d)) ∧ Mov w2 wr g v2 v3) (fun ii _ => n - (intOf ii).toNat)
    case atStart => exact ⟨0, v2, Nat.zero_le _, rfl, by simpa using hR2, Mov.refl _ _ _⟩
    case round =>
      obtain ⟨j, v3, hj, rfl, hR3, hm3⟩ := hrel
      by_cases hlt : j < n
      · have hjl : j < l.length := by rw [HNL.out]; exact hlt
        obtain ⟨B3, hS3⟩ := HS2.out _ _ hm3
        obtain ⟨b, o, rfl, hbB, hcell⟩ := hS3.atI hjl
        have hsn := twos_snoc (d := d) hjl
        have htl := twos_len d (l.take j)
        rw [List.length_take, Nat.min_eq_left (by omega)] at htl
        have hjd : j * d ≤ n * 31 := Nat.mul_le_mul hj hd31
        have ha := HAND.out l[j]
        rw [← u64I_cast] at ha
        have hV : u64I l[j] % 2 ^ d < 2 ^ d := Nat.mod_lt _ H2P.out.2
        have e3 := wPut_ok (L2 ++ (l.take j).flatMap (twos d)) (x := u64I l[j] % 2 ^ d) (n := d) (by omega) hV
        rw [msb_mod, show msb (u64I l[j]) d = twos d l[j] from rfl, List.append_assoc, ← hsn] at e3
        have h2p := H2P.out
        have HP3 := Lib.hid (wput_any hR3 (by rw [List.length_append]; omega) (Nat.le_trans hb2 hm3.size) (u64I l[j] % 2 ^ d) (d : Nat) (by omega) (by omega) (by omega))
        rw [e3] at HP3
        generalize u64I l[j] % 2 ^ d = V at *
        generalize l[j] = x at *
        clear e3 hsn htl hS3 hjl hV h2p hR3
        go_wp2_with fail
        refine HP3.out.mono ?_
        rintro e w4 ⟨rfl, v4, hR4, hm4⟩
        go_wp2
        exact ⟨⟨j + 1, v4, by omega, by simp, hR4, hm3.trans hm4⟩, by simp [intOf]; omega⟩
      · have : j = l.length := by rw [HNL.out]; omega
        subst this
        rw [List.take_length] at hR3
        go_wp2
        first | go_end0 | refine bodyPost_ret (results_none rfl _ _ _) rfl ?_
        exact ⟨rfl, v3, by rw [HL2.out]; exact hR3, hm02.trans hm3⟩
  · have hpk : paramB (m : Int) = true := by rw [paramB_iff]; omega
    have hpb : partBits (m : Int) l = codes m l := by unfold partBits; rw [if_neg (by omega), Int.toNat_natCast]
    rw [hpb]
    have hne : ((m : Int) != 31) = true := by simp only [bne_iff_ne, ne_eq]; omega
    have hr : putR m l (L ++ msb m 5) = (L ++ (msb m 5 ++ codes m l), 0) := by unfold putR; rw [if_pos ⟨hpk, hw⟩, Int.toNat_natCast, List.append_assoc]
    have HR := Lib.hid hr; have H1 := Lib.hid h1; have HS := Lib.hid hS
    have hl31 : (L ++ msb m 5).length + 65 * l.length ≤ 1099511600000 := by rw [List.length_append, msb_len]; omega
    obtain ⟨B0, hS0⟩ := hS.now
    obtain ⟨A, c, rfl, hlc, hcm⟩ := hS0.formI
    clear hr h1 hS hpb hpk h31 hkk e1 hk hw hm5 hS0
    go_enter Try.func50, Try.ntmps50
    go_wp2_with fail
    refine H1.out.mono ?_
    rintro e w1 ⟨rfl, v1, hR1, hm1⟩
    have HP2 := Lib.hid (rput_any hR1 m _ l (HS.out.on hm1) hl31 (Nat.le_trans hb hm1.size))
    rw [HR.out] at HP2
    go_wp2_with fail
    refine HP2.out.mono ?_
    rintro e w2 ⟨rfl, v2, hR2, hm2⟩
    go_wp2
    first | go_end0 | refine bodyPost_ret (results_none rfl _ _ _) rfl ?_
    exact ⟨rfl, v2, hR2, hm1.trans hm2⟩
end Go.Proofs.Ytohbpjehphmedaa
