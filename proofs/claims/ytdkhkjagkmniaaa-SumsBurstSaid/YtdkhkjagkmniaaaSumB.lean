/- 'turned', SumsBurst. -/
import Derived.Test.YtdkhkjagkmniaaaSumZ
import Derived.Test.YtdkhkjagkmniaaaFoot
namespace Go.Proofs.Ytdkhkjagkmniaaa
open Go.RowKit
set_option maxRecDepth 1000000
set_option maxHeartbeats 1000000

def pos (h : Bool) (r : Nat) : Nat := if h = true then 7 - r else r
theorem pos_lt (h : Bool) {r : Nat} (hr : r < 8) : pos h r < 8 := by unfold pos; split <;> omega
theorem bt_set (h : Bool) (m : List Nat) (p q : Nat) (hp : p < 8 * m.length) : bt h (m.set (p / 8) (m.getD (p / 8) 0 ^^^ 2 ^ pos h (p % 8))) q = (bt h m q != decide (q = p)) := by
  unfold bt
  rw [List.getD_eq_getElem?_getD, List.getElem?_set]
  by_cases he : p / 8 = q / 8
  · rw [if_pos he, if_pos (by omega)]
    simp only [Option.getD_some]
    rw [Nat.testBit_xor, Nat.testBit_two_pow, ← he]
    have : (pos h (p % 8) = if h = true then 7 - q % 8 else q % 8) ↔ q = p := by
      unfold pos
      split <;> omega
    rw [decide_eq_decide.2 this]
  · rw [if_neg he, ← List.getD_eq_getElem?_getD]
    have : ¬ q = p := fun e => he (by rw [e])
    simp [this]

/-- What 'turned' has done behind i bits. -/
def Turn (h : Bool) (l : List Nat) (k y i : Nat) (m : List Nat) (x : Bool) : Prop :=
  m.length = l.length ∧ (∀ c ∈ m, c < 256) ∧ (∀ p, p < 8 * l.length → bt h m p = (bt h l p != (decide (k ≤ p ∧ p < k + i) && y.testBit (p - k)))) ∧ (x = true ↔ ∃ j, j < i ∧ y.testBit j = true)
theorem Turn.start (h : Bool) (l : List Nat) (k y : Nat) (hx : ∀ c ∈ l, c < 256) : Turn h l k y 0 l false :=
  ⟨rfl, hx, fun p _ => by rw [decide_eq_false (by omega)]; simp, by simp⟩
theorem win {k i p : Nat} (he : ¬ p = k + i) : decide (k ≤ p ∧ p < k + (i + 1)) = decide (k ≤ p ∧ p < k + i) := by
  rw [decide_eq_decide]; omega
theorem Turn.none {h : Bool} {l m : List Nat} {k y i : Nat} {x : Bool} (H : Turn h l k y i m x) (hb : y.testBit i = false) : Turn h l k y (i + 1) m x := by
  obtain ⟨a, b, c, d⟩ := H
  refine ⟨a, b, fun p hp => ?_, d.trans ⟨fun ⟨j, hj, hb⟩ => ⟨j, by omega, hb⟩, fun ⟨j, hj, h2⟩ => ⟨j, ?_, h2⟩⟩⟩
  · rw [c p hp]
    by_cases he : p = k + i
    · subst he
      rw [show k + i - k = i by omega, hb]; simp
    · rw [win he]
  · rcases Nat.lt_or_ge j i with h3 | h3
    · exact h3
    · have : j = i := by omega
      rw [this, hb] at h2; simp at h2
theorem Turn.one {h : Bool} {l m : List Nat} {k y i : Nat} {x : Bool} (H : Turn h l k y i m x) (hb : y.testBit i = true) (hk : k + i < 8 * l.length) :
    Turn h l k y (i + 1) (m.set ((k + i) / 8) (m.getD ((k + i) / 8) 0 ^^^ 2 ^ pos h ((k + i) % 8))) true := by
  obtain ⟨a, b, c, d⟩ := H
  have hp8 : 2 ^ pos h ((k + i) % 8) < 2 ^ 8 := Nat.pow_lt_pow_right (by omega) (pos_lt h (by omega))
  refine ⟨by simpa using a, fun z hz => ?_, fun p hp => ?_, ⟨fun _ => ⟨i, by omega, hb⟩, fun _ => rfl⟩⟩
  · rcases List.mem_or_eq_of_mem_set hz with hz | hz
    · exact b z hz
    · rw [hz]
      refine Nat.xor_lt_two_pow (n := 8) ?_ hp8
      rw [List.getD_eq_getElem?_getD, List.getElem?_eq_getElem (by omega)]
      exact b _ (List.getElem_mem _)
  · rw [bt_set h m (k + i) p (by omega), c p hp]
    by_cases he : p = k + i
    · subst he
      rw [show k + i - k = i by omega, hb, decide_eq_false (by omega : ¬ (k ≤ k + i ∧ k + i < k + i)), decide_eq_true (by omega : (k ≤ k + i ∧ k + i < k + (i + 1)))]
      simp
    · rw [decide_eq_false he, win he]
      simp
/-- What 'turned' returns. -/
def TurnedTo (h : Bool) (l : List Nat) (k y most : Nat) (m : List Nat) (x : Bool) : Prop := ∃ i, i ≤ most ∧ k + i ≤ 8 * l.length ∧ Turn h l k y i m x
theorem TurnedTo.parts {h : Bool} {l m : List Nat} {k y most : Nat} {x : Bool} (H : TurnedTo h l k y most m x) :
    m.length = l.length ∧ (∀ c ∈ m, c < 256) ∧ (∀ p, p < 8 * l.length → ¬ (k ≤ p ∧ p < k + most) → bt h m p = bt h l p) ∧ ((∀ p, p < 8 * l.length → bt h m p = bt h l p) ↔ x = false) := by
  obtain ⟨i, hi, hend, a, b, c, d⟩ := H
  refine ⟨a, b, fun p hp hout => ?_, fun hall => ?_, fun hx p hp => ?_⟩
  · rw [c p hp, decide_eq_false (by omega)]; simp
  · rw [← Bool.not_eq_true, d]
    rintro ⟨j, hj, hb⟩
    have h1 := hall (k + j) (by omega)
    rw [c _ (by omega), decide_eq_true (by omega), show k + j - k = j by omega, hb] at h1
    simp at h1
  · rw [c p hp]
    by_cases hin : k ≤ p ∧ p < k + i
    · have : y.testBit (p - k) = false := by
        rw [← Bool.not_eq_true]
        intro hb
        have := d.2 ⟨p - k, by omega, hb⟩
        rw [hx] at this; simp at this
      rw [this]; simp
    · rw [decide_eq_false hin]; simp

theorem bit32 {y t : Nat} (hy : y < 4294967296) : bits .and .u32 ((y : Int) / 2 ^ t) 1 = if y.testBit t = true then 1 else 0 := by
  have e : (y : Int) / 2 ^ t = ((y / 2 ^ t : Nat) : Int) := by simp
  have hl : y / 2 ^ t < 4294967296 := Nat.lt_of_le_of_lt (Nat.div_le_self _ _) hy
  rw [e, low32 _ hl, Nat.testBit_eq_decide_div_mod_eq]
  rcases Nat.mod_two_eq_zero_or_one (y / 2 ^ t) with h | h <;> simp [h]

theorem pow8 : ∀ s : Nat, s ≤ 7 → (2 : Int) ^ s % 256 = ((2 ^ s : Nat) : Int) ∧ 2 ^ s < 256 := by decide +kernel
def TurnPost (h : Bool) (l : List Nat) (k y most : Nat) (w : World) (e : Ending) (w' : World) : Prop :=
  ∃ v' m x, e = .returned (.tuple #[v', .bool x]) ∧ Own w' w.heap.size 5 v' (cu8 m) ∧ TurnedTo h l k y most m x ∧ Below w.heap.size w w'

theorem turned_any (v : Value) (l : List Nat) (k y most : Nat) (high : Bool) (w : World) (B : Nat) (hS : Sli w B v (cu8 l)) (hB : B ≤ w.heap.size) (hx : ∀ x ∈ l, x < 256) (hn : l.length ≤ 300) (hk : k < 8 * l.length) (hy : y < 4294967296) (hm : most ≤ 32) :
    Calls Try.prog 24 #[v, .int .i64 k, .int .u32 y, .int .i64 most, .bool high] w (TurnPost high l k y most w) := by
  obtain ⟨A, c, rfl, hlc, hcm⟩ := hS.form8
  have hroom : (cu8 l).length ≤ 8796093022208 := by rw [cu8_len]; omega
  obtain ⟨n, hnn⟩ : ∃ n, l.length = n := ⟨_, rfl⟩
  have HN := Lib.hid hnn
  have HK := Lib.hid hk
  rw [hnn] at hk hn hS ⊢
  clear hlc hcm hnn
  go_enter Try.func24, Try.ntmps24
  go_wp2_with (at_builtin; refine wpl_copy hS hB hroom Try.underlying22 info_u8 rfl (by decide) (cu8_one _) rfl rfl rfl rfl (h := ?_); intro v2 w2 ho2 hb2; obtain ⟨g, c2, rfl, hg, hc2, hm2, _⟩ := ho2.at_ (by rw [cu8_len, HN.out]; omega); rw [cu8_len, HN.out] at ho2 hc2 ⊢; refine cut_here ?_)
  unfold CutHere
  go_wp2
  go_loopw [13, 14] (fun xx ii wr => ∃ (i : Nat) (m : List Nat) (x : Bool), i ≤ most ∧ ii = .int .i64 i ∧ xx = .bool x ∧ k + i ≤ 8 * n ∧ Hid (Turn high l k y i m x) ∧ Own wr w.heap.size 5 (.slice (some ⟨g, 0, none⟩) n c2) (cu8 m) ∧ Below w.heap.size w wr) (fun _ ii _ => most - (intOf ii).toNat)
  case atStart => exact ⟨0, l, false, by omega, rfl, rfl, by omega, Turn.start _ _ _ _ hx, ho2, hb2⟩
  case round =>
    obtain ⟨i, m, x, hi, rfl, rfl, hki, hT, ho, hb⟩ := hrel
    by_cases h1 : i < most
    · obtain ⟨p, hp⟩ : ∃ p, k + i = p := ⟨_, rfl⟩
      have hpi : (k : Int) + (i : Int) = (p : Nat) := by omega
      by_cases h2 : p < 8 * n
      · have hmn : m.length = n := hT.out.1.trans HN.out
        obtain ⟨r, hr⟩ : ∃ r, p % 8 = r := ⟨_, rfl⟩
        obtain ⟨q, hq⟩ : ∃ q, p / 8 = q := ⟨_, rfl⟩
        have hri : (p : Int) % 8 = (r : Nat) := by omega
        have hqi : (p : Int) / 8 = (q : Nat) := by omega
        have hqn : q < n := by omega
        have hr7 : r ≤ 7 := by omega
        have hui : IntKind.u64.wrap ((i : Nat) : Int) = (i : Nat) := IntWalk.u64_in _ (by omega)
        have hbit := bit32 (t := i) hy
        cases hbb : y.testBit i
        · rw [hbb, if_neg (by simp)] at hbit
          have hT2 := Lib.hid (Turn.none hT.out hbb)
          have HP := Lib.hid hp
          clear hp hr hq hri hqi hbb
          go_wp2
          exact ⟨⟨i + 1, m, x, by omega, by simp, rfl, by have := HP.out; omega, hT2, ho, hb⟩, by simp [intOf]; omega⟩
        · rw [hbb, if_pos rfl] at hbit
          have hT2 := Lib.hid (Turn.one hT.out hbb (by rw [HN.out]; omega))
          have HP := Lib.hid hp
          rw [hp, hr, hq] at hT2
          obtain ⟨g2, cc, hv, hg2, _, _, hcell, hfro, hset⟩ := ho.at_ (by rw [cu8_len]; omega)
          injection hv with e1 e2 e3
          injection e1 with e1; injection e1 with e1
          subst e1; subst e3
          have hck := hcell q (by rw [cu8_len]; omega)
          have hfi := hfro q
          have hsq := hset q
          have hql : q < m.length := by omega
          rw [show (cu8 m)[q]? = some (.int .u8 (m.getD q 0 : Nat)) by simp [cu8, hql]] at hck
          have hy0 : m.getD q 0 < 256 := by rw [List.getD_eq_getElem?_getD, List.getElem?_eq_getElem hql]; exact hT.out.2.1 _ (List.getElem_mem _)
          clear hcell hfro hset hp hr hq hbb
          obtain ⟨s, hs⟩ : ∃ s, pos high r = s := ⟨_, rfl⟩
          have hs7 : s ≤ 7 := by have := pos_lt high (show r < 8 by omega); omega
          obtain ⟨y0, hy0e⟩ : ∃ y0, m.getD q 0 = y0 := ⟨_, rfl⟩
          obtain ⟨z, hz⟩ : ∃ z, y0 ^^^ 2 ^ s = z := ⟨_, rfl⟩
          rw [hs] at hT2
          rw [hy0e] at hT2 hck hy0
          rw [hz] at hT2
          have hxr : bits .xor .u8 (y0 : Int) (2 ^ s % 256) = (z : Nat) := by
            obtain ⟨p1, p2⟩ := pow8 s hs7
            rw [p1, u8_xor_nat _ _ hy0 p2, hz]
          have hO := hsq (.int .u8 z)
          rw [cu8_set] at hO
          have hb9 := Lib.hid (hb.setCell (p := ⟨g, q, none⟩) hg (.int .u8 (z : Nat)))
          have hus : IntKind.u64.wrap ((s : Nat) : Int) = (s : Nat) := IntWalk.u64_in _ (by omega)
          clear hy0e hz hsq
          cases high
          · obtain rfl : r = s := hs
            go_wp2
            exact ⟨⟨i + 1, m.set q z, true, by omega, by simp, rfl, by have := HP.out; omega, hT2, hO, hb9.out⟩, by simp [intOf]; omega⟩
          · have hsi : (7 : Int) - (r : Int) = (s : Nat) := by unfold pos at hs; simp at hs; omega
            clear hs
            go_wp2
            exact ⟨⟨i + 1, m.set q z, true, by omega, by simp, rfl, by have := HP.out; omega, hT2, hO, hb9.out⟩, by simp [intOf]; omega⟩
      · have HP := Lib.hid hp
        clear hp
        go_wp2
        go_ret2
        exact ⟨_, m, x, rfl, ho, ⟨i, hi, by rw [HN.out]; exact hki, hT.out⟩, hb⟩
    · go_wp2
      go_ret2
      exact ⟨_, m, x, rfl, ho, ⟨i, hi, by rw [HN.out]; exact hki, hT.out⟩, hb⟩

theorem bne_of {a b : Nat} {x : Bool} {p : Prop} (h1 : a = b ↔ p) (h2 : p ↔ x = false) : ((a : Int) != (b : Int)) = x := by
  cases x
  · rw [bne_eq_false_iff_eq]
    have := h1.2 (h2.2 rfl)
    rw [this]
  · rw [bne_iff_ne]
    intro e
    have := h2.1 (h1.1 (by omega))
    simp at this
theorem turned8 {l m : List Nat} {k y : Nat} {x : Bool} (H : TurnedTo true l k y 8 m x) (hx : ∀ c ∈ l, c < 256) (hk : k < 8 * l.length) : (((crc8 m : Nat) : Int) != ((crc8 l : Nat) : Int)) = x := by
  obtain ⟨a, b, c, d⟩ := H.parts
  refine bne_of (burst8 m l k a b hx (by omega) (fun p hp => c p (by omega))) ?_
  rw [a]; exact d
theorem turned16 {l m : List Nat} {k y : Nat} {x : Bool} (H : TurnedTo true l k y 16 m x) (hx : ∀ c ∈ l, c < 256) (hk : k < 8 * l.length) : (((crc16 m : Nat) : Int) != ((crc16 l : Nat) : Int)) = x := by
  obtain ⟨a, b, c, d⟩ := H.parts
  refine bne_of (burst16 m l k a b hx (by omega) (fun p hp => c p (by omega))) ?_
  rw [a]; exact d
theorem turned32 {l m : List Nat} {k y : Nat} {x : Bool} (H : TurnedTo false l k y 32 m x) (hx : ∀ c ∈ l, c < 256) (hk : k < 8 * l.length) : (((crc32 m : Nat) : Int) != ((crc32 l : Nat) : Int)) = x := by
  obtain ⟨a, b, c, d⟩ := H.parts
  refine bne_of (burst32 m l k a b hx (by omega) (fun p hp => c p (by omega))) ?_
  rw [a]; exact d

theorem sumsBurst_walk (v : Value) (l : List Nat) (at_ : Int) (y : Nat) (w : World) (hl : Sli w w.heap.size v (cu8 l)) (hx : ∀ x ∈ l, x < 256) (_ : -9223372036854775808 ≤ at_) (_ : at_ ≤ 9223372036854775807) (hy : y < 4294967296) :
    Calls Try.prog 7 #[v, .int .i64 at_, .int .u32 y] w fun e w' => e = .returned (.bool true) ∧ Below w.heap.size w w' := by
  obtain ⟨A, c, rfl, hlc, hcm⟩ := hl.form8
  have h63 : l.length ≤ 9223372036854775807 := by unfold maxLen at hcm; omega
  clear hlc hcm
  by_cases h3 : 300 < l.length
  · clear hl hx
    go_enter Try.func7, Try.ntmps7
    go_wp2_with (go_at_call 11; refine (known_any _).mono ?_; rintro e w1 ⟨rfl, hb1⟩)
    go_ret
    exact ⟨rfl, hb1⟩
  by_cases h4 : l.length = 0
  · have e4 : ((l.length : Int) == 0) = true := by rw [beq_iff_eq]; omega
    clear hl hx h4 h3
    go_enter Try.func7, Try.ntmps7
    go_wp2_with (go_at_call 11; refine (known_any _).mono ?_; rintro e w1 ⟨rfl, hb1⟩)
    all_goals (go_ret; exact ⟨rfl, hb1⟩)
  have e4 : ((l.length : Int) == 0) = false := by rw [beq_eq_false_iff_ne]; omega
  have hand : bits .and .i64 at_ 65535 = at_ % 65536 := i64_mask 16 (by omega) at_
  obtain ⟨t, ht⟩ : ∃ t : Nat, at_ % 65536 = (t : Nat) := ⟨(at_ % 65536).toNat, by omega⟩
  rw [ht] at hand
  have htl : t ≤ 65535 := by omega
  clear ht
  obtain ⟨n, hn⟩ : ∃ n, l.length = n := ⟨_, rfl⟩
  obtain ⟨n8, hn8⟩ : ∃ n8, 8 * n = n8 := ⟨_, rfl⟩
  have hn8i : (8 : Int) * (n : Int) = (n8 : Nat) := by omega
  have hn8p : 0 < n8 := by omega
  have hn8l : n8 ≤ 2400 := by omega
  obtain ⟨k, hk⟩ : ∃ k, t % n8 = k := ⟨_, rfl⟩
  have hkn : k < n8 := by rw [← hk]; exact Nat.mod_lt _ (by omega)
  have hki : (t : Int) % (n8 : Int) = (k : Nat) := by rw [← hk]; simp
  have H0 : Hid (∀ w1, Below w.heap.size w w1 → Sli w1 w.heap.size (.slice A l.length c) (cu8 l)) := fun w1 hb => hl.below hb
  have HX := Lib.hid hx
  have HTA : Hid (∀ W B most high, Sli W B (.slice A n c) (cu8 l) → B ≤ W.heap.size → most ≤ 32 → Calls Try.prog 24 #[.slice A n c, .int .i64 k, .int .u32 y, .int .i64 (most : Nat), .bool high] W (TurnPost high l k y most W)) :=
    fun W B most high h1 h2 h3 => turned_any _ l k y most high W B h1 h2 hx (by omega) (by omega) hy h3
  have HK : Hid (k < 8 * l.length) := by show k < 8 * l.length; omega
  have HN := Lib.hid hn
  rw [hn] at h63 h3 e4 h4 H0 ⊢
  clear hx hl hk hn hn8
  go_enter Try.func7, Try.ntmps7
  go_upto_region 5 with (go_at_call 11; refine (known_any _).mono ?_; rintro e w1 ⟨rfl, hb1⟩)
  have hS1 := H0.out w1 hb1
  go_wp2_with fail
  refine (HTA.out w1 _ 8 true hS1 hb1.size (by omega)).mono ?_
  rintro e w2 ⟨v2, m2, x2, rfl, ho2, ht2, hb2⟩
  obtain ⟨A2, n2, c2, rfl⟩ := ho2.shape
  have hbw2 := bthen hb1 hb2 hb1.size
  have hS2 := H0.out w2 hbw2
  clear hS1
  go_wp2_with fail
  refine (HTA.out w2 _ 16 true hS2 hbw2.size (by omega)).mono ?_
  rintro e w3 ⟨v3, m3, x3, rfl, ho3, ht3, hb3⟩
  obtain ⟨A3, n3, c3, rfl⟩ := ho3.shape
  have hbw3 := bthen hbw2 hb3 hbw2.size
  have hS3 := H0.out w3 hbw3
  clear hS2
  go_wp2_with fail
  refine (HTA.out w3 _ 32 false hS3 hbw3.size (by omega)).mono ?_
  rintro e w4 ⟨v4, m4, x4, rfl, ho4, ht4, hb4⟩
  obtain ⟨A4, n4, c4, rfl⟩ := ho4.shape
  have hbw4 := bthen hbw3 hb4 hbw3.size
  have hS4 := H0.out w4 hbw4
  clear hS3
  obtain ⟨a2, b2, _, _⟩ := ht2.parts
  obtain ⟨a3, b3, _, _⟩ := ht3.parts
  obtain ⟨a4, b4, _, _⟩ := ht4.parts
  have d8 := turned8 ht2 HX.out HK.out
  have d16 := turned16 ht3 HX.out HK.out
  have d32 := turned32 ht4 HX.out HK.out
  have hln : l.length ≤ 1099511627776 := by rw [HN.out]; omega
  have c8 := eight_any _ _ w4 _ (ho2.sli.below (bthen hb3 hb4 hb3.size)) b2 (by omega)
  have l8 := eight_any _ _ w4 _ hS4 HX.out hln
  have c16 := sixteen_any _ _ w4 _ (ho3.sli.below hb4) b3 (by omega)
  have l16 := sixteen_any _ _ w4 _ hS4 HX.out hln
  have c32 := thirtytwo_any _ _ w4 _ ho4.sli b4 (by omega)
  have l32 := thirtytwo_any _ _ w4 _ hS4 HX.out hln
  generalize crc8 m2 = p2 at d8 c8
  generalize crc8 l = q2 at d8 l8
  generalize crc16 m3 = p3 at d16 c16
  generalize crc16 l = q3 at d16 l16
  generalize crc32 m4 = p4 at d32 c32
  generalize crc32 l = q4 at d32 l32
  have C8 := Lib.hid c8; have L8 := Lib.hid l8; have C16 := Lib.hid c16; have L16 := Lib.hid l16; have C32 := Lib.hid c32; have L32 := Lib.hid l32
  clear c8 l8 c16 l16 c32 l32 hln a2 a3 a4
  go_wp2_with fail
  refine (C8.out).mono ?_
  rintro e w5 ⟨rfl, rfl⟩
  go_wp2_with fail
  refine (L8.out).mono ?_
  rintro e w5 ⟨rfl, rfl⟩
  go_wp2_with fail
  refine (C16.out).mono ?_
  rintro e w5 ⟨rfl, rfl⟩
  go_wp2_with fail
  refine (L16.out).mono ?_
  rintro e w5 ⟨rfl, rfl⟩
  go_wp2_with fail
  refine (C32.out).mono ?_
  rintro e w5 ⟨rfl, rfl⟩
  go_wp2_with fail
  refine (L32.out).mono ?_
  rintro e w5 ⟨rfl, rfl⟩
  go_wp2
  go_ret
  exact ⟨rfl, hbw4⟩
end Go.Proofs.Ytdkhkjagkmniaaa
