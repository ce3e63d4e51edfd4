/- parts, plain: how a row is dealt, what a plan costs, its bits, what is read, the best plan. -/
import Derived.Test.YtohbpjehphmedaaRicP
import Derived.Test.YtohbpjehphmedaaSmpP
namespace Go.Proofs.Ytohbpjehphmedaa
open Go.RowKit
set_option maxRecDepth 100000

/- The width as a function. -/
def okB (x : Int) (w : Nat) : Bool := decide (x = 0) || decide (32 ≤ w) || fitsB x w
theorem okB_iff {x : Int} {w : Nat} : okB x w = true ↔ okW x w := by simp [okB, okW, or_assoc]
def widGo (l : List Int) : Nat → Nat
  | 0 => 0
  | n + 1 => if l.all (fun x => okB x n) = true then widGo l n else n + 1
def widN (l : List Int) : Nat := widGo l 32
theorem widGo_is (l : List Int) : ∀ n, (∀ x ∈ l, okW x n) → widGo l n ≤ n ∧ (∀ x ∈ l, okW x (widGo l n)) ∧ (widGo l n = 0 ∨ ∃ x ∈ l, ¬ okW x (widGo l n - 1))
  | 0, h => ⟨Nat.le_refl _, h, .inl rfl⟩
  | n + 1, h => by
    rw [widGo]
    by_cases ha : l.all (fun x => okB x n) = true
    · rw [if_pos ha]
      obtain ⟨h1, h2, h3⟩ := widGo_is l n fun x hx => okB_iff.1 (List.all_eq_true.1 ha x hx)
      exact ⟨by omega, h2, h3⟩
    · rw [if_neg ha]
      refine ⟨Nat.le_refl _, h, .inr ?_⟩
      rw [Bool.not_eq_true, List.all_eq_false] at ha
      obtain ⟨x, hx, hn⟩ := ha
      exact ⟨x, hx, fun hk => hn (okB_iff.2 hk)⟩
theorem widN_is (l : List Int) : IsW l (widN l) := widGo_is l 32 fun _ _ => .inr (.inl (Nat.le_refl _))
theorem widN_of {l : List Int} {w : Nat} (h : IsW l w) : widN l = w := (widN_is l).uniq h
theorem widN_le {l : List Int} (hw : l.all wideB = true) : widN l ≤ 31 := by
  obtain ⟨_, _, h3⟩ := widN_is l
  rcases h3 with h | ⟨x, hx, hn⟩
  · omega
  · rcases Nat.lt_or_ge (widN l - 1) 31 with h | h
    · omega
    · exact absurd (.inr (.inr (fits_mono (wide_fits.1 (List.all_eq_true.1 hw x hx)) (Nat.le_refl _) (Nat.le_refl _)) )) (fun hk : okW x 31 => hn (okW_mono hk h))
theorem widN_fit {l : List Int} {x : Int} (hw : l.all wideB = true) (hx : x ∈ l) : fitsB x (widN l) = true ∨ (widN l = 0 ∧ x = 0) := (widN_is l).fit (by have := widN_le hw; omega) hx

/- How a row is dealt. -/
def rowB (n warm : Int) : Bool := decide (1 ≤ n) && decide (n ≤ 4096) && decide (0 ≤ warm) && decide (warm ≤ n)
def planB (o n warm : Int) : Bool := rowB n warm && decide (0 ≤ o) && decide (o ≤ 8) && decide (n % ((2 ^ o.toNat : Nat) : Int) = 0) && decide (warm ≤ n / ((2 ^ o.toNat : Nat) : Int))
theorem rowB_iff {n warm : Int} : rowB n warm = true ↔ 1 ≤ n ∧ n ≤ 4096 ∧ 0 ≤ warm ∧ warm ≤ n := by simp [rowB, and_assoc]
theorem planB_iff {o n warm : Int} : planB o n warm = true ↔ rowB n warm = true ∧ 0 ≤ o ∧ o ≤ 8 ∧ n % ((2 ^ o.toNat : Nat) : Int) = 0 ∧ warm ≤ n / ((2 ^ o.toNat : Nat) : Int) := by simp [planB, and_assoc]
/-- The sizes for 2^o parts of q samples each. -/
def sizesQ (o q warm : Nat) : List Nat := (q - warm) :: List.replicate (2 ^ o - 1) q
def sizesN (o n warm : Int) : List Nat := if planB o n warm = true then sizesQ o.toNat (n / ((2 ^ o.toNat : Nat) : Int)).toNat warm.toNat else []
theorem sizesQ_len (o q warm : Nat) : (sizesQ o q warm).length = 2 ^ o := by
  have := Nat.two_pow_pos o
  simp [sizesQ]; omega
theorem rep_sum (n q : Nat) : (List.replicate n q).sum = n * q := by
  induction n with
  | zero => simp
  | succ n ih => rw [List.replicate_succ, List.sum_cons, ih, Nat.succ_mul]; omega
theorem sizesQ_sum {o q warm : Nat} (h : warm ≤ q) : (sizesQ o q warm).sum = q * 2 ^ o - warm := by
  have h2 := Nat.two_pow_pos o
  obtain ⟨p, hp⟩ : ∃ p, 2 ^ o = p + 1 := ⟨2 ^ o - 1, by omega⟩
  unfold sizesQ
  rw [List.sum_cons, rep_sum, hp, Nat.add_sub_cancel, Nat.mul_succ, Nat.mul_comm p q]
  omega
theorem sizesN_sum {o n warm : Int} (h : planB o n warm = true) : ((sizesN o n warm).sum : Int) = n - warm := by
  obtain ⟨hr, h0, h8, hm, hw⟩ := planB_iff.1 h
  obtain ⟨r1, r2, r3, r4⟩ := rowB_iff.1 hr
  unfold sizesN
  rw [if_pos h]
  obtain ⟨n, rfl⟩ := Int.eq_ofNat_of_zero_le (by omega : 0 ≤ n)
  obtain ⟨warm, rfl⟩ := Int.eq_ofNat_of_zero_le r3
  generalize ho : o.toNat = p at *
  have hq : ((n : Int) / ((2 ^ p : Nat) : Int)).toNat = n / 2 ^ p := by rw [← Int.natCast_ediv, Int.toNat_natCast]
  have hd : n / 2 ^ p * 2 ^ p = n := Nat.div_mul_cancel (Nat.dvd_of_mod_eq_zero (by rw [← Int.natCast_emod] at hm; omega))
  have hw2 : warm ≤ n / 2 ^ p := by rw [← Int.natCast_ediv] at hw; omega
  rw [hq, Int.toNat_natCast, sizesQ_sum hw2, hd]
  omega
theorem sizesN_nil {o n warm : Int} : sizesN o n warm = [] ↔ planB o n warm = false := by
  unfold sizesN
  by_cases h : planB o n warm = true
  · rw [if_pos h]; simp [sizesQ, h]
  · rw [if_neg h]; simp [Bool.eq_false_iff.2 h]
theorem sizesN_len {o n warm : Int} (h : planB o n warm = true) : (sizesN o n warm).length = 2 ^ o.toNat := by
  unfold sizesN; rw [if_pos h, sizesQ_len]
def cuts : List Nat → List Int → List (List Int)
  | [], _ => []
  | s :: ss, l => l.take s :: cuts ss (l.drop s)
theorem cuts_len : ∀ (ss : List Nat) (l : List Int), (cuts ss l).length = ss.length
  | [], _ => rfl
  | s :: ss, l => by rw [cuts, List.length_cons, List.length_cons, cuts_len ss]
theorem cuts_flat : ∀ (ss : List Nat) (l : List Int), l.length ≤ ss.sum → (cuts ss l).flatten = l
  | [], l, h => by
    have : l = [] := List.eq_nil_of_length_eq_zero (by simpa using h)
    subst this; rfl
  | s :: ss, l, h => by
    rw [cuts, List.flatten_cons, cuts_flat ss (l.drop s) (by rw [List.sum_cons] at h; rw [List.length_drop]; omega), List.take_append_drop]
theorem cuts_mem : ∀ {ss : List Nat} {l part : List Int}, part ∈ cuts ss l → ∀ x ∈ part, x ∈ l
  | [], l, part, h => by simp [cuts] at h
  | s :: ss, l, part, h => by
    rw [cuts] at h
    rcases List.mem_cons.1 h with rfl | h
    · exact fun x hx => List.mem_of_mem_take hx
    · exact fun x hx => List.mem_of_mem_drop (cuts_mem h x hx)
theorem cuts_wide {ss : List Nat} {l part : List Int} (hw : l.all wideB = true) (h : part ∈ cuts ss l) : part.all wideB = true :=
  List.all_eq_true.2 fun x hx => List.all_eq_true.1 hw x (cuts_mem h x hx)

/- Plans. -/
def kB (k : Int) : Bool := paramB k || decide (k = 31)
theorem kB_iff {k : Int} : kB k = true ↔ (0 ≤ k ∧ k ≤ 25) ∨ k = 31 := by simp [kB, paramB_iff]
def mayB (o : Int) (ks : List Int) (n warm : Int) : Bool := planB o n warm && decide (ks.length = 2 ^ o.toNat) && ks.all kB
theorem mayB_iff {o : Int} {ks : List Int} {n warm : Int} : mayB o ks n warm = true ↔ planB o n warm = true ∧ ks.length = 2 ^ o.toNat ∧ ks.all kB = true := by simp [mayB, and_assoc]
def rawCost (l : List Int) : Nat := 5 + l.length * widN l
def partCost (k : Int) (l : List Int) : Nat := if k = 31 then rawCost l else sumI k l
def planCost : List Int → List (List Int) → Nat
  | k :: ks, p :: ps => 5 + partCost k p + planCost ks ps
  | _, _ => 0
def rowOkB (n warm : Int) (l : List Int) : Bool := decide ((l.length : Int) = n - warm) && l.all wideB
def costP (o : Int) (ks : List Int) (n warm : Int) (l : List Int) : Nat :=
  if mayB o ks n warm = true ∧ rowOkB n warm l = true then 4 + planCost ks (cuts (sizesN o n warm) l) else 0
/-- A number in w bits of two's complement. -/
def twos (w : Nat) (x : Int) : List Bool := msb (u64I x) w
def partBits (k : Int) (l : List Int) : List Bool := if k = 31 then msb (widN l) 5 ++ l.flatMap (twos (widN l)) else codes k.toNat l
def planBits : List Int → List (List Int) → List Bool
  | k :: ks, p :: ps => msb k.toNat 5 ++ partBits k p ++ planBits ks ps
  | _, _ => []
def bitsP (o : Int) (ks : List Int) (n warm : Int) (l : List Int) : List Bool := msb o.toNat 4 ++ planBits ks (cuts (sizesN o n warm) l)
theorem twos_len (w : Nat) (l : List Int) : (l.flatMap (twos w)).length = l.length * w := by
  induction l with
  | nil => simp
  | cons x l ih => rw [List.flatMap_cons, List.length_append, ih, twos, msb_len, List.length_cons, Nat.succ_mul]; omega
theorem partBits_len {k : Int} {l : List Int} (hk : kB k = true) (hw : l.all wideB = true) : (partBits k l).length = partCost k l := by
  unfold partBits partCost rawCost
  by_cases h : k = 31
  · rw [if_pos h, if_pos h, List.length_append, msb_len, twos_len]
  · rw [if_neg h, if_neg h]
    have h2 := kB_iff.1 hk
    obtain ⟨m, rfl⟩ := Int.eq_ofNat_of_zero_le (by omega : 0 ≤ k)
    rw [Int.toNat_natCast]
    exact codes_len (by omega) l (List.all_eq_true.1 hw)
theorem planBits_len : ∀ (ks : List Int) (ps : List (List Int)), ks.all kB = true → (∀ p ∈ ps, p.all wideB = true) → (planBits ks ps).length = planCost ks ps
  | [], _, _, _ => by simp [planBits, planCost]
  | _ :: _, [], _, _ => by simp [planBits, planCost]
  | k :: ks, p :: ps, hk, hw => by
    rw [List.all_cons, Bool.and_eq_true] at hk
    rw [planBits, planCost, List.length_append, List.length_append, msb_len, partBits_len hk.1 (hw p (by simp)), planBits_len ks ps hk.2 fun q hq => hw q (by simp [hq])]
theorem bitsP_len {o : Int} {ks : List Int} {n warm : Int} {l : List Int} (hm : mayB o ks n warm = true) (hr : rowOkB n warm l = true) : (bitsP o ks n warm l).length = costP o ks n warm l := by
  unfold bitsP costP
  have hr2 := hr
  rw [rowOkB, Bool.and_eq_true] at hr2
  rw [if_pos ⟨hm, hr⟩, List.length_append, msb_len, planBits_len _ _ (mayB_iff.1 hm).2.2 fun p hp => cuts_wide hr2.2 hp]
/- What is read. -/
def sgn (w v : Nat) : Int := if v < 2 ^ (w - 1) ∨ w = 0 then (v : Int) else (v : Int) - ((2 ^ w : Nat) : Int)
/-- s numbers in b bits each. -/
def rRaw (f : Nat → Bool) (len b : Nat) : Nat → Nat → List Int × Nat × Int
  | 0, at_ => ([], at_, 0)
  | s + 1, at_ =>
    let r := gGet f len at_ 0 (b : Nat)
    if r.2.2 = 0 then (let t := rRaw f len b s r.2.1; if t.2.2 = 0 then (sgn b r.1 :: t.1, t.2.1, 0) else ([], 0, t.2.2)) else ([], 0, r.2.2)
/-- One part behind its K. -/
def rPart (f : Nat → Bool) (len at_ : Nat) (k : Int) (s : Nat) : List Int × Nat × Int :=
  if k = 31 then
    (let b := gGet f len at_ 0 5
     if b.2.2 = 0 then (let t := rRaw f len b.1 s b.2.1; if t.2.2 = 0 then (if widN t.1 = b.1 then t else ([], 0, 2)) else ([], 0, t.2.2)) else ([], 0, b.2.2))
  else if paramB k = true then rGets f len k.toNat s at_ else ([], 0, 2)
def rParts (f : Nat → Bool) (len : Nat) : List Nat → Nat → List Int × List Int × Nat × Int
  | [], at_ => ([], [], at_, 0)
  | s :: ss, at_ =>
    let k := gGet f len at_ 0 5
    if k.2.2 = 0 then
      (let p := rPart f len k.2.1 (k.1 : Nat) s
       if p.2.2 = 0 then (let t := rParts f len ss p.2.1; if t.2.2.2 = 0 then ((k.1 : Int) :: t.1, p.1 ++ t.2.1, t.2.2.1, 0) else ([], [], 0, t.2.2.2)) else ([], [], 0, p.2.2))
    else ([], [], 0, k.2.2)
/-- Get: order, Ks, row, how far, error. -/
def getP (f : Nat → Bool) (len at_ : Nat) (er n warm : Int) : Int × List Int × List Int × Nat × Int :=
  if rowB n warm = true then
    (if er = 0 then
      (let o := gGet f len at_ 0 4
       if o.2.2 = 0 then
        (if planB (o.1 : Nat) n warm = true then
          (let t := rParts f len (sizesN (o.1 : Nat) n warm) o.2.1
           if t.2.2.2 = 0 then ((o.1 : Nat), t.1, t.2.1, t.2.2.1, 0) else (0, [], [], 0, t.2.2.2))
         else (0, [], [], 0, 2))
       else (0, [], [], 0, o.2.2))
     else (0, [], [], 0, er))
  else (0, [], [], 0, 1)

/- What was put is got. -/
theorem sgn_twos {w : Nat} {x : Int} (hw : w ≤ 31) (hf : fitsB x w = true ∨ (w = 0 ∧ x = 0)) : sgn w (u64I x % 2 ^ w) = x := by
  rcases hf with hf | ⟨rfl, rfl⟩
  · rw [fits_nat] at hf
    obtain ⟨h1, _, h3, h4⟩ := hf
    obtain ⟨v, rfl⟩ : ∃ v, w = v + 1 := ⟨w - 1, by omega⟩
    have hd : (2 ^ (v + 1) : Nat) ∣ 18446744073709551616 := by
      have : (18446744073709551616 : Nat) = 2 ^ 64 := by decide +kernel
      rw [this]; exact Nat.pow_dvd_pow 2 (by omega)
    have hp : 2 ^ (v + 1) = 2 * 2 ^ v := by rw [Nat.pow_succ]; omega
    have hv := Nat.two_pow_pos v
    have hu : ((u64I x % 2 ^ (v + 1) : Nat) : Int) = x % ((2 ^ (v + 1) : Nat) : Int) := by
      unfold u64I
      rw [Int.natCast_emod, Int.toNat_of_nonneg (by omega)]
      exact Int.emod_emod_of_dvd _ (Int.natCast_dvd_natCast.2 hd)
    rw [Nat.add_sub_cancel] at h3 h4
    unfold sgn
    rw [Nat.add_sub_cancel, hu]
    generalize u64I x % 2 ^ (v + 1) = y at hu ⊢
    rw [hp] at hu ⊢
    generalize 2 ^ v = p at *
    by_cases h0 : 0 ≤ x
    · have he : x % ((2 * p : Nat) : Int) = x := Int.emod_eq_of_lt h0 (by omega)
      rw [he] at hu ⊢
      rw [if_pos (by omega)]
    · have he : x % ((2 * p : Nat) : Int) = x + ((2 * p : Nat) : Int) := by
        rw [← Int.add_emod_right]; exact Int.emod_eq_of_lt (by omega) (by omega)
      rw [he] at hu ⊢
      rw [if_neg (by omega)]; omega
  · simp [sgn, Nat.mod_one]
theorem gb_mid {A B C : List Bool} {i : Nat} (h : i < B.length) : gb (A ++ (B ++ C)) (A.length + i) = gb B i := by
  rw [gb_app, if_neg (by omega), gb_app, show A.length + i - A.length = i by omega, if_pos h]
/-- Bits that stand at p. -/
def Stands (f : Nat → Bool) (len p : Nat) (L : List Bool) : Prop := (∀ i, i < L.length → f (p + i) = gb L i) ∧ p + L.length ≤ len
theorem Stands.left {f : Nat → Bool} {len p : Nat} {L M : List Bool} (h : Stands f len p (L ++ M)) : Stands f len p L := by
  obtain ⟨h1, h2⟩ := h
  rw [List.length_append] at h1 h2
  exact ⟨fun i hi => by rw [h1 i (by omega), gb_app, if_pos hi], by omega⟩
theorem Stands.right {f : Nat → Bool} {len p : Nat} {L M : List Bool} (h : Stands f len p (L ++ M)) : Stands f len (p + L.length) M := by
  obtain ⟨h1, h2⟩ := h
  rw [List.length_append] at h1 h2
  exact ⟨fun i hi => by rw [show p + L.length + i = p + (L.length + i) by omega, h1 _ (by omega), gb_app, if_neg (by omega), show L.length + i - L.length = i by omega], by omega⟩
theorem Stands.num {f : Nat → Bool} {len p v n : Nat} (h : Stands f len p (msb v n)) (hn : n ≤ 64) : gGet f len p 0 (n : Int) = (v % 2 ^ n, p + n, 0) := by
  obtain ⟨h1, h2⟩ := h
  rw [msb_len] at h1 h2
  exact get_at h1 h2 hn
theorem Stands.packed {lb : List Nat} {A B C : List Bool} (h : Packed lb (A ++ (B ++ C))) : Stands (bitAt lb) (8 * lb.length) A.length B := by
  have hlen := h.len
  rw [List.length_append, List.length_append] at hlen
  exact ⟨fun i hi => by rw [h.bit, gb_mid hi], by omega⟩
theorem raw_at {f : Nat → Bool} {len w : Nat} (hw : w ≤ 31) : ∀ (l : List Int) (p : Nat), (∀ x ∈ l, fitsB x w = true ∨ (w = 0 ∧ x = 0)) → Stands f len p (l.flatMap (twos w)) → rRaw f len w l.length p = (l, p + l.length * w, 0)
  | [], p, _, _ => by simp [rRaw]
  | x :: l, p, hf, h => by
    rw [List.flatMap_cons] at h
    have h1 := h.left.num (by omega)
    have h2 := h.right
    rw [twos, msb_len] at h2
    have h3 := raw_at hw l (p + w) (fun y hy => hf y (by simp [hy])) h2
    rw [List.length_cons, rRaw, h1]
    simp only [if_true]
    rw [h3]
    simp only [if_true]
    rw [sgn_twos hw (hf x (by simp)), Nat.succ_mul, Nat.add_assoc, Nat.add_comm w]
theorem part_at {f : Nat → Bool} {len p : Nat} {k : Int} {l : List Int} (hk : kB k = true) (hw : l.all wideB = true) (h : Stands f len p (partBits k l)) : rPart f len p k l.length = (l, p + partCost k l, 0) := by
  have hlen := partBits_len hk hw
  unfold partBits partCost rPart rawCost at *
  by_cases h31 : k = 31
  · rw [if_pos h31] at h hlen ⊢
    rw [if_pos h31]
    have hwl := widN_le hw
    have hb := h.left.num (by omega)
    rw [show ((5 : Nat) : Int) = 5 from rfl, Nat.mod_eq_of_lt (by omega : widN l < 2 ^ 5)] at hb
    have h2 := h.right
    rw [msb_len] at h2
    have h3 := raw_at hwl l (p + 5) (fun x hx => widN_fit hw hx) h2
    rw [hb]
    simp only [if_true]
    rw [h3]
    simp only [if_true, Nat.add_assoc]
  · rw [if_neg h31] at h hlen ⊢
    rw [if_neg h31]
    have h2 := kB_iff.1 hk
    have hp : paramB k = true := by rw [paramB_iff]; omega
    obtain ⟨m, rfl⟩ := Int.eq_ofNat_of_zero_le (by omega : 0 ≤ k)
    rw [Int.toNat_natCast] at h hlen ⊢
    rw [if_neg h31] at hlen
    rw [if_pos hp, codes_at (by omega) l p (List.all_eq_true.1 hw) h.1 h.2, hlen]
theorem parts_at {f : Nat → Bool} {len : Nat} : ∀ (ks : List Int) (ss : List Nat) (l : List Int) (p : Nat), ks.length = ss.length → ks.all kB = true → l.all wideB = true → l.length = ss.sum → Stands f len p (planBits ks (cuts ss l)) →
    rParts f len ss p = (ks, l, p + planCost ks (cuts ss l), 0)
  | [], [], l, p, _, _, _, hl, _ => by
    have : l = [] := List.eq_nil_of_length_eq_zero (by simpa using hl)
    subst this; simp [rParts, planCost]
  | [], _ :: _, _, _, h, _, _, _, _ => by simp at h
  | _ :: _, [], _, _, h, _, _, _, _ => by simp at h
  | k :: ks, s :: ss, l, p, hlen, hk, hw, hl, h => by
    rw [List.all_cons, Bool.and_eq_true] at hk
    rw [List.sum_cons] at hl
    rw [cuts, planBits] at h
    have hkk := kB_iff.1 hk.1
    obtain ⟨m, rfl⟩ := Int.eq_ofNat_of_zero_le (by omega : 0 ≤ k)
    have h1 := h.left.left.num (by omega)
    rw [Int.toNat_natCast, show ((5 : Nat) : Int) = 5 from rfl, Nat.mod_eq_of_lt (by omega : m < 2 ^ 5)] at h1
    have hw1 : (l.take s).all wideB = true := List.all_eq_true.2 fun x hx => List.all_eq_true.1 hw x (List.mem_of_mem_take hx)
    have hw2 : (l.drop s).all wideB = true := List.all_eq_true.2 fun x hx => List.all_eq_true.1 hw x (List.mem_of_mem_drop hx)
    have h2 := h.left.right
    rw [msb_len] at h2
    have h3 := part_at hk.1 hw1 h2
    rw [List.length_take, Nat.min_eq_left (by omega)] at h3
    have h4 := h.right
    rw [List.length_append, msb_len, partBits_len hk.1 hw1] at h4
    have h5 := parts_at ks ss (l.drop s) (p + (5 + partCost (m : Nat) (l.take s))) (by simpa using hlen) hk.2 hw2 (by rw [List.length_drop]; omega) h4
    rw [rParts, h1]
    simp only [if_true]
    rw [h3]
    simp only [if_true]
    rw [show p + 5 + partCost (m : Nat) (l.take s) = p + (5 + partCost (m : Nat) (l.take s)) by omega, h5]
    simp only [if_true]
    rw [cuts, planCost, List.take_append_drop]
    simp only [Nat.add_assoc]
theorem get_put {f : Nat → Bool} {len p : Nat} {o : Int} {ks : List Int} {n warm : Int} {l : List Int} (hm : mayB o ks n warm = true) (hr : rowOkB n warm l = true) (h : Stands f len p (bitsP o ks n warm l)) :
    getP f len p 0 n warm = (o, ks, l, p + costP o ks n warm l, 0) := by
  obtain ⟨hp, hlen, hk⟩ := mayB_iff.1 hm
  obtain ⟨hrow, h0, h8, _, _⟩ := planB_iff.1 hp
  have hr2 := hr
  rw [rowOkB, Bool.and_eq_true, decide_eq_true_eq] at hr2
  have hsum := sizesN_sum hp
  unfold bitsP at h
  obtain ⟨m, rfl⟩ := Int.eq_ofNat_of_zero_le h0
  have h1 := h.left.num (by omega)
  rw [Int.toNat_natCast, show ((4 : Nat) : Int) = 4 from rfl, Nat.mod_eq_of_lt (by omega : m < 2 ^ 4)] at h1
  have h2 := h.right
  rw [msb_len] at h2
  have h3 := parts_at ks (sizesN m n warm) l (p + 4) (by rw [hlen, sizesN_len hp]) hk hr2.2 (by omega) h2
  unfold getP costP
  rw [if_pos hrow, if_pos rfl, h1]
  simp only [if_true]
  rw [if_pos hp, h3]
  simp only [if_true]
  rw [if_pos ⟨hm, hr⟩, Nat.add_assoc]

/- The best plan. -/
def bestK (l : List Int) : Int := if rawCost l < sumI ((bestN l : Nat) : Int) l then 31 else (bestN l : Nat)
theorem bestN_le25 (l : List Int) : bestN l ≤ 25 := bestFrom_le l 25
theorem bestK_kB (l : List Int) : kB (bestK l) = true := by
  unfold bestK
  split
  · rw [kB_iff]; right; rfl
  · rw [kB_iff]; left; have := bestN_le25 l; omega
theorem bestK_least (l : List Int) {k : Int} (hk : kB k = true) : partCost (bestK l) l ≤ partCost k l := by
  have hb := bestN_le25 l
  have h1 : ∀ j : Nat, j ≤ 25 → sumI ((bestN l : Nat) : Int) l ≤ sumI (j : Int) l := fun j hj => (bestFrom_least l 25 j hj).1
  unfold bestK partCost
  rcases kB_iff.1 hk with hk | rfl
  · obtain ⟨j, rfl⟩ := Int.eq_ofNat_of_zero_le hk.1
    have h2 := h1 j (by omega)
    rw [if_neg (by omega : ¬ ((j : Int) = 31))]
    split
    · rw [if_pos rfl]; omega
    · rw [if_neg (by omega)]; exact h2
  · rw [if_pos rfl]
    split
    · rw [if_pos rfl]; omega
    · rw [if_neg (by omega)]; omega
theorem bestKs_least : ∀ (ks : List Int) (ps : List (List Int)), ks.length = ps.length → ks.all kB = true → planCost (ps.map bestK) ps ≤ planCost ks ps
  | [], [], _, _ => by simp [planCost]
  | [], _ :: _, h, _ => by simp at h
  | _ :: _, [], h, _ => by simp at h
  | k :: ks, p :: ps, h, hk => by
    rw [List.all_cons, Bool.and_eq_true] at hk
    rw [List.map_cons, planCost, planCost]
    have h1 := bestK_least p hk.1
    have h2 := bestKs_least ks ps (by simpa using h) hk.2
    omega
def bestKs (o n warm : Int) (l : List Int) : List Int := (cuts (sizesN o n warm) l).map bestK
theorem bestKs_may {o n warm : Int} {l : List Int} (h : planB o n warm = true) : mayB o (bestKs o n warm l) n warm = true := by
  rw [mayB_iff]
  refine ⟨h, by unfold bestKs; rw [List.length_map, cuts_len, sizesN_len h], List.all_eq_true.2 fun k hk => ?_⟩
  obtain ⟨p, _, rfl⟩ := List.mem_map.1 hk
  exact bestK_kB p
def bestC (n warm : Int) (l : List Int) (o : Nat) : Nat := 4 + planCost (bestKs o n warm l) (cuts (sizesN o n warm) l)
theorem bestC_cost {n warm : Int} {l : List Int} {o : Nat} (h : planB o n warm = true) (hr : rowOkB n warm l = true) : costP o (bestKs o n warm l) n warm l = bestC n warm l o := by
  unfold costP; rw [if_pos ⟨bestKs_may h, hr⟩]; rfl
theorem bestC_least {n warm : Int} {l : List Int} {o : Nat} {ks : List Int} (hm : mayB o ks n warm = true) (hr : rowOkB n warm l = true) : bestC n warm l o ≤ costP o ks n warm l := by
  obtain ⟨hp, hlen, hk⟩ := mayB_iff.1 hm
  unfold costP bestC
  rw [if_pos ⟨hm, hr⟩]
  have := bestKs_least ks (cuts (sizesN o n warm) l) (by rw [hlen, cuts_len, sizesN_len hp]) hk
  unfold bestKs
  omega
/-- The best of the orders 0 .. m. -/
def bestO (n warm : Int) (l : List Int) : Nat → Nat
  | 0 => 0
  | m + 1 => if planB ((m + 1 : Nat) : Int) n warm = true ∧ bestC n warm l (m + 1) < bestC n warm l (bestO n warm l m) then m + 1 else bestO n warm l m
def mostN (most : Int) : Nat := (min (max most 0) 8).toNat
theorem plan0 {n warm : Int} (h : rowB n warm = true) : planB 0 n warm = true := by
  rw [planB_iff]
  have := rowB_iff.1 h
  refine ⟨h, by omega, by omega, ?_, ?_⟩
  · simp
  · simp; omega
theorem bestO_ok {n warm : Int} {l : List Int} (h : rowB n warm = true) : ∀ m, bestO n warm l m ≤ m ∧ planB ((bestO n warm l m : Nat) : Int) n warm = true
  | 0 => ⟨Nat.le_refl _, plan0 h⟩
  | m + 1 => by
    have ih := bestO_ok (l := l) h m
    rw [bestO]
    split
    · rename_i h1; exact ⟨Nat.le_refl _, h1.1⟩
    · exact ⟨by omega, ih.2⟩
theorem bestO_least {n warm : Int} {l : List Int} : ∀ m o : Nat, o ≤ m → planB (o : Int) n warm = true → bestC n warm l (bestO n warm l m) ≤ bestC n warm l o
  | 0, o, ho, _ => by
    obtain rfl : o = 0 := by omega
    exact Nat.le_refl _
  | m + 1, o, ho, hp => by
    have ih := fun ho' => bestO_least (n := n) (warm := warm) (l := l) m o ho' hp
    rw [bestO]
    by_cases h : o = m + 1
    · subst h
      split
      · exact Nat.le_refl _
      · rename_i h1
        have : ¬ bestC n warm l (m + 1) < bestC n warm l (bestO n warm l m) := fun h2 => h1 ⟨hp, h2⟩
        omega
    · have := ih (by omega)
      split
      · rename_i h1; omega
      · exact this
theorem bestO_more {n warm : Int} {l : List Int} {a b : Nat} (hab : a ≤ b) (h : rowB n warm = true) : bestC n warm l (bestO n warm l b) ≤ bestC n warm l (bestO n warm l a) := by
  have := bestO_ok (l := l) h a
  exact bestO_least b _ (by omega) this.2
/-- No dearer than all residuals in as many bits. -/
theorem bestO_raw {n warm : Int} {l : List Int} (h : rowB n warm = true) (hr : rowOkB n warm l = true) (m : Nat) : bestC n warm l (bestO n warm l m) ≤ 14 + l.length * widN l := by
  have h0 := bestO_least (n := n) (warm := warm) (l := l) m 0 (by omega) (plan0 h)
  have hm : mayB ((0 : Nat) : Int) [31] n warm = true := by
    rw [mayB_iff]; exact ⟨plan0 h, rfl, rfl⟩
  have h1 := bestC_least hm hr
  have hl : l.length ≤ (sizesN 0 n warm).sum := by
    have := sizesN_sum (plan0 h)
    rw [rowOkB, Bool.and_eq_true, decide_eq_true_eq] at hr
    omega
  unfold costP at h1
  rw [if_pos ⟨hm, hr⟩] at h1
  have hc : cuts (sizesN ((0 : Nat) : Int) n warm) l = [l] := by
    have e : sizesN 0 n warm = [(sizesN 0 n warm).sum] := by
      unfold sizesN
      rw [if_pos (plan0 h)]
      simp [sizesQ]
    show cuts (sizesN 0 n warm) l = [l]
    rw [e, cuts, cuts, List.take_of_length_le hl]
  rw [hc] at h1
  simp only [planCost, partCost, if_true, rawCost] at h1
  omega
end Go.Proofs.Ytohbpjehphmedaa
