/- arith: plain: Low by its digits; a bit; what a decoder reads. -/
namespace Go.Proofs.Ytghbjlmbehljdaa

/-- A coder: Low, how many digits to base 256 it has, Width, the odds. -/
structure Co where
  lo : Nat
  k : Nat
  w : Nat
  od : List Nat
/-- The k digits, the highest first. -/
def digs (k lo : Nat) : List Nat := (List.range k).map fun i => lo / 256 ^ (k - 1 - i) % 256
/-- The last t digits are those of b, the others those of a. -/
def mixd (k t a b : Nat) : List Nat := (List.range k).map fun i => (if i + t < k then a else b) / 256 ^ (k - 1 - i) % 256
theorem digs_len (k lo : Nat) : (digs k lo).length = k := by simp [digs]
theorem mixd_len (k t a b : Nat) : (mixd k t a b).length = k := by simp [mixd]
theorem digs_get {k lo i : Nat} (h : i < k) : (digs k lo)[i]? = some (lo / 256 ^ (k - 1 - i) % 256) := by simp [digs, h]
theorem digs_lt {k lo : Nat} : ∀ x ∈ digs k lo, x < 256 := by
  intro x hx
  obtain ⟨i, _, rfl⟩ := List.mem_map.1 hx
  exact Nat.mod_lt _ (by omega)
theorem mixd_lt {k t a b : Nat} : ∀ x ∈ mixd k t a b, x < 256 := by
  intro x hx
  obtain ⟨i, _, rfl⟩ := List.mem_map.1 hx
  exact Nat.mod_lt _ (by omega)
theorem mixd_zero (k a b : Nat) : mixd k 0 a b = digs k a := by
  unfold mixd digs
  refine List.map_congr_left fun i hi => ?_
  rw [if_pos (by simpa using hi)]
theorem mixd_at {k t a b : Nat} (h : t < k) : (mixd k t a b)[k - 1 - t]? = some (a / 256 ^ t % 256) := by
  unfold mixd
  rw [List.getElem?_map, List.getElem?_range (by omega)]
  show some ((if k - 1 - t + t < k then a else b) / 256 ^ (k - 1 - (k - 1 - t)) % 256) = _
  rw [if_pos (by omega), show k - 1 - (k - 1 - t) = t by omega]
theorem mixd_set {k t a b : Nat} (h : t < k) : (mixd k t a b).set (k - 1 - t) (b / 256 ^ t % 256) = mixd k (t + 1) a b := by
  apply List.ext_getElem?
  intro i
  rw [List.getElem?_set]
  unfold mixd
  by_cases hi : i < k
  · simp only [List.length_map, List.length_range, List.getElem?_map, List.getElem?_range hi, Option.map_some]
    by_cases e : k - 1 - t = i
    · subst e
      rw [if_pos rfl, if_pos (by omega), if_neg (by omega), show k - 1 - (k - 1 - t) = t by omega]
    · rw [if_neg e]
      by_cases h1 : i + t < k
      · rw [if_pos h1, if_pos (by omega)]
      · rw [if_neg h1, if_neg (by omega)]
  · simp only [List.length_map, List.length_range, List.getElem?_map]
    rw [if_neg (by omega), List.getElem?_eq_none (by simp; omega)]
    rfl
theorem div_pow_add (a s t : Nat) : a / 256 ^ (t + s) = a / 256 ^ t / 256 ^ s := by rw [Nat.pow_add, Nat.div_div_eq_div_mul]
theorem mixd_done {k t a b : Nat} (h : b / 256 ^ t = a / 256 ^ t) : mixd k t a b = digs k b := by
  unfold mixd digs
  refine List.map_congr_left fun i hi => ?_
  have hi : i < k := by simpa using hi
  by_cases h1 : i + t < k
  · rw [if_pos h1, show k - 1 - i = t + (k - 1 - i - t) by omega, div_pow_add, div_pow_add, h]
  · rw [if_neg h1]
/-- The carry behind t digits. -/
def carr (a b t : Nat) : Nat := b / 256 ^ t - a / 256 ^ t
theorem carr_step {a b t : Nat} (h : a ≤ b) : (carr a b t + a / 256 ^ t % 256) % 256 = b / 256 ^ t % 256 ∧ (carr a b t + a / 256 ^ t % 256) / 256 = carr a b (t + 1) := by
  unfold carr
  rw [div_pow_add, div_pow_add]
  have : a / 256 ^ t ≤ b / 256 ^ t := Nat.div_le_div_right h
  generalize a / 256 ^ t = A at *
  generalize b / 256 ^ t = B at *
  simp only [Nat.pow_one]
  omega
theorem carr_zero {a b t : Nat} (h : a ≤ b) (hc : carr a b t = 0) : b / 256 ^ t = a / 256 ^ t := by
  unfold carr at hc
  have : a / 256 ^ t ≤ b / 256 ^ t := Nat.div_le_div_right h
  omega
theorem carr_end {a b k : Nat} (h : b < 256 ^ k) : carr a b k = 0 := by unfold carr; rw [Nat.div_eq_of_lt h, Nat.zero_sub]
theorem digs_push (k lo : Nat) : digs k lo ++ [0] = digs (k + 1) (lo * 256) := by
  apply List.ext_getElem?
  intro i
  by_cases hi : i < k
  · rw [List.getElem?_append_left (by rw [digs_len]; exact hi), digs_get hi, digs_get (by omega), show k + 1 - 1 - i = (k - 1 - i) + 1 by omega, Nat.pow_succ, Nat.mul_div_mul_right _ _ (by omega)]
  · by_cases e : i = k
    · subst e
      rw [List.getElem?_append_right (by rw [digs_len]; omega), digs_len, digs_get (by omega)]
      simp
    · rw [List.getElem?_eq_none (by simp [digs_len]; omega), List.getElem?_eq_none (by rw [digs_len]; omega)]

/-- A bit: in a context, or one that may as well be 0 as 1. -/
def boundOf (w : Nat) (od : List Nat) : Option Nat → Nat
  | some c => w / 4096 * od.getD c 0
  | none => w / 2
def odd' (o b : Nat) : Nat := if b = 0 then o + (4096 - o) / 32 else o - o / 32
def learnt (od : List Nat) (c b : Nat) : List Nat := od.set c (odd' (od.getD c 0) b)
def learnO (od : List Nat) : Option Nat → Nat → List Nat
  | some c, b => learnt od c b
  | none, _ => od
def shft (s : Co) : Co := if s.w < 16777216 then ⟨s.lo * 256, s.k + 1, s.w * 256, s.od⟩ else s
def enc (s : Co) (bd b : Nat) : Co := shft ⟨if b = 0 then s.lo else s.lo + bd, s.k, if b = 0 then bd else s.w - bd, s.od⟩
theorem shft_od (s : Co) : (shft s).od = s.od := by unfold shft; split <;> rfl
theorem enc_od (s : Co) (bd b : Nat) : (enc s bd b).od = s.od := shft_od _
def step (s : Co) (x : Option Nat × Nat) : Co := ⟨(enc s (boundOf s.w s.od x.1) x.2).lo, (enc s (boundOf s.w s.od x.1) x.2).k, (enc s (boundOf s.w s.od x.1) x.2).w, learnO s.od x.1 x.2⟩
def run (s : Co) (l : List (Option Nat × Nat)) : Co := l.foldl step s
theorem run_app (s : Co) (a b : List (Option Nat × Nat)) : run s (a ++ b) = run (run s a) b := by simp [run]
theorem run_cons (s : Co) (x : Option Nat × Nat) (b : List (Option Nat × Nat)) : run s (x :: b) = run (step s x) b := rfl
def start (n : Nat) : Co := ⟨0, 4, 4294967295, List.replicate n 2048⟩
structure Ok (s : Co) (n : Nat) : Prop where
  len : s.od.length = n
  odd : ∀ o ∈ s.od, 31 ≤ o ∧ o ≤ 4065
  wlo : 16777216 ≤ s.w
  whi : s.w < 4294967296
  k4 : 4 ≤ s.k
  top : s.lo + s.w ≤ 256 ^ s.k
def good (n : Nat) (x : Option Nat × Nat) : Prop := x.2 ≤ 1 ∧ ∀ c, x.1 = some c → c < n
theorem start_ok (n : Nat) : Ok (start n) n := ⟨by simp [start], by
    intro o ho
    have := List.eq_of_mem_replicate ho
    omega, by simp [start], by simp [start], by simp [start], by simp [start]⟩
theorem getD_mem {od : List Nat} {c : Nat} (h : c < od.length) : od.getD c 0 ∈ od := by
  rw [List.getD_eq_getElem?_getD, List.getElem?_eq_getElem h]; exact List.getElem_mem h
theorem bound_in {w : Nat} {od : List Nat} {n : Nat} (hl : od.length = n) (ho : ∀ o ∈ od, 31 ≤ o ∧ o ≤ 4065) (hw : 16777216 ≤ w) {x : Option Nat × Nat} (hg : good n x) : 65536 ≤ boundOf w od x.1 ∧ boundOf w od x.1 + 65536 ≤ w := by
  obtain ⟨c, b⟩ := x
  rcases c with _ | c
  · simp only [boundOf]; omega
  · simp only [boundOf]
    obtain ⟨h1, h2⟩ := ho _ (getD_mem (od := od) (c := c) (by have := hg.2 c rfl; omega))
    generalize od.getD c 0 = o at *
    have e1 : w / 4096 * 31 ≤ w / 4096 * o := Nat.mul_le_mul_left _ h1
    have e2 : w / 4096 * o ≤ w / 4096 * 4065 := Nat.mul_le_mul_left _ h2
    omega
theorem odd_in {o b : Nat} (h : 31 ≤ o ∧ o ≤ 4065) : 31 ≤ odd' o b ∧ odd' o b ≤ 4065 := by unfold odd'; split <;> omega
theorem learnO_len (od : List Nat) (c : Option Nat) (b : Nat) : (learnO od c b).length = od.length := by cases c <;> simp [learnO, learnt]
theorem learnO_in {od : List Nat} {n : Nat} {x : Option Nat × Nat} (hl : od.length = n) (ho : ∀ o ∈ od, 31 ≤ o ∧ o ≤ 4065) (hg : good n x) : ∀ o ∈ learnO od x.1 x.2, 31 ≤ o ∧ o ≤ 4065 := by
  obtain ⟨c, b⟩ := x
  rcases c with _ | c
  · exact ho
  · intro o hm
    rcases List.mem_or_eq_of_mem_set hm with h | rfl
    · exact ho o h
    · exact odd_in (ho _ (getD_mem (by have := hg.2 c rfl; omega)))
/-- One bit: the new interval lies within the old one. -/
theorem step_in {s : Co} {n : Nat} (h : Ok s n) {x : Option Nat × Nat} (hg : good n x) :
    Ok (step s x) n ∧ ∃ m, m ≤ 1 ∧ (step s x).k = s.k + m ∧ s.lo * 256 ^ m ≤ (step s x).lo ∧ (step s x).lo + (step s x).w ≤ (s.lo + s.w) * 256 ^ m := by
  obtain ⟨b1, b2⟩ := bound_in h.len h.odd h.wlo hg
  have hw := h.whi
  have hwl := h.wlo
  have ht := h.top
  have ho := learnO_in h.len h.odd hg
  have hl : (learnO s.od x.1 x.2).length = n := (learnO_len _ _ _).trans h.len
  have hb := hg.1
  have hk := h.k4
  unfold step enc
  generalize boundOf s.w s.od x.1 = bd at *
  obtain ⟨c, b⟩ := x
  simp only at *
  generalize learnO s.od c b = od' at *
  have key : ∀ lo w : Nat, s.lo ≤ lo → lo + w ≤ s.lo + s.w → 65536 ≤ w → w < 4294967296 →
      Ok ⟨(shft ⟨lo, s.k, w, s.od⟩).lo, (shft ⟨lo, s.k, w, s.od⟩).k, (shft ⟨lo, s.k, w, s.od⟩).w, od'⟩ n ∧ ∃ m, m ≤ 1 ∧ (shft ⟨lo, s.k, w, s.od⟩).k = s.k + m ∧ s.lo * 256 ^ m ≤ (shft ⟨lo, s.k, w, s.od⟩).lo ∧ (shft ⟨lo, s.k, w, s.od⟩).lo + (shft ⟨lo, s.k, w, s.od⟩).w ≤ (s.lo + s.w) * 256 ^ m := by
    intro lo w h1 h2 h3 h4
    unfold shft
    by_cases hs : w < 16777216
    · simp only [hs, if_true]
      refine ⟨⟨hl, ho, by simp only; omega, by simp only; omega, by simp only; omega, ?_⟩, 1, Nat.le_refl _, rfl, by omega, by omega⟩
      show lo * 256 + w * 256 ≤ 256 ^ (s.k + 1)
      rw [Nat.pow_succ]; omega
    · simp only [hs, if_false]
      exact ⟨⟨hl, ho, by simp only; omega, h4, hk, by simp only; omega⟩, 0, by omega, rfl, by omega, by omega⟩
  by_cases h0 : b = 0
  · simp only [h0, if_true]
    exact key s.lo bd (Nat.le_refl _) (by omega) b1 (by omega)
  · simp only [h0, if_false]
    exact key (s.lo + bd) (s.w - bd) (by omega) (by omega) (by omega) (by omega)
theorem runs_in : ∀ (l : List (Option Nat × Nat)) {s : Co} {n : Nat}, Ok s n → (∀ x ∈ l, good n x) →
    Ok (run s l) n ∧ ∃ m, m ≤ l.length ∧ (run s l).k = s.k + m ∧ s.lo * 256 ^ m ≤ (run s l).lo ∧ (run s l).lo + (run s l).w ≤ (s.lo + s.w) * 256 ^ m
  | [], s, n, h, _ => ⟨h, 0, Nat.le_refl _, rfl, by simp [run], by simp [run]⟩
  | x :: l, s, n, h, hg => by
    obtain ⟨h1, m1, a1, a2, a3, a4⟩ := step_in h (hg x (by simp))
    obtain ⟨h2, m2, b1, b2, b3, b4⟩ := runs_in l h1 (fun y hy => hg y (by simp [hy]))
    rw [run_cons]
    refine ⟨h2, m1 + m2, by simp; omega, by omega, ?_, ?_⟩
    · rw [Nat.pow_add, ← Nat.mul_assoc]; exact Nat.le_trans (Nat.mul_le_mul_right _ a3) b3
    · rw [Nat.pow_add, ← Nat.mul_assoc]; exact Nat.le_trans b4 (Nat.mul_le_mul_right _ a4)

/-- A decoder: the bytes that were not read, Value, Width, the odds, the first error. -/
structure De where
  rest : List Nat
  v : Nat
  w : Nat
  od : List Nat
  er : Nat
def dec (s : De) (bd : Nat) : De × Nat :=
  let v := if s.v < bd then s.v else s.v - bd
  let w := if s.v < bd then bd else s.w - bd
  let b := if s.v < bd then 0 else 1
  if w < 16777216 then
    match s.rest with
    | [] => (⟨s.rest, s.v, s.w, s.od, 3⟩, 0)
    | x :: r => (⟨r, v * 256 + x, w * 256, s.od, s.er⟩, b)
  else (⟨s.rest, v, w, s.od, s.er⟩, b)
structure DOk (s : De) (n : Nat) : Prop where
  len : s.od.length = n
  odd : ∀ o ∈ s.od, 31 ≤ o ∧ o ≤ 4065
  wlo : 16777216 ≤ s.w
  whi : s.w < 4294967296
  vw : s.v < s.w
  byte : ∀ x ∈ s.rest, x < 256
theorem dec_ok {s : De} {n : Nat} (h : DOk s n) {bd : Nat} (h1 : 65536 ≤ bd) (h2 : bd + 65536 ≤ s.w) : DOk (dec s bd).1 n ∧ (dec s bd).2 ≤ 1 ∧ (dec s bd).1.od = s.od ∧ ((dec s bd).1.er = s.er ∨ (dec s bd).1.er = 3 ∧ (dec s bd).2 = 0 ∧ (dec s bd).1 = ⟨s.rest, s.v, s.w, s.od, 3⟩) := by
  obtain ⟨rest, v, w, od, er⟩ := s
  obtain ⟨a1, a2, a3, a4, a5, a6⟩ := h
  simp only at *
  unfold dec
  by_cases hv : v < bd
  · simp only [hv, if_true]
    by_cases hs : bd < 16777216
    · simp only [hs, if_true]
      cases rest with
      | nil => exact ⟨⟨a1, a2, a3, a4, a5, a6⟩, by simp, rfl, .inr ⟨rfl, rfl, rfl⟩⟩
      | cons x r =>
        have hx := a6 x (by simp)
        exact ⟨⟨a1, a2, by simp only; omega, by simp only; omega, by simp only; omega, fun y hy => a6 y (by simp [hy])⟩, by simp, rfl, .inl rfl⟩
    · simp only [hs, if_false]
      exact ⟨⟨a1, a2, by simp only; omega, by simp only; omega, hv, a6⟩, by simp, trivial, .inl trivial⟩
  · simp only [hv, if_false]
    by_cases hs : w - bd < 16777216
    · simp only [hs, if_true]
      cases rest with
      | nil => exact ⟨⟨a1, a2, a3, a4, a5, a6⟩, by simp, rfl, .inr ⟨rfl, rfl, rfl⟩⟩
      | cons x r =>
        have hx := a6 x (by simp)
        exact ⟨⟨a1, a2, by simp only; omega, by simp only; omega, by simp only; omega, fun y hy => a6 y (by simp [hy])⟩, by simp, rfl, .inl rfl⟩
    · simp only [hs, if_false]
      exact ⟨⟨a1, a2, by simp only; omega, by simp only; omega, by simp only; omega, a6⟩, by simp, trivial, .inl trivial⟩
/-- The decoder of the digits of f that has read what a coder has put so far. -/
def Sy (f s : Co) : De := ⟨(digs f.k f.lo).drop s.k, f.lo / 256 ^ (f.k - s.k) - s.lo, s.w, s.od, 0⟩
theorem sy_ok {f s : Co} {n m : Nat} (h : Ok s n) (hk : f.k = s.k + m) (h1 : s.lo * 256 ^ m ≤ f.lo) (h2 : f.lo + 1 ≤ (s.lo + s.w) * 256 ^ m) : DOk (Sy f s) n := by
  refine ⟨h.len, h.odd, h.wlo, h.whi, ?_, fun x hx => digs_lt x (List.mem_of_mem_drop hx)⟩
  have hp : 0 < 256 ^ m := Nat.pow_pos (by omega)
  have e1 : s.lo ≤ f.lo / 256 ^ m := (Nat.le_div_iff_mul_le hp).2 h1
  have e2 : f.lo / 256 ^ m < s.lo + s.w := (Nat.div_lt_iff_lt_mul hp).2 (by omega)
  show f.lo / 256 ^ (f.k - s.k) - s.lo < s.w
  rw [show f.k - s.k = m by omega]
  omega
/-- One bit is decoded as it was encoded. -/
theorem sy_step {f s : Co} {n m : Nat} (h : Ok s n) {x : Option Nat × Nat} (hg : good n x) (hk : f.k = (step s x).k + m) (h1 : (step s x).lo * 256 ^ m ≤ f.lo) (h2 : f.lo + 1 ≤ ((step s x).lo + (step s x).w) * 256 ^ m) :
    dec (Sy f s) (boundOf s.w s.od x.1) = (⟨(Sy f (step s x)).rest, (Sy f (step s x)).v, (Sy f (step s x)).w, s.od, 0⟩, x.2) := by
  obtain ⟨b1, b2⟩ := bound_in h.len h.odd h.wlo hg
  have hb := hg.1
  have hp : 0 < 256 ^ m := Nat.pow_pos (by omega)
  unfold step enc at hk h1 h2 ⊢
  unfold Sy
  generalize boundOf s.w s.od x.1 = bd at *
  obtain ⟨c, b⟩ := x
  simp only at *
  have key : ∀ lo w : Nat, f.k = (shft ⟨lo, s.k, w, s.od⟩).k + m → (shft ⟨lo, s.k, w, s.od⟩).lo * 256 ^ m ≤ f.lo → f.lo + 1 ≤ ((shft ⟨lo, s.k, w, s.od⟩).lo + (shft ⟨lo, s.k, w, s.od⟩).w) * 256 ^ m →
      lo ≤ f.lo / 256 ^ (f.k - s.k) ∧ f.lo / 256 ^ (f.k - s.k) < lo + w ∧
      (w < 16777216 → (digs f.k f.lo).drop s.k = f.lo / 256 ^ (f.k - (s.k + 1)) % 256 :: (digs f.k f.lo).drop (s.k + 1) ∧ f.lo / 256 ^ (f.k - (s.k + 1)) - lo * 256 = (f.lo / 256 ^ (f.k - s.k) - lo) * 256 + f.lo / 256 ^ (f.k - (s.k + 1)) % 256) := by
    intro lo w hk h1 h2
    unfold shft at hk h1 h2
    by_cases hs : w < 16777216
    · simp only [hs, if_true] at hk h1 h2
      have e : f.k - s.k = m + 1 := by omega
      have e' : f.k - (s.k + 1) = m := by omega
      rw [e, e', div_pow_add, Nat.pow_one]
      have e1 : lo * 256 ≤ f.lo / 256 ^ m := (Nat.le_div_iff_mul_le hp).2 h1
      have e2 : f.lo / 256 ^ m < lo * 256 + w * 256 := (Nat.div_lt_iff_lt_mul hp).2 (by omega)
      refine ⟨by omega, by omega, fun _ => ⟨?_, by omega⟩⟩
      have hlt : s.k < (digs f.k f.lo).length := by rw [digs_len]; omega
      rw [List.drop_eq_getElem_cons hlt]
      congr 1
      have := digs_get (k := f.k) (lo := f.lo) (i := s.k) (by omega)
      rw [List.getElem?_eq_getElem hlt] at this
      injection this with this
      rw [this, show f.k - 1 - s.k = m by omega]
    · simp only [hs, if_false] at hk h1 h2
      have e : f.k - s.k = m := by omega
      rw [e]
      have e1 : lo ≤ f.lo / 256 ^ m := (Nat.le_div_iff_mul_le hp).2 h1
      have e2 : f.lo / 256 ^ m < lo + w := (Nat.div_lt_iff_lt_mul hp).2 (by omega)
      exact ⟨e1, e2, fun hw => absurd hw hs⟩
  by_cases h0 : b = 0
  · simp only [h0, if_true] at *
    obtain ⟨k1, k2, k3⟩ := key _ _ hk h1 h2
    unfold dec shft
    rw [if_pos (show f.lo / 256 ^ (f.k - s.k) - s.lo < bd by omega)]
    simp only [show f.lo / 256 ^ (f.k - s.k) - s.lo < bd from by omega, if_true]
    by_cases hs : bd < 16777216
    · obtain ⟨k4, k5⟩ := k3 hs
      simp only [hs, if_true]
      rw [k4, k5]
    · simp only [hs, if_false]
  · have hb1 : b = 1 := by omega
    subst hb1
    simp only [Nat.one_ne_zero, if_false] at *
    obtain ⟨k1, k2, k3⟩ := key _ _ hk h1 h2
    unfold dec shft
    have hn : ¬ f.lo / 256 ^ (f.k - s.k) - s.lo < bd := by omega
    simp only [hn, if_false]
    by_cases hs : s.w - bd < 16777216
    · obtain ⟨k4, k5⟩ := k3 hs
      simp only [hs, if_true]
      rw [k4]
      simp only [show f.lo / 256 ^ (f.k - (s.k + 1)) - (s.lo + bd) * 256 = (f.lo / 256 ^ (f.k - s.k) - s.lo - bd) * 256 + f.lo / 256 ^ (f.k - (s.k + 1)) % 256 by rw [k5]; omega]
    · simp only [hs, if_false]
      congr 2
      omega
end Go.Proofs.Ytghbjlmbehljdaa
