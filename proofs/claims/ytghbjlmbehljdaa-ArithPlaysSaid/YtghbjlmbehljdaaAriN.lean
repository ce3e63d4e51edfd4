/- arith: plain: numbers as bits; what a decoder's methods answer; a decoder of a coder's bytes. -/
import Derived.Test.YtghbjlmbehljdaaAriP
namespace Go.Proofs.Ytghbjlmbehljdaa

def hasB (n : Nat) (c : Int) : Bool := decide (0 ≤ c) && decide (c < n)
def haveB (n : Nat) (c : Int) : Bool := decide (0 ≤ c) && decide (c < (n : Int) - 32)
theorem has_iff {n : Nat} {c : Int} : hasB n c = true ↔ 0 ≤ c ∧ c < n := by simp [hasB]
theorem have_iff {n : Nat} {c : Int} : haveB n c = true ↔ 0 ≤ c ∧ c < (n : Int) - 32 := by simp [haveB]
def rawOps : Nat → Nat → List (Option Nat × Nat)
  | _, 0 => []
  | v, k + 1 => rawOps (v / 2) k ++ [(none, v % 2)]
def ones (c d : Nat) : List (Option Nat × Nat) := (List.range d).map fun i => (some (c + i), 1)
def numD (v : Nat) : Nat := Nat.log2 (v + 1)
def tailO (c d : Nat) : List (Option Nat × Nat) := if d < 32 then [(some (c + d), 0)] else []
def numOps (c v : Nat) : List (Option Nat × Nat) := ones c (numD v) ++ tailO c (numD v) ++ rawOps (v + 1 - 2 ^ numD v) (numD v)
theorem raw_good (n : Nat) : ∀ (k v : Nat), ∀ x ∈ rawOps v k, good n x
  | 0, v, x, h => by simp [rawOps] at h
  | k + 1, v, x, h => by
    simp only [rawOps, List.mem_append, List.mem_singleton] at h
    rcases h with h | rfl
    · exact raw_good n k _ x h
    · exact ⟨by simp only; omega, fun c hc => by simp at hc⟩
theorem raw_len : ∀ (k v : Nat), (rawOps v k).length = k
  | 0, v => rfl
  | k + 1, v => by simp [rawOps, raw_len k]
theorem ones_good {n c d : Nat} (h : c + d ≤ n) : ∀ x ∈ ones c d, good n x := by
  intro x hx
  obtain ⟨i, hi, rfl⟩ := List.mem_map.1 hx
  have hi : i < d := by simpa using hi
  refine ⟨Nat.le_refl _, fun c' h' => ?_⟩
  injection h' with h'
  omega
theorem ones_succ (c d : Nat) : ones c (d + 1) = ones c d ++ [(some (c + d), 1)] := by simp [ones, List.range_succ]
theorem tail_good {n c d : Nat} (h : c + 32 < n) : ∀ x ∈ tailO c d, good n x := by
  intro x hx
  unfold tailO at hx
  split at hx
  · obtain rfl := List.mem_singleton.1 hx
    refine ⟨by simp, fun c' h' => ?_⟩
    injection h' with h'
    omega
  · simp at hx
theorem numD_in (v : Nat) : 2 ^ numD v ≤ v + 1 ∧ v + 1 < 2 ^ (numD v + 1) := ⟨Nat.log2_self_le (by omega), Nat.lt_log2_self⟩
theorem numD_le {v : Nat} (h : v < 4294967296) : numD v ≤ 32 := by
  rcases Nat.lt_or_ge 32 (numD v) with h1 | h1
  · have h2 := (numD_in v).1
    have h3 : 2 ^ 33 ≤ 2 ^ numD v := Nat.pow_le_pow_right (by omega) h1
    omega
  · exact h1
theorem numD_rest {v : Nat} : v + 1 - 2 ^ numD v < 2 ^ numD v := by
  have := numD_in v
  rw [Nat.pow_succ] at this
  omega
theorem num_good {n c v : Nat} (h : c + 32 < n) (hv : v < 4294967296) : ∀ x ∈ numOps c v, good n x := by
  intro x hx
  have := numD_le hv
  rcases List.mem_append.1 hx with hx | hx
  · rcases List.mem_append.1 hx with hx | hx
    · exact ones_good (by omega) x hx
    · exact tail_good h x hx
  · exact raw_good n _ _ x hx
theorem num_len {c v : Nat} (hv : v < 4294967296) : (numOps c v).length ≤ 65 := by
  have := numD_le hv
  have h1 : (tailO c (numD v)).length ≤ 1 := by unfold tailO; split <;> simp
  simp only [numOps, List.length_append, raw_len]
  have h2 : (ones c (numD v)).length = numD v := by simp [ones]
  omega

/-- Raw: so many bits, until the first error. -/
def drawN (s : De) : Nat → De × Nat
  | 0 => (s, 0)
  | k + 1 => if (drawN s k).1.er ≠ 0 then drawN s k else
    ((dec (drawN s k).1 ((drawN s k).1.w / 2)).1, (drawN s k).2 * 2 + (dec (drawN s k).1 ((drawN s k).1.w / 2)).2)
def withE (s : De) (e : Nat) : De := ⟨s.rest, s.v, s.w, s.od, e⟩
def withO (s : De) (od : List Nat) : De := ⟨s.rest, s.v, s.w, od, s.er⟩
def zeroE (t : De × Nat) : De × Nat := if t.1.er ≠ 0 then (t.1, 0) else t
def dget (s : De) (c : Int) : De × Nat :=
  if s.er ≠ 0 then (s, 0) else if hasB s.od.length c = false then (withE s 1, 0) else
  if (dec s (boundOf s.w s.od (some c.toNat))).1.er ≠ 0 then ((dec s (boundOf s.w s.od (some c.toNat))).1, 0)
  else (withO (dec s (boundOf s.w s.od (some c.toNat))).1 (learnt s.od c.toNat (dec s (boundOf s.w s.od (some c.toNat))).2), (dec s (boundOf s.w s.od (some c.toNat))).2)
def draw (s : De) (n : Int) : De × Nat :=
  if s.er ≠ 0 then (s, 0) else if n < 0 ∨ 32 < n then (withE s 1, 0) else zeroE (drawN s n.toNat)
/-- How many bits 1 are read, from context c + d on; what reads them. -/
def dones (c : Int) : De → Nat → Nat → De × Nat
  | s, d, 0 => (s, d)
  | s, d, f + 1 => if (dget s (c + d)).2 = 1 then dones c (dget s (c + d)).1 (d + 1) f else ((dget s (c + d)).1, d)
def dnum2 (s : De) (d most : Nat) : De × Nat :=
  if (draw s d).1.er ≠ 0 then ((draw s d).1, 0) else if most < 2 ^ d + (draw s d).2 - 1 then (withE (draw s d).1 2, 0) else ((draw s d).1, 2 ^ d + (draw s d).2 - 1)
def dnum (s : De) (c : Int) (most : Nat) : De × Nat :=
  if s.er ≠ 0 then (s, 0) else if haveB s.od.length c = false then (withE s 1, 0) else
  dnum2 (dones c s 0 32).1 (dones c s 0 32).2 most

theorem withE_ok {s : De} {n e : Nat} (h : DOk s n) : DOk (withE s e) n := ⟨h.len, h.odd, h.wlo, h.whi, h.vw, h.byte⟩
theorem half_in {s : De} {n : Nat} (h : DOk s n) : 65536 ≤ s.w / 2 ∧ s.w / 2 + 65536 ≤ s.w := by have := h.wlo; omega
theorem drawN_ok {s : De} {n : Nat} (h : DOk s n) : ∀ k, DOk (drawN s k).1 n ∧ (drawN s k).2 < 2 ^ k
  | 0 => ⟨h, by simp [drawN]⟩
  | k + 1 => by
    obtain ⟨h1, h2⟩ := drawN_ok h k
    have h3 := dec_ok h1 (half_in h1).1 (half_in h1).2
    unfold drawN
    rw [Nat.pow_succ]
    split
    · exact ⟨h1, by omega⟩
    · exact ⟨h3.1, by have := h3.2.1; simp only; omega⟩
/-- Behind an error nothing is read. -/
theorem drawN_stop {s : De} {k : Nat} (h : (drawN s k).1.er ≠ 0) : ∀ n, k ≤ n → drawN s n = drawN s k := by
  intro n
  induction n with
  | zero => intro hk; rw [show k = 0 by omega]
  | succ n ih =>
    intro hk
    rcases Nat.lt_or_ge n k with h1 | h1
    · rw [show n + 1 = k by omega]
    · have h2 := ih h1
      conv => lhs; unfold drawN
      rw [h2, if_pos h]
theorem bnd_in {s : De} {n c : Nat} (h : DOk s n) (hc : c < n) : 65536 ≤ boundOf s.w s.od (some c) ∧ boundOf s.w s.od (some c) + 65536 ≤ s.w :=
  bound_in h.len h.odd h.wlo (x := (some c, 0)) ⟨by simp, fun c' e => by injection e with e; omega⟩
theorem dget_ok {s : De} {n : Nat} (h : DOk s n) (c : Int) : DOk (dget s c).1 n ∧ (dget s c).2 ≤ 1 := by
  unfold dget
  split
  · exact ⟨h, by simp⟩
  · split
    · exact ⟨withE_ok h, by simp⟩
    · rename_i hh
      have hc : c.toNat < n := by
        have := has_iff.1 (by simpa using hh : hasB s.od.length c = true)
        have := h.len
        omega
      have h3 := dec_ok h (bnd_in h hc).1 (bnd_in h hc).2
      split
      · exact ⟨h3.1, by simp⟩
      · refine ⟨⟨(List.length_set ..).trans h.len, ?_, h3.1.wlo, h3.1.whi, h3.1.vw, h3.1.byte⟩, h3.2.1⟩
        exact learnO_in (x := (some c.toNat, (dec s (boundOf s.w s.od (some c.toNat))).2)) h.len h.odd ⟨h3.2.1, fun c' e => by injection e with e; omega⟩
theorem draw_ok {s : De} {n : Nat} (h : DOk s n) (k : Int) : DOk (draw s k).1 n ∧ (draw s k).2 < 2 ^ k.toNat := by
  have hp : 0 < 2 ^ k.toNat := Nat.pow_pos (by omega)
  unfold draw
  split
  · exact ⟨h, hp⟩
  · split
    · exact ⟨withE_ok h, hp⟩
    · unfold zeroE
      have := drawN_ok h k.toNat
      split
      · exact ⟨this.1, hp⟩
      · exact this
theorem dones_ok {n : Nat} {c : Int} : ∀ (f : Nat) {s : De} {d : Nat}, DOk s n → DOk (dones c s d f).1 n ∧ (dones c s d f).2 ≤ d + f
  | 0, s, d, h => ⟨h, by simp [dones]⟩
  | f + 1, s, d, h => by
    have h1 := dget_ok h (c + d)
    unfold dones
    split
    · have := dones_ok (c := c) f (d := d + 1) h1.1
      exact ⟨this.1, by omega⟩
    · exact ⟨h1.1, by simp only; omega⟩
theorem dnum2_ok {s : De} {n d most : Nat} (h : DOk s n) : DOk (dnum2 s d most).1 n := by
  unfold dnum2
  have := draw_ok h (d : Int)
  split
  · exact this.1
  · split
    · exact withE_ok this.1
    · exact this.1
theorem dnum_ok {s : De} {n most : Nat} {c : Int} (h : DOk s n) : DOk (dnum s c most).1 n := by
  unfold dnum
  split
  · exact h
  · split
    · exact withE_ok h
    · exact dnum2_ok (dones_ok 32 h).1

/-- f is a state that a coder can come to from s. -/
def In (f s : Co) : Prop := ∃ m, f.k = s.k + m ∧ s.lo * 256 ^ m ≤ f.lo ∧ f.lo + 1 ≤ (s.lo + s.w) * 256 ^ m
theorem In.self {f : Co} {n : Nat} (h : Ok f n) : In f f := ⟨0, rfl, by simp, by have := h.wlo; simp; omega⟩
theorem In.back {f s : Co} {n : Nat} {x : Option Nat × Nat} (h : Ok s n) (hg : good n x) (hi : In f (step s x)) : In f s := by
  obtain ⟨m, h1, h2, h3⟩ := hi
  obtain ⟨_, m1, _, a2, a3, a4⟩ := step_in h hg
  refine ⟨m1 + m, by omega, ?_, ?_⟩
  · rw [Nat.pow_add, ← Nat.mul_assoc]; exact Nat.le_trans (Nat.mul_le_mul_right _ a3) h2
  · rw [Nat.pow_add, ← Nat.mul_assoc]; exact Nat.le_trans h3 (Nat.mul_le_mul_right _ a4)
theorem In.run : ∀ (l : List (Option Nat × Nat)) {f s : Co} {n : Nat}, Ok s n → (∀ x ∈ l, good n x) → In f (run s l) → In f s
  | [], f, s, n, _, _, hi => hi
  | x :: l, f, s, n, h, hg, hi => In.back h (hg x (by simp)) (In.run l (step_in h (hg x (by simp))).1 (fun y hy => hg y (by simp [hy])) hi)
theorem In.ok {f s : Co} {n : Nat} (h : Ok s n) (hi : In f s) : DOk (Sy f s) n := by
  obtain ⟨m, h1, h2, h3⟩ := hi
  exact sy_ok h h1 h2 h3
theorem In.dec {f s : Co} {n : Nat} {x : Option Nat × Nat} (h : Ok s n) (hg : good n x) (hi : In f (step s x)) :
    dec (Sy f s) (boundOf s.w s.od x.1) = (⟨(Sy f (step s x)).rest, (Sy f (step s x)).v, (Sy f (step s x)).w, s.od, 0⟩, x.2) := by
  obtain ⟨m, h1, h2, h3⟩ := hi
  exact sy_step h hg h1 h2 h3
theorem sy_get {f s : Co} {n c b : Nat} (h : Ok s n) (hc : c < n) (hb : b ≤ 1) (hi : In f (step s (some c, b))) : dget (Sy f s) c = (Sy f (step s (some c, b)), b) := by
  have hd := In.dec h (x := (some c, b)) ⟨hb, fun c' e => by injection e with e; omega⟩ hi
  unfold dget
  have hh : hasB (Sy f s).od.length (c : Int) = true := has_iff.2 ⟨by omega, by show (c : Int) < (s.od.length : Nat); rw [h.len]; omega⟩
  rw [if_neg (by simp [Sy]), if_neg (by rw [hh]; simp), Int.toNat_natCast]
  rw [show boundOf (Sy f s).w (Sy f s).od (some c) = boundOf s.w s.od (some c) from rfl, hd]
  simp only [ne_eq, not_true_eq_false, if_false]
  rfl
theorem sy_drawN {f s : Co} {n : Nat} (h : Ok s n) : ∀ (k v : Nat), In f (run s (rawOps v k)) → drawN (Sy f s) k = (Sy f (run s (rawOps v k)), v % 2 ^ k)
  | 0, v, _ => by simp [drawN, rawOps, run]; omega
  | k + 1, v, hi => by
    have e : run s (rawOps v (k + 1)) = step (run s (rawOps (v / 2) k)) (none, v % 2) := by simp [rawOps, run_app, run]
    rw [e] at hi ⊢
    have hk := (runs_in (rawOps (v / 2) k) h (raw_good n _ _)).1
    have hg : good n ((none : Option Nat), v % 2) := ⟨by simp only; omega, fun c hc => by simp at hc⟩
    have ih := sy_drawN h k (v / 2) (In.back hk hg hi)
    have hd := In.dec hk hg hi
    unfold drawN
    rw [ih]
    rw [if_neg (by simp [Sy])]
    simp only
    rw [show (Sy f (run s (rawOps (v / 2) k))).w / 2 = boundOf (run s (rawOps (v / 2) k)).w (run s (rawOps (v / 2) k)).od none from rfl, hd]
    refine Prod.ext rfl ?_
    show v / 2 % 2 ^ k * 2 + v % 2 = v % 2 ^ (k + 1)
    rw [Nat.pow_succ, Nat.mul_comm (2 ^ k) 2, Nat.mod_mul]
    omega
theorem sy_draw {f s : Co} {n k v : Nat} (h : Ok s n) (hk : k ≤ 32) (hi : In f (run s (rawOps v k))) : draw (Sy f s) k = (Sy f (run s (rawOps v k)), v % 2 ^ k) := by
  unfold draw
  rw [if_neg (by simp [Sy]), if_neg (by omega), Int.toNat_natCast, sy_drawN h k v hi]
  simp [zeroE, Sy]
theorem sy_dones {f s : Co} {n c d : Nat} (h : Ok s n) (hc : c + 32 < n) (hd : d ≤ 32) (hi : In f (run s (ones c d ++ tailO c d))) :
    ∀ j, j ≤ d → dones c (Sy f (run s (ones c (d - j)))) (d - j) (32 - (d - j)) = (Sy f (run s (ones c d ++ tailO c d)), d)
  | 0, _ => by
    rw [Nat.sub_zero]
    rw [run_app] at hi ⊢
    unfold tailO at hi ⊢
    by_cases hd2 : d < 32
    · rw [if_pos hd2] at hi ⊢
      obtain ⟨q, hq⟩ : ∃ q, 32 - d = q + 1 := ⟨31 - d, by omega⟩
      have ho := (runs_in (ones c d) h (ones_good (n := n) (by omega))).1
      have hg := sy_get (f := f) (c := c + d) (b := 0) ho (by omega) (by omega) hi
      rw [hq]
      unfold dones
      rw [show ((c : Nat) : Int) + (d : Nat) = ((c + d : Nat) : Int) by omega, hg]
      rfl
    · rw [if_neg hd2]
      rw [show 32 - d = 0 by omega]
      rfl
  | j + 1, hj => by
    have ih := sy_dones h hc hd hi j (by omega)
    obtain ⟨e, he⟩ : ∃ e, d - (j + 1) = e := ⟨_, rfl⟩
    have he1 : d - j = e + 1 := by omega
    rw [he]
    rw [he1] at ih
    obtain ⟨q, hq⟩ : ∃ q, 32 - e = q + 1 := ⟨31 - e, by omega⟩
    have ho := (runs_in (ones c e) h (ones_good (n := n) (by omega))).1
    have hsplit : run s (ones c d ++ tailO c d) = run (step (run s (ones c e)) (some (c + e), 1)) ((List.range (d - (e + 1))).map (fun i => (some (c + (e + 1) + i), 1)) ++ tailO c d) := by
      have h1 : ones c d = ones c (e + 1) ++ (List.range (d - (e + 1))).map (fun i => (some (c + (e + 1) + i), 1)) := by
        apply List.ext_getElem?
        intro i
        unfold ones
        by_cases hi1 : i < e + 1
        · rw [List.getElem?_append_left (by simpa using hi1), List.getElem?_map, List.getElem?_map, List.getElem?_range (by omega), List.getElem?_range (by omega)]
        · rw [List.getElem?_append_right (by simp; omega), List.getElem?_map, List.getElem?_map, List.length_map, List.length_range]
          by_cases hi2 : i < d
          · rw [List.getElem?_range hi2, List.getElem?_range (by omega)]
            simp only [Option.map_some]
            rw [show c + (e + 1) + (i - (e + 1)) = c + i by omega]
          · rw [List.getElem?_eq_none (by simp; omega), List.getElem?_eq_none (by simp; omega)]
            rfl
      rw [h1, ones_succ, List.append_assoc, List.append_assoc, run_app, run_app]
      rfl
    have hi1 : In f (step (run s (ones c e)) (some (c + e), 1)) := by
      rw [hsplit] at hi
      refine In.run _ (n := n) (step_in ho ⟨by simp, fun c' e' => by injection e' with e'; omega⟩).1 ?_ hi
      intro x hx
      rcases List.mem_append.1 hx with hx | hx
      · obtain ⟨i, hi', rfl⟩ := List.mem_map.1 hx
        have : i < d - (e + 1) := by simpa using hi'
        exact ⟨by simp, fun c' e' => by injection e' with e'; omega⟩
      · exact tail_good hc x hx
    have hg := sy_get (f := f) (c := c + e) (b := 1) ho (by omega) (by omega) hi1
    rw [hq]
    unfold dones
    rw [show ((c : Nat) : Int) + (e : Nat) = ((c + e : Nat) : Int) by omega, hg]
    simp only [if_true]
    rw [ones_succ, run_app, show 32 - (e + 1) = q by omega] at ih
    exact ih
theorem sy_num {f s : Co} {n c v most : Nat} (h : Ok s n) (hc : c + 32 < n) (hv : v < 4294967296) (hi : In f (run s (numOps c v))) :
    dnum (Sy f s) c most = if most < v then (withE (Sy f (run s (numOps c v))) 2, 0) else (Sy f (run s (numOps c v)), v) := by
  have hd := numD_le hv
  have hin := numD_in v
  have hr := @numD_rest v
  have hh : haveB (Sy f s).od.length (c : Int) = true := have_iff.2 ⟨by omega, by show (c : Int) < ((s.od.length : Nat) : Int) - 32; rw [h.len]; omega⟩
  have e : numOps c v = ones c (numD v) ++ tailO c (numD v) ++ rawOps (v + 1 - 2 ^ numD v) (numD v) := rfl
  rw [e, run_app] at hi ⊢
  have hg1 : ∀ x ∈ ones c (numD v) ++ tailO c (numD v), good n x := fun x hx => by
    rcases List.mem_append.1 hx with hx | hx
    · exact ones_good (by omega) x hx
    · exact tail_good hc x hx
  have ho := (runs_in _ h hg1).1
  have hi1 := In.run _ ho (raw_good n _ _) hi
  have h1 := sy_dones h hc hd hi1 (numD v) (Nat.le_refl _)
  rw [Nat.sub_self, show ones c 0 = [] from rfl, show run s [] = s from rfl, Nat.sub_zero] at h1
  have h2 := sy_draw ho hd hi
  unfold dnum
  rw [if_neg (by simp [Sy]), if_neg (by rw [hh]; simp), h1]
  unfold dnum2
  rw [h2, Nat.mod_eq_of_lt hr]
  rw [if_neg (by simp [Sy])]
  simp only
  rw [show 2 ^ numD v + (v + 1 - 2 ^ numD v) - 1 = v by omega]
end Go.Proofs.Ytghbjlmbehljdaa
