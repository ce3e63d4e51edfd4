/- sums: Print, Power, Join, plain. -/
namespace Go.Proofs.Ytggddckckfilgaa

/-- The Print that goes on from h. -/
def hs (h : Nat) (l : List Nat) : Nat := l.foldl (fun h c => (h * 1000003 + c + 1) % 2305843009213693951) h
def pw (n : Nat) : Nat := 1000003 ^ n % 2305843009213693951
def jn (a b n : Nat) : Nat := (a * pw n % 2305843009213693951 + b) % 2305843009213693951
/-- Power of any number. -/
def pwI (n : Int) : Nat := pw n.toNat
def jnI (a b : Nat) (n : Int) : Nat × Bool := if 2305843009213693951 ≤ a ∨ 2305843009213693951 ≤ b ∨ n < 0 then (0, false) else (jn a b n.toNat, true)

theorem pw_lt (n : Nat) : pw n < 2305843009213693951 := Nat.mod_lt _ (by omega)
theorem pwI_lt (n : Int) : pwI n < 2305843009213693951 := pw_lt _
theorem jn_lt (a b n : Nat) : jn a b n < 2305843009213693951 := Nat.mod_lt _ (by omega)
theorem hs_snoc (h : Nat) (l : List Nat) (c : Nat) : hs h (l ++ [c]) = (hs h l * 1000003 + c + 1) % 2305843009213693951 := by simp [hs]
theorem hs_app (h : Nat) (l m : List Nat) : hs h (l ++ m) = hs (hs h l) m := by simp [hs]
theorem hs_lt (l : List Nat) (h : Nat) (hh : h < 2305843009213693951) : hs h l < 2305843009213693951 := by
  induction l generalizing h with
  | nil => exact hh
  | cons c l ih => exact ih _ (Nat.mod_lt _ (by omega))
theorem pw_add (m n : Nat) : pw (m + n) = pw m * pw n % 2305843009213693951 := by
  unfold pw
  rw [Nat.pow_add, Nat.mul_mod]
theorem pw_succ (n : Nat) : pw (n + 1) = 1000003 * pw n % 2305843009213693951 := by
  rw [Nat.add_comm, pw_add]; rfl
theorem hs_cons (h c : Nat) (l : List Nat) : hs h (c :: l) = hs ((h * 1000003 + c + 1) % 2305843009213693951) l := by simp [hs]
theorem lift1 (h g c : Nat) : ((h + g) % 2305843009213693951 * 1000003 + c + 1) % 2305843009213693951 = (h * 1000003 % 2305843009213693951 + (g * 1000003 + c + 1) % 2305843009213693951) % 2305843009213693951 := by omega
theorem hs_key (l : List Nat) : ∀ (h g : Nat), hs ((h + g) % 2305843009213693951) l % 2305843009213693951 = (h * pw l.length + hs g l) % 2305843009213693951 := by
  induction l with
  | nil => intro h g; simp [hs, pw]
  | cons c l ih =>
    intro h g
    rw [hs_cons, hs_cons, List.length_cons, pw_succ, lift1, ih]
    rw [Nat.add_mod (h * 1000003 % 2305843009213693951 * pw l.length), Nat.add_mod (h * _)]
    congr 2
    rw [Nat.mod_mul_mod, Nat.mul_mod_mod, Nat.mul_assoc]
theorem hs_from (l : List Nat) (h : Nat) (hh : h < 2305843009213693951) : hs h l = jn h (hs 0 l) l.length := by
  have k := hs_key l h 0
  rw [Nat.add_zero, Nat.mod_eq_of_lt hh, Nat.mod_eq_of_lt (hs_lt l h hh)] at k
  rw [k, jn, Nat.mod_add_mod]
/-- P3.2: the Print of two byte strings one behind the other. -/
theorem hs_join (l m : List Nat) : hs 0 (l ++ m) = jn (hs 0 l) (hs 0 m) m.length := by
  rw [hs_app, hs_from _ _ (hs_lt l 0 (by decide))]
theorem jnI_ok {a b : Nat} {n : Nat} (ha : a < 2305843009213693951) (hb : b < 2305843009213693951) : jnI a b n = (jn a b n, true) := by
  unfold jnI
  rw [if_neg (by omega)]; rfl
/-- Power of a sum. -/
theorem jn_pw (m n : Nat) : jn (pw m) 0 n = pw (m + n) := by
  unfold jn
  rw [Nat.add_zero, Nat.mod_mod, pw_add]

theorem inv_step (x : Nat) : x * 1000003 * 1229363429801019168 % 2305843009213693951 = x % 2305843009213693951 := by omega
theorem cancel1 (x y c : Nat) (e : (x + c + 1) % 2305843009213693951 = (y + c + 1) % 2305843009213693951) : x % 2305843009213693951 = y % 2305843009213693951 := by omega
theorem cancelB (h g : Nat) (hh : h < 2305843009213693951) (hg : g < 2305843009213693951) (c : Nat) (e : (h * 1000003 + c + 1) % 2305843009213693951 = (g * 1000003 + c + 1) % 2305843009213693951) : h = g := by
  have e1 := cancel1 _ _ _ e
  rw [← Nat.mod_eq_of_lt hh, ← Nat.mod_eq_of_lt hg, ← inv_step h, ← inv_step g, Nat.mul_mod, e1, ← Nat.mul_mod]
theorem hs_inj (l : List Nat) (h g : Nat) (hh : h < 2305843009213693951) (hg : g < 2305843009213693951) (e : hs h l = hs g l) : h = g := by
  induction l generalizing h g with
  | nil => exact e
  | cons c l ih => exact cancelB h g hh hg c (ih _ _ (Nat.mod_lt _ (by omega)) (Nat.mod_lt _ (by omega)) e)
/-- P3.2: bytes that differ in one place alone. -/
theorem hs_one (l : List Nat) (i x : Nat) (hi : i < l.length) (hl : ∀ c ∈ l, c < 256) (hx : x < 256) (hne : l[i] ≠ x) : hs 0 (l.set i x) ≠ hs 0 l := by
  intro e
  have e1 : l.set i x = l.take i ++ x :: l.drop (i + 1) := by rw [List.set_eq_take_append_cons_drop, if_pos hi]
  have e2 : l = l.take i ++ l[i] :: l.drop (i + 1) := by rw [← List.drop_eq_getElem_cons hi, List.take_append_drop]
  have hli : l[i] < 256 := hl _ (List.getElem_mem hi)
  generalize l[i] = y at *
  rw [e1] at e
  conv at e => rhs; rw [e2]
  rw [hs_app, hs_app] at e
  have := hs_inj (l.drop (i + 1)) _ _ (Nat.mod_lt _ (by omega)) (Nat.mod_lt _ (by omega)) e
  omega

/-- A step of Power. -/
theorem pw_step (out x m : Nat) : (out * x ^ m) % 2305843009213693951 = ((if m % 2 = 1 then out * x % 2305843009213693951 else out) * (x * x % 2305843009213693951) ^ (m / 2)) % 2305843009213693951 := by
  have e : x ^ m = (x * x) ^ (m / 2) * (if m % 2 = 1 then x else 1) := by
    rcases Nat.mod_two_eq_zero_or_one m with h | h
    · rw [if_neg (by omega), Nat.mul_one, ← Nat.pow_two, ← Nat.pow_mul]; congr 1; omega
    · rw [if_pos h, ← Nat.pow_two, ← Nat.pow_mul, ← Nat.pow_succ]; congr 1; omega
  rw [e]
  rw [Nat.mul_mod _ ((x * x % 2305843009213693951) ^ (m / 2)), ← Nat.pow_mod (x * x), ← Nat.mul_mod]
  split
  · rw [Nat.mod_mul_mod, Nat.mul_assoc out x, Nat.mul_comm x ((x * x) ^ (m / 2))]
  · rw [Nat.mul_one]

theorem base_step (a : Nat) : (a % 1099511627776 * 1000003 % 2305843009213693951 + (a / 1099511627776 * 1000003 % 2097152 * 1099511627776 + a / 1099511627776 * 1000003 / 2097152) % 2305843009213693951) % 2305843009213693951 = a * 1000003 % 2305843009213693951 := by
  omega
/-- A digit of 'times'. -/
theorem digit (a b i : Nat) : ((a * (b / 2 ^ (i + 1)) % 2305843009213693951 + a * (b / 2 ^ (i + 1)) % 2305843009213693951) % 2305843009213693951 + (if b / 2 ^ i % 2 = 1 then a else 0)) % 2305843009213693951 = a * (b / 2 ^ i) % 2305843009213693951 := by
  have e : b / 2 ^ i = 2 * (b / 2 ^ (i + 1)) + b / 2 ^ i % 2 := by rw [Nat.pow_succ, ← Nat.div_div_eq_div_mul]; omega
  conv => rhs; rw [e]
  rw [Nat.mul_add, Nat.mul_left_comm]
  rcases Nat.mod_two_eq_zero_or_one (b / 2 ^ i) with h | h <;> rw [h] <;> simp <;> omega

/-- A digit of the quotient, behind the loop. -/
theorem quo_ok {U A q r : Nat} (hU : U < 18446744073709551608) (hA : A < 4294967296) (he : q * 4294967295 + r = U) (hq : (U * 4294967296 + A) / 18446744073709551608 ≤ q)
    (hx : (q < 4294967296 ∧ q * 4294967288 ≤ 4294967296 * r + A) ∨ 4294967296 ≤ r) : q = (U * 4294967296 + A) / 18446744073709551608 := by
  omega
theorem quo_down {U A q r : Nat} (hU : U < 18446744073709551608) (hA : A < 4294967296) (he : q * 4294967295 + r = U) (hq : (U * 4294967296 + A) / 18446744073709551608 ≤ q)
    (hx : 4294967296 ≤ q ∨ 4294967296 * r + A < q * 4294967288) : (U * 4294967296 + A) / 18446744073709551608 ≤ q - 1 ∧ (q - 1) * 4294967295 + (r + 4294967295) = U ∧ 0 < q := by
  omega
theorem rem_ok (hi lo : Nat) :
    (((hi * 8 + lo / 2305843009213693952) * 4294967296 + lo * 8 % 18446744073709551616 / 4294967296) % 18446744073709551608 * 4294967296 + lo * 8 % 4294967296) % 18446744073709551608 / 8 = (hi * 18446744073709551616 + lo) % 2305843009213693951 := by
  omega
end Go.Proofs.Ytggddckckfilgaa
