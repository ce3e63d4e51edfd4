/- sums: checksums of bits and bytes, plain. -/
namespace Go.Proofs.Ytdkhkjagkmniaaa

def iter (F : Nat → Nat) : Nat → Nat → Nat
  | 0, s => s
  | n + 1, s => F (iter F n s)
def f8 (s : Nat) : Nat := 2 * s % 256 ^^^ (if 128 ≤ s then 7 else 0)
def fl (p s : Nat) : Nat := 2 * s % 65536 ^^^ (if 32768 ≤ s then p else 0)
def fr (s : Nat) : Nat := s / 2 ^^^ (if s % 2 = 1 then 3988292384 else 0)
/-- One byte behind another. -/
def cr (F e : Nat → Nat) (s : Nat) (l : List Nat) : Nat := l.foldl (fun s c => iter F 8 (s ^^^ e c)) s
def e8 (c : Nat) : Nat := c
def e16 (c : Nat) : Nat := 256 * c
/-- One bit behind another; u: where a bit comes in. -/
def feed (F : Nat → Nat) (u s : Nat) (f : Nat → Bool) : Nat → Nat
  | 0 => s
  | n + 1 => F (feed F u s f n ^^^ (if f n = true then u else 0))

structure Lin (F : Nat → Nat) (w : Nat) : Prop where
  xor : ∀ a b, a < 2 ^ w → b < 2 ^ w → F (a ^^^ b) = F a ^^^ F b
  lt : ∀ a, a < 2 ^ w → F a < 2 ^ w
  zero : ∀ a, a < 2 ^ w → F a = 0 → a = 0

theorem two_xor (a b : Nat) : 2 * (a ^^^ b) = 2 * a ^^^ 2 * b := by
  have := Nat.shiftLeft_xor_distrib (i := 1) (a := a) (b := b)
  simp only [Nat.shiftLeft_eq, Nat.pow_one] at this
  rw [Nat.mul_comm 2, Nat.mul_comm 2, Nat.mul_comm 2, this]
theorem half_xor (a b : Nat) : (a ^^^ b) / 2 = a / 2 ^^^ b / 2 := by
  have := Nat.shiftRight_xor_distrib (i := 1) (a := a) (b := b)
  simpa [Nat.shiftRight_eq_div_pow] using this
theorem xor4 (a b c d : Nat) : (a ^^^ b) ^^^ (c ^^^ d) = (a ^^^ c) ^^^ (b ^^^ d) := by
  rw [Nat.xor_assoc, Nat.xor_assoc, ← Nat.xor_assoc b c d, Nat.xor_comm b c, Nat.xor_assoc c b d]
theorem if_xor (x y z : Prop) [Decidable x] [Decidable y] [Decidable z] (p : Nat) (h : z ↔ (x ∧ ¬ y) ∨ (¬ x ∧ y)) : (if z then p else 0) = (if x then p else 0) ^^^ (if y then p else 0) := by
  by_cases hx : x <;> by_cases hy : y <;> simp [hx, hy, h]
theorem top_xor {w a b : Nat} (hw : 0 < w) (ha : a < 2 ^ w) (hb : b < 2 ^ w) : 2 ^ (w - 1) ≤ a ^^^ b ↔ (2 ^ (w - 1) ≤ a ∧ ¬ 2 ^ (w - 1) ≤ b) ∨ (¬ 2 ^ (w - 1) ≤ a ∧ 2 ^ (w - 1) ≤ b) := by
  have key : ∀ s, s < 2 ^ w → (2 ^ (w - 1) ≤ s ↔ s.testBit (w - 1) = true) := by
    intro s hs
    constructor
    · intro h
      rw [Nat.testBit_eq_decide_div_mod_eq]
      have e : 2 ^ w = 2 * 2 ^ (w - 1) := by rw [Nat.mul_comm, ← Nat.pow_succ]; congr 1; omega
      have h0 : 0 < 2 ^ (w - 1) := Nat.pow_pos (by omega)
      have h1 : s / 2 ^ (w - 1) = 1 := by
        apply Nat.div_eq_of_lt_le <;> omega
      simp [h1]
    · intro h
      exact Nat.ge_two_pow_of_testBit h
  rw [key _ (Nat.xor_lt_two_pow ha hb), key a ha, key b hb, Nat.testBit_xor]
  cases a.testBit (w - 1) <;> cases b.testBit (w - 1) <;> simp

theorem xz {a b : Nat} : a ^^^ b = 0 ↔ a = b := by
  constructor
  · intro h
    have e : (a ^^^ b) ^^^ b = a := by rw [Nat.xor_assoc, Nat.xor_self, Nat.xor_zero]
    rw [← e, h, Nat.zero_xor]
  · rintro rfl; exact Nat.xor_self _
theorem lin_f8 : Lin f8 8 where
  xor a b ha hb := by
    unfold f8
    rw [if_xor _ _ _ 7 (top_xor (w := 8) (by omega) ha hb), two_xor, show 256 = 2 ^ 8 from rfl, Nat.xor_mod_two_pow]
    exact xor4 _ _ _ _
  lt a ha := by
    unfold f8
    refine Nat.xor_lt_two_pow (by omega) ?_
    split <;> omega
  zero a ha h := by
    unfold f8 at h
    rw [xz] at h
    simp only [Nat.reducePow] at ha
    split at h <;> omega
theorem lin_fl {p : Nat} (hp : p < 65536) (ho : p % 2 = 1) : Lin (fl p) 16 where
  xor a b ha hb := by
    unfold fl
    rw [if_xor _ _ _ p (top_xor (w := 16) (by omega) ha hb), two_xor, show 65536 = 2 ^ 16 from rfl, Nat.xor_mod_two_pow]
    exact xor4 _ _ _ _
  lt a ha := by
    unfold fl
    refine Nat.xor_lt_two_pow (by omega) ?_
    split <;> omega
  zero a ha h := by
    unfold fl at h
    rw [xz] at h
    simp only [Nat.reducePow] at ha
    split at h <;> omega
theorem odd_xor (a b : Nat) : (a ^^^ b) % 2 = 1 ↔ (a % 2 = 1 ∧ ¬ b % 2 = 1) ∨ (¬ a % 2 = 1 ∧ b % 2 = 1) := by
  have h := Nat.testBit_xor a b 0
  simp only [Nat.testBit_zero] at h
  have h2 := congrArg (· = true) h
  simp at h2
  by_cases ha : a % 2 = 1 <;> by_cases hb : b % 2 = 1 <;> simp [ha, hb] at h2 ⊢ <;> omega
theorem lin_fr : Lin fr 32 where
  xor a b ha hb := by
    unfold fr
    rw [if_xor _ _ _ 3988292384 (odd_xor a b), half_xor]
    exact xor4 _ _ _ _
  lt a ha := by
    unfold fr
    refine Nat.xor_lt_two_pow (by omega) ?_
    split <;> omega
  zero a ha h := by
    unfold fr at h
    rw [xz] at h
    simp only [Nat.reducePow] at ha
    split at h <;> omega

theorem iter_succ' (F : Nat → Nat) (n s : Nat) : iter F (n + 1) s = iter F n (F s) := by
  induction n with
  | zero => rfl
  | succ n ih => rw [iter, ih]; rfl
theorem iter_add (F : Nat → Nat) (m n s : Nat) : iter F (m + n) s = iter F m (iter F n s) := by
  induction m with
  | zero => simp [iter]
  | succ m ih => rw [show m + 1 + n = (m + n) + 1 by omega, iter, ih]; rfl
section
variable {F : Nat → Nat} {w : Nat} (H : Lin F w)
include H
theorem Lin.F0 : F 0 = 0 := by
  have := H.xor 0 0 (Nat.pow_pos (by omega)) (Nat.pow_pos (by omega))
  simpa using this
theorem Lin.iter_lt (n : Nat) {s : Nat} (h : s < 2 ^ w) : iter F n s < 2 ^ w := by
  induction n with
  | zero => exact h
  | succ n ih => exact H.lt _ ih
theorem Lin.iter_xor (n : Nat) {a b : Nat} (ha : a < 2 ^ w) (hb : b < 2 ^ w) : iter F n (a ^^^ b) = iter F n a ^^^ iter F n b := by
  induction n with
  | zero => rfl
  | succ n ih => rw [iter, ih, H.xor _ _ (H.iter_lt n ha) (H.iter_lt n hb)]; rfl
theorem Lin.iter0 (n : Nat) : iter F n 0 = 0 := by
  induction n with
  | zero => rfl
  | succ n ih => rw [iter, ih, H.F0]
theorem Lin.iter_zero (n : Nat) {a : Nat} (ha : a < 2 ^ w) (h : iter F n a = 0) : a = 0 := by
  induction n with
  | zero => exact h
  | succ n ih => exact ih (H.zero _ (H.iter_lt n ha) h)
theorem Lin.cr_lt {e : Nat → Nat} (he : ∀ c, c < 256 → e c < 2 ^ w) (s : Nat) (l : List Nat) (hs : s < 2 ^ w) (hl : ∀ x ∈ l, x < 256) : cr F e s l < 2 ^ w := by
  induction l generalizing s with
  | nil => exact hs
  | cons c l ih => exact ih _ (H.iter_lt 8 (Nat.xor_lt_two_pow hs (he c (hl c (by simp))))) fun x hx => hl x (by simp [hx])
theorem Lin.cr_xor {e : Nat → Nat} (he : ∀ c, c < 256 → e c < 2 ^ w) (hx : ∀ a b, a < 256 → b < 256 → e (a ^^^ b) = e a ^^^ e b) (l m : List Nat) :
    ∀ (s t : Nat), s < 2 ^ w → t < 2 ^ w → l.length = m.length → (∀ x ∈ l, x < 256) → (∀ x ∈ m, x < 256) → cr F e (s ^^^ t) (List.zipWith (· ^^^ ·) l m) = cr F e s l ^^^ cr F e t m := by
  induction l generalizing m with
  | nil => intro s t _ _ h _ _; cases m <;> simp_all [cr]
  | cons c l ih =>
    intro s t hs ht h hl hm
    cases m with
    | nil => simp at h
    | cons d m =>
      have hc := hl c (by simp)
      have hd := hm d (by simp)
      show cr F e (iter F 8 ((s ^^^ t) ^^^ e (c ^^^ d))) (List.zipWith (· ^^^ ·) l m) = cr F e (iter F 8 (s ^^^ e c)) l ^^^ cr F e (iter F 8 (t ^^^ e d)) m
      have h1 := Nat.xor_lt_two_pow hs (he c hc)
      have h2 := Nat.xor_lt_two_pow ht (he d hd)
      rw [hx c d hc hd, xor4, H.iter_xor 8 h1 h2]
      exact ih m _ _ (H.iter_lt 8 h1) (H.iter_lt 8 h2) (by simpa using h) (fun x hx => hl x (by simp [hx])) (fun x hx => hm x (by simp [hx]))
theorem Lin.feed_lt {u s : Nat} (hu : u < 2 ^ w) (hs : s < 2 ^ w) (f : Nat → Bool) (n : Nat) : feed F u s f n < 2 ^ w := by
  induction n with
  | zero => exact hs
  | succ n ih =>
    refine H.lt _ (Nat.xor_lt_two_pow ih ?_)
    split
    · exact hu
    · exact Nat.pow_pos (by omega)
theorem Lin.feed_xor {u s t : Nat} (hu : u < 2 ^ w) (hs : s < 2 ^ w) (ht : t < 2 ^ w) (f g : Nat → Bool) (n : Nat) : feed F u (s ^^^ t) (fun i => f i != g i) n = feed F u s f n ^^^ feed F u t g n := by
  induction n with
  | zero => rfl
  | succ n ih =>
    have h1 := H.feed_lt hu hs f n
    have h2 := H.feed_lt hu ht g n
    have h0 : ∀ b : Bool, (if b = true then u else 0) < 2 ^ w := by intro b; cases b <;> simp [hu, Nat.pow_pos]
    simp only [feed]
    rw [ih, if_xor (f n = true) (g n = true) ((f n != g n) = true) u (by cases f n <;> cases g n <;> simp), xor4]
    exact H.xor _ _ (Nat.xor_lt_two_pow h1 (h0 _)) (Nat.xor_lt_two_pow h2 (h0 _))
end
theorem feed_congr {F : Nat → Nat} {u s : Nat} {f g : Nat → Bool} {n : Nat} (h : ∀ i, i < n → f i = g i) : feed F u s f n = feed F u s g n := by
  induction n with
  | zero => rfl
  | succ n ih => rw [feed, feed, ih fun i hi => h i (by omega), h n (by omega)]
theorem feed_none (F : Nat → Nat) (u s n : Nat) : feed F u s (fun _ => false) n = iter F n s := by
  induction n with
  | zero => rfl
  | succ n ih => rw [feed, ih]; simp [iter]
theorem feed_add (F : Nat → Nat) (u s : Nat) (f : Nat → Bool) (a b : Nat) : feed F u s f (a + b) = feed F u (feed F u s f a) (fun i => f (a + i)) b := by
  induction b with
  | zero => rfl
  | succ b ih => rw [← Nat.add_assoc, feed, ih]; rfl

/-- Bit p of bytes, the highest (h) or the lowest of a byte first. -/
def bt (h : Bool) (l : List Nat) (p : Nat) : Bool := (l.getD (p / 8) 0).testBit (if h = true then 7 - p % 8 else p % 8)
theorem cr_snoc (F e : Nat → Nat) (s : Nat) (l : List Nat) (c : Nat) : cr F e s (l ++ [c]) = iter F 8 (cr F e s l ^^^ e c) := by simp [cr]
theorem cr_app (F e : Nat → Nat) (s : Nat) (l m : List Nat) : cr F e s (l ++ m) = cr F e (cr F e s l) m := by simp [cr]
theorem bt_snoc (h : Bool) (l : List Nat) (c p : Nat) : (p < 8 * l.length → bt h (l ++ [c]) p = bt h l p) ∧ (p < 8 → bt h (l ++ [c]) (8 * l.length + p) = c.testBit (if h = true then 7 - p else p)) := by
  constructor
  · intro hp
    unfold bt
    rw [List.getD_eq_getElem?_getD, List.getD_eq_getElem?_getD, List.getElem?_append_left (by omega)]
  · intro hp
    unfold bt
    have e1 : (8 * l.length + p) / 8 = l.length := by omega
    have e2 : (8 * l.length + p) % 8 = p := by omega
    rw [e1, e2, List.getD_eq_getElem?_getD]
    simp
theorem cr_feed {F e : Nat → Nat} {w u : Nat} {h : Bool} (H : Lin F w) (hu : u < 2 ^ w) (he : ∀ c, c < 256 → e c < 2 ^ w) (hc : ∀ c, c < 256 → iter F 8 (e c) = feed F u 0 (fun i => c.testBit (if h = true then 7 - i else i)) 8)
    (s : Nat) (hs : s < 2 ^ w) (n : Nat) : ∀ (l : List Nat), l.length = n → (∀ x ∈ l, x < 256) → cr F e s l = feed F u s (bt h l) (8 * l.length) := by
  induction n with
  | zero => intro l h0 _; cases l <;> simp_all [cr, feed]
  | succ n ih =>
    intro l hl hx
    obtain ⟨l', c, rfl⟩ : ∃ l' c, l = l' ++ [c] := ⟨l.dropLast, l.getLast (by intro e; simp [e] at hl), (List.dropLast_concat_getLast _).symm⟩
    have hl' : l'.length = n := by simpa using hl
    have hc' : c < 256 := hx c (by simp)
    have hx' : ∀ x ∈ l', x < 256 := fun x h => hx x (by simp [h])
    have hlt := H.cr_lt he s l' hs hx'
    rw [cr_snoc, H.iter_xor 8 hlt (he c hc'), hc c hc']
    have e1 : 8 * (l' ++ [c]).length = 8 * l'.length + 8 := by simp; omega
    rw [e1, feed_add, feed_congr (g := bt h l') (fun i hi => (bt_snoc h l' c i).1 hi), ← ih l' hl' hx', feed_congr (g := fun i => c.testBit (if h = true then 7 - i else i)) (fun i hi => (bt_snoc h l' c i).2 hi)]
    have := H.feed_xor hu hlt (Nat.pow_pos (n := w) (show 0 < 2 by omega)) (fun _ => false) (fun i => c.testBit (if h = true then 7 - i else i)) 8
    rw [Nat.xor_zero, feed_none] at this
    rw [← this]
    exact feed_congr fun i _ => by simp

/-- Bits side by side, each at its own place. -/
def tsum (pos : Nat → Nat) (f : Nat → Bool) : Nat → Nat
  | 0 => 0
  | n + 1 => tsum pos f n ^^^ (if f n = true then 2 ^ pos n else 0)
theorem tsum_lt {pos : Nat → Nat} {w : Nat} (hp : ∀ i, i < w → pos i < w) (f : Nat → Bool) (n : Nat) (hn : n ≤ w) : tsum pos f n < 2 ^ w := by
  induction n with
  | zero => exact Nat.pow_pos (by omega)
  | succ n ih =>
    refine Nat.xor_lt_two_pow (ih (by omega)) ?_
    split
    · exact Nat.pow_lt_pow_right (by omega) (hp n (by omega))
    · exact Nat.pow_pos (by omega)
theorem tsum_bit {pos : Nat → Nat} {w : Nat} (hi : ∀ i j, i < w → j < w → pos i = pos j → i = j) (f : Nat → Bool) (n : Nat) (hn : n ≤ w) (i : Nat) (h : i < w) : (tsum pos f n).testBit (pos i) = (decide (i < n) && f i) := by
  induction n with
  | zero => simp [tsum]
  | succ n ih =>
    rw [tsum, Nat.testBit_xor, ih (by omega)]
    by_cases hin : i = n
    · subst hin
      cases hf : f i <;> simp
    · have hne : ¬ pos n = pos i := fun e => hin (hi n i (by omega) h e).symm
      have hz : (if f n = true then 2 ^ pos n else 0).testBit (pos i) = false := by
        split
        · rw [Nat.testBit_two_pow]; simp [hne]
        · simp
      rw [hz, Bool.xor_false]
      congr 1
      rw [decide_eq_decide]; omega
theorem feed_tsum {F : Nat → Nat} {w u : Nat} {pos : Nat → Nat} (H : Lin F w) (hp : ∀ i, i < w → pos i < w) (hF : ∀ i, i + 1 < w → F (2 ^ pos (i + 1)) = 2 ^ pos i) (hu : u = 2 ^ pos 0) (f : Nat → Bool) (n : Nat) (hn : n ≤ w) :
    feed F u 0 f n = iter F n (tsum pos f n) := by
  have hit : ∀ n, n < w → iter F n (2 ^ pos n) = 2 ^ pos 0 := by
    intro n
    induction n with
    | zero => intro _; rfl
    | succ n ih => intro h; rw [iter_succ', hF n h, ih (by omega)]
  induction n with
  | zero => rfl
  | succ n ih =>
    have h1 : (if f n = true then u else 0) = iter F n (if f n = true then 2 ^ pos n else 0) := by
      split
      · rw [hit n (by omega), hu]
      · rw [H.iter0]
    have h2 : (if f n = true then 2 ^ pos n else 0) < 2 ^ w := by
      split
      · exact Nat.pow_lt_pow_right (by omega) (hp n (by omega))
      · exact Nat.pow_pos (by omega)
    rw [feed, ih (by omega), h1, ← H.iter_xor n (tsum_lt hp f n (by omega)) h2]
    rfl
/-- Bits that part within w places side by side part the sums. -/
theorem burst {F : Nat → Nat} {w u : Nat} {pos : Nat → Nat} (H : Lin F w) (hp : ∀ i, i < w → pos i < w) (hi : ∀ i j, i < w → j < w → pos i = pos j → i = j) (hF : ∀ i, i + 1 < w → F (2 ^ pos (i + 1)) = 2 ^ pos i) (hu : u = 2 ^ pos 0) (hw : 0 < w)
    (f g : Nat → Bool) (s N k : Nat) (hs : s < 2 ^ w) (hk : k ≤ N) (hout : ∀ p, p < N → ¬ (k ≤ p ∧ p < k + w) → f p = g p) : feed F u s f N = feed F u s g N ↔ ∀ p, p < N → f p = g p := by
  have hu2 : u < 2 ^ w := by rw [hu]; exact Nat.pow_lt_pow_right (by omega) (hp 0 hw)
  refine ⟨fun he => ?_, fun h => feed_congr h⟩
  have hx := H.feed_xor hu2 hs hs f g N
  rw [he, Nat.xor_self, Nat.xor_self] at hx
  obtain ⟨j, hj⟩ : ∃ j, j = min w (N - k) := ⟨_, rfl⟩
  obtain ⟨r, hr⟩ : ∃ r, r = N - k - j := ⟨_, rfl⟩
  have hN : N = (k + j) + r := by omega
  have a1 : feed F u 0 (fun i => f i != g i) k = 0 := by
    rw [feed_congr (g := fun _ => false) (fun i hi => by simp only [bne_eq_false_iff_eq]; exact hout i (by omega) (by omega)), feed_none, H.iter0]
  have a2 : feed F u 0 (fun i => f i != g i) (k + j) = feed F u 0 (fun i => f (k + i) != g (k + i)) j := by rw [feed_add, a1]
  have a3 : feed F u 0 (fun i => f i != g i) N = iter F r (feed F u 0 (fun i => f (k + i) != g (k + i)) j) := by
    rw [hN, feed_add, a2, feed_congr (g := fun _ => false) (fun i hi => by simp only [bne_eq_false_iff_eq]; exact hout _ (by omega) (by omega)), feed_none]
  rw [a3] at hx
  have h0 := H.iter_zero _ (H.feed_lt hu2 (Nat.pow_pos (by omega)) _ j) hx
  rw [feed_tsum H hp hF hu _ j (by omega)] at h0
  have h1 := H.iter_zero _ (tsum_lt hp _ j (by omega)) h0
  intro p hpN
  by_cases hin : k ≤ p ∧ p < k + w
  · have hb := tsum_bit hi (fun i => f (k + i) != g (k + i)) j (by omega) (p - k) (by omega)
    rw [h1] at hb
    simp only [Nat.zero_testBit, show k + (p - k) = p by omega] at hb
    have hd : decide (p - k < j) = true := by simp; omega
    rw [hd] at hb
    simpa using hb.symm
  · exact hout p hpN hin

theorem byte8 : ∀ c, c < 256 → iter f8 8 (e8 c) = feed f8 128 0 (fun i => c.testBit (if true = true then 7 - i else i)) 8 := by
  have : ∀ c : Fin 256, iter f8 8 (e8 c.val) = feed f8 128 0 (fun i => c.val.testBit (if true = true then 7 - i else i)) 8 := by decide +kernel
  exact fun c h => this ⟨c, h⟩
theorem byte16 : ∀ c, c < 256 → iter (fl 32773) 8 (e16 c) = feed (fl 32773) 32768 0 (fun i => c.testBit (if true = true then 7 - i else i)) 8 := by
  have : ∀ c : Fin 256, iter (fl 32773) 8 (e16 c.val) = feed (fl 32773) 32768 0 (fun i => c.val.testBit (if true = true then 7 - i else i)) 8 := by decide +kernel
  exact fun c h => this ⟨c, h⟩
theorem byte32 : ∀ c, c < 256 → iter fr 8 (e8 c) = feed fr 1 0 (fun i => c.testBit (if false = true then 7 - i else i)) 8 := by
  have : ∀ c : Fin 256, iter fr 8 (e8 c.val) = feed fr 1 0 (fun i => c.val.testBit (if false = true then 7 - i else i)) 8 := by decide +kernel
  exact fun c h => this ⟨c, h⟩

def crc8 (l : List Nat) : Nat := cr f8 e8 0 l
def crc16 (l : List Nat) : Nat := cr (fl 32773) e16 0 l
def crc32 (l : List Nat) : Nat := 4294967295 - cr fr e8 4294967295 l

theorem lin16 : Lin (fl 32773) 16 := lin_fl (by omega) (by omega)
theorem e8_lt (w : Nat) (hw : 8 ≤ w) : ∀ c, c < 256 → e8 c < 2 ^ w := fun c h => by
  have : 2 ^ 8 ≤ 2 ^ w := Nat.pow_le_pow_right (by omega) hw
  simp only [Nat.reducePow] at this
  unfold e8; omega
theorem e16_lt : ∀ c, c < 256 → e16 c < 2 ^ 16 := fun c h => by unfold e16; omega
theorem crc8_lt (l : List Nat) (h : ∀ x ∈ l, x < 256) : crc8 l < 256 := lin_f8.cr_lt (e8_lt 8 (by omega)) 0 l (by omega) h
theorem crc16_lt (l : List Nat) (h : ∀ x ∈ l, x < 256) : crc16 l < 65536 := lin16.cr_lt e16_lt 0 l (by omega) h
theorem cr32_lt (l : List Nat) (h : ∀ x ∈ l, x < 256) : cr fr e8 4294967295 l < 4294967296 := lin_fr.cr_lt (e8_lt 32 (by omega)) _ l (by omega) h
theorem crc32_lt (l : List Nat) : crc32 l < 4294967296 := by unfold crc32; omega

/-- The eight digits in the upper half of sixteen. -/
theorem fl_256 (s : Nat) : fl 1792 (256 * s) = 256 * f8 s := by
  have d : ∀ a b : Nat, 256 * (a ^^^ b) = 256 * a ^^^ 256 * b := by
    intro a b
    have := Nat.shiftLeft_xor_distrib (i := 8) (a := a) (b := b)
    simp only [Nat.shiftLeft_eq, Nat.reducePow] at this
    rw [Nat.mul_comm 256, Nat.mul_comm 256, Nat.mul_comm 256, this]
  unfold fl f8
  rw [d]
  congr 1
  · omega
  · by_cases h : 128 ≤ s
    · rw [if_pos h, if_pos (by omega)]
    · rw [if_neg h, if_neg (by omega)]
theorem xor_256 (a b : Nat) : 256 * (a ^^^ b) = 256 * a ^^^ 256 * b := by
  have := Nat.shiftLeft_xor_distrib (i := 8) (a := a) (b := b)
  simp only [Nat.shiftLeft_eq, Nat.reducePow] at this
  rw [Nat.mul_comm 256, Nat.mul_comm 256, Nat.mul_comm 256, this]
theorem iter_256 (n s : Nat) : iter (fl 1792) n (256 * s) = 256 * iter f8 n s := by
  induction n with
  | zero => rfl
  | succ n ih => rw [iter, ih, fl_256]; rfl
theorem cr_256 (l : List Nat) (s : Nat) : cr (fl 1792) e16 (256 * s) l = 256 * cr f8 e8 s l := by
  induction l generalizing s with
  | nil => rfl
  | cons c l ih =>
    show cr (fl 1792) e16 (iter (fl 1792) 8 (256 * s ^^^ 256 * c)) l = 256 * cr f8 e8 (iter f8 8 (s ^^^ c)) l
    rw [← xor_256, iter_256, ih]

/-- P3.3: eight, sixteen, thirty-two bits side by side. -/
theorem burst8 (l m : List Nat) (k : Nat) (hl : l.length = m.length) (hx : ∀ x ∈ l, x < 256) (hy : ∀ x ∈ m, x < 256) (hk : k ≤ 8 * l.length) (hout : ∀ p, p < 8 * l.length → ¬ (k ≤ p ∧ p < k + 8) → bt true l p = bt true m p) :
    crc8 l = crc8 m ↔ ∀ p, p < 8 * l.length → bt true l p = bt true m p := by
  unfold crc8
  rw [cr_feed lin_f8 (u := 128) (by omega) (e8_lt 8 (by omega)) byte8 0 (by omega) _ l rfl hx, cr_feed lin_f8 (u := 128) (by omega) (e8_lt 8 (by omega)) byte8 0 (by omega) _ m rfl hy, ← hl]
  have hF : ∀ i : Fin 7, f8 (2 ^ (7 - (i.val + 1))) = 2 ^ (7 - i.val) := by decide +kernel
  exact burst (pos := fun i => 7 - i) lin_f8 (by omega) (by omega) (fun i hi => hF ⟨i, by omega⟩) rfl (by omega) _ _ 0 _ k (by omega) hk hout
theorem burst16 (l m : List Nat) (k : Nat) (hl : l.length = m.length) (hx : ∀ x ∈ l, x < 256) (hy : ∀ x ∈ m, x < 256) (hk : k ≤ 8 * l.length) (hout : ∀ p, p < 8 * l.length → ¬ (k ≤ p ∧ p < k + 16) → bt true l p = bt true m p) :
    crc16 l = crc16 m ↔ ∀ p, p < 8 * l.length → bt true l p = bt true m p := by
  unfold crc16
  rw [cr_feed lin16 (u := 32768) (by omega) e16_lt byte16 0 (by omega) _ l rfl hx, cr_feed lin16 (u := 32768) (by omega) e16_lt byte16 0 (by omega) _ m rfl hy, ← hl]
  have hF : ∀ i : Fin 15, fl 32773 (2 ^ (15 - (i.val + 1))) = 2 ^ (15 - i.val) := by decide +kernel
  exact burst (pos := fun i => 15 - i) lin16 (by omega) (by omega) (fun i hi => hF ⟨i, by omega⟩) rfl (by omega) _ _ 0 _ k (by omega) hk hout
theorem burst32 (l m : List Nat) (k : Nat) (hl : l.length = m.length) (hx : ∀ x ∈ l, x < 256) (hy : ∀ x ∈ m, x < 256) (hk : k ≤ 8 * l.length) (hout : ∀ p, p < 8 * l.length → ¬ (k ≤ p ∧ p < k + 32) → bt false l p = bt false m p) :
    crc32 l = crc32 m ↔ ∀ p, p < 8 * l.length → bt false l p = bt false m p := by
  have h1 := cr32_lt l hx
  have h2 := cr32_lt m hy
  have e : crc32 l = crc32 m ↔ cr fr e8 4294967295 l = cr fr e8 4294967295 m := by unfold crc32; omega
  rw [e, cr_feed lin_fr (u := 1) (by omega) (e8_lt 32 (by omega)) byte32 4294967295 (by omega) _ l rfl hx, cr_feed lin_fr (u := 1) (by omega) (e8_lt 32 (by omega)) byte32 4294967295 (by omega) _ m rfl hy, ← hl]
  have hF : ∀ i : Fin 31, fr (2 ^ (i.val + 1)) = 2 ^ i.val := by decide +kernel
  exact burst (pos := fun i => i) lin_fr (by omega) (by omega) (fun i hi => hF ⟨i, by omega⟩) rfl (by omega) _ _ 4294967295 _ k (by omega) hk hout

/-- P3.1: a sum behind what it is of. -/
theorem behind8 (l : List Nat) : crc8 (l ++ [crc8 l]) = 0 := by
  unfold crc8
  rw [cr_snoc]
  unfold e8
  rw [Nat.xor_self, lin_f8.iter0]
theorem iter_low16 : ∀ c, c < 256 → iter (fl 32773) 8 c = 256 * c := by
  have : ∀ c : Fin 256, iter (fl 32773) 8 c.val = 256 * c.val := by decide +kernel
  exact fun c h => this ⟨c, h⟩
theorem hi_lo (s : Nat) : s ^^^ 256 * (s / 256) = s % 256 := by
  apply Nat.eq_of_testBit_eq
  intro i
  rw [Nat.testBit_xor, show 256 = 2 ^ 8 from rfl, Nat.testBit_mod_two_pow, Nat.mul_comm, ← Nat.shiftRight_eq_div_pow, ← Nat.shiftLeft_eq, Nat.testBit_shiftLeft, Nat.testBit_shiftRight]
  by_cases h : 8 ≤ i
  · simp [show ¬ i < 8 by omega, h, show 8 + (i - 8) = i by omega]
  · simp [show i < 8 by omega, h]
theorem behind16 (l : List Nat) : crc16 (l ++ [crc16 l / 256, crc16 l % 256]) = 0 := by
  have e : ∀ s, cr (fl 32773) e16 s [s / 256, s % 256] = 0 := by
    intro s
    show iter (fl 32773) 8 (iter (fl 32773) 8 (s ^^^ 256 * (s / 256)) ^^^ 256 * (s % 256)) = 0
    rw [hi_lo, iter_low16 (s % 256) (by omega), Nat.xor_self, lin16.iter0]
  unfold crc16
  rw [cr_app, e]
theorem iter_shift (n x : Nat) : iter fr n (2 ^ n * x) = x := by
  induction n with
  | zero => simp [iter]
  | succ n ih =>
    rw [iter_succ']
    have : fr (2 ^ (n + 1) * x) = 2 ^ n * x := by
      unfold fr
      have e : 2 ^ (n + 1) * x = 2 * (2 ^ n * x) := by rw [Nat.pow_succ, Nat.mul_comm (2 ^ n) 2, Nat.mul_assoc]
      rw [e, if_neg (by omega)]
      simp
    rw [this, ih]
theorem two_step (a z : Nat) (k : Nat) (ha : a < 2 ^ 32) (hz : z * 2 ^ k < 2 ^ 32) : iter fr k a ^^^ z = iter fr k (a ^^^ 2 ^ k * z) := by
  rw [lin_fr.iter_xor k ha (by rw [Nat.mul_comm]; exact hz), iter_shift]
theorem four (z : Nat) : ((z % 256 ^^^ 2 ^ 8 * (z / 256 % 256)) ^^^ 2 ^ 16 * (z / 65536 % 256)) ^^^ 2 ^ 24 * (z / 16777216) = z := by
  have o : ∀ a b k : Nat, a < 2 ^ k → a ^^^ 2 ^ k * b = a + 2 ^ k * b := by
    intro a b k ha
    apply Nat.eq_of_testBit_eq
    intro i
    rw [Nat.testBit_xor, Nat.add_comm, Nat.testBit_two_pow_mul_add b ha, Nat.mul_comm, ← Nat.shiftLeft_eq, Nat.testBit_shiftLeft]
    by_cases h : i < k
    · simp [h, show ¬ k ≤ i by omega]
    · rw [Nat.testBit_lt_two_pow (x := a) (i := i) (Nat.lt_of_lt_of_le ha (Nat.pow_le_pow_right (by omega) (by omega)))]
      simp [h, show k ≤ i by omega]
  rw [o _ _ 8 (by omega), o _ _ 16 (by omega), o _ _ 24 (by omega)]
  omega
theorem behind32 (l : List Nat) (hx : ∀ x ∈ l, x < 256) : crc32 (l ++ [crc32 l % 256, crc32 l / 256 % 256, crc32 l / 65536 % 256, crc32 l / 16777216]) = 558161692 := by
  have hs := cr32_lt l hx
  unfold crc32
  rw [cr_app]
  obtain ⟨s, hss⟩ : ∃ s, s = cr fr e8 4294967295 l := ⟨_, rfl⟩
  rw [← hss] at hs ⊢
  obtain ⟨z, hz⟩ : ∃ z, z = 4294967295 - s := ⟨_, rfl⟩
  rw [← hz]
  have hsz : s ^^^ z = 4294967295 := by
    rw [hz]
    apply Nat.eq_of_testBit_eq
    intro i
    rw [Nat.testBit_xor, show 4294967295 - s = 2 ^ 32 - (s + 1) by omega, Nat.testBit_two_pow_sub_succ (by omega), show 4294967295 = 2 ^ 32 - 1 by omega, Nat.testBit_two_pow_sub_one]
    by_cases h : i < 32
    · simp [h]
    · simp [h, Nat.testBit_lt_two_pow (Nat.lt_of_lt_of_le hs (Nat.pow_le_pow_right (n := 2) (by omega) (show 32 ≤ i by omega)))]
  have hz32 : z < 4294967296 := by omega
  have b : ∀ a c : Nat, a < 2 ^ 32 → c < 2 ^ 32 → a ^^^ c < 2 ^ 32 := fun a c h h' => Nat.xor_lt_two_pow h h'
  show 4294967295 - iter fr 8 (iter fr 8 (iter fr 8 (iter fr 8 (s ^^^ z % 256) ^^^ z / 256 % 256) ^^^ z / 65536 % 256) ^^^ z / 16777216) = 558161692
  have h0 : s ^^^ z % 256 < 2 ^ 32 := b _ _ (by omega) (by omega)
  rw [two_step _ (z / 256 % 256) 8 h0 (by omega)]
  have h1 : (s ^^^ z % 256) ^^^ 2 ^ 8 * (z / 256 % 256) < 2 ^ 32 := b _ _ h0 (by omega)
  rw [← iter_add, two_step _ (z / 65536 % 256) (8 + 8) h1 (by omega)]
  have h2 : ((s ^^^ z % 256) ^^^ 2 ^ 8 * (z / 256 % 256)) ^^^ 2 ^ (8 + 8) * (z / 65536 % 256) < 2 ^ 32 := b _ _ h1 (by omega)
  rw [← iter_add, two_step _ (z / 16777216) (8 + (8 + 8)) h2 (by omega), ← iter_add]
  have e : (((s ^^^ z % 256) ^^^ 2 ^ 8 * (z / 256 % 256)) ^^^ 2 ^ (8 + 8) * (z / 65536 % 256)) ^^^ 2 ^ (8 + (8 + 8)) * (z / 16777216) = s ^^^ z := by
    have := four z
    simp only [Nat.xor_assoc] at this ⊢
    rw [this]
  rw [e, hsz]
  decide +kernel

theorem xor8 (l m : List Nat) (h : l.length = m.length) (hx : ∀ x ∈ l, x < 256) (hy : ∀ x ∈ m, x < 256) : crc8 (List.zipWith (· ^^^ ·) l m) = crc8 l ^^^ crc8 m := by
  have := lin_f8.cr_xor (e8_lt 8 (by omega)) (fun _ _ _ _ => rfl) l m 0 0 (by omega) (by omega) h hx hy
  simpa [crc8] using this
theorem xor16 (l m : List Nat) (h : l.length = m.length) (hx : ∀ x ∈ l, x < 256) (hy : ∀ x ∈ m, x < 256) : crc16 (List.zipWith (· ^^^ ·) l m) = crc16 l ^^^ crc16 m := by
  have := lin16.cr_xor e16_lt (fun a b _ _ => xor_256 a b) l m 0 0 (by omega) (by omega) h hx hy
  simpa [crc16] using this
theorem zip_lt (l m : List Nat) (hx : ∀ x ∈ l, x < 256) (hy : ∀ x ∈ m, x < 256) : ∀ x ∈ List.zipWith (· ^^^ ·) l m, x < 256 := by
  intro x h
  obtain ⟨i, hi, rfl⟩ := List.getElem_of_mem h
  rw [List.getElem_zipWith]
  exact Nat.xor_lt_two_pow (n := 8) (hx _ (List.getElem_mem _)) (hy _ (List.getElem_mem _))
theorem not_xor {s : Nat} (h : s < 4294967296) : 4294967295 - s = 4294967295 ^^^ s := by
  apply Nat.eq_of_testBit_eq
  intro i
  rw [Nat.testBit_xor, show 4294967295 - s = 2 ^ 32 - (s + 1) by omega, Nat.testBit_two_pow_sub_succ (by omega), show 4294967295 = 2 ^ 32 - 1 by omega, Nat.testBit_two_pow_sub_one]
  by_cases h2 : i < 32
  · simp [h2]
  · simp [h2, Nat.testBit_lt_two_pow (Nat.lt_of_lt_of_le h (Nat.pow_le_pow_right (n := 2) (by omega) (show 32 ≤ i by omega)))]
theorem xor32 (l m n : List Nat) (h : l.length = m.length) (h2 : m.length = n.length) (hx : ∀ x ∈ l, x < 256) (hy : ∀ x ∈ m, x < 256) (hz : ∀ x ∈ n, x < 256) :
    crc32 (List.zipWith (· ^^^ ·) (List.zipWith (· ^^^ ·) l m) n) = (crc32 l ^^^ crc32 m) ^^^ crc32 n := by
  have e1 := lin_fr.cr_xor (e8_lt 32 (by omega)) (fun _ _ _ _ => rfl) l m 4294967295 4294967295 (by omega) (by omega) h hx hy
  have hl : (List.zipWith (· ^^^ ·) l m).length = n.length := by simp; omega
  have e2 := lin_fr.cr_xor (e8_lt 32 (by omega)) (fun _ _ _ _ => rfl) (List.zipWith (· ^^^ ·) l m) n 0 4294967295 (by omega) (by omega) hl (zip_lt l m hx hy) hz
  rw [Nat.xor_self] at e1
  rw [e1, Nat.zero_xor] at e2
  have hlt := cr32_lt (List.zipWith (· ^^^ ·) (List.zipWith (· ^^^ ·) l m) n) (zip_lt _ _ (zip_lt l m hx hy) hz)
  unfold crc32
  rw [not_xor hlt, not_xor (cr32_lt l hx), not_xor (cr32_lt m hy), not_xor (cr32_lt n hz), e2]
  generalize cr fr e8 4294967295 l = x
  generalize cr fr e8 4294967295 m = y
  generalize cr fr e8 4294967295 n = z
  apply Nat.eq_of_testBit_eq
  intro i
  simp only [Nat.testBit_xor]
  cases Nat.testBit 4294967295 i <;> cases x.testBit i <;> cases y.testBit i <;> cases z.testBit i <;> rfl

end Go.Proofs.Ytdkhkjagkmniaaa
