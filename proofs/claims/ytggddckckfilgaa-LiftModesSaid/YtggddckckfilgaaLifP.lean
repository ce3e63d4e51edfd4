/- lift, plain: what the calls answer. -/
import Derived.Test.YtggddckckfilgaaBloP
namespace Go.Proofs.Ytggddckckfilgaa
open Go.RowKit
set_option maxRecDepth 100000

/-- A step. -/
structure Li where
  fr : Int
  to : Int
  gn : Int
def liOk (ch : Int) (s : Li) : Bool := (decide (0 ≤ s.fr) && decide (s.fr < ch)) && (decide (0 ≤ s.to) && decide (s.to < ch)) && !decide (s.fr = s.to) && decide (-1024 ≤ s.gn) && decide (s.gn ≤ 1024)
def mayLi (l : List Li) (ch : Int) : Bool := chanB ch && decide (l.length ≤ 16) && l.all (liOk ch)
theorem liOk_iff {ch : Int} {s : Li} : liOk ch s = true ↔ 0 ≤ s.fr ∧ s.fr < ch ∧ 0 ≤ s.to ∧ s.to < ch ∧ s.fr ≠ s.to ∧ -1024 ≤ s.gn ∧ s.gn ≤ 1024 := by
  simp only [liOk, Bool.and_eq_true, decide_eq_true_eq, Bool.not_eq_true', decide_eq_false_iff_not, and_assoc]
theorem mayLi_iff {l : List Li} {ch : Int} : mayLi l ch = true ↔ 1 ≤ ch ∧ ch ≤ 8 ∧ l.length ≤ 16 ∧ ∀ s ∈ l, liOk ch s = true := by
  simp only [mayLi, Bool.and_eq_true, decide_eq_true_eq, chanB_iff, List.all_eq_true, and_assoc]
theorem mayLi_rev (l : List Li) (ch : Int) : mayLi l.reverse ch = mayLi l ch := by
  rw [Bool.eq_iff_iff, mayLi_iff, mayLi_iff]
  simp
theorem mayLi_nil {ch : Int} : mayLi [] ch = chanB ch := by simp [mayLi]
def rowW (n : Nat) (r : List Int) : Bool := decide (r.length = n) && r.all wideB
def rowsW (rs : List (List Int)) : Bool := chanB (rs.length : Nat) && decide (lenB rs ≤ 4096) && rs.all (rowW (lenB rs))
structure RowsOk (rs : List (List Int)) (n : Nat) : Prop where
  chans : 1 ≤ rs.length ∧ rs.length ≤ 8
  len : lenB rs = n
  size : n ≤ 4096
  rows : ∀ r ∈ rs, r.length = n
  wide : ∀ r ∈ rs, r.all wideB = true
theorem rowsOk_of {rs : List (List Int)} (h : rowsW rs = true) : RowsOk rs (lenB rs) := by
  simp only [rowsW, Bool.and_eq_true, decide_eq_true_eq, chanB_iff, List.all_eq_true, rowW] at h
  obtain ⟨⟨h2, h4⟩, h5⟩ := h
  exact ⟨by omega, rfl, h4, fun r hr => (h5 r hr).1, fun r hr => List.all_eq_true.2 (h5 r hr).2⟩
theorem of_rowsOk {rs : List (List Int)} {n : Nat} (h : RowsOk rs n) : rowsW rs = true := by
  obtain ⟨h2, h3, h4, h5, h6⟩ := h
  subst h3
  simp only [rowsW, Bool.and_eq_true, decide_eq_true_eq, chanB_iff, List.all_eq_true, rowW]
  exact ⟨⟨by omega, h4⟩, fun r hr => ⟨h5 r hr, fun x hx => List.all_eq_true.1 (h6 r hr) x hx⟩⟩
theorem rowsOk_new {rs : List (List Int)} {n : Nat} (hc : 1 ≤ rs.length ∧ rs.length ≤ 8) (hn : n ≤ 4096) (hr : ∀ r ∈ rs, r.length = n) (hw : ∀ r ∈ rs, r.all wideB = true) : RowsOk rs n :=
  ⟨hc, lenB_of (by intro e; rw [e] at hc; simp at hc) hr, hn, hr, hw⟩
theorem wideB_iff {x : Int} : wideB x = true ↔ -1073741824 ≤ x ∧ x < 1073741824 := by simp [wideB]

/- Steps. -/
def addI (s g t f : Int) : Int := t + s * (g * f / 256)
def addL (s g : Int) (t f : List Int) : List Int := List.zipWith (addI s g) t f
theorem addL_len {s g : Int} {t f : List Int} {n : Nat} (ht : t.length = n) (hf : f.length = n) : (addL s g t f).length = n := by simp [addL, ht, hf]
theorem addL_at {s g : Int} {t f : List Int} {i : Nat} {a b : Int} (ht : t[i]? = some a) (hf : f[i]? = some b) : (addL s g t f)[i]? = some (addI s g a b) := by
  simp [addL, List.getElem?_zipWith, ht, hf]
theorem addL_back {s g : Int} : ∀ {t f : List Int}, t.length = f.length → addL (-s) g (addL s g t f) f = t
  | [], [], _ => rfl
  | a :: t, b :: f, h => by
    have := addL_back (s := s) (g := g) (t := t) (f := f) (by simpa using h)
    unfold addL at this ⊢
    simp only [List.zipWith_cons_cons]
    rw [this]
    congr 1
    unfold addI
    rw [Int.neg_mul]; omega
  | [], _ :: _, h => by simp at h
  | _ :: _, [], h => by simp at h
def stepR (s : Int) (rs : List (List Int)) (x : Li) : Option (List (List Int)) :=
  if (addL s x.gn (rs.getD x.to.toNat []) (rs.getD x.fr.toNat [])).all wideB = true then some (rs.set x.to.toNat (addL s x.gn (rs.getD x.to.toNat []) (rs.getD x.fr.toNat []))) else none
def runR (s : Int) : List Li → List (List Int) → Option (List (List Int))
  | [], rs => some rs
  | x :: l, rs => (stepR s rs x).bind (runR s l)
theorem runR_append (s : Int) : ∀ (a b : List Li) (rs : List (List Int)), runR s (a ++ b) rs = (runR s a rs).bind (runR s b)
  | [], b, rs => by simp [runR]
  | x :: a, b, rs => by
    simp only [List.cons_append, runR]
    cases stepR s rs x with
    | none => rfl
    | some r => exact runR_append s a b r
theorem runR_one (s : Int) (x : Li) (rs : List (List Int)) : runR s [x] rs = stepR s rs x := by
  simp only [runR]
  cases stepR s rs x <;> rfl
theorem runR_take {s : Int} {l : List Li} {rs cur : List (List Int)} {k : Nat} (hk : k < l.length) (h : runR s (l.take k) rs = some cur) : runR s (l.take (k + 1)) rs = stepR s cur l[k] := by
  rw [List.take_succ_eq_append_getElem hk, runR_append, h]
  exact runR_one s _ cur
theorem runR_none {s : Int} {l : List Li} {rs : List (List Int)} {k : Nat} (h : runR s (l.take k) rs = none) : runR s l rs = none := by
  rw [← List.take_append_drop k l, runR_append, h]; rfl
theorem stepR_ok {s : Int} {rs rs' : List (List Int)} {x : Li} {n : Nat} (h : RowsOk rs n) (hx : liOk (rs.length : Nat) x = true) (he : stepR s rs x = some rs') : RowsOk rs' n ∧ rs'.length = rs.length := by
  have hl := liOk_iff.1 hx
  unfold stepR at he
  split at he
  next hw =>
    injection he with he
    subst he
    have hlen : (rs.set x.to.toNat (addL s x.gn (rs.getD x.to.toNat []) (rs.getD x.fr.toNat []))).length = rs.length := by simp
    have ht : (rs.getD x.to.toNat []).length = n := by
      rw [List.getD_eq_getElem?_getD, List.getElem?_eq_getElem (by omega : x.to.toNat < rs.length)]
      exact h.rows _ (List.getElem_mem _)
    have hf : (rs.getD x.fr.toNat []).length = n := by
      rw [List.getD_eq_getElem?_getD, List.getElem?_eq_getElem (by omega : x.fr.toNat < rs.length)]
      exact h.rows _ (List.getElem_mem _)
    refine ⟨rowsOk_new (by rw [hlen]; exact h.chans) h.size (fun r hr => ?_) (fun r hr => ?_), hlen⟩
    · rcases List.mem_or_eq_of_mem_set hr with h1 | h1
      · exact h.rows r h1
      · subst h1; exact addL_len ht hf
    · rcases List.mem_or_eq_of_mem_set hr with h1 | h1
      · exact h.wide r h1
      · subst h1; exact hw
  next => simp at he
theorem stepR_back {s : Int} {rs rs' : List (List Int)} {x : Li} {n : Nat} (h : RowsOk rs n) (hx : liOk (rs.length : Nat) x = true) (he : stepR s rs x = some rs') : stepR (-s) rs' x = some rs := by
  have hl := liOk_iff.1 hx
  unfold stepR at he
  split at he
  next hw =>
    injection he with he
    have htl : x.to.toNat < rs.length := by omega
    have hfl : x.fr.toNat < rs.length := by omega
    have hne : x.to.toNat ≠ x.fr.toNat := by omega
    have ht : rs.getD x.to.toNat [] = rs[x.to.toNat] := by rw [List.getD_eq_getElem?_getD, List.getElem?_eq_getElem htl]; rfl
    have hf : rs.getD x.fr.toNat [] = rs[x.fr.toNat] := by rw [List.getD_eq_getElem?_getD, List.getElem?_eq_getElem hfl]; rfl
    rw [ht, hf] at he
    subst he
    have e1 : (rs.set x.to.toNat (addL s x.gn rs[x.to.toNat] rs[x.fr.toNat])).getD x.to.toNat [] = addL s x.gn rs[x.to.toNat] rs[x.fr.toNat] := by
      rw [List.getD_eq_getElem?_getD, List.getElem?_set_self htl]; rfl
    have e2 : (rs.set x.to.toNat (addL s x.gn rs[x.to.toNat] rs[x.fr.toNat])).getD x.fr.toNat [] = rs[x.fr.toNat] := by
      rw [List.getD_eq_getElem?_getD, List.getElem?_set_ne hne, List.getElem?_eq_getElem hfl]; rfl
    have hb : addL (-s) x.gn (addL s x.gn rs[x.to.toNat] rs[x.fr.toNat]) rs[x.fr.toNat] = rs[x.to.toNat] := addL_back (by rw [h.rows _ (List.getElem_mem _), h.rows _ (List.getElem_mem _)])
    unfold stepR
    rw [e1, e2, hb, if_pos (h.wide _ (List.getElem_mem _))]
    congr 1
    rw [List.set_set]
    exact List.set_getElem_self htl
  next => simp at he
theorem runR_ok {s : Int} {n : Nat} : ∀ {l : List Li} {rs rs' : List (List Int)}, RowsOk rs n → (∀ x ∈ l, liOk (rs.length : Nat) x = true) → runR s l rs = some rs' → RowsOk rs' n ∧ rs'.length = rs.length
  | [], rs, rs', h, _, he => by
    injection he with he
    subst he
    exact ⟨h, rfl⟩
  | x :: l, rs, rs', h, hx, he => by
    simp only [runR] at he
    cases hs : stepR s rs x with
    | none => rw [hs] at he; simp at he
    | some r =>
      rw [hs] at he
      have h1 := stepR_ok h (hx x (by simp)) hs
      have h2 := runR_ok h1.1 (fun y hy => by rw [h1.2]; exact hx y (by simp [hy])) he
      exact ⟨h2.1, h2.2.trans h1.2⟩
theorem runR_back {s : Int} {n : Nat} : ∀ {l : List Li} {rs rs' : List (List Int)}, RowsOk rs n → (∀ x ∈ l, liOk (rs.length : Nat) x = true) → runR s l rs = some rs' → runR (-s) l.reverse rs' = some rs
  | [], rs, rs', h, _, he => by
    injection he with he
    subst he
    rfl
  | x :: l, rs, rs', h, hx, he => by
    simp only [runR] at he
    cases hs : stepR s rs x with
    | none => rw [hs] at he; simp at he
    | some r =>
      rw [hs] at he
      have h1 := stepR_ok h (hx x (by simp)) hs
      have h2 := runR_back h1.1 (fun y hy => by rw [h1.2]; exact hx y (by simp [hy])) he
      rw [List.reverse_cons, runR_append, h2]
      exact (runR_one (-s) x r).trans (stepR_back h (hx x (by simp)) hs)

/- Do and Undo. -/
def opR (s : Int) (rs : List (List Int)) (l : List Li) : List (List Int) × Int :=
  if rowsW rs = true ∧ mayLi l (rs.length : Nat) = true then (match runR s l rs with | some r => (r, 0) | none => ([], 6)) else ([], 1)
theorem opR_bad {s : Int} {rs : List (List Int)} {l : List Li} (h : ¬ (rowsW rs = true ∧ mayLi l (rs.length : Nat) = true)) : opR s rs l = ([], 1) := by unfold opR; rw [if_neg h]
theorem opR_some {s : Int} {rs r : List (List Int)} {l : List Li} (h1 : rowsW rs = true) (h2 : mayLi l (rs.length : Nat) = true) (h : runR s l rs = some r) : opR s rs l = (r, 0) := by unfold opR; rw [if_pos ⟨h1, h2⟩, h]
theorem opR_none {s : Int} {rs : List (List Int)} {l : List Li} (h1 : rowsW rs = true) (h2 : mayLi l (rs.length : Nat) = true) (h : runR s l rs = none) : opR s rs l = ([], 6) := by unfold opR; rw [if_pos ⟨h1, h2⟩, h]
def doLi (rs : List (List Int)) (l : List Li) : List (List Int) × Int := opR 1 rs l
def undoLi (rs : List (List Int)) (l : List Li) : List (List Int) × Int := opR (-1) rs l.reverse
/-- What a call gives for rows and steps that may be. -/
theorem opR_cases {s : Int} {rs : List (List Int)} {l : List Li} {n : Nat} (h : RowsOk rs n) (hl : mayLi l (rs.length : Nat) = true) :
    (∃ r, runR s l rs = some r ∧ opR s rs l = (r, 0) ∧ RowsOk r n ∧ r.length = rs.length) ∨ (runR s l rs = none ∧ opR s rs l = ([], 6)) := by
  unfold opR
  rw [if_pos ⟨of_rowsOk h, hl⟩]
  cases hr : runR s l rs with
  | none => exact .inr ⟨rfl, rfl⟩
  | some r =>
    have := runR_ok h (mayLi_iff.1 hl).2.2.2 hr
    exact .inl ⟨r, rfl, rfl, this.1, this.2⟩
theorem undo_done {rs r : List (List Int)} {l : List Li} {n : Nat} (h : RowsOk rs n) (hl : mayLi l (rs.length : Nat) = true) (he : doLi rs l = (r, 0)) : undoLi r l = (rs, 0) := by
  rcases opR_cases (s := 1) h hl with ⟨r', h1, h2, h3, h4⟩ | ⟨_, h2⟩
  · unfold doLi at he
    rw [h2] at he
    injection he with he _
    subst he
    have hb := runR_back h (mayLi_iff.1 hl).2.2.2 h1
    unfold undoLi opR
    rw [if_pos ⟨of_rowsOk h3, by rw [mayLi_rev, h4]; exact hl⟩, hb]
  · unfold doLi at he
    rw [h2] at he
    simp at he
theorem do_undone {rs r : List (List Int)} {l : List Li} {n : Nat} (h : RowsOk rs n) (hl : mayLi l (rs.length : Nat) = true) (he : undoLi rs l = (r, 0)) : doLi r l = (rs, 0) := by
  have hl' : mayLi l.reverse (rs.length : Nat) = true := by rw [mayLi_rev]; exact hl
  rcases opR_cases (s := -1) h hl' with ⟨r', h1, h2, h3, h4⟩ | ⟨_, h2⟩
  · unfold undoLi at he
    rw [h2] at he
    injection he with he _
    subst he
    have hb := runR_back h (mayLi_iff.1 hl').2.2.2 h1
    rw [List.reverse_reverse, Int.neg_neg] at hb
    unfold doLi opR
    rw [if_pos ⟨of_rowsOk h3, by rw [h4]; exact hl⟩, hb]
  · unfold undoLi at he
    rw [h2] at he
    simp at he

/- Modes. -/
def namedLi (mode : Int) : List Li :=
  if mode = 1 then [⟨0, 1, -256⟩] else if mode = 2 then [⟨1, 0, -256⟩] else if mode = 3 then [⟨1, 0, -256⟩, ⟨0, 1, 128⟩] else if mode = 4 then [⟨1, 0, -106⟩, ⟨0, 1, 181⟩, ⟨1, 0, -106⟩] else []
theorem namedLi_may (mode : Int) : mayLi (namedLi mode) 2 = true := by
  unfold namedLi
  split
  · decide
  · split
    · decide
    · split
      · decide
      · split <;> decide

/- Weight. -/
def absI (x : Int) : Int := max x (-x)
def sndI (r : List Int) (i : Nat) : Int := r.getD (i + 2) 0 - 2 * r.getD (i + 1) 0 + r.getD i 0
/-- The weight of a row's first k second differences. -/
def rowWt (r : List Int) : Nat → Int
  | 0 => 0
  | k + 1 => rowWt r k + absI (sndI r k)
def rowsWt : List (List Int) → Int
  | [] => 0
  | r :: rs => rowWt r (r.length - 2) + rowsWt rs
def weightLi (rs : List (List Int)) : Int := if rowsW rs = true then rowsWt rs else 0
theorem rowsWt_append : ∀ (a b : List (List Int)), rowsWt (a ++ b) = rowsWt a + rowsWt b
  | [], b => by simp [rowsWt]
  | r :: a, b => by
    simp only [List.cons_append, rowsWt]
    rw [rowsWt_append a b, Int.add_assoc]
theorem absI_le {x M : Int} (h1 : -M ≤ x) (h2 : x ≤ M) : 0 ≤ absI x ∧ absI x ≤ M := by unfold absI; omega
theorem wide_at {r : List Int} (h : r.all wideB = true) (i : Nat) : -1073741824 ≤ r.getD i 0 ∧ r.getD i 0 < 1073741824 := by
  rw [List.getD_eq_getElem?_getD]
  cases hx : r[i]? with
  | none => simp
  | some x => exact wideB_iff.1 (List.all_eq_true.1 h x (List.mem_of_getElem? hx))
theorem sndI_le {r : List Int} (h : r.all wideB = true) (i : Nat) : -4294967296 ≤ sndI r i ∧ sndI r i ≤ 4294967296 := by
  have h0 := wide_at h i
  have h1 := wide_at h (i + 1)
  have h2 := wide_at h (i + 2)
  unfold sndI
  omega
theorem rowWt_le {r : List Int} (h : r.all wideB = true) : ∀ k : Nat, 0 ≤ rowWt r k ∧ rowWt r k ≤ 4294967296 * k
  | 0 => by simp [rowWt]
  | k + 1 => by
    have h1 := rowWt_le h k
    have h2 := sndI_le h k
    have h3 := absI_le h2.1 h2.2
    simp only [rowWt]
    omega
theorem rowsWt_le {n : Nat} (hn : n ≤ 4096) : ∀ {rs : List (List Int)}, (∀ r ∈ rs, r.length = n) → (∀ r ∈ rs, r.all wideB = true) → 0 ≤ rowsWt rs ∧ rowsWt rs ≤ 17592186044416 * (rs.length : Nat)
  | [], _, _ => by simp [rowsWt]
  | r :: rs, h1, h2 => by
    have h3 := rowsWt_le hn (fun x hx => h1 x (List.mem_cons_of_mem _ hx)) (fun x hx => h2 x (List.mem_cons_of_mem _ hx))
    have h4 := rowWt_le (h2 r (by simp)) (r.length - 2)
    have h5 := h1 r (by simp)
    simp only [rowsWt, List.length_cons]
    have h6 : r.length - 2 ≤ 4096 := by omega
    omega
theorem weightLi_le (rs : List (List Int)) : 0 ≤ weightLi rs ∧ weightLi rs ≤ 140737488355328 := by
  unfold weightLi
  split
  next h =>
    have M := rowsOk_of h
    have := rowsWt_le M.size M.rows M.wide
    have := M.chans
    omega
  next => simp

/- Best. -/
def wtMode (pair : List (List Int)) (m : Nat) : Int := if m = 0 then weightLi pair else weightLi (doLi pair (namedLi (m : Int))).1
/-- The mode of the first k that is best. -/
def bestM (pair : List (List Int)) : Nat → Nat
  | 0 => 0
  | k + 1 => if wtMode pair (k + 1) < wtMode pair (bestM pair k) then k + 1 else bestM pair k
theorem bestM_le (pair : List (List Int)) : ∀ k, bestM pair k ≤ k
  | 0 => Nat.le_refl _
  | k + 1 => by
    unfold bestM
    split
    · exact Nat.le_refl _
    · exact Nat.le_succ_of_le (bestM_le pair k)
theorem bestM_least (pair : List (List Int)) : ∀ k m, m ≤ k → wtMode pair (bestM pair k) ≤ wtMode pair m
  | 0, m, h => by
    have : m = 0 := by omega
    subst this
    exact Int.le_refl _
  | k + 1, m, h => by
    unfold bestM
    by_cases hm : m = k + 1
    · subst hm
      split
      · exact Int.le_refl _
      · omega
    · have := bestM_least pair k m (by omega)
      split
      · omega
      · exact this
def bestOfLi (pair : List (List Int)) : List Li := namedLi ((bestM pair 4 : Nat) : Int)
def shiftLi (d : Int) (x : Li) : Li := ⟨d + x.fr, d + x.to, x.gn⟩
def pairAt (rs : List (List Int)) (k : Nat) : List (List Int) := (rs.drop k).take 2
/-- The steps of the first k pairs. -/
def bestsLi (rs : List (List Int)) : Nat → List Li
  | 0 => []
  | k + 1 => bestsLi rs k ++ (bestOfLi (pairAt rs (2 * k))).map (shiftLi ((2 * k : Nat) : Int))
def bestLi (b : Int) (rs : List (List Int)) : List Li := if mayBk b rs = true then bestsLi rs (rs.length / 2) else []
end Go.Proofs.Ytggddckckfilgaa
