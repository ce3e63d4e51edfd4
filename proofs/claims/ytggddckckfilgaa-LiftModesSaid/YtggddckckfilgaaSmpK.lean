/- sample: Pack, Unpack. -/
import Derived.Test.YtggddckckfilgaaSmpD
import Derived.Test.YtggddckckfilgaaOctN
import Derived.Test.YtggddckckfilgaaFoot
namespace Go.Proofs.Ytggddckckfilgaa
open Go.RowKit
set_option maxRecDepth 100000
set_option maxHeartbeats 400000

def pk (s : Nat) (x : Int) : List Nat := leB s (u64I x)
def packR (l : List Int) (b : Int) : List Nat × Int :=
  if packB b = true then (if l.all (fun x => fitsB x b) = true then (l.flatMap (pk (szOf b)), 0) else ([], 6)) else ([], 1)
theorem pks_len (s : Nat) (l : List Int) : (l.flatMap (pk s)).length = l.length * s := by
  induction l with
  | nil => simp
  | cons x l ih => rw [List.flatMap_cons, List.length_append, ih, List.length_cons, Nat.succ_mul]; simp only [pk, leB_len]; omega
theorem clamp_sz {s : Nat} (h : s = 1 ∨ s = 2 ∨ s = 3) : clampN (s : Int) = s := by rcases h with rfl | rfl | rfl <;> rfl

/-- The i-th sample of s bytes. -/
def chunk (s : Nat) (l : List Nat) (i : Nat) : Int := sgnS s (leV ((l.drop (i * s)).take s))
def unpk (s : Nat) (l : List Nat) : List Int := (List.range (l.length / s)).map (chunk s l)
def unpackR (l : List Nat) (b : Int) : List Int × Int :=
  if packB b = true then (if l.length % szOf b = 0 then (if (unpk (szOf b) l).all (fun x => fitsB x b) = true then (unpk (szOf b) l, 0) else ([], 6)) else ([], 3)) else ([], 1)
theorem unpk_len (s : Nat) (l : List Nat) : (unpk s l).length = l.length / s := by simp [unpk]
theorem unpk_at {s i : Nat} {l : List Nat} (h : i < l.length / s) : (unpk s l)[i]? = some (chunk s l i) := by simp [unpk, h]
theorem take_chunk {s i n : Nat} {l : List Nat} (hn : l.length = n * s) (h : i < n) : rdTake l (i * s) 0 s = ((l.drop (i * s)).take s, (i + 1) * s, 0) := by
  have h1 : (i + 1) * s ≤ n * s := Nat.mul_le_mul_right _ h
  rw [Nat.succ_mul] at h1
  unfold rdTake
  rw [if_pos rfl, if_neg (by omega), Nat.succ_mul]

end Go.Proofs.Ytggddckckfilgaa
