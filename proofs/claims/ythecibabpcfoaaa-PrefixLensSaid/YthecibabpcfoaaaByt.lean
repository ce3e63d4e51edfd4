/- Bytes: slices of bytes as lists of numbers. -/
import Derived.Test.YthecibabpcfoaaaRows
import Derived.Test.YthecibabpcfoaaaKit
import Derived.Deep.QuietTactic
import Derived.BigQuiet
namespace Go.Proofs.Ythecibabpcfoaaa
open Go.RowKit
set_option maxRecDepth 100000
set_option maxHeartbeats 400000

def cu8 (l : List Nat) : List Value := l.map fun x => .int .u8 (x : Nat)
def cu64 (l : List Nat) : List Value := l.map fun x => .int .u64 (x : Nat)


theorem info_u8 : (Try.prog.info? 5).map (fun i => (i.zero, i.size, i.bytes)) = some (some (.int .u8 0), 1, 1) := by kernel_rfl


theorem quietL {P : Program} {f : FuncId} {args : Array Value} {w : World} {v : Value} (h : Calls P f args w fun e w' => e = .returned v ∧ w = w') :
    Calls P f args w fun e w'' => e = .returned v ∧ ∃ m, w'' = w.drewN m := h.mono fun _ _ ⟨he, hm⟩ => ⟨he, 0, hm.symm⟩
theorem quietLN {P : Program} {f : FuncId} {args : Array Value} {w : World} {n : Nat} {v : Value} (h : Calls P f args (w.drewN n) fun e w' => e = .returned v ∧ w.drewN n = w') :
    Calls P f args (w.drewN n) fun e w'' => e = .returned v ∧ ∃ m, w'' = w.drewN m := h.mono fun _ _ ⟨he, hm⟩ => ⟨he, n, hm.symm⟩
theorem quietNN {P : Program} {f : FuncId} {args : Array Value} {w : World} {n : Nat} {v : Value} (h : Calls P f args (w.drewN n) fun e w' => e = .returned v ∧ ∃ m, w' = (w.drewN n).drewN m) :
    Calls P f args (w.drewN n) fun e w'' => e = .returned v ∧ ∃ m, w'' = w.drewN m := h.mono fun _ _ ⟨he, m, hm⟩ => ⟨he, n + m, by rw [hm, World.drewN_drewN]⟩

theorem cu8_one (l : List Nat) : ∀ u ∈ cu8 l, u.oneCell' = true := by
  intro u hu; obtain ⟨_, _, rfl⟩ := List.mem_map.1 hu; rfl

theorem cu8_app (a b : List Nat) : cu8 (a ++ b) = cu8 a ++ cu8 b := by simp [cu8]
theorem Sli.form8 {w : World} {B : Nat} {v : Value} {l : List Nat} (h : Sli w B v (cu8 l)) : ∃ A c, v = .slice A l.length c ∧ l.length ≤ c ∧ c ≤ maxLen := by
  obtain ⟨A, c, rfl, _, h1, h2, _⟩ := h
  have e : (cu8 l).length = l.length := by simp [cu8]
  rw [e] at h1 ⊢
  exact ⟨A, c, rfl, h1, h2⟩
theorem Sli.form64 {w : World} {B : Nat} {v : Value} {l : List Nat} (h : Sli w B v (cu64 l)) : ∃ A c, v = .slice A l.length c ∧ l.length ≤ c ∧ c ≤ maxLen := by
  obtain ⟨A, c, rfl, _, h1, h2, _⟩ := h
  have e : (cu64 l).length = l.length := by simp [cu64]
  rw [e] at h1 ⊢
  exact ⟨A, c, rfl, h1, h2⟩
theorem Own.form8 {w : World} {base : Nat} {e : TypeId} {v : Value} {l : List Nat} (h : Own w base e v (cu8 l)) : ∃ A c, v = .slice A l.length c ∧ l.length ≤ c ∧ c ≤ maxLen := h.sli.form8
/-- '[]byte{}'. -/
theorem Own.empty (w : World) (e : TypeId) : Own (w.alloc (.cells #[] e)) w.heap.size e (.slice (some ⟨w.heap.size, 0, none⟩) 0 0) [] := World.ownsRow_made w #[] 0 (Nat.le_refl _) (by simp [maxLen]) rfl

theorem cu8_len (l : List Nat) : (cu8 l).length = l.length := by simp [cu8]
theorem cu8_cut (l : List Nat) (a n : Nat) : ((cu8 l).drop a).take n = cu8 ((l.drop a).take n) := by simp [cu8, List.map_take, List.map_drop]

/-- 'r.b[r.at:]' as the walk spells it. -/
theorem Sli.rest {w : World} {B c : Nat} {A : Option Addr} {l : List Nat} (hh : Has w B A (cu8 l).length (cu8 l)) (hcm : c ≤ maxLen) (hlc : l.length ≤ c) (hnc : A = none → c = 0) (at_ : Nat) (h : at_ ≤ l.length) :
    (c = at_ → Sli w B (.slice A (l.length - at_) 0) (cu8 (l.drop at_))) ∧ (¬ c = at_ → Sli w B (.slice (A.map fun x => x.add at_) (l.length - at_) (c - at_)) (cu8 (l.drop at_))) := by
  have e : cu8 (l.drop at_) = ((cu8 l).drop at_).take (l.length - at_) := by rw [cu8_cut, List.take_of_length_le (by simp)]
  rw [e]
  exact ⟨fun he => Sli.tip (by rw [cu8_len]; exact hlc) _ _ (by rw [cu8_len]; omega) he, fun _ => Sli.mid hh hcm (by rw [cu8_len]; exact hlc) hnc at_ (l.length - at_) (by rw [cu8_len]; omega)⟩


end Go.Proofs.Ythecibabpcfoaaa
