/- package sort: SliceStable. -/
import Derived.Test.YthecibabpcfoaaaSrtS
import Derived.Test.YthecibabpcfoaaaInt
import Derived.Lib.ReflectliteSwap
import Derived.Laws.Externs
namespace Go.Proofs.Ythecibabpcfoaaa
open Go.RowKit Go.Shelf Go.Lib
set_option maxRecDepth 100000
set_option maxHeartbeats 4000000

noncomputable def sbound (e : TypeId) (ie : TypeInfo) (ke : Nat) (p : Option Addr) (n c : Nat) : Array Value := if swapperK n ie ke ≤ 2 then #[] else #[.slice p n c, typeHandle Try.prog e]

section
variable {α : Type} {key : α → Int} {blk g : Nat} {lb : Array Value} {R : (Nat → α) → World → Prop}

theorem sorted_any (t e : TypeId) (i ie : TypeInfo) (hi : Try.prog.info? t = some i) (hd : i.desc = .slice e) (hpk : Try.prog.packed t = false) (hie : Try.prog.info? e = some ie) (ke : Nat) (hke : ∀ w, (Extern.Rtype.kind e).run Try.prog w = .ok ke w)
    (p : Option Addr) (n c : Nat) (hn : n < 2305843009213693952) (s : Nat) (hf : Try.prog.funcs.findIdx? (·.name == "internal/reflectlite" ++ ".Swapper$" ++ toString (swapperK n ie ke)) = some s)
    (S : Sorter key n blk g s lb (sbound e ie ke p n c) R) (ord : α → Nat) (f : Nat → α) (w : World) (hR : R f w) (ho : ∀ i j, i < j → j < n → ord (f i) < ord (f j)) :
    Calls Try.prog 53 #[.iface t (.slice p n c), .func (.func g) #[] lb] w fun e w' => e = .returned (.tuple #[]) ∧ ∃ f', R f' w' ∧ Sws 0 n f f' ∧ Sor key ord f' 0 n := by
  have hv := run_valueOf_slice (P := Try.prog) t e i hi hd p n c w
  have hs := fun w => run_swapper_slice (P := Try.prog) t e i ie hi hd hie ke hke p n c s hf w
  have hl := fun a w ha => run_valueLen_slice (P := Try.prog) t e i hi hd hpk a p n c w ha
  have hp := stable_any S ord hn f ((w.alloc (.cells #[.slice p n c] t)).alloc (.cells #[.pointer (some ⟨Try.prog.globals.size, t, none⟩), .pointer (some ⟨w.heap.size, 0, none⟩), .int .u64 151] 106)) (S.alloc _ _ _ (S.alloc _ _ _ hR)) ho
  unfold sbound at hp
  generalize (if swapperK n ie ke ≤ 2 then (#[] : Array Value) else #[.slice p n c, typeHandle Try.prog e]) = B at hs hp
  have hG : Try.prog.globals.size = 0 := by kernel_rfl
  simp only [typeHandle, hG] at hv hl hp
  clear hG
  clear S
  go_enter Try.func53, Try.ntmps53
  go_wp2
  rw [run_callFunc_extern Try.func67 (by kernel_rfl) (by kernel_rfl) (by kernel_rfl) (e := fun args => Extern.ReflectliteValue.unpack (args.getD 0 (.tuple #[]))) (by kernel_rfl),
    show Sem.run Try.prog ((fun args : Array Value => Extern.ReflectliteValue.unpack (args.getD 0 (.tuple #[]))) #[.iface t (.slice p n c)]) w = _ from hv]
  simp only [Result.andThen]
  rw [Oper.upon_value]
  go_wp2
  rw [run_callFunc_extern Try.func68 (by kernel_rfl) (by kernel_rfl) (by kernel_rfl) (e := Extern.ReflectliteSwapper.swapper "internal/reflectlite" (Extern.ReflectliteValue.valueError "Swapper")) (by kernel_rfl), hs]
  simp only [Result.andThen]
  rw [Oper.upon_value]
  go_wp2
  rw [run_callFunc_extern Try.func70 (by kernel_rfl) (by kernel_rfl) (by kernel_rfl) (e := Extern.ReflectliteValue.method (Extern.ReflectliteValue.valueError "reflectlite.Value.Len" 0) Extern.ReflectliteValue.len) (by kernel_rfl),
    hl _ _ (by simp)]
  simp only [Result.andThen]
  rw [Oper.upon_value]
  go_wp2_with fail
  refine hp.mono ?_
  rintro e w' ⟨rfl, f', hR', hs', ho', _⟩
  go_wp2
  go_end0
  exact ⟨rfl, f', hR', hs', ho'⟩
end
end Go.Proofs.Ythecibabpcfoaaa
