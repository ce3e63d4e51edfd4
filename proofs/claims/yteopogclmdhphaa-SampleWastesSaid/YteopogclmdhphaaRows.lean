/-
  No cell of these rows narrows 'for every input' (looked for: loops, veiled, ifaces, maps, wideKeys, modest, calm, conditions, laid).
  DERIVED. THE GIVEN ROWS OF THIS SEAT. 6 by the template 'for every input the law returns true; each argument reads behind the call as it read before'; 0 by the template 'total and deterministic' (their statements: YteopogclmdhphaaTotals.lean).
  GIVEN WITH THE SEED: the statements are not yours to turn. If you find one false, say at which input.
  Laid BY PROGRAM, IN A SANDBOX (cutbox-rows.mjs): the forced cells as the released guide's own fill.sh prints them over the translation dadc7b4d893b78e6… (all of the seat's roots in one cut). By AI agents, Wed Nov 11 2026. No macro, syntax, notation, axiom, sorry.
-/
import Derived.Test.YteopogclmdhphaaChecked
import GoSem.Claim
import GoSem.ClaimJoined
import GoSem.ClaimMapViews
import Derived.JoinedTies
import Derived.KernelRfl
namespace Go.Proofs.Yteopogclmdhphaa
/- THE CELL 'sum', in the pinned program and in every row, IS THE sha256 OF THE DUMP (.gsa) THAT YteopogclmdhphaaProg.lean LOADS. Nothing in Lean hashes anything: it is a label: what it is worth is what the hold of that sum in a sandbox is worth. -/
noncomputable def Try.pinned : Pinned := { name := "yteopogclmdhphaa", sum := "dadc7b4d893b78e6d0dde6644ab64ff35166acb3c6fa8cae2a4f54d49754173a", checked := Try.checked }
namespace Rows
def none {H : Type} : Left H := { results := [], args := [] }

/-- 'kinoralaw4.SampleTells': WHATEVER THE INPUT: true; the input reads as it did. -/
def sampleTellsSpec : ChangeSpec := { name := "sampleTells", fn := fun _ => fun
  | [d1, d2, d3] => { results := [.lit (.bool true)], args := [d1, d2, d3] }
  | _ => none }
def sampleTellsRow : OpenClaim := { program := "yteopogclmdhphaa", sum := "dadc7b4d893b78e6d0dde6644ab64ff35166acb3c6fa8cae2a4f54d49754173a", func := "kinora/kinoralaw4.SampleTells", spec := "sampleTells", apart := false }
def SampleTellsSaid : Prop := sampleTellsRow.holds Try.pinned (OpenSpec.ofChange sampleTellsSpec)

/-- ITS FALSE NEIGHBOUR: 'it returns false'. Refute it at one input. -/
def sampleTellsWrong : ChangeSpec := { name := "sampleTells", fn := fun _ => fun
  | [d1, d2, d3] => { results := [.lit (.bool false)], args := [d1, d2, d3] }
  | _ => none }
def SampleTellsWrongFalsely : Prop := sampleTellsRow.holds Try.pinned (OpenSpec.ofChange sampleTellsWrong)

/-- 'kinoralaw4.SampleShifts': WHATEVER THE INPUT: true; the input reads as it did. -/
def sampleShiftsSpec : ChangeSpec := { name := "sampleShifts", fn := fun _ => fun
  | [d1, d2] => { results := [.lit (.bool true)], args := [d1, d2] }
  | _ => none }
def sampleShiftsRow : OpenClaim := { program := "yteopogclmdhphaa", sum := "dadc7b4d893b78e6d0dde6644ab64ff35166acb3c6fa8cae2a4f54d49754173a", func := "kinora/kinoralaw4.SampleShifts", spec := "sampleShifts", apart := false }
def SampleShiftsSaid : Prop := sampleShiftsRow.holds Try.pinned (OpenSpec.ofChange sampleShiftsSpec)

/-- ITS FALSE NEIGHBOUR: 'it returns false'. Refute it at one input. -/
def sampleShiftsWrong : ChangeSpec := { name := "sampleShifts", fn := fun _ => fun
  | [d1, d2] => { results := [.lit (.bool false)], args := [d1, d2] }
  | _ => none }
def SampleShiftsWrongFalsely : Prop := sampleShiftsRow.holds Try.pinned (OpenSpec.ofChange sampleShiftsWrong)

/-- 'kinoralaw4.SampleBack': WHATEVER THE INPUT: true; the input reads as it did. -/
def sampleBackSpec : ChangeSpec := { name := "sampleBack", fn := fun _ => fun
  | [d1, d2, d3] => { results := [.lit (.bool true)], args := [d1, d2, d3] }
  | _ => none }
def sampleBackRow : OpenClaim := { program := "yteopogclmdhphaa", sum := "dadc7b4d893b78e6d0dde6644ab64ff35166acb3c6fa8cae2a4f54d49754173a", func := "kinora/kinoralaw4.SampleBack", spec := "sampleBack", apart := false }
def SampleBackSaid : Prop := sampleBackRow.holds Try.pinned (OpenSpec.ofChange sampleBackSpec)

/-- ITS FALSE NEIGHBOUR: 'it returns false'. Refute it at one input. -/
def sampleBackWrong : ChangeSpec := { name := "sampleBack", fn := fun _ => fun
  | [d1, d2, d3] => { results := [.lit (.bool false)], args := [d1, d2, d3] }
  | _ => none }
def SampleBackWrongFalsely : Prop := sampleBackRow.holds Try.pinned (OpenSpec.ofChange sampleBackWrong)

/-- 'kinoralaw4.SampleWide': WHATEVER THE INPUT: true; the input reads as it did. -/
def sampleWideSpec : ChangeSpec := { name := "sampleWide", fn := fun _ => fun
  | [d] => { results := [.lit (.bool true)], args := [d] }
  | _ => none }
def sampleWideRow : OpenClaim := { program := "yteopogclmdhphaa", sum := "dadc7b4d893b78e6d0dde6644ab64ff35166acb3c6fa8cae2a4f54d49754173a", func := "kinora/kinoralaw4.SampleWide", spec := "sampleWide", apart := false }
def SampleWideSaid : Prop := sampleWideRow.holds Try.pinned (OpenSpec.ofChange sampleWideSpec)

/-- ITS FALSE NEIGHBOUR: 'it returns false'. Refute it at one input. -/
def sampleWideWrong : ChangeSpec := { name := "sampleWide", fn := fun _ => fun
  | [d] => { results := [.lit (.bool false)], args := [d] }
  | _ => none }
def SampleWideWrongFalsely : Prop := sampleWideRow.holds Try.pinned (OpenSpec.ofChange sampleWideWrong)

/-- 'kinoralaw4.SampleWastes': WHATEVER THE INPUT: true; the input reads as it did. -/
def sampleWastesSpec : ChangeSpec := { name := "sampleWastes", fn := fun _ => fun
  | [d] => { results := [.lit (.bool true)], args := [d] }
  | _ => none }
def sampleWastesRow : OpenClaim := { program := "yteopogclmdhphaa", sum := "dadc7b4d893b78e6d0dde6644ab64ff35166acb3c6fa8cae2a4f54d49754173a", func := "kinora/kinoralaw4.SampleWastes", spec := "sampleWastes", apart := false }
def SampleWastesSaid : Prop := sampleWastesRow.holds Try.pinned (OpenSpec.ofChange sampleWastesSpec)

/-- ITS FALSE NEIGHBOUR: 'it returns false'. Refute it at one input. -/
def sampleWastesWrong : ChangeSpec := { name := "sampleWastes", fn := fun _ => fun
  | [d] => { results := [.lit (.bool false)], args := [d] }
  | _ => none }
def SampleWastesWrongFalsely : Prop := sampleWastesRow.holds Try.pinned (OpenSpec.ofChange sampleWastesWrong)

/-- 'kinoralaw4.SampleJoins': WHATEVER THE INPUT: true; the input reads as it did. -/
def sampleJoinsSpec : ChangeSpec := { name := "sampleJoins", fn := fun _ => fun
  | [d1, d2, d3] => { results := [.lit (.bool true)], args := [d1, d2, d3] }
  | _ => none }
def sampleJoinsRow : OpenClaim := { program := "yteopogclmdhphaa", sum := "dadc7b4d893b78e6d0dde6644ab64ff35166acb3c6fa8cae2a4f54d49754173a", func := "kinora/kinoralaw4.SampleJoins", spec := "sampleJoins", apart := false }
def SampleJoinsSaid : Prop := sampleJoinsRow.holds Try.pinned (OpenSpec.ofChange sampleJoinsSpec)

/-- ITS FALSE NEIGHBOUR: 'it returns false'. Refute it at one input. -/
def sampleJoinsWrong : ChangeSpec := { name := "sampleJoins", fn := fun _ => fun
  | [d1, d2, d3] => { results := [.lit (.bool false)], args := [d1, d2, d3] }
  | _ => none }
def SampleJoinsWrongFalsely : Prop := sampleJoinsRow.holds Try.pinned (OpenSpec.ofChange sampleJoinsWrong)

/- THE SECOND FORM. 'bulk': how many values and letters a reading holds, each counted each time it is reached (what is shared counts as often as it is met; a slice's spare places count too). A statement '..UptoSaid' is the law's where the arguments, and the package variables that the reading takes, are together of bulk at most 1048576: NARROWER than '..Said'. Prove '..Said' where nothing that the law and all that it calls make is longer than what came in: it says more and counts as full. Else prove '..UptoSaid'. A law counts once. -/
mutual
def uptoBulk {H : Type} : DataW H → Nat
  | .lit (.string bytes) => bytes.length + 1
  | .lit _ => 1
  | .nil => 1
  | .ptr d => uptoBulk d + 1
  | .slice elems spare => uptoBulkAll elems + uptoBulkAll spare + 1
  | .agg parts => uptoBulkAll parts + 1
  | .iface _ d => uptoBulk d + 1
  | .map entries => uptoBulkEntries entries + 1
  | .held _ => 1
def uptoBulkAll {H : Type} : List (DataW H) → Nat
  | [] => 0
  | d :: r => uptoBulk d + uptoBulkAll r
def uptoBulkEntries {H : Type} : List (Lit × DataW H) → Nat
  | [] => 0
  | x :: r => uptoBulkEntry x + uptoBulkEntries r
def uptoBulkEntry {H : Type} : Lit × DataW H → Nat
  | (.string bytes, d) => bytes.length + uptoBulk d + 1
  | (_, d) => uptoBulk d + 1
 end
def uptoSmall : (H : Type) → List (DataW H) → Bool := fun _ ds => decide (uptoBulkAll ds ≤ 1048576)
def OpenSpec.upto (s : _root_.Go.ChangeSpec) : _root_.Go.OpenSpec := { _root_.Go.OpenSpec.ofChange s with cond := some uptoSmall }

/-- 'kinoralaw4.SampleTells', WHERE WHAT IT READS IS OF BULK AT MOST 1048576: true; the input reads as it did. -/
def sampleTellsUptoRow : OpenClaim := { program := "yteopogclmdhphaa", sum := "dadc7b4d893b78e6d0dde6644ab64ff35166acb3c6fa8cae2a4f54d49754173a", func := "kinora/kinoralaw4.SampleTells", spec := "sampleTells", apart := false, narrowed := true }
def SampleTellsUptoSaid : Prop := sampleTellsUptoRow.holds Try.pinned (OpenSpec.upto sampleTellsSpec)

/-- 'kinoralaw4.SampleShifts', WHERE WHAT IT READS IS OF BULK AT MOST 1048576: true; the input reads as it did. -/
def sampleShiftsUptoRow : OpenClaim := { program := "yteopogclmdhphaa", sum := "dadc7b4d893b78e6d0dde6644ab64ff35166acb3c6fa8cae2a4f54d49754173a", func := "kinora/kinoralaw4.SampleShifts", spec := "sampleShifts", apart := false, narrowed := true }
def SampleShiftsUptoSaid : Prop := sampleShiftsUptoRow.holds Try.pinned (OpenSpec.upto sampleShiftsSpec)

/-- 'kinoralaw4.SampleBack', WHERE WHAT IT READS IS OF BULK AT MOST 1048576: true; the input reads as it did. -/
def sampleBackUptoRow : OpenClaim := { program := "yteopogclmdhphaa", sum := "dadc7b4d893b78e6d0dde6644ab64ff35166acb3c6fa8cae2a4f54d49754173a", func := "kinora/kinoralaw4.SampleBack", spec := "sampleBack", apart := false, narrowed := true }
def SampleBackUptoSaid : Prop := sampleBackUptoRow.holds Try.pinned (OpenSpec.upto sampleBackSpec)

/-- 'kinoralaw4.SampleWide', WHERE WHAT IT READS IS OF BULK AT MOST 1048576: true; the input reads as it did. -/
def sampleWideUptoRow : OpenClaim := { program := "yteopogclmdhphaa", sum := "dadc7b4d893b78e6d0dde6644ab64ff35166acb3c6fa8cae2a4f54d49754173a", func := "kinora/kinoralaw4.SampleWide", spec := "sampleWide", apart := false, narrowed := true }
def SampleWideUptoSaid : Prop := sampleWideUptoRow.holds Try.pinned (OpenSpec.upto sampleWideSpec)

/-- 'kinoralaw4.SampleWastes', WHERE WHAT IT READS IS OF BULK AT MOST 1048576: true; the input reads as it did. -/
def sampleWastesUptoRow : OpenClaim := { program := "yteopogclmdhphaa", sum := "dadc7b4d893b78e6d0dde6644ab64ff35166acb3c6fa8cae2a4f54d49754173a", func := "kinora/kinoralaw4.SampleWastes", spec := "sampleWastes", apart := false, narrowed := true }
def SampleWastesUptoSaid : Prop := sampleWastesUptoRow.holds Try.pinned (OpenSpec.upto sampleWastesSpec)

/-- 'kinoralaw4.SampleJoins', WHERE WHAT IT READS IS OF BULK AT MOST 1048576: true; the input reads as it did. -/
def sampleJoinsUptoRow : OpenClaim := { program := "yteopogclmdhphaa", sum := "dadc7b4d893b78e6d0dde6644ab64ff35166acb3c6fa8cae2a4f54d49754173a", func := "kinora/kinoralaw4.SampleJoins", spec := "sampleJoins", apart := false, narrowed := true }
def SampleJoinsUptoSaid : Prop := sampleJoinsUptoRow.holds Try.pinned (OpenSpec.upto sampleJoinsSpec)

end Rows
end Go.Proofs.Yteopogclmdhphaa
