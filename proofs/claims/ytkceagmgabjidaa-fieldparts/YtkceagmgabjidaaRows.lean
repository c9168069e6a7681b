/-
  No cell of these rows narrows 'for every input' (looked for: loops, veiled, ifaces, maps, wideKeys, modest, calm, conditions, laid).
  DERIVED. THE GIVEN ROWS OF THIS SEAT. 7 by the template 'for every input the law returns true; each argument reads behind the call as it read before'; 0 by the template 'total and deterministic' (their statements: YtkceagmgabjidaaTotals.lean).
  GIVEN WITH THE SEED: the statements are not yours to turn. If you find one false, say at which input.
  Laid BY PROGRAM, IN A SANDBOX (cutbox-rows.mjs): the forced cells as the released guide's own fill.sh prints them over the translation ffc57a5a3e09a32f… (all of the seat's roots in one cut). By AI agents, Wed Nov 11 2026. No macro, syntax, notation, axiom, sorry.
-/
import Derived.Test.YtkceagmgabjidaaChecked
import GoSem.Claim
import GoSem.ClaimJoined
import GoSem.ClaimMapViews
import Derived.JoinedTies
import Derived.KernelRfl
namespace Go.Proofs.Ytkceagmgabjidaa
/- THE CELL 'sum', in the pinned program and in every row, IS THE sha256 OF THE DUMP (.gsa) THAT YtkceagmgabjidaaProg.lean LOADS. Nothing in Lean hashes anything: it is a label: what it is worth is what the hold of that sum in a sandbox is worth. -/
noncomputable def Try.pinned : Pinned := { name := "ytkceagmgabjidaa", sum := "ffc57a5a3e09a32ff9448551c05845841f16f4e21ff2cbfa7b6442bcbe730662", checked := Try.checked }
namespace Rows
def none {H : Type} : Left H := { results := [], args := [] }

/-- 'shelterbeltlaw01.FieldTells': WHATEVER THE INPUT: true; the input reads as it did. -/
def fieldTellsSpec : ChangeSpec := { name := "fieldTells", fn := fun _ => fun
  | [d1, d2, d3, d4, d5] => { results := [.lit (.bool true)], args := [d1, d2, d3, d4, d5] }
  | _ => none }
def fieldTellsRow : OpenClaim := { program := "ytkceagmgabjidaa", sum := "ffc57a5a3e09a32ff9448551c05845841f16f4e21ff2cbfa7b6442bcbe730662", func := "shelterbelt/shelterbeltlaw01.FieldTells", spec := "fieldTells", unfollowed := true, recurses := true, apart := false }
def FieldTellsSaid : Prop := fieldTellsRow.holds Try.pinned (OpenSpec.ofChange fieldTellsSpec)

/-- ITS FALSE NEIGHBOUR: 'it returns false'. Refute it at one input. -/
def fieldTellsWrong : ChangeSpec := { name := "fieldTells", fn := fun _ => fun
  | [d1, d2, d3, d4, d5] => { results := [.lit (.bool false)], args := [d1, d2, d3, d4, d5] }
  | _ => none }
def FieldTellsWrongFalsely : Prop := fieldTellsRow.holds Try.pinned (OpenSpec.ofChange fieldTellsWrong)

/-- 'shelterbeltlaw01.FieldBack': WHATEVER THE INPUT: true; the input reads as it did. -/
def fieldBackSpec : ChangeSpec := { name := "fieldBack", fn := fun _ => fun
  | [d1, d2, d3, d4] => { results := [.lit (.bool true)], args := [d1, d2, d3, d4] }
  | _ => none }
def fieldBackRow : OpenClaim := { program := "ytkceagmgabjidaa", sum := "ffc57a5a3e09a32ff9448551c05845841f16f4e21ff2cbfa7b6442bcbe730662", func := "shelterbelt/shelterbeltlaw01.FieldBack", spec := "fieldBack", unfollowed := true, recurses := true, apart := false }
def FieldBackSaid : Prop := fieldBackRow.holds Try.pinned (OpenSpec.ofChange fieldBackSpec)

/-- ITS FALSE NEIGHBOUR: 'it returns false'. Refute it at one input. -/
def fieldBackWrong : ChangeSpec := { name := "fieldBack", fn := fun _ => fun
  | [d1, d2, d3, d4] => { results := [.lit (.bool false)], args := [d1, d2, d3, d4] }
  | _ => none }
def FieldBackWrongFalsely : Prop := fieldBackRow.holds Try.pinned (OpenSpec.ofChange fieldBackWrong)

/-- 'shelterbeltlaw01.FieldSigned': WHATEVER THE INPUT: true; the input reads as it did. -/
def fieldSignedSpec : ChangeSpec := { name := "fieldSigned", fn := fun _ => fun
  | [d1, d2] => { results := [.lit (.bool true)], args := [d1, d2] }
  | _ => none }
def fieldSignedRow : OpenClaim := { program := "ytkceagmgabjidaa", sum := "ffc57a5a3e09a32ff9448551c05845841f16f4e21ff2cbfa7b6442bcbe730662", func := "shelterbelt/shelterbeltlaw01.FieldSigned", spec := "fieldSigned", unfollowed := true, recurses := true, apart := false }
def FieldSignedSaid : Prop := fieldSignedRow.holds Try.pinned (OpenSpec.ofChange fieldSignedSpec)

/-- ITS FALSE NEIGHBOUR: 'it returns false'. Refute it at one input. -/
def fieldSignedWrong : ChangeSpec := { name := "fieldSigned", fn := fun _ => fun
  | [d1, d2] => { results := [.lit (.bool false)], args := [d1, d2] }
  | _ => none }
def FieldSignedWrongFalsely : Prop := fieldSignedRow.holds Try.pinned (OpenSpec.ofChange fieldSignedWrong)

/-- 'shelterbeltlaw01.FieldRows': WHATEVER THE INPUT: true; the input reads as it did. -/
def fieldRowsSpec : ChangeSpec := { name := "fieldRows", fn := fun _ => fun
  | [d1, d2] => { results := [.lit (.bool true)], args := [d1, d2] }
  | _ => none }
def fieldRowsRow : OpenClaim := { program := "ytkceagmgabjidaa", sum := "ffc57a5a3e09a32ff9448551c05845841f16f4e21ff2cbfa7b6442bcbe730662", func := "shelterbelt/shelterbeltlaw01.FieldRows", spec := "fieldRows", unfollowed := true, recurses := true, apart := false }
def FieldRowsSaid : Prop := fieldRowsRow.holds Try.pinned (OpenSpec.ofChange fieldRowsSpec)

/-- ITS FALSE NEIGHBOUR: 'it returns false'. Refute it at one input. -/
def fieldRowsWrong : ChangeSpec := { name := "fieldRows", fn := fun _ => fun
  | [d1, d2] => { results := [.lit (.bool false)], args := [d1, d2] }
  | _ => none }
def FieldRowsWrongFalsely : Prop := fieldRowsRow.holds Try.pinned (OpenSpec.ofChange fieldRowsWrong)

/-- 'shelterbeltlaw01.FieldCuts': WHATEVER THE INPUT: true; the input reads as it did. -/
def fieldCutsSpec : ChangeSpec := { name := "fieldCuts", fn := fun _ => fun
  | [d1, d2] => { results := [.lit (.bool true)], args := [d1, d2] }
  | _ => none }
def fieldCutsRow : OpenClaim := { program := "ytkceagmgabjidaa", sum := "ffc57a5a3e09a32ff9448551c05845841f16f4e21ff2cbfa7b6442bcbe730662", func := "shelterbelt/shelterbeltlaw01.FieldCuts", spec := "fieldCuts", unfollowed := true, recurses := true, apart := false }
def FieldCutsSaid : Prop := fieldCutsRow.holds Try.pinned (OpenSpec.ofChange fieldCutsSpec)

/-- ITS FALSE NEIGHBOUR: 'it returns false'. Refute it at one input. -/
def fieldCutsWrong : ChangeSpec := { name := "fieldCuts", fn := fun _ => fun
  | [d1, d2] => { results := [.lit (.bool false)], args := [d1, d2] }
  | _ => none }
def FieldCutsWrongFalsely : Prop := fieldCutsRow.holds Try.pinned (OpenSpec.ofChange fieldCutsWrong)

/-- 'shelterbeltlaw01.FieldFits': WHATEVER THE INPUT: true; the input reads as it did. -/
def fieldFitsSpec : ChangeSpec := { name := "fieldFits", fn := fun _ => fun
  | [d1, d2] => { results := [.lit (.bool true)], args := [d1, d2] }
  | _ => none }
def fieldFitsRow : OpenClaim := { program := "ytkceagmgabjidaa", sum := "ffc57a5a3e09a32ff9448551c05845841f16f4e21ff2cbfa7b6442bcbe730662", func := "shelterbelt/shelterbeltlaw01.FieldFits", spec := "fieldFits", unfollowed := true, recurses := true, apart := false }
def FieldFitsSaid : Prop := fieldFitsRow.holds Try.pinned (OpenSpec.ofChange fieldFitsSpec)

/-- ITS FALSE NEIGHBOUR: 'it returns false'. Refute it at one input. -/
def fieldFitsWrong : ChangeSpec := { name := "fieldFits", fn := fun _ => fun
  | [d1, d2] => { results := [.lit (.bool false)], args := [d1, d2] }
  | _ => none }
def FieldFitsWrongFalsely : Prop := fieldFitsRow.holds Try.pinned (OpenSpec.ofChange fieldFitsWrong)

/-- 'shelterbeltlaw01.FieldParts': WHATEVER THE INPUT: true; the input reads as it did. -/
def fieldPartsSpec : ChangeSpec := { name := "fieldParts", fn := fun _ => fun
  | [d1, d2] => { results := [.lit (.bool true)], args := [d1, d2] }
  | _ => none }
def fieldPartsRow : OpenClaim := { program := "ytkceagmgabjidaa", sum := "ffc57a5a3e09a32ff9448551c05845841f16f4e21ff2cbfa7b6442bcbe730662", func := "shelterbelt/shelterbeltlaw01.FieldParts", spec := "fieldParts", unfollowed := true, recurses := true, apart := false }
def FieldPartsSaid : Prop := fieldPartsRow.holds Try.pinned (OpenSpec.ofChange fieldPartsSpec)

/-- ITS FALSE NEIGHBOUR: 'it returns false'. Refute it at one input. -/
def fieldPartsWrong : ChangeSpec := { name := "fieldParts", fn := fun _ => fun
  | [d1, d2] => { results := [.lit (.bool false)], args := [d1, d2] }
  | _ => none }
def FieldPartsWrongFalsely : Prop := fieldPartsRow.holds Try.pinned (OpenSpec.ofChange fieldPartsWrong)

/- THE SECOND FORM. 'bulk': how many values and letters a reading holds, each counted each time it is reached (what is shared counts as often as it is met; a slice's spare places count too). A statement '..UptoSaid' is the law's where the arguments, and the package variables that the reading takes, are together of bulk at most 1048576: NARROWER than '..Said'. Prove '..Said' where nothing that the law and all that it calls make is longer than what came in: it says more and counts as full. Else prove '..UptoSaid'. A law counts once. -/
mutual
def uptoBulk {H : Type} : DataW H → Nat
  | .lit (.string bytes) => bytes.length + 1
  | .lit _ => 1
  | .nil => 1
  | .ptr d => uptoBulk d + 1
  | .slice elems spare => uptoBulkAll elems + uptoBulkAll spare + 1
  | .agg parts => uptoBulkAll parts + 1
  | .iface _ d => uptoBulk d + 1
  | .map entries => uptoBulkEntries entries + 1
  | .held _ => 1
def uptoBulkAll {H : Type} : List (DataW H) → Nat
  | [] => 0
  | d :: r => uptoBulk d + uptoBulkAll r
def uptoBulkEntries {H : Type} : List (Lit × DataW H) → Nat
  | [] => 0
  | x :: r => uptoBulkEntry x + uptoBulkEntries r
def uptoBulkEntry {H : Type} : Lit × DataW H → Nat
  | (.string bytes, d) => bytes.length + uptoBulk d + 1
  | (_, d) => uptoBulk d + 1
 end
def uptoSmall : (H : Type) → List (DataW H) → Bool := fun _ ds => decide (uptoBulkAll ds ≤ 1048576)
def OpenSpec.upto (s : _root_.Go.ChangeSpec) : _root_.Go.OpenSpec := { _root_.Go.OpenSpec.ofChange s with cond := some uptoSmall }

/-- 'shelterbeltlaw01.FieldTells', WHERE WHAT IT READS IS OF BULK AT MOST 1048576: true; the input reads as it did. -/
def fieldTellsUptoRow : OpenClaim := { program := "ytkceagmgabjidaa", sum := "ffc57a5a3e09a32ff9448551c05845841f16f4e21ff2cbfa7b6442bcbe730662", func := "shelterbelt/shelterbeltlaw01.FieldTells", spec := "fieldTells", unfollowed := true, recurses := true, apart := false, narrowed := true }
def FieldTellsUptoSaid : Prop := fieldTellsUptoRow.holds Try.pinned (OpenSpec.upto fieldTellsSpec)

/-- 'shelterbeltlaw01.FieldBack', WHERE WHAT IT READS IS OF BULK AT MOST 1048576: true; the input reads as it did. -/
def fieldBackUptoRow : OpenClaim := { program := "ytkceagmgabjidaa", sum := "ffc57a5a3e09a32ff9448551c05845841f16f4e21ff2cbfa7b6442bcbe730662", func := "shelterbelt/shelterbeltlaw01.FieldBack", spec := "fieldBack", unfollowed := true, recurses := true, apart := false, narrowed := true }
def FieldBackUptoSaid : Prop := fieldBackUptoRow.holds Try.pinned (OpenSpec.upto fieldBackSpec)

/-- 'shelterbeltlaw01.FieldSigned', WHERE WHAT IT READS IS OF BULK AT MOST 1048576: true; the input reads as it did. -/
def fieldSignedUptoRow : OpenClaim := { program := "ytkceagmgabjidaa", sum := "ffc57a5a3e09a32ff9448551c05845841f16f4e21ff2cbfa7b6442bcbe730662", func := "shelterbelt/shelterbeltlaw01.FieldSigned", spec := "fieldSigned", unfollowed := true, recurses := true, apart := false, narrowed := true }
def FieldSignedUptoSaid : Prop := fieldSignedUptoRow.holds Try.pinned (OpenSpec.upto fieldSignedSpec)

/-- 'shelterbeltlaw01.FieldRows', WHERE WHAT IT READS IS OF BULK AT MOST 1048576: true; the input reads as it did. -/
def fieldRowsUptoRow : OpenClaim := { program := "ytkceagmgabjidaa", sum := "ffc57a5a3e09a32ff9448551c05845841f16f4e21ff2cbfa7b6442bcbe730662", func := "shelterbelt/shelterbeltlaw01.FieldRows", spec := "fieldRows", unfollowed := true, recurses := true, apart := false, narrowed := true }
def FieldRowsUptoSaid : Prop := fieldRowsUptoRow.holds Try.pinned (OpenSpec.upto fieldRowsSpec)

/-- 'shelterbeltlaw01.FieldCuts', WHERE WHAT IT READS IS OF BULK AT MOST 1048576: true; the input reads as it did. -/
def fieldCutsUptoRow : OpenClaim := { program := "ytkceagmgabjidaa", sum := "ffc57a5a3e09a32ff9448551c05845841f16f4e21ff2cbfa7b6442bcbe730662", func := "shelterbelt/shelterbeltlaw01.FieldCuts", spec := "fieldCuts", unfollowed := true, recurses := true, apart := false, narrowed := true }
def FieldCutsUptoSaid : Prop := fieldCutsUptoRow.holds Try.pinned (OpenSpec.upto fieldCutsSpec)

/-- 'shelterbeltlaw01.FieldFits', WHERE WHAT IT READS IS OF BULK AT MOST 1048576: true; the input reads as it did. -/
def fieldFitsUptoRow : OpenClaim := { program := "ytkceagmgabjidaa", sum := "ffc57a5a3e09a32ff9448551c05845841f16f4e21ff2cbfa7b6442bcbe730662", func := "shelterbelt/shelterbeltlaw01.FieldFits", spec := "fieldFits", unfollowed := true, recurses := true, apart := false, narrowed := true }
def FieldFitsUptoSaid : Prop := fieldFitsUptoRow.holds Try.pinned (OpenSpec.upto fieldFitsSpec)

/-- 'shelterbeltlaw01.FieldParts', WHERE WHAT IT READS IS OF BULK AT MOST 1048576: true; the input reads as it did. -/
def fieldPartsUptoRow : OpenClaim := { program := "ytkceagmgabjidaa", sum := "ffc57a5a3e09a32ff9448551c05845841f16f4e21ff2cbfa7b6442bcbe730662", func := "shelterbelt/shelterbeltlaw01.FieldParts", spec := "fieldParts", unfollowed := true, recurses := true, apart := false, narrowed := true }
def FieldPartsUptoSaid : Prop := fieldPartsUptoRow.holds Try.pinned (OpenSpec.upto fieldPartsSpec)

end Rows
end Go.Proofs.Ytkceagmgabjidaa
