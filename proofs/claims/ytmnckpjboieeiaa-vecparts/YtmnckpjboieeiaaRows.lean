/-
  No cell of these rows narrows 'for every input' (looked for: loops, veiled, ifaces, maps, wideKeys, modest, calm, conditions, laid).
  DERIVED. THE GIVEN ROWS OF THIS SEAT. 6 by the template 'for every input the law returns true; each argument reads behind the call as it read before'; 0 by the template 'total and deterministic' (their statements: YtmnckpjboieeiaaTotals.lean).
  GIVEN WITH THE SEED: the statements are not yours to turn. If you find one false, say at which input.
  Laid BY PROGRAM, IN A SANDBOX (cutbox-rows.mjs): the forced cells as the released guide's own fill.sh prints them over the translation 17242173ab22c8aa… (all of the seat's roots in one cut). By AI agents, Wed Nov 11 2026. No macro, syntax, notation, axiom, sorry.
-/
import Derived.Test.YtmnckpjboieeiaaChecked
import GoSem.Claim
import GoSem.ClaimJoined
import GoSem.ClaimMapViews
import Derived.JoinedTies
import Derived.KernelRfl
namespace Go.Proofs.Ytmnckpjboieeiaa
/- THE CELL 'sum', in the pinned program and in every row, IS THE sha256 OF THE DUMP (.gsa) THAT YtmnckpjboieeiaaProg.lean LOADS. Nothing in Lean hashes anything: it is a label: what it is worth is what the hold of that sum in a sandbox is worth. -/
noncomputable def Try.pinned : Pinned := { name := "ytmnckpjboieeiaa", sum := "17242173ab22c8aa1b04dd2ff913e827afe757743dcb403adf75c992f739c151", checked := Try.checked }
namespace Rows
def none {H : Type} : Left H := { results := [], args := [] }

/-- 'shelterbeltlaw03.VecTells': WHATEVER THE INPUT: true; the input reads as it did. -/
def vecTellsSpec : ChangeSpec := { name := "vecTells", fn := fun _ => fun
  | [d1, d2, d3] => { results := [.lit (.bool true)], args := [d1, d2, d3] }
  | _ => none }
def vecTellsRow : OpenClaim := { program := "ytmnckpjboieeiaa", sum := "17242173ab22c8aa1b04dd2ff913e827afe757743dcb403adf75c992f739c151", func := "shelterbelt/shelterbeltlaw03.VecTells", spec := "vecTells", apart := false }
def VecTellsSaid : Prop := vecTellsRow.holds Try.pinned (OpenSpec.ofChange vecTellsSpec)

/-- ITS FALSE NEIGHBOUR: 'it returns false'. Refute it at one input. -/
def vecTellsWrong : ChangeSpec := { name := "vecTells", fn := fun _ => fun
  | [d1, d2, d3] => { results := [.lit (.bool false)], args := [d1, d2, d3] }
  | _ => none }
def VecTellsWrongFalsely : Prop := vecTellsRow.holds Try.pinned (OpenSpec.ofChange vecTellsWrong)

/-- 'shelterbeltlaw03.VecBounds': WHATEVER THE INPUT: true; the input reads as it did. -/
def vecBoundsSpec : ChangeSpec := { name := "vecBounds", fn := fun _ => fun
  | [d1, d2] => { results := [.lit (.bool true)], args := [d1, d2] }
  | _ => none }
def vecBoundsRow : OpenClaim := { program := "ytmnckpjboieeiaa", sum := "17242173ab22c8aa1b04dd2ff913e827afe757743dcb403adf75c992f739c151", func := "shelterbelt/shelterbeltlaw03.VecBounds", spec := "vecBounds", apart := false }
def VecBoundsSaid : Prop := vecBoundsRow.holds Try.pinned (OpenSpec.ofChange vecBoundsSpec)

/-- ITS FALSE NEIGHBOUR: 'it returns false'. Refute it at one input. -/
def vecBoundsWrong : ChangeSpec := { name := "vecBounds", fn := fun _ => fun
  | [d1, d2] => { results := [.lit (.bool false)], args := [d1, d2] }
  | _ => none }
def VecBoundsWrongFalsely : Prop := vecBoundsRow.holds Try.pinned (OpenSpec.ofChange vecBoundsWrong)

/-- 'shelterbeltlaw03.VecSpaces': WHATEVER THE INPUT: true; the input reads as it did. -/
def vecSpacesSpec : ChangeSpec := { name := "vecSpaces", fn := fun _ => fun
  | [d1, d2, d3] => { results := [.lit (.bool true)], args := [d1, d2, d3] }
  | _ => none }
def vecSpacesRow : OpenClaim := { program := "ytmnckpjboieeiaa", sum := "17242173ab22c8aa1b04dd2ff913e827afe757743dcb403adf75c992f739c151", func := "shelterbelt/shelterbeltlaw03.VecSpaces", spec := "vecSpaces", apart := false }
def VecSpacesSaid : Prop := vecSpacesRow.holds Try.pinned (OpenSpec.ofChange vecSpacesSpec)

/-- ITS FALSE NEIGHBOUR: 'it returns false'. Refute it at one input. -/
def vecSpacesWrong : ChangeSpec := { name := "vecSpaces", fn := fun _ => fun
  | [d1, d2, d3] => { results := [.lit (.bool false)], args := [d1, d2, d3] }
  | _ => none }
def VecSpacesWrongFalsely : Prop := vecSpacesRow.holds Try.pinned (OpenSpec.ofChange vecSpacesWrong)

/-- 'shelterbeltlaw03.VecNew': WHATEVER THE INPUT: true; the input reads as it did. -/
def vecNewSpec : ChangeSpec := { name := "vecNew", fn := fun _ => fun
  | [d1, d2] => { results := [.lit (.bool true)], args := [d1, d2] }
  | _ => none }
def vecNewRow : OpenClaim := { program := "ytmnckpjboieeiaa", sum := "17242173ab22c8aa1b04dd2ff913e827afe757743dcb403adf75c992f739c151", func := "shelterbelt/shelterbeltlaw03.VecNew", spec := "vecNew", apart := false }
def VecNewSaid : Prop := vecNewRow.holds Try.pinned (OpenSpec.ofChange vecNewSpec)

/-- ITS FALSE NEIGHBOUR: 'it returns false'. Refute it at one input. -/
def vecNewWrong : ChangeSpec := { name := "vecNew", fn := fun _ => fun
  | [d1, d2] => { results := [.lit (.bool false)], args := [d1, d2] }
  | _ => none }
def VecNewWrongFalsely : Prop := vecNewRow.holds Try.pinned (OpenSpec.ofChange vecNewWrong)

/-- 'shelterbeltlaw03.VecParts': WHATEVER THE INPUT: true; the input reads as it did. -/
def vecPartsSpec : ChangeSpec := { name := "vecParts", fn := fun _ => fun
  | [d1, d2, d3, d4] => { results := [.lit (.bool true)], args := [d1, d2, d3, d4] }
  | _ => none }
def vecPartsRow : OpenClaim := { program := "ytmnckpjboieeiaa", sum := "17242173ab22c8aa1b04dd2ff913e827afe757743dcb403adf75c992f739c151", func := "shelterbelt/shelterbeltlaw03.VecParts", spec := "vecParts", apart := false }
def VecPartsSaid : Prop := vecPartsRow.holds Try.pinned (OpenSpec.ofChange vecPartsSpec)

/-- ITS FALSE NEIGHBOUR: 'it returns false'. Refute it at one input. -/
def vecPartsWrong : ChangeSpec := { name := "vecParts", fn := fun _ => fun
  | [d1, d2, d3, d4] => { results := [.lit (.bool false)], args := [d1, d2, d3, d4] }
  | _ => none }
def VecPartsWrongFalsely : Prop := vecPartsRow.holds Try.pinned (OpenSpec.ofChange vecPartsWrong)

/-- 'shelterbeltlaw03.VecShifts': WHATEVER THE INPUT: true; the input reads as it did. -/
def vecShiftsSpec : ChangeSpec := { name := "vecShifts", fn := fun _ => fun
  | [d1, d2, d3] => { results := [.lit (.bool true)], args := [d1, d2, d3] }
  | _ => none }
def vecShiftsRow : OpenClaim := { program := "ytmnckpjboieeiaa", sum := "17242173ab22c8aa1b04dd2ff913e827afe757743dcb403adf75c992f739c151", func := "shelterbelt/shelterbeltlaw03.VecShifts", spec := "vecShifts", apart := false }
def VecShiftsSaid : Prop := vecShiftsRow.holds Try.pinned (OpenSpec.ofChange vecShiftsSpec)

/-- ITS FALSE NEIGHBOUR: 'it returns false'. Refute it at one input. -/
def vecShiftsWrong : ChangeSpec := { name := "vecShifts", fn := fun _ => fun
  | [d1, d2, d3] => { results := [.lit (.bool false)], args := [d1, d2, d3] }
  | _ => none }
def VecShiftsWrongFalsely : Prop := vecShiftsRow.holds Try.pinned (OpenSpec.ofChange vecShiftsWrong)

/- THE SECOND FORM. 'bulk': how many values and letters a reading holds, each counted each time it is reached (what is shared counts as often as it is met; a slice's spare places count too). A statement '..UptoSaid' is the law's where the arguments, and the package variables that the reading takes, are together of bulk at most 1048576: NARROWER than '..Said'. Prove '..Said' where nothing that the law and all that it calls make is longer than what came in: it says more and counts as full. Else prove '..UptoSaid'. A law counts once. -/
mutual
def uptoBulk {H : Type} : DataW H → Nat
  | .lit (.string bytes) => bytes.length + 1
  | .lit _ => 1
  | .nil => 1
  | .ptr d => uptoBulk d + 1
  | .slice elems spare => uptoBulkAll elems + uptoBulkAll spare + 1
  | .agg parts => uptoBulkAll parts + 1
  | .iface _ d => uptoBulk d + 1
  | .map entries => uptoBulkEntries entries + 1
  | .held _ => 1
def uptoBulkAll {H : Type} : List (DataW H) → Nat
  | [] => 0
  | d :: r => uptoBulk d + uptoBulkAll r
def uptoBulkEntries {H : Type} : List (Lit × DataW H) → Nat
  | [] => 0
  | x :: r => uptoBulkEntry x + uptoBulkEntries r
def uptoBulkEntry {H : Type} : Lit × DataW H → Nat
  | (.string bytes, d) => bytes.length + uptoBulk d + 1
  | (_, d) => uptoBulk d + 1
 end
def uptoSmall : (H : Type) → List (DataW H) → Bool := fun _ ds => decide (uptoBulkAll ds ≤ 1048576)
def OpenSpec.upto (s : _root_.Go.ChangeSpec) : _root_.Go.OpenSpec := { _root_.Go.OpenSpec.ofChange s with cond := some uptoSmall }

/-- 'shelterbeltlaw03.VecTells', WHERE WHAT IT READS IS OF BULK AT MOST 1048576: true; the input reads as it did. -/
def vecTellsUptoRow : OpenClaim := { program := "ytmnckpjboieeiaa", sum := "17242173ab22c8aa1b04dd2ff913e827afe757743dcb403adf75c992f739c151", func := "shelterbelt/shelterbeltlaw03.VecTells", spec := "vecTells", apart := false, narrowed := true }
def VecTellsUptoSaid : Prop := vecTellsUptoRow.holds Try.pinned (OpenSpec.upto vecTellsSpec)

/-- 'shelterbeltlaw03.VecBounds', WHERE WHAT IT READS IS OF BULK AT MOST 1048576: true; the input reads as it did. -/
def vecBoundsUptoRow : OpenClaim := { program := "ytmnckpjboieeiaa", sum := "17242173ab22c8aa1b04dd2ff913e827afe757743dcb403adf75c992f739c151", func := "shelterbelt/shelterbeltlaw03.VecBounds", spec := "vecBounds", apart := false, narrowed := true }
def VecBoundsUptoSaid : Prop := vecBoundsUptoRow.holds Try.pinned (OpenSpec.upto vecBoundsSpec)

/-- 'shelterbeltlaw03.VecSpaces', WHERE WHAT IT READS IS OF BULK AT MOST 1048576: true; the input reads as it did. -/
def vecSpacesUptoRow : OpenClaim := { program := "ytmnckpjboieeiaa", sum := "17242173ab22c8aa1b04dd2ff913e827afe757743dcb403adf75c992f739c151", func := "shelterbelt/shelterbeltlaw03.VecSpaces", spec := "vecSpaces", apart := false, narrowed := true }
def VecSpacesUptoSaid : Prop := vecSpacesUptoRow.holds Try.pinned (OpenSpec.upto vecSpacesSpec)

/-- 'shelterbeltlaw03.VecNew', WHERE WHAT IT READS IS OF BULK AT MOST 1048576: true; the input reads as it did. -/
def vecNewUptoRow : OpenClaim := { program := "ytmnckpjboieeiaa", sum := "17242173ab22c8aa1b04dd2ff913e827afe757743dcb403adf75c992f739c151", func := "shelterbelt/shelterbeltlaw03.VecNew", spec := "vecNew", apart := false, narrowed := true }
def VecNewUptoSaid : Prop := vecNewUptoRow.holds Try.pinned (OpenSpec.upto vecNewSpec)

/-- 'shelterbeltlaw03.VecParts', WHERE WHAT IT READS IS OF BULK AT MOST 1048576: true; the input reads as it did. -/
def vecPartsUptoRow : OpenClaim := { program := "ytmnckpjboieeiaa", sum := "17242173ab22c8aa1b04dd2ff913e827afe757743dcb403adf75c992f739c151", func := "shelterbelt/shelterbeltlaw03.VecParts", spec := "vecParts", apart := false, narrowed := true }
def VecPartsUptoSaid : Prop := vecPartsUptoRow.holds Try.pinned (OpenSpec.upto vecPartsSpec)

/-- 'shelterbeltlaw03.VecShifts', WHERE WHAT IT READS IS OF BULK AT MOST 1048576: true; the input reads as it did. -/
def vecShiftsUptoRow : OpenClaim := { program := "ytmnckpjboieeiaa", sum := "17242173ab22c8aa1b04dd2ff913e827afe757743dcb403adf75c992f739c151", func := "shelterbelt/shelterbeltlaw03.VecShifts", spec := "vecShifts", apart := false, narrowed := true }
def VecShiftsUptoSaid : Prop := vecShiftsUptoRow.holds Try.pinned (OpenSpec.upto vecShiftsSpec)

end Rows
end Go.Proofs.Ytmnckpjboieeiaa
