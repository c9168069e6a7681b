/-
  No cell of these rows narrows 'for every input' (looked for: loops, veiled, ifaces, maps, wideKeys, modest, calm, conditions, laid).
  DERIVED. THE GIVEN ROWS OF THIS SEAT. 5 by the template 'for every input the law returns true; each argument reads behind the call as it read before'; 0 by the template 'total and deterministic' (their statements: YtecdgpacofojeaaTotals.lean).
  GIVEN WITH THE SEED: the statements are not yours to turn. If you find one false, say at which input.
  Laid BY PROGRAM, IN A SANDBOX (cutbox-rows.mjs): the forced cells as the released guide's own fill.sh prints them over the translation d1dd5ed18e35b111… (all of the seat's roots in one cut). By AI agents, Wed Nov 11 2026. No macro, syntax, notation, axiom, sorry.
-/
import Derived.Test.YtecdgpacofojeaaChecked
import GoSem.Claim
import GoSem.ClaimJoined
import GoSem.ClaimMapViews
import Derived.JoinedTies
import Derived.KernelRfl
namespace Go.Proofs.Ytecdgpacofojeaa
/- THE CELL 'sum', in the pinned program and in every row, IS THE sha256 OF THE DUMP (.gsa) THAT YtecdgpacofojeaaProg.lean LOADS. Nothing in Lean hashes anything: it is a label: what it is worth is what the hold of that sum in a sandbox is worth. -/
noncomputable def Try.pinned : Pinned := { name := "ytecdgpacofojeaa", sum := "d1dd5ed18e35b1114199b6630b69e615b9f818ec4620f1fc85d8eff4bd2768ec", checked := Try.checked }
namespace Rows
def none {H : Type} : Left H := { results := [], args := [] }

/-- 'shelterbeltlaw14.ShapeChecks': WHATEVER THE INPUT: true; the input reads as it did. -/
def shapeChecksSpec : ChangeSpec := { name := "shapeChecks", fn := fun _ => fun
  | [d1, d2, d3] => { results := [.lit (.bool true)], args := [d1, d2, d3] }
  | _ => none }
def shapeChecksRow : OpenClaim := { program := "ytecdgpacofojeaa", sum := "d1dd5ed18e35b1114199b6630b69e615b9f818ec4620f1fc85d8eff4bd2768ec", func := "shelterbelt/shelterbeltlaw14.ShapeChecks", spec := "shapeChecks", unfollowed := true, recurses := true, apart := false }
def ShapeChecksSaid : Prop := shapeChecksRow.holds Try.pinned (OpenSpec.ofChange shapeChecksSpec)

/-- ITS FALSE NEIGHBOUR: 'it returns false'. Refute it at one input. -/
def shapeChecksWrong : ChangeSpec := { name := "shapeChecks", fn := fun _ => fun
  | [d1, d2, d3] => { results := [.lit (.bool false)], args := [d1, d2, d3] }
  | _ => none }
def ShapeChecksWrongFalsely : Prop := shapeChecksRow.holds Try.pinned (OpenSpec.ofChange shapeChecksWrong)

/-- 'shelterbeltlaw14.ShapeWalks': WHATEVER THE INPUT: true; the input reads as it did. -/
def shapeWalksSpec : ChangeSpec := { name := "shapeWalks", fn := fun _ => fun
  | [d1, d2, d3, d4] => { results := [.lit (.bool true)], args := [d1, d2, d3, d4] }
  | _ => none }
def shapeWalksRow : OpenClaim := { program := "ytecdgpacofojeaa", sum := "d1dd5ed18e35b1114199b6630b69e615b9f818ec4620f1fc85d8eff4bd2768ec", func := "shelterbelt/shelterbeltlaw14.ShapeWalks", spec := "shapeWalks", unfollowed := true, recurses := true, apart := false }
def ShapeWalksSaid : Prop := shapeWalksRow.holds Try.pinned (OpenSpec.ofChange shapeWalksSpec)

/-- ITS FALSE NEIGHBOUR: 'it returns false'. Refute it at one input. -/
def shapeWalksWrong : ChangeSpec := { name := "shapeWalks", fn := fun _ => fun
  | [d1, d2, d3, d4] => { results := [.lit (.bool false)], args := [d1, d2, d3, d4] }
  | _ => none }
def ShapeWalksWrongFalsely : Prop := shapeWalksRow.holds Try.pinned (OpenSpec.ofChange shapeWalksWrong)

/-- 'shelterbeltlaw14.ShapeGrown': WHATEVER THE INPUT: true; the input reads as it did. -/
def shapeGrownSpec : ChangeSpec := { name := "shapeGrown", fn := fun _ => fun
  | [d1, d2, d3, d4] => { results := [.lit (.bool true)], args := [d1, d2, d3, d4] }
  | _ => none }
def shapeGrownRow : OpenClaim := { program := "ytecdgpacofojeaa", sum := "d1dd5ed18e35b1114199b6630b69e615b9f818ec4620f1fc85d8eff4bd2768ec", func := "shelterbelt/shelterbeltlaw14.ShapeGrown", spec := "shapeGrown", unfollowed := true, recurses := true, apart := false }
def ShapeGrownSaid : Prop := shapeGrownRow.holds Try.pinned (OpenSpec.ofChange shapeGrownSpec)

/-- ITS FALSE NEIGHBOUR: 'it returns false'. Refute it at one input. -/
def shapeGrownWrong : ChangeSpec := { name := "shapeGrown", fn := fun _ => fun
  | [d1, d2, d3, d4] => { results := [.lit (.bool false)], args := [d1, d2, d3, d4] }
  | _ => none }
def ShapeGrownWrongFalsely : Prop := shapeGrownRow.holds Try.pinned (OpenSpec.ofChange shapeGrownWrong)

/-- 'shelterbeltlaw14.ShapeSpoilt': WHATEVER THE INPUT: true; the input reads as it did. -/
def shapeSpoiltSpec : ChangeSpec := { name := "shapeSpoilt", fn := fun _ => fun
  | [d1, d2, d3, d4, d5, d6] => { results := [.lit (.bool true)], args := [d1, d2, d3, d4, d5, d6] }
  | _ => none }
def shapeSpoiltRow : OpenClaim := { program := "ytecdgpacofojeaa", sum := "d1dd5ed18e35b1114199b6630b69e615b9f818ec4620f1fc85d8eff4bd2768ec", func := "shelterbelt/shelterbeltlaw14.ShapeSpoilt", spec := "shapeSpoilt", unfollowed := true, recurses := true, apart := false }
def ShapeSpoiltSaid : Prop := shapeSpoiltRow.holds Try.pinned (OpenSpec.ofChange shapeSpoiltSpec)

/-- ITS FALSE NEIGHBOUR: 'it returns false'. Refute it at one input. -/
def shapeSpoiltWrong : ChangeSpec := { name := "shapeSpoilt", fn := fun _ => fun
  | [d1, d2, d3, d4, d5, d6] => { results := [.lit (.bool false)], args := [d1, d2, d3, d4, d5, d6] }
  | _ => none }
def ShapeSpoiltWrongFalsely : Prop := shapeSpoiltRow.holds Try.pinned (OpenSpec.ofChange shapeSpoiltWrong)

/-- 'shelterbeltlaw14.ShapeLeaves': WHATEVER THE INPUT: true; the input reads as it did. -/
def shapeLeavesSpec : ChangeSpec := { name := "shapeLeaves", fn := fun _ => fun
  | [d1, d2, d3] => { results := [.lit (.bool true)], args := [d1, d2, d3] }
  | _ => none }
def shapeLeavesRow : OpenClaim := { program := "ytecdgpacofojeaa", sum := "d1dd5ed18e35b1114199b6630b69e615b9f818ec4620f1fc85d8eff4bd2768ec", func := "shelterbelt/shelterbeltlaw14.ShapeLeaves", spec := "shapeLeaves", unfollowed := true, recurses := true, apart := false }
def ShapeLeavesSaid : Prop := shapeLeavesRow.holds Try.pinned (OpenSpec.ofChange shapeLeavesSpec)

/-- ITS FALSE NEIGHBOUR: 'it returns false'. Refute it at one input. -/
def shapeLeavesWrong : ChangeSpec := { name := "shapeLeaves", fn := fun _ => fun
  | [d1, d2, d3] => { results := [.lit (.bool false)], args := [d1, d2, d3] }
  | _ => none }
def ShapeLeavesWrongFalsely : Prop := shapeLeavesRow.holds Try.pinned (OpenSpec.ofChange shapeLeavesWrong)

/- THE SECOND FORM. 'bulk': how many values and letters a reading holds, each counted each time it is reached (what is shared counts as often as it is met; a slice's spare places count too). A statement '..UptoSaid' is the law's where the arguments, and the package variables that the reading takes, are together of bulk at most 1048576: NARROWER than '..Said'. Prove '..Said' where nothing that the law and all that it calls make is longer than what came in: it says more and counts as full. Else prove '..UptoSaid'. A law counts once. -/
mutual
def uptoBulk {H : Type} : DataW H → Nat
  | .lit (.string bytes) => bytes.length + 1
  | .lit _ => 1
  | .nil => 1
  | .ptr d => uptoBulk d + 1
  | .slice elems spare => uptoBulkAll elems + uptoBulkAll spare + 1
  | .agg parts => uptoBulkAll parts + 1
  | .iface _ d => uptoBulk d + 1
  | .map entries => uptoBulkEntries entries + 1
  | .held _ => 1
def uptoBulkAll {H : Type} : List (DataW H) → Nat
  | [] => 0
  | d :: r => uptoBulk d + uptoBulkAll r
def uptoBulkEntries {H : Type} : List (Lit × DataW H) → Nat
  | [] => 0
  | x :: r => uptoBulkEntry x + uptoBulkEntries r
def uptoBulkEntry {H : Type} : Lit × DataW H → Nat
  | (.string bytes, d) => bytes.length + uptoBulk d + 1
  | (_, d) => uptoBulk d + 1
 end
def uptoSmall : (H : Type) → List (DataW H) → Bool := fun _ ds => decide (uptoBulkAll ds ≤ 1048576)
def OpenSpec.upto (s : _root_.Go.ChangeSpec) : _root_.Go.OpenSpec := { _root_.Go.OpenSpec.ofChange s with cond := some uptoSmall }

/-- 'shelterbeltlaw14.ShapeChecks', WHERE WHAT IT READS IS OF BULK AT MOST 1048576: true; the input reads as it did. -/
def shapeChecksUptoRow : OpenClaim := { program := "ytecdgpacofojeaa", sum := "d1dd5ed18e35b1114199b6630b69e615b9f818ec4620f1fc85d8eff4bd2768ec", func := "shelterbelt/shelterbeltlaw14.ShapeChecks", spec := "shapeChecks", unfollowed := true, recurses := true, apart := false, narrowed := true }
def ShapeChecksUptoSaid : Prop := shapeChecksUptoRow.holds Try.pinned (OpenSpec.upto shapeChecksSpec)

/-- 'shelterbeltlaw14.ShapeWalks', WHERE WHAT IT READS IS OF BULK AT MOST 1048576: true; the input reads as it did. -/
def shapeWalksUptoRow : OpenClaim := { program := "ytecdgpacofojeaa", sum := "d1dd5ed18e35b1114199b6630b69e615b9f818ec4620f1fc85d8eff4bd2768ec", func := "shelterbelt/shelterbeltlaw14.ShapeWalks", spec := "shapeWalks", unfollowed := true, recurses := true, apart := false, narrowed := true }
def ShapeWalksUptoSaid : Prop := shapeWalksUptoRow.holds Try.pinned (OpenSpec.upto shapeWalksSpec)

/-- 'shelterbeltlaw14.ShapeGrown', WHERE WHAT IT READS IS OF BULK AT MOST 1048576: true; the input reads as it did. -/
def shapeGrownUptoRow : OpenClaim := { program := "ytecdgpacofojeaa", sum := "d1dd5ed18e35b1114199b6630b69e615b9f818ec4620f1fc85d8eff4bd2768ec", func := "shelterbelt/shelterbeltlaw14.ShapeGrown", spec := "shapeGrown", unfollowed := true, recurses := true, apart := false, narrowed := true }
def ShapeGrownUptoSaid : Prop := shapeGrownUptoRow.holds Try.pinned (OpenSpec.upto shapeGrownSpec)

/-- 'shelterbeltlaw14.ShapeSpoilt', WHERE WHAT IT READS IS OF BULK AT MOST 1048576: true; the input reads as it did. -/
def shapeSpoiltUptoRow : OpenClaim := { program := "ytecdgpacofojeaa", sum := "d1dd5ed18e35b1114199b6630b69e615b9f818ec4620f1fc85d8eff4bd2768ec", func := "shelterbelt/shelterbeltlaw14.ShapeSpoilt", spec := "shapeSpoilt", unfollowed := true, recurses := true, apart := false, narrowed := true }
def ShapeSpoiltUptoSaid : Prop := shapeSpoiltUptoRow.holds Try.pinned (OpenSpec.upto shapeSpoiltSpec)

/-- 'shelterbeltlaw14.ShapeLeaves', WHERE WHAT IT READS IS OF BULK AT MOST 1048576: true; the input reads as it did. -/
def shapeLeavesUptoRow : OpenClaim := { program := "ytecdgpacofojeaa", sum := "d1dd5ed18e35b1114199b6630b69e615b9f818ec4620f1fc85d8eff4bd2768ec", func := "shelterbelt/shelterbeltlaw14.ShapeLeaves", spec := "shapeLeaves", unfollowed := true, recurses := true, apart := false, narrowed := true }
def ShapeLeavesUptoSaid : Prop := shapeLeavesUptoRow.holds Try.pinned (OpenSpec.upto shapeLeavesSpec)

end Rows
end Go.Proofs.Ytecdgpacofojeaa
