/-
  No cell of these rows narrows 'for every input' (looked for: loops, veiled, ifaces, maps, wideKeys, modest, calm, conditions, laid).
  DERIVED. THE GIVEN ROWS OF THIS SEAT. 5 by the template 'for every input the law returns true; each argument reads behind the call as it read before'; 0 by the template 'total and deterministic' (their statements: YtefdohjcgolhjaaTotals.lean).
  GIVEN WITH THE SEED: the statements are not yours to turn. If you find one false, say at which input.
  Laid BY PROGRAM, IN A SANDBOX (cutbox-rows.mjs): the forced cells as the released guide's own fill.sh prints them over the translation 06f6f64be1d84de5… (all of the seat's roots in one cut). By AI agents, Wed Nov 11 2026. No macro, syntax, notation, axiom, sorry.
-/
import Derived.Test.YtefdohjcgolhjaaChecked
import GoSem.Claim
import GoSem.ClaimJoined
import GoSem.ClaimMapViews
import Derived.JoinedTies
import Derived.KernelRfl
namespace Go.Proofs.Ytefdohjcgolhjaa
/- THE CELL 'sum', in the pinned program and in every row, IS THE sha256 OF THE DUMP (.gsa) THAT YtefdohjcgolhjaaProg.lean LOADS. Nothing in Lean hashes anything: it is a label: what it is worth is what the hold of that sum in a sandbox is worth. -/
noncomputable def Try.pinned : Pinned := { name := "ytefdohjcgolhjaa", sum := "06f6f64be1d84de507ab71e34aacf6b6c3b430bbef548c5d3c9d545c8bde40df", checked := Try.checked }
namespace Rows
def none {H : Type} : Left H := { results := [], args := [] }

/-- 'shelterbeltlaw07.HeapPlays': WHATEVER THE INPUT: true; the input reads as it did. -/
def heapPlaysSpec : ChangeSpec := { name := "heapPlays", fn := fun _ => fun
  | [d1, d2] => { results := [.lit (.bool true)], args := [d1, d2] }
  | _ => none }
def heapPlaysRow : OpenClaim := { program := "ytefdohjcgolhjaa", sum := "06f6f64be1d84de507ab71e34aacf6b6c3b430bbef548c5d3c9d545c8bde40df", func := "shelterbelt/shelterbeltlaw07.HeapPlays", spec := "heapPlays", unfollowed := true, recurses := true, apart := false }
def HeapPlaysSaid : Prop := heapPlaysRow.holds Try.pinned (OpenSpec.ofChange heapPlaysSpec)

/-- ITS FALSE NEIGHBOUR: 'it returns false'. Refute it at one input. -/
def heapPlaysWrong : ChangeSpec := { name := "heapPlays", fn := fun _ => fun
  | [d1, d2] => { results := [.lit (.bool false)], args := [d1, d2] }
  | _ => none }
def HeapPlaysWrongFalsely : Prop := heapPlaysRow.holds Try.pinned (OpenSpec.ofChange heapPlaysWrong)

/-- 'shelterbeltlaw07.HeapDrains': WHATEVER THE INPUT: true; the input reads as it did. -/
def heapDrainsSpec : ChangeSpec := { name := "heapDrains", fn := fun _ => fun
  | [d1, d2] => { results := [.lit (.bool true)], args := [d1, d2] }
  | _ => none }
def heapDrainsRow : OpenClaim := { program := "ytefdohjcgolhjaa", sum := "06f6f64be1d84de507ab71e34aacf6b6c3b430bbef548c5d3c9d545c8bde40df", func := "shelterbelt/shelterbeltlaw07.HeapDrains", spec := "heapDrains", unfollowed := true, recurses := true, apart := false }
def HeapDrainsSaid : Prop := heapDrainsRow.holds Try.pinned (OpenSpec.ofChange heapDrainsSpec)

/-- ITS FALSE NEIGHBOUR: 'it returns false'. Refute it at one input. -/
def heapDrainsWrong : ChangeSpec := { name := "heapDrains", fn := fun _ => fun
  | [d1, d2] => { results := [.lit (.bool false)], args := [d1, d2] }
  | _ => none }
def HeapDrainsWrongFalsely : Prop := heapDrainsRow.holds Try.pinned (OpenSpec.ofChange heapDrainsWrong)

/-- 'shelterbeltlaw07.HeapTasks': WHATEVER THE INPUT: true; the input reads as it did. -/
def heapTasksSpec : ChangeSpec := { name := "heapTasks", fn := fun _ => fun
  | [d] => { results := [.lit (.bool true)], args := [d] }
  | _ => none }
def heapTasksRow : OpenClaim := { program := "ytefdohjcgolhjaa", sum := "06f6f64be1d84de507ab71e34aacf6b6c3b430bbef548c5d3c9d545c8bde40df", func := "shelterbelt/shelterbeltlaw07.HeapTasks", spec := "heapTasks", unfollowed := true, recurses := true, apart := false }
def HeapTasksSaid : Prop := heapTasksRow.holds Try.pinned (OpenSpec.ofChange heapTasksSpec)

/-- ITS FALSE NEIGHBOUR: 'it returns false'. Refute it at one input. -/
def heapTasksWrong : ChangeSpec := { name := "heapTasks", fn := fun _ => fun
  | [d] => { results := [.lit (.bool false)], args := [d] }
  | _ => none }
def HeapTasksWrongFalsely : Prop := heapTasksRow.holds Try.pinned (OpenSpec.ofChange heapTasksWrong)

/-- 'shelterbeltlaw07.HeapBuilt': WHATEVER THE INPUT: true; the input reads as it did. -/
def heapBuiltSpec : ChangeSpec := { name := "heapBuilt", fn := fun _ => fun
  | [d1, d2] => { results := [.lit (.bool true)], args := [d1, d2] }
  | _ => none }
def heapBuiltRow : OpenClaim := { program := "ytefdohjcgolhjaa", sum := "06f6f64be1d84de507ab71e34aacf6b6c3b430bbef548c5d3c9d545c8bde40df", func := "shelterbelt/shelterbeltlaw07.HeapBuilt", spec := "heapBuilt", unfollowed := true, recurses := true, apart := false }
def HeapBuiltSaid : Prop := heapBuiltRow.holds Try.pinned (OpenSpec.ofChange heapBuiltSpec)

/-- ITS FALSE NEIGHBOUR: 'it returns false'. Refute it at one input. -/
def heapBuiltWrong : ChangeSpec := { name := "heapBuilt", fn := fun _ => fun
  | [d1, d2] => { results := [.lit (.bool false)], args := [d1, d2] }
  | _ => none }
def HeapBuiltWrongFalsely : Prop := heapBuiltRow.holds Try.pinned (OpenSpec.ofChange heapBuiltWrong)

/-- 'shelterbeltlaw07.HeapPeeks': WHATEVER THE INPUT: true; the input reads as it did. -/
def heapPeeksSpec : ChangeSpec := { name := "heapPeeks", fn := fun _ => fun
  | [d1, d2, d3] => { results := [.lit (.bool true)], args := [d1, d2, d3] }
  | _ => none }
def heapPeeksRow : OpenClaim := { program := "ytefdohjcgolhjaa", sum := "06f6f64be1d84de507ab71e34aacf6b6c3b430bbef548c5d3c9d545c8bde40df", func := "shelterbelt/shelterbeltlaw07.HeapPeeks", spec := "heapPeeks", unfollowed := true, recurses := true, apart := false }
def HeapPeeksSaid : Prop := heapPeeksRow.holds Try.pinned (OpenSpec.ofChange heapPeeksSpec)

/-- ITS FALSE NEIGHBOUR: 'it returns false'. Refute it at one input. -/
def heapPeeksWrong : ChangeSpec := { name := "heapPeeks", fn := fun _ => fun
  | [d1, d2, d3] => { results := [.lit (.bool false)], args := [d1, d2, d3] }
  | _ => none }
def HeapPeeksWrongFalsely : Prop := heapPeeksRow.holds Try.pinned (OpenSpec.ofChange heapPeeksWrong)

/- THE SECOND FORM. 'bulk': how many values and letters a reading holds, each counted each time it is reached (what is shared counts as often as it is met; a slice's spare places count too). A statement '..UptoSaid' is the law's where the arguments, and the package variables that the reading takes, are together of bulk at most 1048576: NARROWER than '..Said'. Prove '..Said' where nothing that the law and all that it calls make is longer than what came in: it says more and counts as full. Else prove '..UptoSaid'. A law counts once. -/
mutual
def uptoBulk {H : Type} : DataW H → Nat
  | .lit (.string bytes) => bytes.length + 1
  | .lit _ => 1
  | .nil => 1
  | .ptr d => uptoBulk d + 1
  | .slice elems spare => uptoBulkAll elems + uptoBulkAll spare + 1
  | .agg parts => uptoBulkAll parts + 1
  | .iface _ d => uptoBulk d + 1
  | .map entries => uptoBulkEntries entries + 1
  | .held _ => 1
def uptoBulkAll {H : Type} : List (DataW H) → Nat
  | [] => 0
  | d :: r => uptoBulk d + uptoBulkAll r
def uptoBulkEntries {H : Type} : List (Lit × DataW H) → Nat
  | [] => 0
  | x :: r => uptoBulkEntry x + uptoBulkEntries r
def uptoBulkEntry {H : Type} : Lit × DataW H → Nat
  | (.string bytes, d) => bytes.length + uptoBulk d + 1
  | (_, d) => uptoBulk d + 1
 end
def uptoSmall : (H : Type) → List (DataW H) → Bool := fun _ ds => decide (uptoBulkAll ds ≤ 1048576)
def OpenSpec.upto (s : _root_.Go.ChangeSpec) : _root_.Go.OpenSpec := { _root_.Go.OpenSpec.ofChange s with cond := some uptoSmall }

/-- 'shelterbeltlaw07.HeapPlays', WHERE WHAT IT READS IS OF BULK AT MOST 1048576: true; the input reads as it did. -/
def heapPlaysUptoRow : OpenClaim := { program := "ytefdohjcgolhjaa", sum := "06f6f64be1d84de507ab71e34aacf6b6c3b430bbef548c5d3c9d545c8bde40df", func := "shelterbelt/shelterbeltlaw07.HeapPlays", spec := "heapPlays", unfollowed := true, recurses := true, apart := false, narrowed := true }
def HeapPlaysUptoSaid : Prop := heapPlaysUptoRow.holds Try.pinned (OpenSpec.upto heapPlaysSpec)

/-- 'shelterbeltlaw07.HeapDrains', WHERE WHAT IT READS IS OF BULK AT MOST 1048576: true; the input reads as it did. -/
def heapDrainsUptoRow : OpenClaim := { program := "ytefdohjcgolhjaa", sum := "06f6f64be1d84de507ab71e34aacf6b6c3b430bbef548c5d3c9d545c8bde40df", func := "shelterbelt/shelterbeltlaw07.HeapDrains", spec := "heapDrains", unfollowed := true, recurses := true, apart := false, narrowed := true }
def HeapDrainsUptoSaid : Prop := heapDrainsUptoRow.holds Try.pinned (OpenSpec.upto heapDrainsSpec)

/-- 'shelterbeltlaw07.HeapTasks', WHERE WHAT IT READS IS OF BULK AT MOST 1048576: true; the input reads as it did. -/
def heapTasksUptoRow : OpenClaim := { program := "ytefdohjcgolhjaa", sum := "06f6f64be1d84de507ab71e34aacf6b6c3b430bbef548c5d3c9d545c8bde40df", func := "shelterbelt/shelterbeltlaw07.HeapTasks", spec := "heapTasks", unfollowed := true, recurses := true, apart := false, narrowed := true }
def HeapTasksUptoSaid : Prop := heapTasksUptoRow.holds Try.pinned (OpenSpec.upto heapTasksSpec)

/-- 'shelterbeltlaw07.HeapBuilt', WHERE WHAT IT READS IS OF BULK AT MOST 1048576: true; the input reads as it did. -/
def heapBuiltUptoRow : OpenClaim := { program := "ytefdohjcgolhjaa", sum := "06f6f64be1d84de507ab71e34aacf6b6c3b430bbef548c5d3c9d545c8bde40df", func := "shelterbelt/shelterbeltlaw07.HeapBuilt", spec := "heapBuilt", unfollowed := true, recurses := true, apart := false, narrowed := true }
def HeapBuiltUptoSaid : Prop := heapBuiltUptoRow.holds Try.pinned (OpenSpec.upto heapBuiltSpec)

/-- 'shelterbeltlaw07.HeapPeeks', WHERE WHAT IT READS IS OF BULK AT MOST 1048576: true; the input reads as it did. -/
def heapPeeksUptoRow : OpenClaim := { program := "ytefdohjcgolhjaa", sum := "06f6f64be1d84de507ab71e34aacf6b6c3b430bbef548c5d3c9d545c8bde40df", func := "shelterbelt/shelterbeltlaw07.HeapPeeks", spec := "heapPeeks", unfollowed := true, recurses := true, apart := false, narrowed := true }
def HeapPeeksUptoSaid : Prop := heapPeeksUptoRow.holds Try.pinned (OpenSpec.upto heapPeeksSpec)

end Rows
end Go.Proofs.Ytefdohjcgolhjaa
