/-
  No cell of these rows narrows 'for every input' (looked for: loops, veiled, ifaces, maps, wideKeys, modest, calm, conditions, laid).
  DERIVED. THE GIVEN ROWS OF THIS SEAT. 5 by the template 'for every input the law returns true; each argument reads behind the call as it read before'; 0 by the template 'total and deterministic' (their statements: YtkkpngkninelmaaTotals.lean).
  GIVEN WITH THE SEED: the statements are not yours to turn. If you find one false, say at which input.
  Laid BY PROGRAM, IN A SANDBOX (cutbox-rows.mjs): the forced cells as the released guide's own fill.sh prints them over the translation 6f73ebe3cbe989d8… (all of the seat's roots in one cut). By AI agents, Wed Nov 11 2026. No macro, syntax, notation, axiom, sorry.
-/
import Derived.Test.YtkkpngkninelmaaChecked
import GoSem.Claim
import GoSem.ClaimJoined
import GoSem.ClaimMapViews
import Derived.JoinedTies
import Derived.KernelRfl
namespace Go.Proofs.Ytkkpngkninelmaa
/- THE CELL 'sum', in the pinned program and in every row, IS THE sha256 OF THE DUMP (.gsa) THAT YtkkpngkninelmaaProg.lean LOADS. Nothing in Lean hashes anything: it is a label: what it is worth is what the hold of that sum in a sandbox is worth. -/
noncomputable def Try.pinned : Pinned := { name := "ytkkpngkninelmaa", sum := "6f73ebe3cbe989d82b3d0d1e1ae81edf42c0b0da6426a2fab547d037ea82a77c", checked := Try.checked }
namespace Rows
def none {H : Type} : Left H := { results := [], args := [] }

/-- 'shelterbeltlaw11.PlaneTells': WHATEVER THE INPUT: true; the input reads as it did. -/
def planeTellsSpec : ChangeSpec := { name := "planeTells", fn := fun _ => fun
  | [d1, d2, d3, d4, d5] => { results := [.lit (.bool true)], args := [d1, d2, d3, d4, d5] }
  | _ => none }
def planeTellsRow : OpenClaim := { program := "ytkkpngkninelmaa", sum := "6f73ebe3cbe989d82b3d0d1e1ae81edf42c0b0da6426a2fab547d037ea82a77c", func := "shelterbelt/shelterbeltlaw11.PlaneTells", spec := "planeTells", apart := false }
def PlaneTellsSaid : Prop := planeTellsRow.holds Try.pinned (OpenSpec.ofChange planeTellsSpec)

/-- ITS FALSE NEIGHBOUR: 'it returns false'. Refute it at one input. -/
def planeTellsWrong : ChangeSpec := { name := "planeTells", fn := fun _ => fun
  | [d1, d2, d3, d4, d5] => { results := [.lit (.bool false)], args := [d1, d2, d3, d4, d5] }
  | _ => none }
def PlaneTellsWrongFalsely : Prop := planeTellsRow.holds Try.pinned (OpenSpec.ofChange planeTellsWrong)

/-- 'shelterbeltlaw11.PlaneBetween': WHATEVER THE INPUT: true; the input reads as it did. -/
def planeBetweenSpec : ChangeSpec := { name := "planeBetween", fn := fun _ => fun
  | [d1, d2, d3] => { results := [.lit (.bool true)], args := [d1, d2, d3] }
  | _ => none }
def planeBetweenRow : OpenClaim := { program := "ytkkpngkninelmaa", sum := "6f73ebe3cbe989d82b3d0d1e1ae81edf42c0b0da6426a2fab547d037ea82a77c", func := "shelterbelt/shelterbeltlaw11.PlaneBetween", spec := "planeBetween", apart := false }
def PlaneBetweenSaid : Prop := planeBetweenRow.holds Try.pinned (OpenSpec.ofChange planeBetweenSpec)

/-- ITS FALSE NEIGHBOUR: 'it returns false'. Refute it at one input. -/
def planeBetweenWrong : ChangeSpec := { name := "planeBetween", fn := fun _ => fun
  | [d1, d2, d3] => { results := [.lit (.bool false)], args := [d1, d2, d3] }
  | _ => none }
def PlaneBetweenWrongFalsely : Prop := planeBetweenRow.holds Try.pinned (OpenSpec.ofChange planeBetweenWrong)

/-- 'shelterbeltlaw11.PlaneBounds': WHATEVER THE INPUT: true; the input reads as it did. -/
def planeBoundsSpec : ChangeSpec := { name := "planeBounds", fn := fun _ => fun
  | [d1, d2] => { results := [.lit (.bool true)], args := [d1, d2] }
  | _ => none }
def planeBoundsRow : OpenClaim := { program := "ytkkpngkninelmaa", sum := "6f73ebe3cbe989d82b3d0d1e1ae81edf42c0b0da6426a2fab547d037ea82a77c", func := "shelterbelt/shelterbeltlaw11.PlaneBounds", spec := "planeBounds", apart := false }
def PlaneBoundsSaid : Prop := planeBoundsRow.holds Try.pinned (OpenSpec.ofChange planeBoundsSpec)

/-- ITS FALSE NEIGHBOUR: 'it returns false'. Refute it at one input. -/
def planeBoundsWrong : ChangeSpec := { name := "planeBounds", fn := fun _ => fun
  | [d1, d2] => { results := [.lit (.bool false)], args := [d1, d2] }
  | _ => none }
def PlaneBoundsWrongFalsely : Prop := planeBoundsRow.holds Try.pinned (OpenSpec.ofChange planeBoundsWrong)

/-- 'shelterbeltlaw11.PlaneTurns': WHATEVER THE INPUT: true; the input reads as it did. -/
def planeTurnsSpec : ChangeSpec := { name := "planeTurns", fn := fun _ => fun
  | [d1, d2, d3] => { results := [.lit (.bool true)], args := [d1, d2, d3] }
  | _ => none }
def planeTurnsRow : OpenClaim := { program := "ytkkpngkninelmaa", sum := "6f73ebe3cbe989d82b3d0d1e1ae81edf42c0b0da6426a2fab547d037ea82a77c", func := "shelterbelt/shelterbeltlaw11.PlaneTurns", spec := "planeTurns", apart := false }
def PlaneTurnsSaid : Prop := planeTurnsRow.holds Try.pinned (OpenSpec.ofChange planeTurnsSpec)

/-- ITS FALSE NEIGHBOUR: 'it returns false'. Refute it at one input. -/
def planeTurnsWrong : ChangeSpec := { name := "planeTurns", fn := fun _ => fun
  | [d1, d2, d3] => { results := [.lit (.bool false)], args := [d1, d2, d3] }
  | _ => none }
def PlaneTurnsWrongFalsely : Prop := planeTurnsRow.holds Try.pinned (OpenSpec.ofChange planeTurnsWrong)

/-- 'shelterbeltlaw11.PlaneMiddle': WHATEVER THE INPUT: true; the input reads as it did. -/
def planeMiddleSpec : ChangeSpec := { name := "planeMiddle", fn := fun _ => fun
  | [d1, d2] => { results := [.lit (.bool true)], args := [d1, d2] }
  | _ => none }
def planeMiddleRow : OpenClaim := { program := "ytkkpngkninelmaa", sum := "6f73ebe3cbe989d82b3d0d1e1ae81edf42c0b0da6426a2fab547d037ea82a77c", func := "shelterbelt/shelterbeltlaw11.PlaneMiddle", spec := "planeMiddle", apart := false }
def PlaneMiddleSaid : Prop := planeMiddleRow.holds Try.pinned (OpenSpec.ofChange planeMiddleSpec)

/-- ITS FALSE NEIGHBOUR: 'it returns false'. Refute it at one input. -/
def planeMiddleWrong : ChangeSpec := { name := "planeMiddle", fn := fun _ => fun
  | [d1, d2] => { results := [.lit (.bool false)], args := [d1, d2] }
  | _ => none }
def PlaneMiddleWrongFalsely : Prop := planeMiddleRow.holds Try.pinned (OpenSpec.ofChange planeMiddleWrong)

/- THE SECOND FORM. 'bulk': how many values and letters a reading holds, each counted each time it is reached (what is shared counts as often as it is met; a slice's spare places count too). A statement '..UptoSaid' is the law's where the arguments, and the package variables that the reading takes, are together of bulk at most 1048576: NARROWER than '..Said'. Prove '..Said' where nothing that the law and all that it calls make is longer than what came in: it says more and counts as full. Else prove '..UptoSaid'. A law counts once. -/
mutual
def uptoBulk {H : Type} : DataW H → Nat
  | .lit (.string bytes) => bytes.length + 1
  | .lit _ => 1
  | .nil => 1
  | .ptr d => uptoBulk d + 1
  | .slice elems spare => uptoBulkAll elems + uptoBulkAll spare + 1
  | .agg parts => uptoBulkAll parts + 1
  | .iface _ d => uptoBulk d + 1
  | .map entries => uptoBulkEntries entries + 1
  | .held _ => 1
def uptoBulkAll {H : Type} : List (DataW H) → Nat
  | [] => 0
  | d :: r => uptoBulk d + uptoBulkAll r
def uptoBulkEntries {H : Type} : List (Lit × DataW H) → Nat
  | [] => 0
  | x :: r => uptoBulkEntry x + uptoBulkEntries r
def uptoBulkEntry {H : Type} : Lit × DataW H → Nat
  | (.string bytes, d) => bytes.length + uptoBulk d + 1
  | (_, d) => uptoBulk d + 1
 end
def uptoSmall : (H : Type) → List (DataW H) → Bool := fun _ ds => decide (uptoBulkAll ds ≤ 1048576)
def OpenSpec.upto (s : _root_.Go.ChangeSpec) : _root_.Go.OpenSpec := { _root_.Go.OpenSpec.ofChange s with cond := some uptoSmall }

/-- 'shelterbeltlaw11.PlaneTells', WHERE WHAT IT READS IS OF BULK AT MOST 1048576: true; the input reads as it did. -/
def planeTellsUptoRow : OpenClaim := { program := "ytkkpngkninelmaa", sum := "6f73ebe3cbe989d82b3d0d1e1ae81edf42c0b0da6426a2fab547d037ea82a77c", func := "shelterbelt/shelterbeltlaw11.PlaneTells", spec := "planeTells", apart := false, narrowed := true }
def PlaneTellsUptoSaid : Prop := planeTellsUptoRow.holds Try.pinned (OpenSpec.upto planeTellsSpec)

/-- 'shelterbeltlaw11.PlaneBetween', WHERE WHAT IT READS IS OF BULK AT MOST 1048576: true; the input reads as it did. -/
def planeBetweenUptoRow : OpenClaim := { program := "ytkkpngkninelmaa", sum := "6f73ebe3cbe989d82b3d0d1e1ae81edf42c0b0da6426a2fab547d037ea82a77c", func := "shelterbelt/shelterbeltlaw11.PlaneBetween", spec := "planeBetween", apart := false, narrowed := true }
def PlaneBetweenUptoSaid : Prop := planeBetweenUptoRow.holds Try.pinned (OpenSpec.upto planeBetweenSpec)

/-- 'shelterbeltlaw11.PlaneBounds', WHERE WHAT IT READS IS OF BULK AT MOST 1048576: true; the input reads as it did. -/
def planeBoundsUptoRow : OpenClaim := { program := "ytkkpngkninelmaa", sum := "6f73ebe3cbe989d82b3d0d1e1ae81edf42c0b0da6426a2fab547d037ea82a77c", func := "shelterbelt/shelterbeltlaw11.PlaneBounds", spec := "planeBounds", apart := false, narrowed := true }
def PlaneBoundsUptoSaid : Prop := planeBoundsUptoRow.holds Try.pinned (OpenSpec.upto planeBoundsSpec)

/-- 'shelterbeltlaw11.PlaneTurns', WHERE WHAT IT READS IS OF BULK AT MOST 1048576: true; the input reads as it did. -/
def planeTurnsUptoRow : OpenClaim := { program := "ytkkpngkninelmaa", sum := "6f73ebe3cbe989d82b3d0d1e1ae81edf42c0b0da6426a2fab547d037ea82a77c", func := "shelterbelt/shelterbeltlaw11.PlaneTurns", spec := "planeTurns", apart := false, narrowed := true }
def PlaneTurnsUptoSaid : Prop := planeTurnsUptoRow.holds Try.pinned (OpenSpec.upto planeTurnsSpec)

/-- 'shelterbeltlaw11.PlaneMiddle', WHERE WHAT IT READS IS OF BULK AT MOST 1048576: true; the input reads as it did. -/
def planeMiddleUptoRow : OpenClaim := { program := "ytkkpngkninelmaa", sum := "6f73ebe3cbe989d82b3d0d1e1ae81edf42c0b0da6426a2fab547d037ea82a77c", func := "shelterbelt/shelterbeltlaw11.PlaneMiddle", spec := "planeMiddle", apart := false, narrowed := true }
def PlaneMiddleUptoSaid : Prop := planeMiddleUptoRow.holds Try.pinned (OpenSpec.upto planeMiddleSpec)

end Rows
end Go.Proofs.Ytkkpngkninelmaa
