/-
  No cell of these rows narrows 'for every input' (looked for: loops, veiled, ifaces, maps, wideKeys, modest, calm, conditions, laid).
  DERIVED. THE GIVEN ROWS OF THIS SEAT. 4 by the template 'for every input the law returns true; each argument reads behind the call as it read before'; 0 by the template 'total and deterministic' (their statements: YtenibcllkpeilaaTotals.lean).
  GIVEN WITH THE SEED: the statements are not yours to turn. If you find one false, say at which input.
  Laid BY PROGRAM, IN A SANDBOX (cutbox-rows.mjs): the forced cells as the released guide's own fill.sh prints them over the translation 984a1834be2a65ef… (all of the seat's roots in one cut). By AI agents, Wed Nov 11 2026. No macro, syntax, notation, axiom, sorry.
-/
import Derived.Test.YtenibcllkpeilaaChecked
import GoSem.Claim
import GoSem.ClaimJoined
import GoSem.ClaimMapViews
import Derived.JoinedTies
import Derived.KernelRfl
namespace Go.Proofs.Ytenibcllkpeilaa
/- THE CELL 'sum', in the pinned program and in every row, IS THE sha256 OF THE DUMP (.gsa) THAT YtenibcllkpeilaaProg.lean LOADS. Nothing in Lean hashes anything: it is a label: what it is worth is what the hold of that sum in a sandbox is worth. -/
noncomputable def Try.pinned : Pinned := { name := "ytenibcllkpeilaa", sum := "984a1834be2a65ef6b3818d76c997dba701762851691a6648e004860adccb78b", checked := Try.checked }
namespace Rows
def none {H : Type} : Left H := { results := [], args := [] }

/-- 'shelterbeltlaw10.DataAdds': WHATEVER THE INPUT: true; the input reads as it did. -/
def dataAddsSpec : ChangeSpec := { name := "dataAdds", fn := fun _ => fun
  | [d1, d2] => { results := [.lit (.bool true)], args := [d1, d2] }
  | _ => none }
def dataAddsRow : OpenClaim := { program := "ytenibcllkpeilaa", sum := "984a1834be2a65ef6b3818d76c997dba701762851691a6648e004860adccb78b", func := "shelterbelt/shelterbeltlaw10.DataAdds", spec := "dataAdds", unfollowed := true, recurses := true, apart := false }
def DataAddsSaid : Prop := dataAddsRow.holds Try.pinned (OpenSpec.ofChange dataAddsSpec)

/-- ITS FALSE NEIGHBOUR: 'it returns false'. Refute it at one input. -/
def dataAddsWrong : ChangeSpec := { name := "dataAdds", fn := fun _ => fun
  | [d1, d2] => { results := [.lit (.bool false)], args := [d1, d2] }
  | _ => none }
def DataAddsWrongFalsely : Prop := dataAddsRow.holds Try.pinned (OpenSpec.ofChange dataAddsWrong)

/-- 'shelterbeltlaw10.DataOf': WHATEVER THE INPUT: true; the input reads as it did. -/
def dataOfSpec : ChangeSpec := { name := "dataOf", fn := fun _ => fun
  | [d1, d2, d3, d4] => { results := [.lit (.bool true)], args := [d1, d2, d3, d4] }
  | _ => none }
def dataOfRow : OpenClaim := { program := "ytenibcllkpeilaa", sum := "984a1834be2a65ef6b3818d76c997dba701762851691a6648e004860adccb78b", func := "shelterbelt/shelterbeltlaw10.DataOf", spec := "dataOf", apart := false }
def DataOfSaid : Prop := dataOfRow.holds Try.pinned (OpenSpec.ofChange dataOfSpec)

/-- ITS FALSE NEIGHBOUR: 'it returns false'. Refute it at one input. -/
def dataOfWrong : ChangeSpec := { name := "dataOf", fn := fun _ => fun
  | [d1, d2, d3, d4] => { results := [.lit (.bool false)], args := [d1, d2, d3, d4] }
  | _ => none }
def DataOfWrongFalsely : Prop := dataOfRow.holds Try.pinned (OpenSpec.ofChange dataOfWrong)

/-- 'shelterbeltlaw10.DataNew': WHATEVER THE INPUT: true; the input reads as it did. -/
def dataNewSpec : ChangeSpec := { name := "dataNew", fn := fun _ => fun
  | [d1, d2] => { results := [.lit (.bool true)], args := [d1, d2] }
  | _ => none }
def dataNewRow : OpenClaim := { program := "ytenibcllkpeilaa", sum := "984a1834be2a65ef6b3818d76c997dba701762851691a6648e004860adccb78b", func := "shelterbelt/shelterbeltlaw10.DataNew", spec := "dataNew", unfollowed := true, recurses := true, apart := false }
def DataNewSaid : Prop := dataNewRow.holds Try.pinned (OpenSpec.ofChange dataNewSpec)

/-- ITS FALSE NEIGHBOUR: 'it returns false'. Refute it at one input. -/
def dataNewWrong : ChangeSpec := { name := "dataNew", fn := fun _ => fun
  | [d1, d2] => { results := [.lit (.bool false)], args := [d1, d2] }
  | _ => none }
def DataNewWrongFalsely : Prop := dataNewRow.holds Try.pinned (OpenSpec.ofChange dataNewWrong)

/-- 'shelterbeltlaw10.DataRows': WHATEVER THE INPUT: true; the input reads as it did. -/
def dataRowsSpec : ChangeSpec := { name := "dataRows", fn := fun _ => fun
  | [d1, d2, d3, d4] => { results := [.lit (.bool true)], args := [d1, d2, d3, d4] }
  | _ => none }
def dataRowsRow : OpenClaim := { program := "ytenibcllkpeilaa", sum := "984a1834be2a65ef6b3818d76c997dba701762851691a6648e004860adccb78b", func := "shelterbelt/shelterbeltlaw10.DataRows", spec := "dataRows", apart := false }
def DataRowsSaid : Prop := dataRowsRow.holds Try.pinned (OpenSpec.ofChange dataRowsSpec)

/-- ITS FALSE NEIGHBOUR: 'it returns false'. Refute it at one input. -/
def dataRowsWrong : ChangeSpec := { name := "dataRows", fn := fun _ => fun
  | [d1, d2, d3, d4] => { results := [.lit (.bool false)], args := [d1, d2, d3, d4] }
  | _ => none }
def DataRowsWrongFalsely : Prop := dataRowsRow.holds Try.pinned (OpenSpec.ofChange dataRowsWrong)

/- THE SECOND FORM. 'bulk': how many values and letters a reading holds, each counted each time it is reached (what is shared counts as often as it is met; a slice's spare places count too). A statement '..UptoSaid' is the law's where the arguments, and the package variables that the reading takes, are together of bulk at most 1048576: NARROWER than '..Said'. Prove '..Said' where nothing that the law and all that it calls make is longer than what came in: it says more and counts as full. Else prove '..UptoSaid'. A law counts once. -/
mutual
def uptoBulk {H : Type} : DataW H → Nat
  | .lit (.string bytes) => bytes.length + 1
  | .lit _ => 1
  | .nil => 1
  | .ptr d => uptoBulk d + 1
  | .slice elems spare => uptoBulkAll elems + uptoBulkAll spare + 1
  | .agg parts => uptoBulkAll parts + 1
  | .iface _ d => uptoBulk d + 1
  | .map entries => uptoBulkEntries entries + 1
  | .held _ => 1
def uptoBulkAll {H : Type} : List (DataW H) → Nat
  | [] => 0
  | d :: r => uptoBulk d + uptoBulkAll r
def uptoBulkEntries {H : Type} : List (Lit × DataW H) → Nat
  | [] => 0
  | x :: r => uptoBulkEntry x + uptoBulkEntries r
def uptoBulkEntry {H : Type} : Lit × DataW H → Nat
  | (.string bytes, d) => bytes.length + uptoBulk d + 1
  | (_, d) => uptoBulk d + 1
 end
def uptoSmall : (H : Type) → List (DataW H) → Bool := fun _ ds => decide (uptoBulkAll ds ≤ 1048576)
def OpenSpec.upto (s : _root_.Go.ChangeSpec) : _root_.Go.OpenSpec := { _root_.Go.OpenSpec.ofChange s with cond := some uptoSmall }

/-- 'shelterbeltlaw10.DataAdds', WHERE WHAT IT READS IS OF BULK AT MOST 1048576: true; the input reads as it did. -/
def dataAddsUptoRow : OpenClaim := { program := "ytenibcllkpeilaa", sum := "984a1834be2a65ef6b3818d76c997dba701762851691a6648e004860adccb78b", func := "shelterbelt/shelterbeltlaw10.DataAdds", spec := "dataAdds", unfollowed := true, recurses := true, apart := false, narrowed := true }
def DataAddsUptoSaid : Prop := dataAddsUptoRow.holds Try.pinned (OpenSpec.upto dataAddsSpec)

/-- 'shelterbeltlaw10.DataOf', WHERE WHAT IT READS IS OF BULK AT MOST 1048576: true; the input reads as it did. -/
def dataOfUptoRow : OpenClaim := { program := "ytenibcllkpeilaa", sum := "984a1834be2a65ef6b3818d76c997dba701762851691a6648e004860adccb78b", func := "shelterbelt/shelterbeltlaw10.DataOf", spec := "dataOf", apart := false, narrowed := true }
def DataOfUptoSaid : Prop := dataOfUptoRow.holds Try.pinned (OpenSpec.upto dataOfSpec)

/-- 'shelterbeltlaw10.DataNew', WHERE WHAT IT READS IS OF BULK AT MOST 1048576: true; the input reads as it did. -/
def dataNewUptoRow : OpenClaim := { program := "ytenibcllkpeilaa", sum := "984a1834be2a65ef6b3818d76c997dba701762851691a6648e004860adccb78b", func := "shelterbelt/shelterbeltlaw10.DataNew", spec := "dataNew", unfollowed := true, recurses := true, apart := false, narrowed := true }
def DataNewUptoSaid : Prop := dataNewUptoRow.holds Try.pinned (OpenSpec.upto dataNewSpec)

/-- 'shelterbeltlaw10.DataRows', WHERE WHAT IT READS IS OF BULK AT MOST 1048576: true; the input reads as it did. -/
def dataRowsUptoRow : OpenClaim := { program := "ytenibcllkpeilaa", sum := "984a1834be2a65ef6b3818d76c997dba701762851691a6648e004860adccb78b", func := "shelterbelt/shelterbeltlaw10.DataRows", spec := "dataRows", apart := false, narrowed := true }
def DataRowsUptoSaid : Prop := dataRowsUptoRow.holds Try.pinned (OpenSpec.upto dataRowsSpec)

end Rows
end Go.Proofs.Ytenibcllkpeilaa
