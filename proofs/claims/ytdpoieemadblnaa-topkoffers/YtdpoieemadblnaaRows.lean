/-
  No cell of these rows narrows 'for every input' (looked for: loops, veiled, ifaces, maps, wideKeys, modest, calm, conditions, laid).
  DERIVED. THE GIVEN ROWS OF THIS SEAT. 5 by the template 'for every input the law returns true; each argument reads behind the call as it read before'; 0 by the template 'total and deterministic' (their statements: YtdpoieemadblnaaTotals.lean).
  GIVEN WITH THE SEED: the statements are not yours to turn. If you find one false, say at which input.
  Laid BY PROGRAM, IN A SANDBOX (cutbox-rows.mjs): the forced cells as the released guide's own fill.sh prints them over the translation d3aa0e3f208fad7a… (all of the seat's roots in one cut). By AI agents, Wed Nov 11 2026. No macro, syntax, notation, axiom, sorry.
-/
import Derived.Test.YtdpoieemadblnaaChecked
import GoSem.Claim
import GoSem.ClaimJoined
import GoSem.ClaimMapViews
import Derived.JoinedTies
import Derived.KernelRfl
namespace Go.Proofs.Ytdpoieemadblnaa
/- THE CELL 'sum', in the pinned program and in every row, IS THE sha256 OF THE DUMP (.gsa) THAT YtdpoieemadblnaaProg.lean LOADS. Nothing in Lean hashes anything: it is a label: what it is worth is what the hold of that sum in a sandbox is worth. -/
noncomputable def Try.pinned : Pinned := { name := "ytdpoieemadblnaa", sum := "d3aa0e3f208fad7a1b1cb99e5bf9d28a26607692a23049f73f3e060abe38f64b", checked := Try.checked }
namespace Rows
def none {H : Type} : Left H := { results := [], args := [] }

/-- 'shelterbeltlaw08.TopkOffers': WHATEVER THE INPUT: true; the input reads as it did. -/
def topkOffersSpec : ChangeSpec := { name := "topkOffers", fn := fun _ => fun
  | [d1, d2] => { results := [.lit (.bool true)], args := [d1, d2] }
  | _ => none }
def topkOffersRow : OpenClaim := { program := "ytdpoieemadblnaa", sum := "d3aa0e3f208fad7a1b1cb99e5bf9d28a26607692a23049f73f3e060abe38f64b", func := "shelterbelt/shelterbeltlaw08.TopkOffers", spec := "topkOffers", unfollowed := true, recurses := true, apart := false }
def TopkOffersSaid : Prop := topkOffersRow.holds Try.pinned (OpenSpec.ofChange topkOffersSpec)

/-- ITS FALSE NEIGHBOUR: 'it returns false'. Refute it at one input. -/
def topkOffersWrong : ChangeSpec := { name := "topkOffers", fn := fun _ => fun
  | [d1, d2] => { results := [.lit (.bool false)], args := [d1, d2] }
  | _ => none }
def TopkOffersWrongFalsely : Prop := topkOffersRow.holds Try.pinned (OpenSpec.ofChange topkOffersWrong)

/-- 'shelterbeltlaw08.TopkBegins': WHATEVER THE INPUT: true; the input reads as it did. -/
def topkBeginsSpec : ChangeSpec := { name := "topkBegins", fn := fun _ => fun
  | [d1, d2, d3] => { results := [.lit (.bool true)], args := [d1, d2, d3] }
  | _ => none }
def topkBeginsRow : OpenClaim := { program := "ytdpoieemadblnaa", sum := "d3aa0e3f208fad7a1b1cb99e5bf9d28a26607692a23049f73f3e060abe38f64b", func := "shelterbelt/shelterbeltlaw08.TopkBegins", spec := "topkBegins", unfollowed := true, recurses := true, apart := false }
def TopkBeginsSaid : Prop := topkBeginsRow.holds Try.pinned (OpenSpec.ofChange topkBeginsSpec)

/-- ITS FALSE NEIGHBOUR: 'it returns false'. Refute it at one input. -/
def topkBeginsWrong : ChangeSpec := { name := "topkBegins", fn := fun _ => fun
  | [d1, d2, d3] => { results := [.lit (.bool false)], args := [d1, d2, d3] }
  | _ => none }
def TopkBeginsWrongFalsely : Prop := topkBeginsRow.holds Try.pinned (OpenSpec.ofChange topkBeginsWrong)

/-- 'shelterbeltlaw08.TopkParts': WHATEVER THE INPUT: true; the input reads as it did. -/
def topkPartsSpec : ChangeSpec := { name := "topkParts", fn := fun _ => fun
  | [d1, d2, d3] => { results := [.lit (.bool true)], args := [d1, d2, d3] }
  | _ => none }
def topkPartsRow : OpenClaim := { program := "ytdpoieemadblnaa", sum := "d3aa0e3f208fad7a1b1cb99e5bf9d28a26607692a23049f73f3e060abe38f64b", func := "shelterbelt/shelterbeltlaw08.TopkParts", spec := "topkParts", unfollowed := true, recurses := true, apart := false }
def TopkPartsSaid : Prop := topkPartsRow.holds Try.pinned (OpenSpec.ofChange topkPartsSpec)

/-- ITS FALSE NEIGHBOUR: 'it returns false'. Refute it at one input. -/
def topkPartsWrong : ChangeSpec := { name := "topkParts", fn := fun _ => fun
  | [d1, d2, d3] => { results := [.lit (.bool false)], args := [d1, d2, d3] }
  | _ => none }
def TopkPartsWrongFalsely : Prop := topkPartsRow.holds Try.pinned (OpenSpec.ofChange topkPartsWrong)

/-- 'shelterbeltlaw08.TopkLast': WHATEVER THE INPUT: true; the input reads as it did. -/
def topkLastSpec : ChangeSpec := { name := "topkLast", fn := fun _ => fun
  | [d1, d2] => { results := [.lit (.bool true)], args := [d1, d2] }
  | _ => none }
def topkLastRow : OpenClaim := { program := "ytdpoieemadblnaa", sum := "d3aa0e3f208fad7a1b1cb99e5bf9d28a26607692a23049f73f3e060abe38f64b", func := "shelterbelt/shelterbeltlaw08.TopkLast", spec := "topkLast", unfollowed := true, recurses := true, apart := false }
def TopkLastSaid : Prop := topkLastRow.holds Try.pinned (OpenSpec.ofChange topkLastSpec)

/-- ITS FALSE NEIGHBOUR: 'it returns false'. Refute it at one input. -/
def topkLastWrong : ChangeSpec := { name := "topkLast", fn := fun _ => fun
  | [d1, d2] => { results := [.lit (.bool false)], args := [d1, d2] }
  | _ => none }
def TopkLastWrongFalsely : Prop := topkLastRow.holds Try.pinned (OpenSpec.ofChange topkLastWrong)

/-- 'shelterbeltlaw08.TopkAgain': WHATEVER THE INPUT: true; the input reads as it did. -/
def topkAgainSpec : ChangeSpec := { name := "topkAgain", fn := fun _ => fun
  | [d1, d2] => { results := [.lit (.bool true)], args := [d1, d2] }
  | _ => none }
def topkAgainRow : OpenClaim := { program := "ytdpoieemadblnaa", sum := "d3aa0e3f208fad7a1b1cb99e5bf9d28a26607692a23049f73f3e060abe38f64b", func := "shelterbelt/shelterbeltlaw08.TopkAgain", spec := "topkAgain", unfollowed := true, recurses := true, apart := false }
def TopkAgainSaid : Prop := topkAgainRow.holds Try.pinned (OpenSpec.ofChange topkAgainSpec)

/-- ITS FALSE NEIGHBOUR: 'it returns false'. Refute it at one input. -/
def topkAgainWrong : ChangeSpec := { name := "topkAgain", fn := fun _ => fun
  | [d1, d2] => { results := [.lit (.bool false)], args := [d1, d2] }
  | _ => none }
def TopkAgainWrongFalsely : Prop := topkAgainRow.holds Try.pinned (OpenSpec.ofChange topkAgainWrong)

/- THE SECOND FORM. 'bulk': how many values and letters a reading holds, each counted each time it is reached (what is shared counts as often as it is met; a slice's spare places count too). A statement '..UptoSaid' is the law's where the arguments, and the package variables that the reading takes, are together of bulk at most 1048576: NARROWER than '..Said'. Prove '..Said' where nothing that the law and all that it calls make is longer than what came in: it says more and counts as full. Else prove '..UptoSaid'. A law counts once. -/
mutual
def uptoBulk {H : Type} : DataW H → Nat
  | .lit (.string bytes) => bytes.length + 1
  | .lit _ => 1
  | .nil => 1
  | .ptr d => uptoBulk d + 1
  | .slice elems spare => uptoBulkAll elems + uptoBulkAll spare + 1
  | .agg parts => uptoBulkAll parts + 1
  | .iface _ d => uptoBulk d + 1
  | .map entries => uptoBulkEntries entries + 1
  | .held _ => 1
def uptoBulkAll {H : Type} : List (DataW H) → Nat
  | [] => 0
  | d :: r => uptoBulk d + uptoBulkAll r
def uptoBulkEntries {H : Type} : List (Lit × DataW H) → Nat
  | [] => 0
  | x :: r => uptoBulkEntry x + uptoBulkEntries r
def uptoBulkEntry {H : Type} : Lit × DataW H → Nat
  | (.string bytes, d) => bytes.length + uptoBulk d + 1
  | (_, d) => uptoBulk d + 1
 end
def uptoSmall : (H : Type) → List (DataW H) → Bool := fun _ ds => decide (uptoBulkAll ds ≤ 1048576)
def OpenSpec.upto (s : _root_.Go.ChangeSpec) : _root_.Go.OpenSpec := { _root_.Go.OpenSpec.ofChange s with cond := some uptoSmall }

/-- 'shelterbeltlaw08.TopkOffers', WHERE WHAT IT READS IS OF BULK AT MOST 1048576: true; the input reads as it did. -/
def topkOffersUptoRow : OpenClaim := { program := "ytdpoieemadblnaa", sum := "d3aa0e3f208fad7a1b1cb99e5bf9d28a26607692a23049f73f3e060abe38f64b", func := "shelterbelt/shelterbeltlaw08.TopkOffers", spec := "topkOffers", unfollowed := true, recurses := true, apart := false, narrowed := true }
def TopkOffersUptoSaid : Prop := topkOffersUptoRow.holds Try.pinned (OpenSpec.upto topkOffersSpec)

/-- 'shelterbeltlaw08.TopkBegins', WHERE WHAT IT READS IS OF BULK AT MOST 1048576: true; the input reads as it did. -/
def topkBeginsUptoRow : OpenClaim := { program := "ytdpoieemadblnaa", sum := "d3aa0e3f208fad7a1b1cb99e5bf9d28a26607692a23049f73f3e060abe38f64b", func := "shelterbelt/shelterbeltlaw08.TopkBegins", spec := "topkBegins", unfollowed := true, recurses := true, apart := false, narrowed := true }
def TopkBeginsUptoSaid : Prop := topkBeginsUptoRow.holds Try.pinned (OpenSpec.upto topkBeginsSpec)

/-- 'shelterbeltlaw08.TopkParts', WHERE WHAT IT READS IS OF BULK AT MOST 1048576: true; the input reads as it did. -/
def topkPartsUptoRow : OpenClaim := { program := "ytdpoieemadblnaa", sum := "d3aa0e3f208fad7a1b1cb99e5bf9d28a26607692a23049f73f3e060abe38f64b", func := "shelterbelt/shelterbeltlaw08.TopkParts", spec := "topkParts", unfollowed := true, recurses := true, apart := false, narrowed := true }
def TopkPartsUptoSaid : Prop := topkPartsUptoRow.holds Try.pinned (OpenSpec.upto topkPartsSpec)

/-- 'shelterbeltlaw08.TopkLast', WHERE WHAT IT READS IS OF BULK AT MOST 1048576: true; the input reads as it did. -/
def topkLastUptoRow : OpenClaim := { program := "ytdpoieemadblnaa", sum := "d3aa0e3f208fad7a1b1cb99e5bf9d28a26607692a23049f73f3e060abe38f64b", func := "shelterbelt/shelterbeltlaw08.TopkLast", spec := "topkLast", unfollowed := true, recurses := true, apart := false, narrowed := true }
def TopkLastUptoSaid : Prop := topkLastUptoRow.holds Try.pinned (OpenSpec.upto topkLastSpec)

/-- 'shelterbeltlaw08.TopkAgain', WHERE WHAT IT READS IS OF BULK AT MOST 1048576: true; the input reads as it did. -/
def topkAgainUptoRow : OpenClaim := { program := "ytdpoieemadblnaa", sum := "d3aa0e3f208fad7a1b1cb99e5bf9d28a26607692a23049f73f3e060abe38f64b", func := "shelterbelt/shelterbeltlaw08.TopkAgain", spec := "topkAgain", unfollowed := true, recurses := true, apart := false, narrowed := true }
def TopkAgainUptoSaid : Prop := topkAgainUptoRow.holds Try.pinned (OpenSpec.upto topkAgainSpec)

end Rows
end Go.Proofs.Ytdpoieemadblnaa
