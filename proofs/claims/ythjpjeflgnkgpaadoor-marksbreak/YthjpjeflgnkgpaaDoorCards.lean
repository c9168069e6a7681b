/-
  DERIVED. GIVEN WITH THE SEED: THE CARDS: each row of YthjpjeflgnkgpaaDoorRows.lean that lists a variable, with what it lists TIED to the program's text (the seventh form; the later family's looks); each row that meets fmt, with fmt's text TOLD by the authors' own Lean function (tested against real Go, not proved from fmt's source: count such statements apart). THE CARD IS WHAT COUNTS. Prove the row's statement (the work); the ties are given (YthjpjeflgnkgpaaDoorTie.lean); close each card by the builder's one call (the guide's Derived/Test/ToyasCard.lean, 'card_holds'). Laid BY PROGRAM, IN A SANDBOX (cutbox-door.mjs). By AI agents, Wed Nov 11 2026. No macro, syntax, notation, axiom, sorry.
-/
import Derived.Test.YthjpjeflgnkgpaaDoorRows
import GoSem.ClaimSeven
namespace Go.Proofs.YthjpjeflgnkgpaaDoor
namespace Rows

/-- THE TIED CARD OF 'shelterbeltlaw09.MarksPlay'. -/
def marksPlayCard : Claim7 := { stood := { row := marksPlayRow, standIns := [], harness := (true, "ae89c69fc24b343251305817e6ee83197e533825873119f2a17488a5861b46de"), looks := true }, kinds := [], alts := [], laidByText := true, laidKinds := [.data], laidTests := true, laidLooks := .later }
def MarksPlayCardSaid : Prop := Claim7.holds Tryd.pinned (.plain (OpenSpec.ofChange marksPlaySpec)) marksPlayCard

/-- THE TIED CARD OF 'shelterbeltlaw09.MarksBreak'. -/
def marksBreakCard : Claim7 := { stood := { row := marksBreakRow, standIns := [], harness := (true, "ae89c69fc24b343251305817e6ee83197e533825873119f2a17488a5861b46de"), looks := true }, kinds := [], alts := [], laidByText := true, laidKinds := [.data], laidTests := true, laidLooks := .later }
def MarksBreakCardSaid : Prop := Claim7.holds Tryd.pinned (.plain (OpenSpec.ofChange marksBreakSpec)) marksBreakCard

/-- THE TIED CARD OF 'shelterbeltlaw09.MarksOrder'. -/
def marksOrderCard : Claim7 := { stood := { row := marksOrderRow, standIns := [], harness := (true, "ae89c69fc24b343251305817e6ee83197e533825873119f2a17488a5861b46de"), looks := true }, kinds := [], alts := [], laidByText := true, laidKinds := [.data], laidTests := true, laidLooks := .later }
def MarksOrderCardSaid : Prop := Claim7.holds Tryd.pinned (.plain (OpenSpec.ofChange marksOrderSpec)) marksOrderCard

/-- THE SECOND FORM's CARD OF 'shelterbeltlaw09.MarksPlay'. -/
def marksPlayUptoCard : Claim7 := { stood := { row := marksPlayUptoRow, standIns := [], harness := (true, "ae89c69fc24b343251305817e6ee83197e533825873119f2a17488a5861b46de"), looks := true }, kinds := [], alts := [], laidByText := true, laidKinds := [.data], laidTests := true, laidLooks := .later }
def MarksPlayUptoCardSaid : Prop := Claim7.holds Tryd.pinned (.plain (OpenSpec.upto marksPlaySpec)) marksPlayUptoCard

/-- THE SECOND FORM's CARD OF 'shelterbeltlaw09.MarksBreak'. -/
def marksBreakUptoCard : Claim7 := { stood := { row := marksBreakUptoRow, standIns := [], harness := (true, "ae89c69fc24b343251305817e6ee83197e533825873119f2a17488a5861b46de"), looks := true }, kinds := [], alts := [], laidByText := true, laidKinds := [.data], laidTests := true, laidLooks := .later }
def MarksBreakUptoCardSaid : Prop := Claim7.holds Tryd.pinned (.plain (OpenSpec.upto marksBreakSpec)) marksBreakUptoCard

/-- THE SECOND FORM's CARD OF 'shelterbeltlaw09.MarksOrder'. -/
def marksOrderUptoCard : Claim7 := { stood := { row := marksOrderUptoRow, standIns := [], harness := (true, "ae89c69fc24b343251305817e6ee83197e533825873119f2a17488a5861b46de"), looks := true }, kinds := [], alts := [], laidByText := true, laidKinds := [.data], laidTests := true, laidLooks := .later }
def MarksOrderUptoCardSaid : Prop := Claim7.holds Tryd.pinned (.plain (OpenSpec.upto marksOrderSpec)) marksOrderUptoCard
end Rows
end Go.Proofs.YthjpjeflgnkgpaaDoor
