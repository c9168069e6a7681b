/-
  Words that texts of several layers share: an answer is the same if what it holds is.
-/
import Derived.WalkKit
namespace Go.Proofs.Ytecdgpacofojeaa
open Go.RowKit

theorem ret_bool {a b : Bool} (h : a = b) : Ending.returned (.bool a) = .returned (.bool b) := by rw [h]
theorem ret_int {k : IntKind} {a b : Int} (h : a = b) : Ending.returned (.int k a) = .returned (.int k b) := by rw [h]
end Go.Proofs.Ytecdgpacofojeaa
