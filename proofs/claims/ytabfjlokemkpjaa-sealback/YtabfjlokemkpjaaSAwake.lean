/-
  Layer 2 (seal): the document's example holds ('awake' answers true).
-/
import Derived.Test.YtabfjlokemkpjaaSSeal
namespace Go.Proofs.Ytabfjlokemkpjaa
open Go.RowKit

theorem awake_sum : rn (Sm.sum [49, 50, 51, 52, 53, 54, 55, 56, 57]) = 3421780262 := by decide +kernel
theorem awake_any (w : World) : Calls Try.prog 9 #[] w fun e w' => e = .returned (.bool true) ∧ Below w.heap.size w w' := by
  go_enter Try.func9, Try.ntmps9
  go_wp2_with fail
  refine (sum_any _ _ (by unfold maxLen; decide)).mono ?_
  rintro e w' ⟨rfl, hb⟩
  rw [awake_sum]
  have HB := Lib.hid hb
  clear hb
  go_wp2
  go_ret
  exact ⟨rfl, HB.out⟩
end Go.Proofs.Ytabfjlokemkpjaa
