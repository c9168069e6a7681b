/-
  Layer 1 (field): the document's examples hold ('awake' answers true).
-/
import Derived.Test.YtkceagmgabjidaaFPut
namespace Go.Proofs.Ytkceagmgabjidaa
open Go.RowKit

theorem awake_n : getN ⟨#[254, 255]⟩ 0 2 = 65534 := by decide
theorem awake_b : hasB (ByteArray.size ⟨#[254, 255]⟩) 0 2 = true := by decide
theorem awake_p : putL 258 2 = [2, 1] := by decide
theorem awake_s : Fm.sgn 65534 2 = -2 := by decide

theorem awake_any (w : World) : Calls Try.prog 10 #[] w fun e w' => e = .returned (.bool true) ∧ Below w.heap.size w w' := by
  go_enter Try.func10, Try.ntmps10
  go_wp2_with fail
  refine (get_any _ _ _ _ (by unfold maxLen; decide)).mono ?_
  rintro e w' ⟨rfl, rfl⟩
  rw [awake_n, awake_b]
  go_wp2_with fail
  refine (put_any _ _ _ (by omega) (by omega)).mono ?_
  rintro e w' ⟨rfl, hb⟩
  rw [awake_p]
  have HB := Lib.hid hb
  clear hb
  go_wp2_with fail
  refine (signed_yes _ _ _ (by omega) (by omega) (by omega) (by omega)).mono ?_
  rintro e w'' ⟨rfl, rfl⟩
  go_wp2
  go_ret
  exact ⟨rfl, HB.out⟩
end Go.Proofs.Ytkceagmgabjidaa
