/-
  Layer 4 (order): which of two comes first, by contracts: Nearer, Ahead, Less, Compare, and the comparison that Sort hands on.
-/
import Derived.Test.YtafkbagjjknhlaaGRet
import Derived.Test.YtafkbagjjknhlaaRows
import Derived.Test.YtafkbagjjknhlaaOMath
import Derived.Test.YtafkbagjjknhlaaFLst
import Derived.WalkKit
import Derived.WalkSpells
import Derived.WalkLawsBesides
import Derived.Outline
import Derived.Below
import Derived.Lib.Hide
import Derived.BigQuiet
import Derived.Deep.QuietTactic
namespace Go.Proofs.Ytafkbagjjknhlaa
open Go.RowKit


theorem below_two (w : World) (o o' : Obj) : Below w.heap.size w ((w.alloc o).alloc o') := ((Below.refl _ w).alloc (Nat.le_refl _) _).alloc (by simp) _

/-- two boxed structs, as a call that came behind reads them -/
theorem boxes {w w1 : World} {x1 x2 y1 y2 : Int} {t : TypeId} (hb : Below ((w.alloc (.cells #[.int .i64 x1, .int .i64 x2] t)).alloc (.cells #[.int .i64 y1, .int .i64 y2] t)).heap.size ((w.alloc (.cells #[.int .i64 x1, .int .i64 x2] t)).alloc (.cells #[.int .i64 y1, .int .i64 y2] t)) w1) :
    w1.cell? ⟨w.heap.size, 0, none⟩ = some (.int .i64 x1) ∧ w1.cell? ⟨w.heap.size, 1, none⟩ = some (.int .i64 x2) ∧ w1.cell? ⟨w.heap.size + 1, 0, none⟩ = some (.int .i64 y1) ∧ w1.cell? ⟨w.heap.size + 1, 1, none⟩ = some (.int .i64 y2) ∧ w.heap.size + 1 < w1.heap.size ∧ Below w.heap.size w w1 := by
  have h2 : ((w.alloc (.cells #[.int .i64 x1, .int .i64 x2] t)).alloc (.cells #[.int .i64 y1, .int .i64 y2] t)).heap.size = w.heap.size + 2 := by simp
  have hs := hb.size
  rw [h2] at hb hs
  refine ⟨?_, ?_, ?_, ?_, by omega, (below_two w _ _).trans (hb.mono (by omega))⟩
  all_goals
    rw [hb.cell (by simp)]
    simp

end Go.Proofs.Ytafkbagjjknhlaa
