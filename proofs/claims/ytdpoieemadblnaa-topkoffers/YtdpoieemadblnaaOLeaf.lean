/-
  Layer 4 (order): which of two comes first, by contracts: Nearer, Ahead, Less, Compare, and the comparison that Sort hands on.
-/
import Derived.Test.YtdpoieemadblnaaRows
import Derived.Test.YtdpoieemadblnaaOMath
import Derived.Test.YtdpoieemadblnaaFLst
import Derived.WalkKit
import Derived.WalkSpells
import Derived.WalkLawsBesides
import Derived.Outline
import Derived.Below
import Derived.Lib.Hide
import Derived.BigQuiet
import Derived.Deep.QuietTactic
namespace Go.Proofs.Ytdpoieemadblnaa
open Go.RowKit

theorem ret_bool {a b : Bool} (h : a = b) : Ending.returned (.bool a) = .returned (.bool b) := by rw [h]
theorem ret_int {k : IntKind} {a b : Int} (h : a = b) : Ending.returned (.int k a) = .returned (.int k b) := by rw [h]

theorem below_two (w : World) (o o' : Obj) : Below w.heap.size w ((w.alloc o).alloc o') := ((Below.refl _ w).alloc (Nat.le_refl _) _).alloc (by simp) _

/-- two boxed structs, as a call that came behind reads them -/
theorem boxes {w w1 : World} {x1 x2 y1 y2 : Int} {t : TypeId} (hb : Below ((w.alloc (.cells #[.int .i64 x1, .int .i64 x2] t)).alloc (.cells #[.int .i64 y1, .int .i64 y2] t)).heap.size ((w.alloc (.cells #[.int .i64 x1, .int .i64 x2] t)).alloc (.cells #[.int .i64 y1, .int .i64 y2] t)) w1) :
    w1.cell? ⟨w.heap.size, 0, none⟩ = some (.int .i64 x1) ∧ w1.cell? ⟨w.heap.size, 1, none⟩ = some (.int .i64 x2) ∧ w1.cell? ⟨w.heap.size + 1, 0, none⟩ = some (.int .i64 y1) ∧ w1.cell? ⟨w.heap.size + 1, 1, none⟩ = some (.int .i64 y2) ∧ w.heap.size + 1 < w1.heap.size ∧ Below w.heap.size w w1 := by
  have h2 : ((w.alloc (.cells #[.int .i64 x1, .int .i64 x2] t)).alloc (.cells #[.int .i64 y1, .int .i64 y2] t)).heap.size = w.heap.size + 2 := by simp
  have hs := hb.size
  rw [h2] at hb hs
  refine ⟨?_, ?_, ?_, ?_, by omega, (below_two w _ _).trans (hb.mono (by omega))⟩
  all_goals
    rw [hb.cell (by simp)]
    simp

theorem near_any (x1 x2 y1 y2 : Int) (w : World) :
    Calls Try.prog 19 #[.agg #[.int .i64 x1, .int .i64 x2], .agg #[.int .i64 y1, .int .i64 y2]] w fun e w' => e = .returned (.bool (Om.near (x1, x2) (y1, y2))) ∧ Below w.heap.size w w' := by
  by_cases h : x2 = y2
  · have e := Lib.hid (show decide (x1 < y1) = Om.near (x1, x2) (y1, y2) from by simp [Om.near, h])
    subst h
    go_enter Try.func19, Try.ntmps19
    go_wp2
    go_ret
    exact ⟨ret_bool e.out, below_two _ _ _⟩
  · have e := Lib.hid (show decide (x2 < y2) = Om.near (x1, x2) (y1, y2) from by simp [Om.near, h])
    have h' : (x2 != y2) = true := by simpa using h
    clear h
    go_enter Try.func19, Try.ntmps19
    go_wp2
    go_ret
    exact ⟨ret_bool e.out, below_two _ _ _⟩
theorem less_any (x1 x2 y1 y2 : Int) (w : World) :
    Calls Try.prog 10 #[.agg #[.int .i64 x1, .int .i64 x2], .agg #[.int .i64 y1, .int .i64 y2]] w fun e w' => e = .returned (.bool (Om.less (x1, x2) (y1, y2))) ∧ Below w.heap.size w w' := by
  have e := Lib.hid (show decide (x1 < y1) = Om.less (x1, x2) (y1, y2) from by simp [Om.less])
  go_enter Try.func10, Try.ntmps10
  go_wp2
  go_ret
  exact ⟨ret_bool e.out, below_two _ _ _⟩
end Go.Proofs.Ytdpoieemadblnaa
