/-
  Layer 4 (order): whether two structs of two numbers are the same, at one type.
-/
import Derived.Test.YtdpoieemadblnaaOLeaf
import Derived.Laws.StructEq
namespace Go.Proofs.Ytdpoieemadblnaa
open Go.RowKit

theorem equalInP (x1 x2 y1 y2 : Int) (W : World) : (Op.equalIn 10000 27 (.agg #[.int .i64 x1, .int .i64 x2]) (.agg #[.int .i64 y1, .int .i64 y2])).run Try.prog W = .ok (decide (x1 = y1 ∧ x2 = y2)) W := by
  rw [show (10000 : Nat) = 9999 + 1 from rfl, run_equalIn_agg _ _ _ _ _ (by kernel_rfl) (by kernel_rfl)]
  by_cases h : x1 = y1
  · subst h
    by_cases h2 : x2 = y2
    · subst h2
      simp [go_sem, Program.fieldsOf, Op.eqFields, Try.underlying27, Try.underlying3, Try.underlying2]
    · simp [go_sem, Program.fieldsOf, Op.eqFields, Try.underlying27, Try.underlying3, Try.underlying2, h2]
  · by_cases h2 : x2 = y2
    · subst h2
      simp [go_sem, Program.fieldsOf, Op.eqFields, Try.underlying27, Try.underlying3, Try.underlying2, h]
    · simp [go_sem, Program.fieldsOf, Op.eqFields, Try.underlying27, Try.underlying3, Try.underlying2, h, h2]
theorem neqP (x1 x2 y1 y2 : Int) (W : World) : (binOp .neq 27 (.agg #[.int .i64 x1, .int .i64 x2]) (.agg #[.int .i64 y1, .int .i64 y2])).run Try.prog W = .ok (.bool (!decide (x1 = y1 ∧ x2 = y2))) W := by
  rw [run_neq_struct, equalInP]; rfl
theorem eqlP (x1 x2 y1 y2 : Int) (W : World) : (binOp .eql 27 (.agg #[.int .i64 x1, .int .i64 x2]) (.agg #[.int .i64 y1, .int .i64 y2])).run Try.prog W = .ok (.bool (decide (x1 = y1 ∧ x2 = y2))) W := by
  rw [run_eql_struct, equalInP]; rfl
theorem guardP (op : BinOp) (x y : Operand) (x1 x2 y1 y2 : Int) (W : World) : (eqGuard op 27 x y (.agg #[.int .i64 x1, .int .i64 x2]) (.agg #[.int .i64 y1, .int .i64 y2])).run Try.prog W = .ok () W :=
  run_eqGuard_agg W op _ x y _ _ (by kernel_rfl)
end Go.Proofs.Ytdpoieemadblnaa
