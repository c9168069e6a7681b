/-
  What the program says of a type of elements.
-/
import Derived.Test.YtdpoieemadblnaaOLeaf
import Derived.Test.YtdpoieemadblnaaOSlc
namespace Go.Proofs.Ytdpoieemadblnaa
open Go.RowKit
theorem Try.infoP : (Try.prog.info? 27).map (fun i => (i.zero, i.size, i.bytes)) = some (some (.agg #[.int .i64 0, .int .i64 0]), 2, 16) := by kernel_rfl
theorem Try.sizeP : (Try.prog.info? 27).map (·.size) = some 2 := by kernel_rfl
end Go.Proofs.Ytdpoieemadblnaa
