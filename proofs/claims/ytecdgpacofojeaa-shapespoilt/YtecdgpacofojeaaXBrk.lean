/-
  Layer 14 (shape): own words for ranges over what tells: a counter in a block, beside all else as it was.
-/
import Derived.Test.YtecdgpacofojeaaXCov
namespace Go.Proofs.Ytecdgpacofojeaa
open Go.RowKit Go.Shelf

/-- k were told: the number stands in block nb; the loop begins in WD -/
structure Cnt (WD : World) (nb : Nat) (z : Int) (W : World) : Prop where
  num : W.heap[nb]? = some (.cells #[.int .i64 z] 3 (0, 0))
  kp : Kept (fun q => q = nb) WD W
  sz : WD.heap.size + 2 ≤ W.heap.size
section
variable {WD W W' : World} {nb base lo : Nat} {z z' : Int}
theorem Cnt.off (h : Cnt WD nb z W) (hn : nb < WD.heap.size) (ho : Off (WD.heap.size + 1) W W') : Cnt WD nb z W' :=
  ⟨(ho.block _ (by omega)).trans h.num, h.kp.trans (S' := fun q => q = WD.heap.size + 1) ⟨ho.os, ho.tape, ho.output, by rw [ho.size]; exact Nat.le_refl _, fun j _ hj => ho.block j hj⟩ fun j hj => .inr (by omega), by rw [ho.size]; exact h.sz⟩
theorem Cnt.low (h : Cnt WD nb z W) (hn : nb < WD.heap.size) (hb : Below (WD.heap.size + 2) W W') (hs : W.heap.size ≤ W'.heap.size) : Cnt WD nb z W' :=
  ⟨(hb.block _ (by omega)).trans h.num, ⟨hb.os.trans h.kp.os, hb.tape.trans h.kp.tape, hb.output.trans h.kp.output, Nat.le_trans h.kp.size hs, fun j hj hne => (hb.block j (by omega)).trans (h.kp.block j hj hne)⟩, Nat.le_trans h.sz hs⟩
theorem Cnt.below (h : Cnt WD nb z W) (hn : nb < WD.heap.size) (hb : Below W.heap.size W W') : Cnt WD nb z W' := h.low hn (hb.mono h.sz) hb.size
theorem Cnt.set (h : Cnt WD nb z W) (z' : Int) : Cnt WD nb z' (W.setCell ⟨nb, 0, none⟩ (.int .i64 z')) ∧ KeepsFrom WD.heap.size W (W.setCell ⟨nb, 0, none⟩ (.int .i64 z')) :=
  ⟨⟨by rw [one_set h.num], h.kp.setCell (.inl rfl), by simp [World.setCell]; exact h.sz⟩, kf_cell h.num⟩
theorem Cnt.keeps (h : Cnt WD nb z W) (h1 : base ≤ nb) (h2 : nb < lo) : Keeps base lo WD W := Keeps.of_kept h.kp h1 h2
theorem Cnt.new (hv : WD.heap[nb]? = some (.cells #[.int .i64 z] 3 (0, 0))) (hn : nb < WD.heap.size) (hb : Below WD.heap.size WD W) (hs : W.heap.size = WD.heap.size + 2) : Cnt WD nb z W :=
  ⟨(hb.block _ hn).trans hv, Kept.of_below hb, by omega⟩
end
end Go.Proofs.Ytecdgpacofojeaa
