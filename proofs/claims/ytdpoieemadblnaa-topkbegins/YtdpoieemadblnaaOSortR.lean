/-
  Layer 4 (order): Sort, at one type of elements.
-/
import Derived.Test.YtdpoieemadblnaaOStabR
import Derived.Test.YtdpoieemadblnaaOSlc
namespace Go.Proofs.Ytdpoieemadblnaa
open Go.RowKit

theorem Try.infoR : (Try.prog.info? 42).map (fun i => (i.zero, i.size, i.bytes)) = some (some (.agg #[.int .i64 0, .int .i64 0]), 2, 16) := by kernel_rfl
theorem Try.sizeR : (Try.prog.info? 42).map (·.size) = some 2 := by kernel_rfl

/-- what make answers -/
theorem madeR (n : Nat) (hn : n ≤ 100000) : ∃ M : Array Value, M.size = n * 2 ∧
    ∀ W : World, (Instr.makeSlice 39 (.int .i64 (n : Int)) (.int .i64 (n : Int))).run Try.prog W = .ok (.slice (some ⟨W.heap.size, 0, none⟩) n n) (W.alloc (.cells M 42)) := by
  obtain ⟨i0, hi, hz0, hz1, hz2⟩ := info_parts Try.infoR
  obtain ⟨M, hM⟩ : ∃ M, M = madeCells (Value.agg #[.int .i64 0, .int .i64 0]).cells ((n : Int).toNat * i0.size) := ⟨_, rfl⟩
  refine ⟨M, by rw [hM, size_madeCells, hz1]; simp, fun W => ?_⟩
  have h := run_make (P := Try.prog) W 39 42 i0 (.agg #[.int .i64 0, .int .i64 0]) Try.underlying39 hi hz0 .i64 .i64 (n : Int) (n : Int) (by omega) (by omega) (by rw [hz2]; omega) (by omega)
  rw [← hM] at h
  simpa using h

theorem sortR (A : Option Addr) (n c : Nat) (l : List Om.E) (w : World) (h : VecE w A n l) (hA : A = none → c = 0) (hn : n ≤ 50000) :
    Calls Try.prog 18 #[.func (.func 19) #[] #[], .slice A n c] w fun e w' => ∃ g, e = .returned (.slice (some ⟨g, 0, none⟩) n n) ∧ w.heap.size ≤ g ∧ BlkE 42 w' g (Om.isort Om.near l) ∧ Below w.heap.size w w' := by
  obtain ⟨M, hM, hmk⟩ := madeR n (by omega)
  have hl := h.length
  obtain ⟨W1, hW1⟩ : ∃ W1, W1 = w.alloc (.cells #[.func (.func 19) #[] #[]] 43) := ⟨_, rfl⟩
  have hs1 : W1.heap.size = w.heap.size + 1 := by rw [hW1]; simp
  have hb1 : Below w.heap.size w W1 := by rw [hW1]; exact (Below.refl _ w).alloc (Nat.le_refl _) _
  have hC1 : CmpR w.heap.size W1 := ⟨by omega, by rw [hW1]; simp⟩
  obtain ⟨W2, hW2⟩ : ∃ W2, W2 = W1.alloc (.cells M 42) := ⟨_, rfl⟩
  have hb2 : Below W1.heap.size W1 W2 := by rw [hW2]; exact (Below.refl _ W1).alloc (Nat.le_refl _) _
  have hg2 : W2.heap[w.heap.size + 1]? = some (.cells M 42 (0, 0)) := by rw [hW2, ← hs1]; exact heap_alloc_new W1 _
  obtain ⟨w3, hcp, hblk, hbut⟩ := copy_two (P := Try.prog) W2 39 39 3 42 (w.heap.size + 1) n n c A M 42 l Try.underlying39 Try.sizeR hg2 hM ((h.below hb1).below hb2) hA
  have hB : Below w.heap.size w W2 := hb1.trans (hb2.mono hb1.size)
  have hC3 : CmpR w.heap.size w3 := by
    have : CmpR w.heap.size W2 := ⟨Nat.lt_of_lt_of_le hC1.1 hb2.size, (hb2.cell (p := ⟨w.heap.size, 0, none⟩) hC1.1).trans hC1.2⟩
    exact this.but hbut (by omega)
  have HS := Lib.hid (sortStableR w.heap.size (w.heap.size + 1) n n l w3 hblk hl (by omega) (Nat.le_refl _) (by omega) hC3 (by omega))
  have HB3 := Lib.hid (hB.trans (hbut.old hB.size (by omega)))
  have hmk1 := hmk W1
  have hz := hs1
  rw [hs1, ← hW2] at hmk1
  rw [hW1] at hmk1
  clear hmk hM h hl hW2 hs1 hb1 hC1 hb2 hg2 hblk hbut hB hC3 hA hz hW1
  go_enter Try.func18, Try.ntmps18
  go_wp2_with fail
  refine HS.out.mono ?_
  rintro _ w4 ⟨rfl, hB4, hb4⟩
  have HB4 := Lib.hid hB4
  have Hb4 := Lib.hid (HB3.out.trans (hb4.old HB3.out.size (by omega)))
  clear hB4 hb4 HS HB3 hcp hmk1
  go_wp2
  go_ret
  exact ⟨_, rfl, by omega, HB4.out, Hb4.out⟩
end Go.Proofs.Ytdpoieemadblnaa
