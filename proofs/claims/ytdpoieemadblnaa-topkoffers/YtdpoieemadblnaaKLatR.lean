/-
  Layer 8 (topk): the order that a selector's heap keeps to, by contract.
-/
import Derived.Test.YtdpoieemadblnaaKMem
import Derived.BigRegion
import Derived.StillTailTactics
namespace Go.Proofs.Ytdpoieemadblnaa
open Go.RowKit

/-- the first that was handed in, as the order holds it: in a block of its own -/
def CapR (w : World) (b : Nat) : Prop := w.heap[b]? = some (.cells #[.func (.func 19) #[] #[]] 43 (0, 0))
theorem CapR.lt {w : World} {b : Nat} (h : CapR w b) : b < w.heap.size := lt_of_block h
theorem CapR.cell {w : World} {b : Nat} (h : CapR w b) : w.cell? ⟨b, 0, none⟩ = some (.func (.func 19) #[] #[]) := by rw [cell_of_row _ _ _ _ _ _ h]; rfl
theorem CapR.below {w w' : World} {b : Nat} (h : CapR w b) (hb : Below w.heap.size w w') : CapR w' b := (hb.block b h.lt).trans h
theorem laterR (w : World) :
    Calls Try.prog 41 #[.func (.func 19) #[] #[]] w fun e w' => e = .returned (.func (.func 56) #[] #[.pointer (some ⟨w.heap.size, 0, none⟩)]) ∧ w' = w.alloc (.cells #[.func (.func 19) #[] #[]] 43) := by
  go_enter Try.func41, Try.ntmps41
  go_wp2
  go_ret
  exact ⟨rfl, rfl⟩
theorem latR (b : Nat) (x1 x2 x3 y1 y2 y3 : Int) (w : World) (h : CapR w b) :
    Calls Try.prog 56 #[.agg #[.int .i64 x1, .int .i64 x2, .int .i64 x3], .agg #[.int .i64 y1, .int .i64 y2, .int .i64 y3], .pointer (some ⟨b, 0, none⟩)] w fun e w' => e = .returned (.bool (Km.lat Om.near ((x1, x2), x3) ((y1, y2), y3))) ∧ Below w.heap.size w w' := by
  have hb := below_two w (.cells #[.int .i64 x1, .int .i64 x2, .int .i64 x3] 80) (.cells #[.int .i64 y1, .int .i64 y2, .int .i64 y3] 80)
  have cc := (h.below hb).cell
  have HC := Lib.hid (h.below hb)
  clear h hb
  go_enter Try.func56, Try.ntmps56
  go_wp2_with fail
  refine (near_any y1 y2 x1 x2 _).mono ?_
  rintro _ w1 ⟨rfl, hb1⟩
  have cc1 := (HC.out.below hb1).cell
  have HC1 := Lib.hid (HC.out.below hb1)
  obtain ⟨⟨c1, c2, c3⟩, ⟨d1, d2, d3⟩, hs1, hw1⟩ := boxes3 hb1
  have HW1 := Lib.hid hw1
  clear hb1 cc HC hw1
  cases hf : Om.near (y1, y2) (x1, x2) with
  | true =>
    have HE := Lib.hid (show Km.lat Om.near ((x1, x2), x3) ((y1, y2), y3) = true from by unfold Km.lat; rw [if_pos hf])
    clear hf
    go_wp2
    go_ret
    exact ⟨ret_bool HE.out.symm, HW1.out⟩
  | false =>
    go_wp2_with fail
    refine (near_any x1 x2 y1 y2 _).mono ?_
    rintro _ w2 ⟨rfl, hb2⟩
    have e1 := (hb2.cell (p := ⟨w.heap.size, 2, none⟩) (by show w.heap.size < _; omega)).trans c3
    have e2 := (hb2.cell (p := ⟨w.heap.size + 1, 2, none⟩) (by show w.heap.size + 1 < _; omega)).trans d3
    have HW2 := Lib.hid (HW1.out.trans (hb2.mono (by omega)))
    clear hb2 c1 c2 c3 d1 d2 d3 cc1
    cases hg : Om.near (x1, x2) (y1, y2) with
    | true =>
      have HE := Lib.hid (show Km.lat Om.near ((x1, x2), x3) ((y1, y2), y3) = false from by unfold Km.lat; rw [if_neg (by simp [hf]), if_pos hg])
      clear hf hg
      go_wp2
      go_ret
      exact ⟨ret_bool HE.out.symm, HW2.out⟩
    | false =>
      have HE := Lib.hid (show Km.lat Om.near ((x1, x2), x3) ((y1, y2), y3) = decide (y3 < x3) from by unfold Km.lat; rw [if_neg (by simp [hf]), if_neg (by simp [hg])])
      clear hf hg
      go_wp2
      go_ret
      exact ⟨ret_bool HE.out.symm, HW2.out⟩
end Go.Proofs.Ytdpoieemadblnaa
