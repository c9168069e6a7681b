/-
  Layer 14 (shape): the document's example holds, by a contract.
-/
import Derived.Test.YtecdgpacofojeaaXPrg
namespace Go.Proofs.Ytecdgpacofojeaa
open Go.RowKit

theorem chk_one (k : Int) : Xm.chk [⟨true, [0], [], 0, 0, 0⟩] k 1 = if k < 0 ∨ 1048576 < k then 1 else if k = 1 then 0 else 14 := by
  unfold Xm.chk
  have h1 : Xm.isT [⟨true, [0], [], 0, 0, 0⟩] 1 = true := by rfl
  rw [h1]
  by_cases g : k < 0 ∨ 1048576 < k
  · rw [if_pos g, if_pos (by omega)]
  · rw [if_neg g, if_neg (by omega)]
    by_cases e : k = 1
    · subst e
      rw [if_pos rfl, if_pos ⟨rfl, by decide⟩]
    · rw [if_neg e, if_neg]
      rintro ⟨-, h⟩
      have := Xm.cov_len h (by omega)
      simp [Xm.lists] at this
      omega
set_option maxRecDepth 100000 in
theorem awakeX (w : World) : Calls Try.prog 8 #[] w fun e w' => e = .returned (.bool true) ∧ Below w.heap.size w w' := by
  obtain ⟨W, hW⟩ : ∃ W, W = (w.alloc (.cells #[.int .i64 0] 3)).alloc (.cells #[.bool true, .slice (some ⟨w.heap.size, 0, none⟩) 1 1, .slice none 0 0, .int .i64 0, .int .i64 0, .int .i64 0] 68) := ⟨_, rfl⟩
  have hb : Below w.heap.size w W := by rw [hW]; exact ((Below.refl _ w).alloc (Nat.le_refl _) _).alloc (by simp) _
  have r0 : W.heap[w.heap.size]? = some (.cells #[.int .i64 0] 3 (0, 0)) := by rw [hW, Below.heap_alloc _ _ _ (by simp)]; exact heap_alloc_new w _
  have r1 : W.heap[w.heap.size + 1]? = some (.cells #[.bool true, .slice (some ⟨w.heap.size, 0, none⟩) 1 1, .slice none 0 0, .int .i64 0, .int .i64 0, .int .i64 0] 68 (0, 0)) := by
    rw [hW]
    have := heap_alloc_new (w.alloc (.cells #[.int .i64 0] 3)) (.cells #[.bool true, .slice (some ⟨w.heap.size, 0, none⟩) 1 1, .slice none 0 0, .int .i64 0, .int .i64 0, .int .i64 0] 68)
    rwa [show (w.alloc (.cells #[.int .i64 0] 3)).heap.size = w.heap.size + 1 from by simp] at this
  have hx : Xds W (some ⟨w.heap.size + 1, 0, none⟩) 1 1 [⟨true, [0], [], 0, 0, 0⟩] := by
    refine ⟨rfl, Nat.le_refl _, fun h => (by cases h), fun k x hk => ?_⟩
    obtain rfl : k = 0 := by have := (List.getElem?_eq_some_iff.1 hk).1; simp at this; omega
    simp at hk
    subst hk
    have c : ∀ (j : Nat) (u : Value), (#[.bool true, .slice (some ⟨w.heap.size, 0, none⟩) 1 1, .slice none 0 0, .int .i64 0, .int .i64 0, .int .i64 0] : Array Value)[j]? = some u → W.cell? ⟨w.heap.size + 1, j, none⟩ = some u := fun j u hu => by rw [cell_of_row _ _ _ _ _ _ r1]; exact hu
    refine ⟨w.heap.size + 1, 0, rfl, lt_of_block r1, some ⟨w.heap.size, 0, none⟩, 1, 1, none, 0, 0, ⟨⟨⟨rfl, fun _ => ⟨w.heap.size, 0, rfl, lt_of_block r0, fun j u hu => ?_⟩⟩, Nat.le_refl _, fun h => by cases h⟩, ⟨Lst.nil _ _ _, by simp⟩, by omega, by omega⟩, c 0 _ rfl, c 1 _ rfl, c 2 _ rfl, c 3 _ rfl, c 4 _ rfl, c 5 _ rfl⟩
    rw [cell_of_row _ _ _ _ _ _ r0]
    simpa [ci] using hu
  have HX := Lib.hid hx
  have HB := Lib.hid hb
  have HW := Lib.hid hW
  have ht : Xm.tot [⟨true, [0], [], 0, 0, 0⟩] = 1 := rfl
  clear hW hb r0 r1 hx
  go_enter Try.func8, Try.ntmps8
  go_wp2_with fail
  rw [← HW.out]
  clear HW
  refine (countX HX.out (by omega)).mono ?_
  rintro _ w1 ⟨rfl, hb1⟩
  rw [show Xm.leaves [⟨true, [0], [], 0, 0, 0⟩] = 1 from rfl]
  have HX1 := Lib.hid (HX.out.below hb1)
  have B1 := Lib.hid (HB.out.trans (hb1.mono HB.out.size))
  clear hb1
  go_wp2_with fail
  refine (checkX HX1.out (by omega) (by omega) 1 1).mono ?_
  rintro _ w2 ⟨rfl, hb2⟩
  rw [chk_one, if_neg (by omega), if_pos rfl]
  have HX2 := Lib.hid (HX1.out.below hb2)
  have B2 := Lib.hid (B1.out.trans (hb2.mono B1.out.size))
  clear hb2
  go_wp2_with fail
  refine (checkX HX2.out (by omega) (by omega) 2 1).mono ?_
  rintro _ w3 ⟨rfl, hb3⟩
  rw [chk_one, if_neg (by omega), if_neg (by omega)]
  have HX3 := Lib.hid (HX2.out.below hb3)
  have B3 := Lib.hid (B2.out.trans (hb3.mono B2.out.size))
  clear hb3
  go_wp2_with fail
  refine (sameX HX3.out HX3.out (by omega) (by omega) (by omega) (by omega)).mono ?_
  rintro _ w4 ⟨rfl, hb4⟩
  rw [Xm.eqT_true rfl]
  have B4 := Lib.hid (B3.out.trans (hb4.mono B3.out.size))
  clear hb4
  go_wp2
  go_ret
  exact ⟨rfl, B4.out⟩
end Go.Proofs.Ytecdgpacofojeaa
