/-
  Layer 10 (data): the document's example holds: 'awake' answers true.
-/
import Derived.Test.YtenibcllkpeilaaDOf
import Derived.Test.YtenibcllkpeilaaDArg
namespace Go.Proofs.Ytenibcllkpeilaa
open Go.RowKit

theorem three_new (w W0 : World) (h : W0 = ((w.alloc (.cells #[.int .i32 1, .int .i32 2] 21)).alloc (.cells #[.int .i32 3, .int .i32 4] 21)).alloc (.cells #[.slice (some ⟨w.heap.size, 0, none⟩) 2 2, .slice (some ⟨w.heap.size + 1, 0, none⟩) 2 2] 31)) :
    Lv W0 (some ⟨w.heap.size + 1 + 1, 0, none⟩) 2 2 [[1, 2], [3, 4]] ∧ Below w.heap.size w W0 := by
  obtain ⟨v1, v2, hb⟩ := two_new w
  obtain ⟨W1, hW1⟩ : ∃ W1, W1 = (w.alloc (.cells #[.int .i32 1, .int .i32 2] 21)).alloc (.cells #[.int .i32 3, .int .i32 4] 21) := ⟨_, rfl⟩
  rw [← hW1] at h v1 v2 hb
  have s1 : W1.heap.size = w.heap.size + 1 + 1 := by rw [hW1]; simp
  have b1 : Below W1.heap.size W1 W0 := by rw [h]; exact (Below.refl _ W1).alloc (Nat.le_refl _) _
  have hg : W0.heap[w.heap.size + 1 + 1]? = some (.cells #[.slice (some ⟨w.heap.size, 0, none⟩) 2 2, .slice (some ⟨w.heap.size + 1, 0, none⟩) 2 2] 31 (0, 0)) := by rw [h, ← s1]; exact heap_new W1 _ _
  exact ⟨lv_two hg (v1.below b1) (v2.below b1) (by unfold maxLen; omega) (by unfold maxLen; omega), hb.trans (b1.mono hb.size)⟩
theorem awake_any (w : World) : Calls Try.prog 7 #[] w fun e w' => e = .returned (.bool true) ∧ Below w.heap.size w w' := by
  obtain ⟨W0, hW0⟩ : ∃ W0, W0 = ((w.alloc (.cells #[.int .i32 1, .int .i32 2] 21)).alloc (.cells #[.int .i32 3, .int .i32 4] 21)).alloc (.cells #[.slice (some ⟨w.heap.size, 0, none⟩) 2 2, .slice (some ⟨w.heap.size + 1, 0, none⟩) 2 2] 31) := ⟨_, rfl⟩
  obtain ⟨hl, hb⟩ := three_new w W0 hW0
  have HB := Lib.hid hb
  have HW := Lib.hid hW0
  have HO := Lib.hid (ofD hl (by omega) 2 (Dm.chks_ok (by omega) (by omega) (fun l h => by
    simp at h
    rcases h with rfl | rfl <;> exact Vm.chk_good (by omega) rfl (by simp [Vm.good]))))
  clear hl hb hW0
  go_enter Try.func7, Try.ntmps7
  go_wp2_with fail
  rw [← HW.out]
  refine HO.out.mono ?_
  rintro _ w1 ⟨s, S, rfl, hi, -, hb1⟩
  have HI := Lib.hid hi
  have HB1 := Lib.hid (HB.out.trans (hb1.mono HB.out.size))
  have HA := Lib.hid (atD hi (k := 1) (l := [3, 4]) rfl)
  clear hi hb1 HO HB
  go_wp2_with fail
  refine HA.out.mono ?_
  rintro _ w2 ⟨g, rfl, -, hk, hb2⟩
  have hg0 : w2.cell? ⟨g, 0, none⟩ = some (.int .i32 3) := by unfold Blk at hk; rw [cell_of_row _ _ _ _ _ _ hk]; rfl
  have HB2 := Lib.hid (HB1.out.trans (hb2.mono HB1.out.size))
  have HLE := Lib.hid (lenD (HI.out.below hb2))
  have HDI := Lib.hid (dimD (HI.out.below hb2))
  rw [show (2 : Int).toNat = 2 from rfl]
  clear hk hb2 HA HB1
  go_wp2_with fail
  refine HLE.out.mono ?_
  rintro _ _ ⟨rfl, rfl⟩
  rw [show (([[1, 2], [3, 4]] : List (List Int)).length : Int) = 2 from rfl]
  go_wp2_with fail
  refine HDI.out.mono ?_
  rintro _ _ ⟨rfl, rfl⟩
  go_wp2
  go_ret
  exact ⟨rfl, HB2.out⟩
end Go.Proofs.Ytenibcllkpeilaa
