/-
  Layer 9 (marks): the statements' awake, by contract.
-/
import Derived.Test.YthjpjeflgnkgpaaDoorNCov
import Derived.Test.YthjpjeflgnkgpaaDoorNUniq
namespace Go.Proofs.YthjpjeflgnkgpaaDoor
open Go.RowKit Go.Shelf

/-- two slices of one number each, in blocks of their own -/
theorem Ls.two {W : World} {g g1 g2 : Nat} {x y : Int} (h : W.heap[g]? = some (.cells #[.slice (some ⟨g1, 0, none⟩) 1 1, .slice (some ⟨g2, 0, none⟩) 1 1] 22 (0, 0))) (h1 : W.heap[g1]? = some (.cells #[.int .i64 x] 3 (0, 0))) (h2 : W.heap[g2]? = some (.cells #[.int .i64 y] 3 (0, 0))) :
    Ls W (some ⟨g, 0, none⟩) 2 2 [[x], [y]] := by
  refine ⟨rfl, Nat.le_refl _, fun h => (by cases h), fun k l hl => ?_⟩
  have hc : k = 0 ∧ l = [x] ∨ k = 1 ∧ l = [y] := by
    rcases k with _ | _ | k
    · exact .inl ⟨rfl, by simpa using hl.symm⟩
    · exact .inr ⟨rfl, by simpa using hl.symm⟩
    · simp at hl
  rcases hc with ⟨rfl, rfl⟩ | ⟨rfl, rfl⟩
  · exact ⟨g, 0, rfl, lt_of_block h, _, 1, 1, by rw [cell_of_row _ _ _ _ _ _ h]; rfl, lst_one h1, Nat.le_refl _, fun h => by cases h⟩
  · exact ⟨g, 0, rfl, lt_of_block h, _, 1, 1, by rw [cell_of_row _ _ _ _ _ _ h]; rfl, lst_one h2, Nat.le_refl _, fun h => by cases h⟩
theorem uniq_awake : Nm.uniq [3, 1, 3] = [1, 3] := by rw [Nm.uniq_uq]; decide
theorem cov_awake : Nm.cov 2 [[1], [0]].flatten = true := by decide
theorem three {W : World} {g : Nat} {x y z : Int} (h : W.heap[g]? = some (.cells #[.int .i64 x, .int .i64 y, .int .i64 z] 3 (0, 0))) : Sl W (some ⟨g, 0, none⟩) 3 3 [x, y, z] := by
  refine ⟨⟨rfl, fun _ => ⟨g, 0, rfl, lt_of_block h, fun j u hu => ?_⟩⟩, Nat.le_refl _, fun h => by cases h⟩
  rw [cell_of_row _ _ _ _ _ _ h, Nat.zero_add]
  simpa [ci] using hu

set_option maxHeartbeats 1600000 in
set_option maxRecDepth 100000 in
theorem awake_any (w : World) : Calls Tryd.prog 6 #[] w fun e w' => e = .returned (.bool true) ∧ Below w.heap.size w w' := by
  obtain ⟨W1, hW1⟩ : ∃ W1, W1 = w.alloc (.cells #[.int .i64 3, .int .i64 1, .int .i64 3] 3) := ⟨_, rfl⟩
  have b1 : Below w.heap.size w W1 := by rw [hW1]; exact (Below.refl _ w).alloc (Nat.le_refl _) _
  have k1 : W1.heap[w.heap.size]? = some (.cells #[.int .i64 3, .int .i64 1, .int .i64 3] 3 (0, 0)) := by rw [hW1]; exact heap_new w _ _
  have hu := uniqI _ _ _ _ W1 (three k1) (by omega)
  rw [uniq_awake] at hu
  have HW1 := Lib.hid hW1
  have HB1 := Lib.hid b1
  have HU := Lib.hid hu
  clear hW1 b1 k1 hu
  go_enter Tryd.func6, Tryd.ntmps6
  go_wp2_with fail
  rw [← HW1.out]
  refine HU.out.mono ?_
  rintro _ W2 ⟨A, c, rfl, ho, b2⟩
  have hs := Sl.of_own ho
  obtain ⟨bb, off, e0, hb0, c0⟩ := hs.at_ (k := 0) (x := 1) rfl
  obtain ⟨bb', off', e1, hb1, c1⟩ := hs.at_ (k := 1) (x := 3) rfl
  subst e0
  injection e1 with e1
  injection e1 with e1 e2
  subst e1
  subst e2
  have B2 := Lib.hid (HB1.out.trans (b2.mono HB1.out.size))
  clear ho b2 hs hb0 hb1 HU
  rw [Nat.add_zero] at c0
  go_wp2_with fail
  refine (newS 3 (by omega) _).mono ?_
  rintro _ W3 ⟨s, b, rfl, h3, hs3, hb3, b3⟩
  have B3 := Lib.hid (B2.out.trans (b3.mono B2.out.size))
  clear h3 hs3 hb3 b3 c0 c1 B2
  obtain ⟨W4, hW4⟩ : ∃ W4, W4 = ((W3.alloc (.cells #[.int .i64 1] 3)).alloc (.cells #[.int .i64 0] 3)).alloc (.cells #[.slice (some ⟨W3.heap.size, 0, none⟩) 1 1, .slice (some ⟨W3.heap.size + 1, 0, none⟩) 1 1] 22) := ⟨_, rfl⟩
  have b4 : Below W3.heap.size W3 W4 := by rw [hW4]; exact (((Below.refl _ W3).alloc (Nat.le_refl _) _).alloc (by simp) _).alloc (by simp; omega) _
  have h41 : W4.heap[W3.heap.size]? = some (.cells #[.int .i64 1] 3 (0, 0)) := by rw [hW4, Below.heap_alloc _ _ _ (by simp; omega), Below.heap_alloc _ _ _ (by simp)]; exact heap_new W3 _ _
  have h42 : W4.heap[W3.heap.size + 1]? = some (.cells #[.int .i64 0] 3 (0, 0)) := by
    rw [hW4, Below.heap_alloc _ _ _ (by simp)]
    have := heap_new (W3.alloc (.cells #[.int .i64 1] 3)) #[.int .i64 0] 3
    rwa [show (W3.alloc (.cells #[.int .i64 1] 3)).heap.size = W3.heap.size + 1 from by simp] at this
  have h43 : W4.heap[W3.heap.size + 1 + 1]? = some (.cells #[.slice (some ⟨W3.heap.size, 0, none⟩) 1 1, .slice (some ⟨W3.heap.size + 1, 0, none⟩) 1 1] 22 (0, 0)) := by
    rw [hW4]
    have := heap_new ((W3.alloc (.cells #[.int .i64 1] 3)).alloc (.cells #[.int .i64 0] 3)) #[.slice (some ⟨W3.heap.size, 0, none⟩) 1 1, .slice (some ⟨W3.heap.size + 1, 0, none⟩) 1 1] 22
    rwa [show ((W3.alloc (.cells #[.int .i64 1] 3)).alloc (.cells #[.int .i64 0] 3)).heap.size = W3.heap.size + 1 + 1 from by simp] at this
  have HLs := Lib.hid (Ls.two h43 h41 h42)
  have B4 := Lib.hid (B3.out.trans (b4.mono B3.out.size))
  have HW4 := Lib.hid hW4
  clear hW4 b4 h41 h42 h43 B3
  go_wp2_with fail
  rw [← HW4.out]
  refine (valsL _ 2 2 _).mono ?_
  rintro _ W5 ⟨rfl, hw5⟩
  have b5 : Below W4.heap.size W4 W5 := by rw [hw5]; exact (Below.refl _ W4).alloc (Nat.le_refl _) _
  have q5 : W5.heap[W4.heap.size]? = some (.cells #[.slice (some ⟨W3.heap.size + 1 + 1, 0, none⟩) 2 2] 48 (0, 0)) := by rw [hw5]; exact heap_new W4 _ _
  have hcv := coversL 2 _ _ _ _ _ W5 (by omega) q5 (HLs.out.below b5) (by omega) (by simp)
  rw [cov_awake] at hcv
  have HCV := Lib.hid hcv
  have B5 := Lib.hid (B4.out.trans (b5.mono B4.out.size))
  clear hw5 b5 q5 hcv
  go_wp2_with fail
  refine HCV.out.mono ?_
  rintro _ W6 ⟨rfl, b6⟩
  have B6 := Lib.hid (B5.out.trans (b6.mono B5.out.size))
  clear b6 HCV
  go_wp2
  go_ret
  exact ⟨rfl, B6.out⟩
end Go.Proofs.YthjpjeflgnkgpaaDoor
