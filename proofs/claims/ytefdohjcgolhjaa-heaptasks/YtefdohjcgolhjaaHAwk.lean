/-
  Layer 7 (heap): the document's example holds ('awake' answers true).
-/
import Derived.Test.YtefdohjcgolhjaaHIOps
namespace Go.Proofs.Ytefdohjcgolhjaa
open Go.RowKit

theorem ilt_eq : ∀ a b : Int, ilt a b = false → ilt b a = false → a = b := fun a b h1 h2 => by simp [ilt] at *; omega
theorem heap_new (w : World) (cs : Array Value) (t : TypeId) : (w.alloc (.cells cs t)).heap[w.heap.size]? = some (.cells cs t (0, 0)) := heap_alloc_new w _
theorem lst_three (w : World) (a b c : Int) : Lst (w.alloc (.cells #[.int .i64 a, .int .i64 b, .int .i64 c] 3)) (w.alloc (.cells #[.int .i64 a, .int .i64 b, .int .i64 c] 3)).heap.size (some ⟨w.heap.size, 0, none⟩) 3 (ci [a, b, c]) :=
  ⟨rfl, fun _ => ⟨w.heap.size, 0, rfl, by simp, fun j u hu => by rw [cell_of_row _ _ _ _ _ _ (heap_new w _ _)]; rw [Nat.zero_add]; simpa [ci] using hu⟩⟩
theorem awake_any (w : World) : Calls Try.prog 8 #[] w fun e w' => e = .returned (.bool true) ∧ Below w.heap.size w w' := by
  have HB := Lib.hid ((Below.refl w.heap.size w).alloc (Nat.le_refl _) (.cells #[.int .i64 3, .int .i64 1, .int .i64 2] 3))
  have hN := Lib.hid (newI _ 3 3 [3, 1, 2] _ (lst_three w 3 1 2) (fun h => by cases h) (by omega))
  go_enter Try.func8, Try.ntmps8
  go_wp2_with fail
  refine hN.out.mono ?_
  rintro _ w1 ⟨S, B, rfl, h1, b1, hS⟩
  have HB1 := Lib.hid (HB.out.trans (b1.mono HB.out.size))
  have HS := Lib.hid (show ∀ k, S k → w.heap.size ≤ k from fun k hk => Nat.le_trans HB.out.size (hS k hk))
  have HP := Lib.hid (popI S B _ w1 h1 (by simp))
  clear hN HB b1 h1 hS
  go_wp2_with fail
  refine HP.out.mono ?_
  rintro _ w2 ⟨x, ok, l', rfl, po, h2, k2⟩
  obtain ⟨rfl, rfl, pm⟩ := po.unique ilt_eq (show Hm.Po ilt 0 [3, 1, 2] 1 true [3, 2] from .inr ⟨rfl, List.Perm.swap _ _ _, by decide⟩)
  have h2 := h2.perm pm
  have HB2 := Lib.hid (HB1.out.trans (k2.old HB1.out.size HS.out))
  have HPK := Lib.hid (peekI S B _ w2 h2)
  have HLN := Lib.hid (lenI S B _ w2 h2)
  clear po h2 k2 pm HP HB1
  go_wp2_with fail
  refine HPK.out.mono ?_
  rintro _ w3 ⟨x, ok, rfl, pk, rfl⟩
  obtain ⟨rfl, rfl⟩ := pk.unique ilt_eq (show Hm.Pk ilt 0 [3, 2] 2 true from .inr ⟨rfl, by simp, by decide⟩)
  clear pk HPK
  go_wp2_with fail
  refine HLN.out.mono ?_
  rintro _ w4 ⟨rfl, rfl⟩
  go_wp2
  go_ret
  exact ⟨rfl, HB2.out⟩
end Go.Proofs.Ytefdohjcgolhjaa
