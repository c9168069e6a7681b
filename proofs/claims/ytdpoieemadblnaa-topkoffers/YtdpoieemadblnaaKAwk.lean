/-
  Layer 8 (topk): the statements' awake, by contract.
-/
import Derived.Test.YtdpoieemadblnaaKOf
namespace Go.Proofs.Ytdpoieemadblnaa
open Go.RowKit

theorem awake_any (w : World) : Calls Try.prog 8 #[] w fun e w' => e = .returned (.bool true) ∧ Below w.heap.size w w' := by
  have e0 : Km.fst Om.near 2 [(3, 0), (1, 0), (2, 0)] = [(1, 0), (2, 0)] := by simp [Km.fst, Om.isort, Om.merge, Om.near]
  obtain ⟨W1, hW1⟩ : ∃ W1, W1 = w.alloc (.cells #[.int .i64 3, .int .i64 0, .int .i64 1, .int .i64 0, .int .i64 2, .int .i64 0] 42) := ⟨_, rfl⟩
  have b1 : Below w.heap.size w W1 := by rw [hW1]; exact (Below.refl _ w).alloc (Nat.le_refl _) _
  have k1 : BlkE 42 W1 w.heap.size [(3, 0), (1, 0), (2, 0)] := by rw [hW1]; exact heap_alloc_new w _
  have HW1 := Lib.hid hW1
  have HB1 := Lib.hid b1
  have HK1 := Lib.hid k1
  have HE := Lib.hid e0
  clear hW1 b1 k1 e0
  go_enter Try.func8, Try.ntmps8
  go_wp2_with fail
  rw [← HW1.out]
  refine (valsR _ _ _ _).mono ?_
  rintro _ W2 ⟨rfl, hw2⟩
  have b2 : Below W1.heap.size W1 W2 := by rw [hw2]; exact (Below.refl _ W1).alloc (Nat.le_refl _) _
  have q2 : W2.heap[W1.heap.size]? = some (.cells #[.slice (some ⟨w.heap.size, 0, none⟩) 3 3] 39 (0, 0)) := by rw [hw2]; exact heap_alloc_new W1 _
  have HOF := Lib.hid (ofR 2 _ _ _ _ [(3, 0), (1, 0), (2, 0)] W2 q2 ((HK1.out.vec rfl).below b2) (by omega))
  rw [HE.out] at HOF
  have HB2 := Lib.hid (HB1.out.trans (b2.mono HB1.out.size))
  clear hw2 b2 q2
  go_wp2_with fail
  refine HOF.out.mono ?_
  rintro _ W3 ⟨g, rfl, hg, hbl, hb3⟩
  have c1 := BlkE.fst (i := 0) (x := (1, 0)) hbl rfl
  have c2 := BlkE.fst (i := 1) (x := (2, 0)) hbl rfl
  simp only [Nat.zero_mul, Nat.one_mul] at c1 c2
  have HB3 := Lib.hid (HB2.out.trans (hb3.mono HB2.out.size))
  clear hbl hb3 HOF
  go_wp2
  go_ret
  exact ⟨rfl, HB3.out⟩
end Go.Proofs.Ytdpoieemadblnaa
