/-
  Layer 11 (plane): the document's flat plane, and the document's example, by contracts.
-/
import Derived.Test.YtafkbagjjknhlaaPMak
namespace Go.Proofs.Ytafkbagjjknhlaa
open Go.RowKit

/-- noughts, so many, in the plane that is being made at w.heap.size + 1 -/
structure Flt (w wr : World) (k : Nat) : Prop where
  bel : Below w.heap.size w wr
  res : Pbx wr w.heap.size none 0 0 0
  row : ∃ A c, Pbx wr (w.heap.size + 1) A k c 0 ∧ wr.ownsRow (w.heap.size + 2) 21 1 (.slice A k c) k ((Pm.flat k).map (Value.int .i32))
set_option maxRecDepth 100000 in
theorem refFlat_any (n : Nat) (w : World) (hn : n ≤ 1024) :
    Calls Try.prog 52 #[.int .i64 (n : Int)] w fun e w' => ∃ A c, e = .returned (.agg #[.slice A n c, .int .i64 0]) ∧ Vec w' A n (Pm.flat n) ∧ Below w.heap.size w w' := by
  obtain ⟨i0, hi, hz0, hz1, hz2⟩ := info_parts Try.infoI32
  obtain ⟨W, hW⟩ : ∃ W, W = (w.alloc (.cells #[.slice none 0 0, .int .i64 0] 57)).alloc (.cells #[.slice none 0 0, .int .i64 0] 57) := ⟨_, rfl⟩
  have HF : Hid (Flt w W 0) := by
    refine ⟨by rw [hW]; exact ((Below.refl _ w).alloc (Nat.le_refl _) _).alloc (by simp) _, by rw [hW]; exact (Pbx.new w none 0 0 0).below ((Below.refl _ _).alloc (Nat.le_refl _) _), none, 0, ?_, by simpa [Pm.flat] using World.ownsRow_nil _ _ _ _⟩
    rw [hW]
    have := Pbx.new (w.alloc (.cells #[.slice none 0 0, .int .i64 0] 57)) none 0 0 0
    rwa [show (w.alloc (.cells #[.slice none 0 0, .int .i64 0] 57)).heap.size = w.heap.size + 1 from by simp] at this
  have HW := Lib.hid hW
  clear hW
  have HL : Hid (∀ k, (Pm.flat k).length = k) := Lib.hid fun k => Pm.flat_length k
  go_enter Try.func52, Try.ntmps52
  go_wp2
  rw [← HW.out]
  clear HW
  go_loopw [4] (fun i wr => ∃ k : Nat, k ≤ n ∧ i = .int .i64 k ∧ Flt w wr k) (fun i _ => n - (intOf i).toNat)
  case atStart => exact ⟨0, Nat.zero_le _, rfl, HF.out⟩
  case round =>
    obtain ⟨k, hk, rfl, hrel⟩ := hrel
    obtain ⟨hbel, hres, A, c, hp, hown⟩ := hrel
    have hs0 := hp.lt
    have cp := (hp.below ((Below.refl _ wr).alloc (Nat.le_refl _) (.cells #[.int .i32 0] 21))).c0
    have cp0 := hp.c0
    by_cases hlt : k < n
    · have HB := Lib.hid hbel
      have HR := Lib.hid hres
      have HP := Lib.hid hp
      have HO := Lib.hid hown
      clear hbel hres hp hown
      go_wp2_with (at_builtin; refine wpList_append_own _ rfl (.tmp 12) (.tmp 13) 55 rfl (w.heap.size + 2) 21 i0 (.int .i32 0) 1 4 Try.underlying55 hi hz0 hz1 hz2 rfl (by decide) (.slice A k c) k _ rfl (HO.out.alloc _) ⟨wr.heap.size, 0, none⟩ 1 1 [.int .i32 0] rfl rfl (cell_one_new _ _ _) (by intro u hu; simp at hu; subst hu; rfl) (by unfold maxLen; omega) (by omega) (by simp; omega) ?_; intro v' w1 hown' hgrow _; obtain ⟨A', c', hv'⟩ := vown_form hown'; subst hv'; have HG := Lib.hid hgrow; have HO' := Lib.hid hown'; have hb2 := ((Below.refl (w.heap.size + 2) wr).alloc (by omega) (.cells #[.int .i32 0] 21)).grown hgrow (by simp; omega) (vownBlock_ge HO.out); have hp1 : Pbx w1 (w.heap.size + 1) A k c 0 := (hb2.block (w.heap.size + 1) (by omega)).trans HP.out; have hr1 : Pbx w1 w.heap.size none 0 0 0 := (hb2.block w.heap.size (by omega)).trans HR.out; have cp1 := hp1.c0; have f1 := frozen_of_row w1 (w.heap.size + 1) 0 _ _ hp1; have HP1 := Lib.hid hp1; have HR1 := Lib.hid hr1; have HB1 := Lib.hid (HB.out.trans (hb2.mono (by omega))); clear hown' hgrow hp1 hr1 hb2 cp cp0)
      refine ⟨⟨k + 1, by omega, by go_num, ?_⟩, by simp [intOf]; omega⟩
      have hrow : Pbx (w1.setCell ⟨w.heap.size + 1, 0, none⟩ (.slice A' (k + 1) c')) (w.heap.size + 1) A' (k + 1) c' 0 := by
        unfold Pbx; rw [heap_setCell_same _ _ _ _ _ _ HP1.out]; rfl
      have hres' : Pbx (w1.setCell ⟨w.heap.size + 1, 0, none⟩ (.slice A' (k + 1) c')) w.heap.size none 0 0 0 := by
        unfold Pbx; rw [heap_setCell_other _ _ _ _ (by show w.heap.size ≠ w.heap.size + 1; omega)]; exact HR1.out
      refine ⟨HB1.out.setCell (by show w.heap.size ≤ w.heap.size + 1; omega) _, hres', A', c', hrow, ?_⟩
      have h2 := ownsRow_setCell_below HO'.out (a := ⟨w.heap.size + 1, 0, none⟩) (by show w.heap.size + 1 < w.heap.size + 2; omega) (.slice A' (k + 1) c')
      rw [Pm.flat_succ, List.map_append]
      exact h2
    · obtain rfl : k = n := by omega
      have hv : Vec wr A k (Pm.flat k) := ⟨Lst.of_own hown, Pm.flat_in k⟩
      have HV := Lib.hid hv
      have HB := Lib.hid hbel
      have HR := Lib.hid hres
      have HP := Lib.hid hp
      have cp1 := hp.c1
      have r0 := hres.c0
      have r1 := hres.c1
      have f0 := frozen_of_row wr w.heap.size 0 _ _ hres
      have f1 := frozen_of_row wr w.heap.size 1 _ _ hres
      clear hown hbel hres hp hv cp
      go_wp2
      obtain ⟨W2, hW2⟩ : ∃ W2, W2 = (wr.setCell ⟨w.heap.size, 0, none⟩ (.slice A k c)).setCell ⟨w.heap.size, 1, none⟩ (.int .i64 0) := ⟨_, rfl⟩
      rw [← hW2]
      have hrow : Pbx W2 w.heap.size A k c 0 := by
        unfold Pbx; rw [hW2, heap_setCell_same _ _ _ _ _ _ (heap_setCell_same _ _ _ _ _ _ HR.out)]; rfl
      have hv : Vec W2 A k (Pm.flat k) := by rw [hW2]; exact HV.out.off_plane HR.out _ _
      have hb : Below w.heap.size w W2 := by rw [hW2]; exact (HB.out.setCell (Nat.le_refl _) _).setCell (Nat.le_refl _) _
      refine bodyPost_ret (v := .agg #[.slice A k c, .int .i64 0]) (results_cell_row (p := 2) Try.results52 _ _ w.heap.size 57 _ (0, 0) _ rfl hrow Try.underlying57 rfl Try.sizePlane) rfl ?_
      exact ⟨A, c, rfl, hv, hb⟩

/-- two vectors of two places, made one behind the other -/
theorem fst_new (w : World) (x y : Int) (hx : -2147483648 ≤ x ∧ x ≤ 2147483647) (hy : -2147483648 ≤ y ∧ y ≤ 2147483647) : Vec (w.alloc (.cells #[.int .i32 x, .int .i32 y] 21)) (some ⟨w.heap.size, 0, none⟩) 2 [x, y] := by
  have h1 : Blk (w.alloc (.cells #[.int .i32 x, .int .i32 y] 21)) w.heap.size [x, y] := heap_alloc_new w _
  exact h1.vec rfl (by intro z hz; simp at hz; rcases hz with rfl | rfl; exact hx; exact hy)
theorem both_new (w : World) (a b x y : Int) (ha : -2147483648 ≤ a ∧ a ≤ 2147483647) (hb : -2147483648 ≤ b ∧ b ≤ 2147483647) (hx : -2147483648 ≤ x ∧ x ≤ 2147483647) (hy : -2147483648 ≤ y ∧ y ≤ 2147483647) :
    Vec ((w.alloc (.cells #[.int .i32 a, .int .i32 b] 21)).alloc (.cells #[.int .i32 x, .int .i32 y] 21)) (some ⟨w.heap.size, 0, none⟩) 2 [a, b] ∧
    Vec ((w.alloc (.cells #[.int .i32 a, .int .i32 b] 21)).alloc (.cells #[.int .i32 x, .int .i32 y] 21)) (some ⟨w.heap.size + 1, 0, none⟩) 2 [x, y] ∧
    Below w.heap.size w ((w.alloc (.cells #[.int .i32 a, .int .i32 b] 21)).alloc (.cells #[.int .i32 x, .int .i32 y] 21)) := by
  have h2 := fst_new (w.alloc (.cells #[.int .i32 a, .int .i32 b] 21)) x y hx hy
  rw [show (w.alloc (.cells #[.int .i32 a, .int .i32 b] 21)).heap.size = w.heap.size + 1 from by simp] at h2
  exact ⟨(fst_new w a b ha hb).below ((Below.refl _ _).alloc (Nat.le_refl _) _), h2, ((Below.refl _ w).alloc (Nat.le_refl _) _).alloc (by simp) _⟩
theorem ex_less : Vm.less [3, 0] [1, 0] = [2, 0] := by decide +kernel
theorem ex_off : Pm.off [3, 0] [1, 0] = 8 := by decide +kernel
theorem ex_mar : Pm.mar [2, 0] 8 [3, 0] = 4 := by decide +kernel
theorem ex_mar' : Pm.mar [2, 0] 8 [1, 0] = -4 := by decide +kernel
end Go.Proofs.Ytafkbagjjknhlaa
