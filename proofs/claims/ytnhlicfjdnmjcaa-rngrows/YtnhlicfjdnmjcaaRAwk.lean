/-
  Layer 5 (rng): the document's examples hold ('awake' answers true).
-/
import Derived.Test.YtnhlicfjdnmjcaaRMake
namespace Go.Proofs.Ytnhlicfjdnmjcaa
open Go.RowKit

theorem iface_eql (w : World) (T : Nat) (v : Value) : (binOp .eql 29 (.iface T v) .nilIface).run Try.prog w = .ok (.bool false) w := by rfl
theorem iface_neq (w : World) (T : Nat) (v : Value) : (binOp .neq 29 (.iface T v) .nilIface).run Try.prog w = .ok (.bool true) w := by rfl
theorem mix_first : Rm.mixAt 0 0 = 16294208416658607535 := by decide +kernel
theorem lst_two (w : World) (a b : Int) : Lst (w.alloc (.cells #[.int .u64 a, .int .u64 b] 22)) (w.alloc (.cells #[.int .u64 a, .int .u64 b] 22)).heap.size (some ⟨w.heap.size, 0, none⟩) 2 ([a, b].map (Value.int .u64)) :=
  ⟨rfl, fun _ => ⟨w.heap.size, 0, rfl, by simp, fun j u hu => by rw [cell_of_row _ _ _ _ _ _ (heap_new w _ _)]; rw [Nat.zero_add]; simpa using hu⟩⟩
theorem awake_any (w : World) : Calls Try.prog 8 #[] w fun e w' => e = .returned (.bool true) ∧ Below w.heap.size w w' := by
  have q1 := iface_eql
  have q2 := iface_neq
  have HB := Lib.hid ((Below.refl w.heap.size w).alloc (Nat.le_refl _) (.cells #[.int .u64 7, .int .u64 9] 22))
  have hS := Lib.hid (script_new _ 2 2 [7, 9] _ (lst_two w 7 9) (fun h => by cases h) (by omega) (by intro x hx; simp at hx; omega))
  have hM := Lib.hid (fun w => mix_new 0 w (by omega) (by omega))
  go_enter Try.func8, Try.ntmps8
  go_wp2_with fail
  refine hS.out.mono ?_
  rintro _ w1 ⟨b, rfl, h1, b1⟩
  have HB1 := Lib.hid (HB.out.trans (b1.mono HB.out.size))
  have s1 := HB.out.size
  obtain ⟨m1, m2, m3⟩ := h1.meth
  have HD1 := Lib.hid (bas_draw h1)
  clear hS HB b1 h1
  go_wp2_with fail
  refine HD1.out.mono ?_
  rintro _ w2 ⟨rfl, h2, b2⟩
  have HB2 := Lib.hid (HB1.out.trans (b2.old HB1.out.size (by simp)))
  have HD2 := Lib.hid (bas_draw h2)
  clear HD1 HB1 h2 b2
  go_wp2_with fail
  refine HD2.out.mono ?_
  rintro _ w3 ⟨rfl, h3, b3⟩
  have HB3 := Lib.hid (HB2.out.trans (b3.old HB2.out.size (by simp)))
  have HD3 := Lib.hid (bas_draw h3)
  clear HD2 HB2 h3 b3
  go_wp2_with fail
  refine HD3.out.mono ?_
  rintro _ w4 ⟨rfl, h4, b4⟩
  have HB4 := Lib.hid (HB3.out.trans (b4.old HB3.out.size (by simp)))
  clear HD3 HB3 h4 b4
  have v1 : lstF [7, 9] 0 = 7 := rfl
  have v2 : Rm.dr (lstF [7, 9]) 1 0 = 9 := rfl
  have v3 : Rm.dr (Rm.dr (lstF [7, 9]) 1) 1 0 = 0 := rfl
  rw [v1, v2, v3]
  clear v1 v2 v3 m1 m2 m3
  go_wp2_with fail
  refine (hM.out _).mono ?_
  rintro _ w5 ⟨b', rfl, h5, b5⟩
  have HB5 := Lib.hid (HB4.out.trans (b5.mono HB4.out.size))
  obtain ⟨m1, m2, m3⟩ := h5.meth
  have HD5 := Lib.hid (bas_draw h5)
  have s4 := HB4.out.size
  clear HB4 h5 b5 hM
  go_wp2_with fail
  refine HD5.out.mono ?_
  rintro _ w6 ⟨rfl, h6, b6⟩
  have HB6 := Lib.hid (HB5.out.trans (b6.old HB5.out.size (by omega)))
  rw [mix_first]
  clear HD5 HB5 h6 b6
  go_wp2
  go_ret
  exact ⟨rfl, HB6.out⟩
end Go.Proofs.Ytnhlicfjdnmjcaa
