/-
  Layer 6 (stream): the document's example holds ('awake' answers true).
-/
import Derived.Test.YtggbclkinndpnaaMOf
namespace Go.Proofs.Ytggbclkinndpnaa
open Go.RowKit

theorem iface_eql (w : World) (T : Nat) (v : Value) : (binOp .eql 28 (.iface T v) .nilIface).run Try.prog w = .ok (.bool false) w := by rfl
theorem iface_neq (w : World) (T : Nat) (v : Value) : (binOp .neq 28 (.iface T v) .nilIface).run Try.prog w = .ok (.bool true) w := by rfl
theorem lst_five (w : World) (a b c d e : Int) : Lst (w.alloc (.cells #[.int .u64 a, .int .u64 b, .int .u64 c, .int .u64 d, .int .u64 e] 22)) (w.alloc (.cells #[.int .u64 a, .int .u64 b, .int .u64 c, .int .u64 d, .int .u64 e] 22)).heap.size (some ⟨w.heap.size, 0, none⟩) 5 ([a, b, c, d, e].map (Value.int .u64)) :=
  ⟨rfl, fun _ => ⟨w.heap.size, 0, rfl, by simp, fun j u hu => by rw [cell_of_row _ _ _ _ _ _ (heap_new w _ _)]; rw [Nat.zero_add]; simpa using hu⟩⟩
theorem awake_any (w : World) : Calls Try.prog 7 #[] w fun e w' => e = .returned (.bool true) ∧ Below w.heap.size w w' := by
  have v1 : Sm.strF true 0 [1, 2, 3, 4, 5] 1 2 0 = 2 := rfl
  have v2 : Rm.dr (Sm.strF true 0 [1, 2, 3, 4, 5] 1 2) 1 0 = 4 := rfl
  have v3 : Rm.dr (Rm.dr (Sm.strF true 0 [1, 2, 3, 4, 5] 1 2) 1) 1 0 = 0 := rfl
  have q1 := iface_eql
  have q2 := iface_neq
  have HB := Lib.hid ((Below.refl w.heap.size w).alloc (Nat.le_refl _) (.cells #[.int .u64 1, .int .u64 2, .int .u64 3, .int .u64 4, .int .u64 5] 22))
  have hS := Lib.hid (strOf_any true 0 _ 5 5 [1, 2, 3, 4, 5] 1 2 _ ⟨by omega, by omega, lst_five w 1 2 3 4 5, (fun h => by cases h), by intro x hx; simp at hx; omega⟩ (by omega) (by omega))
  obtain ⟨T, hT⟩ : ∃ T, T = strT true 1 2 := ⟨_, rfl⟩
  rw [← hT] at hS
  clear hT
  go_enter Try.func7, Try.ntmps7
  go_wp2_with fail
  refine hS.out.mono ?_
  rintro _ w1 ⟨b, rfl, h1, b1⟩
  have HB1 := Lib.hid (HB.out.trans (b1.mono HB.out.size))
  have s1 := HB.out.size
  obtain ⟨m1, m2, m3⟩ := h1.meth
  have K1 := bas_draw h1
  rw [v1] at K1
  have HD1 := Lib.hid K1
  clear hS HB b1 h1 K1
  go_wp2_with fail
  refine HD1.out.mono ?_
  rintro _ w2 ⟨rfl, h2, b2⟩
  have HB2 := Lib.hid (HB1.out.trans (b2.old HB1.out.size (by simp)))
  have K2 := bas_draw h2
  rw [v2] at K2
  have HD2 := Lib.hid K2
  clear HD1 HB1 h2 b2 K2
  go_wp2_with fail
  refine HD2.out.mono ?_
  rintro _ w3 ⟨rfl, h3, b3⟩
  have HB3 := Lib.hid (HB2.out.trans (b3.old HB2.out.size (by simp)))
  have K3 := bas_draw h3
  rw [v3] at K3
  have HD3 := Lib.hid K3
  clear HD2 HB2 h3 b3 K3
  go_wp2_with fail
  refine HD3.out.mono ?_
  rintro _ w4 ⟨rfl, h4, b4⟩
  have HB4 := Lib.hid (HB3.out.trans (b4.old HB3.out.size (by simp)))
  clear HD3 HB3 h4 b4
  clear m1 m2 m3
  go_wp2
  go_ret
  exact ⟨rfl, HB4.out⟩
end Go.Proofs.Ytggbclkinndpnaa
