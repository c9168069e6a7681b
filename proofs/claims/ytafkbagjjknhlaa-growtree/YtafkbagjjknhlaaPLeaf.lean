/-
  Layer 11 (plane): Margin, Side, Same, Check, Between and Flat, of the program and of the document's own answer, by contracts.
-/
import Derived.Test.YtafkbagjjknhlaaVAll
import Derived.Test.YtafkbagjjknhlaaPMath
import Derived.StillTailTactics
import Derived.Deep.RegionHeld3
import Derived.Deep.RegionLaw
import Derived.Laws.Rows
namespace Go.Proofs.Ytafkbagjjknhlaa
open Go.RowKit

/-- the cells of a plane in a block -/
def Pbx (w : World) (g : Nat) (A : Option Addr) (n c : Nat) (o : Int) : Prop := w.heap[g]? = some (.cells #[.slice A n c, .int .i64 o] 57 (0, 0))
section
variable {w w' : World} {g : Nat} {A : Option Addr} {n c : Nat} {o : Int}
theorem Pbx.lt (h : Pbx w g A n c o) : g < w.heap.size := lt_of_block h
theorem Pbx.below (h : Pbx w g A n c o) (hb : Below w.heap.size w w') : Pbx w' g A n c o := by unfold Pbx; rw [hb.block g h.lt]; exact h
theorem Pbx.drew (h : Pbx w g A n c o) : Pbx w.drew g A n c o := h
theorem Pbx.drewN (h : Pbx w g A n c o) (d : Nat) : Pbx (w.drewN d) g A n c o := by
  induction d with
  | zero => exact h
  | succ d ih => exact ih.drew
theorem Pbx.c0 (h : Pbx w g A n c o) : w.cell? ⟨g, 0, none⟩ = some (.slice A n c) := by rw [cell_of_row _ _ _ _ _ _ h]; rfl
theorem Pbx.c1 (h : Pbx w g A n c o) : w.cell? ⟨g, 1, none⟩ = some (.int .i64 o) := by rw [cell_of_row _ _ _ _ _ _ h]; rfl
theorem Pbx.new (w : World) (A : Option Addr) (n c : Nat) (o : Int) : Pbx (w.alloc (.cells #[.slice A n c, .int .i64 o] 57)) w.heap.size A n c o := heap_alloc_new w _
end

theorem marg_any (A B : Option Addr) (n m c d : Nat) (o : Int) (l r : List Int) (w : World) (h : Vec w A n l) (h' : Vec w B m r) (hn : n ≤ 10000) (hm : m ≤ 10000) :
    Calls Try.prog 68 #[.agg #[.slice A n c, .int .i64 o], .slice B m d] w fun e w' => e = .returned (.int .i64 (Pm.mar l o r)) ∧ Below w.heap.size w w' := by
  obtain ⟨W, hW⟩ : ∃ W, W = w.alloc (.cells #[.slice A n c, .int .i64 o] 57) := ⟨_, rfl⟩
  have hb : Below w.heap.size w W := by rw [hW]; exact (Below.refl _ w).alloc (Nat.le_refl _) _
  have hp : Pbx W w.heap.size A n c o := by rw [hW]; exact Pbx.new w A n c o
  have k0 := hp.c0
  have k1 := hp.c1
  have HB := Lib.hid hb
  have HD := Lib.hid (fun q => quietly2 (dot_q A B n m c d l r (W.drewN q) ((h.below hb).drew q) ((h'.below hb).drew q) hn hm))
  have HW := Lib.hid hW
  have e := Lib.hid (Pm.mar_two l o r)
  clear h h' hb hW hp
  go_enter Try.func68, Try.ntmps68
  go_wp2
  rw [← HW.out]
  clear HW
  go_quiet ((go_at_call 67; exact HD.out _))
  go_wp2
  go_ret
  exact ⟨ret_int e.out, vbelow_drewN HB.out _⟩
theorem refMarg_any (A B : Option Addr) (n m c d : Nat) (o : Int) (l r : List Int) (w : World) (h : Vec w A n l) (h' : Vec w B m r) (hn : n ≤ 10000) (hm : m ≤ 10000) :
    Calls Try.prog 63 #[.agg #[.slice A n c, .int .i64 o], .slice B m d] w fun e w' => e = .returned (.int .i64 (Pm.mar l o r)) ∧ Below w.heap.size w w' := by
  obtain ⟨W, hW⟩ : ∃ W, W = w.alloc (.cells #[.slice A n c, .int .i64 o] 57) := ⟨_, rfl⟩
  have hb : Below w.heap.size w W := by rw [hW]; exact (Below.refl _ w).alloc (Nat.le_refl _) _
  have hp : Pbx W w.heap.size A n c o := by rw [hW]; exact Pbx.new w A n c o
  have k0 := hp.c0
  have HP := Lib.hid hp
  have HB := Lib.hid hb
  have HD := Lib.hid (refDot_any A B n m c d l r W (h.below hb) (h'.below hb) hn hm)
  have HW := Lib.hid hW
  have e := Lib.hid (Pm.mar_sum l o r)
  clear h h' hb hW hp
  go_enter Try.func63, Try.ntmps63
  go_wp2_with fail
  rw [← HW.out]
  refine HD.out.mono ?_
  rintro _ w1 ⟨rfl, hb1⟩
  have k1 := (HP.out.below hb1).c1
  have HB1 := Lib.hid (HB.out.trans (hb1.mono HB.out.size))
  clear hb1 HP HB HD HW
  go_wp2
  go_ret
  exact ⟨ret_int e.out, HB1.out⟩
theorem side_any (A B : Option Addr) (n m c d : Nat) (o : Int) (l r : List Int) (w : World) (h : Vec w A n l) (h' : Vec w B m r) (hn : n ≤ 10000) (hm : m ≤ 10000) :
    Calls Try.prog 58 #[.agg #[.slice A n c, .int .i64 o], .slice B m d] w fun e w' => e = .returned (.bool (decide (0 ≤ Pm.mar l o r))) ∧ Below w.heap.size w w' := by
  obtain ⟨W, hW⟩ : ∃ W, W = w.alloc (.cells #[.slice A n c, .int .i64 o] 57) := ⟨_, rfl⟩
  have hb : Below w.heap.size w W := by rw [hW]; exact (Below.refl _ w).alloc (Nat.le_refl _) _
  have hp : Pbx W w.heap.size A n c o := by rw [hW]; exact Pbx.new w A n c o
  have k0 := hp.c0
  have k1 := hp.c1
  have HB := Lib.hid hb
  have HD := Lib.hid (marg_any A B n m c d o l r W (h.below hb) (h'.below hb) hn hm)
  have HW := Lib.hid hW
  clear h h' hb hW hp
  go_enter Try.func58, Try.ntmps58
  go_wp2_with fail
  rw [← HW.out]
  refine HD.out.mono ?_
  rintro _ w1 ⟨rfl, hb1⟩
  have HB1 := Lib.hid (HB.out.trans (hb1.mono HB.out.size))
  obtain ⟨M, hM⟩ : ∃ M, M = Pm.mar l o r := ⟨_, rfl⟩
  rw [← hM]
  have HM := Lib.hid hM
  clear hb1 HB HD HW hM
  go_wp2
  go_ret
  exact ⟨ret_bool (by rw [HM.out]), HB1.out⟩
theorem refSameP_any (A B : Option Addr) (n m c d : Nat) (o p : Int) (l r : List Int) (w : World) (h : Vec w A n l) (h' : Vec w B m r) (hn : n ≤ 10000) (hm : m ≤ 10000) :
    Calls Try.prog 29 #[.agg #[.slice A n c, .int .i64 o], .agg #[.slice B m d, .int .i64 p]] w fun e w' => e = .returned (.bool (decide (o = p ∧ l = r))) ∧ Below w.heap.size w w' := by
  obtain ⟨W, hW⟩ : ∃ W, W = (w.alloc (.cells #[.slice A n c, .int .i64 o] 57)).alloc (.cells #[.slice B m d, .int .i64 p] 57) := ⟨_, rfl⟩
  have hb : Below w.heap.size w W := by rw [hW]; exact ((Below.refl _ w).alloc (Nat.le_refl _) _).alloc (by simp) _
  have hp : Pbx W w.heap.size A n c o := by rw [hW]; exact (Pbx.new w A n c o).below ((Below.refl _ _).alloc (Nat.le_refl _) _)
  have hq : Pbx W (w.heap.size + 1) B m d p := by rw [hW]; have := Pbx.new (w.alloc (.cells #[.slice A n c, .int .i64 o] 57)) B m d p; rwa [show (w.alloc (.cells #[.slice A n c, .int .i64 o] 57)).heap.size = w.heap.size + 1 from by simp] at this
  have k0 := hp.c0
  have k1 := hp.c1
  have k2 := hq.c0
  have k3 := hq.c1
  have HB := Lib.hid hb
  have HD := Lib.hid (refSame_any A B n m c d l r W (h.below hb) (h'.below hb) hn hm)
  have HW := Lib.hid hW
  clear h h' hb hW hp hq
  by_cases q : o = p
  · subst q
    go_enter Try.func29, Try.ntmps29
    go_wp2_with fail
    rw [← HW.out]
    refine HD.out.mono ?_
    rintro _ w1 ⟨rfl, hb1⟩
    have HB1 := Lib.hid (HB.out.trans (hb1.mono HB.out.size))
    obtain ⟨M, hM⟩ : ∃ M, M = decide (l = r) := ⟨_, rfl⟩
    rw [← hM]
    have HM := Lib.hid hM
    clear hb1 HB HD HW hM
    go_wp2
    go_ret
    exact ⟨ret_bool (by simp [HM.out]), HB1.out⟩
  · have q' : (o == p) = false := by simpa using q
    have HQ := Lib.hid q
    clear q HD
    go_enter Try.func29, Try.ntmps29
    go_wp2
    rw [← HW.out]
    go_ret
    exact ⟨ret_bool (by simp [HQ.out]), HB.out⟩
end Go.Proofs.Ytafkbagjjknhlaa
