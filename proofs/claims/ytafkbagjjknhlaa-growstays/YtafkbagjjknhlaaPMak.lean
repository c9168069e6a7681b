/-
  Layer 11 (plane): Between and Flat, of the program and of the document's own answer, by contracts.
-/
import Derived.Test.YtafkbagjjknhlaaPLeaf
namespace Go.Proofs.Ytafkbagjjknhlaa
open Go.RowKit

theorem less_len {l r : List Int} {n m : Nat} (h : l.length = n) (h' : r.length = m) : (Vm.less l r).length = min n m := by rw [Vm.less_length]; unfold Vm.both; rw [h, h']
theorem Try.sizePlane : (Try.prog.info? 57).map (·.size) = some 2 := by kernel_rfl
set_option maxRecDepth 100000 in
theorem betw_any (A B : Option Addr) (n m c d : Nat) (l r : List Int) (w : World) (h : Vec w A n l) (h' : Vec w B m r) (hn : n ≤ 10000) (hm : m ≤ 10000) :
    Calls Try.prog 55 #[.slice A n c, .slice B m d] w fun e w' => ∃ g, e = .returned (.agg #[.slice (some ⟨g, 0, none⟩) (min n m) (min n m), .int .i64 (Pm.off l r)]) ∧ w.heap.size ≤ g ∧ Blk w' g (Vm.less l r) ∧ Below w.heap.size w w' := by
  obtain ⟨W, hW⟩ : ∃ W, W = w.alloc (.cells #[.slice none 0 0, .int .i64 0] 57) := ⟨_, rfl⟩
  have hb : Below w.heap.size w W := by rw [hW]; exact (Below.refl _ w).alloc (Nat.le_refl _) _
  have hs : W.heap.size = w.heap.size + 1 := by rw [hW]; simp
  have hp : Pbx W w.heap.size none 0 0 0 := by rw [hW]; exact Pbx.new w none 0 0 0
  have HP := Lib.hid hp
  have HB := Lib.hid hb
  have HS := Lib.hid hs
  have V := Lib.hid (h.below hb)
  have V' := Lib.hid (h'.below hb)
  have HL := Lib.hid (less_len h.length h'.length)
  have HW := Lib.hid hW
  have e := Lib.hid (Pm.off_sum l r)
  clear h h' hb hW hp hs
  go_enter Try.func55, Try.ntmps55
  go_wp2_with fail
  rw [← HW.out]
  clear HW
  refine (vless_any A B n m c d l r W V.out V'.out hn hm).mono ?_
  rintro _ w1 ⟨g, rfl, hg, hk, hb1⟩
  obtain ⟨N, hN⟩ : ∃ N, N = min n m := ⟨_, rfl⟩
  have hn' : N ≤ 10000 := by omega
  rw [← hN]
  have HN := Lib.hid hN
  have HV := Lib.hid (hk.vec (n := N) (by rw [HL.out, hN]) (Vm.less_in l r))
  have HK := Lib.hid hk
  have HG := Lib.hid hg
  have V1 := Lib.hid (V.out.below hb1)
  have V1' := Lib.hid (V'.out.below hb1)
  have P1 := Lib.hid (HP.out.below hb1)
  have HB1 := Lib.hid (HB.out.trans (hb1.mono HB.out.size))
  clear hN hg hk hb1 V V' HP HB HL
  go_wp2_with fail
  refine (dot_any _ _ _ _ _ _ _ _ _ HV.out V1.out (by omega) (by omega)).mono ?_
  rintro _ w2 ⟨rfl, hb2⟩
  have V2 := Lib.hid (HV.out.below hb2)
  have V2' := Lib.hid (V1'.out.below hb2)
  have P2 := Lib.hid (P1.out.below hb2)
  have K2 := Lib.hid (HK.out.below hb2)
  have HB2 := Lib.hid (HB1.out.trans (hb2.mono HB1.out.size))
  clear hb2 HV V1 V1' P1 HK HB1
  go_wp2_with fail
  refine (dot_any _ _ _ _ _ _ _ _ _ V2.out V2'.out (by omega) (by omega)).mono ?_
  rintro _ w3 ⟨rfl, hb3⟩
  have K3 := Lib.hid (K2.out.below hb3)
  have hP3 := P2.out.below hb3
  have HB3 := Lib.hid (HB2.out.trans (hb3.mono HB2.out.size))
  clear hb3 V2 V2' P2 K2 HB2
  have k0 := hP3.c0
  have k1 := hP3.c1
  have f0 := frozen_of_row w3 w.heap.size 0 _ _ hP3
  have f1 := frozen_of_row w3 w.heap.size 1 _ _ hP3
  have P3 := Lib.hid hP3
  clear hP3
  go_wp2
  rw [e.out]
  obtain ⟨W2, hW2⟩ : ∃ W2, W2 = (w3.setCell ⟨w.heap.size, 0, none⟩ (.slice (some ⟨g, 0, none⟩) N N)).setCell ⟨w.heap.size, 1, none⟩ (.int .i64 (Pm.off l r)) := ⟨_, rfl⟩
  rw [← hW2]
  have hrow : Pbx W2 w.heap.size (some ⟨g, 0, none⟩) N N (Pm.off l r) := by
    unfold Pbx; rw [hW2, heap_setCell_same _ _ _ _ _ _ (heap_setCell_same _ _ _ _ _ _ P3.out)]; rfl
  have hk : Blk W2 g (Vm.less l r) := by
    have h0 := HG.out
    have h1 := HS.out
    unfold Blk; rw [hW2, heap_setCell_other _ _ _ _ (by show g ≠ w.heap.size; omega), heap_setCell_other _ _ _ _ (by show g ≠ w.heap.size; omega)]; exact K3.out
  have hb : Below w.heap.size w W2 := by rw [hW2]; exact (HB3.out.setCell (Nat.le_refl _) _).setCell (Nat.le_refl _) _
  refine bodyPost_ret (v := .agg #[.slice (some ⟨g, 0, none⟩) N N, .int .i64 (Pm.off l r)]) (results_cell_row (p := 4) Try.results55 _ _ w.heap.size 57 _ (0, 0) _ rfl hrow Try.underlying57 rfl Try.sizePlane) rfl ?_
  exact ⟨g, by rw [HN.out], by have := HG.out; have := HS.out; omega, hk, hb⟩
/-- a vector doesn't stand where a plane does -/
theorem Vec.off_plane {w : World} {g : Nat} {A A' : Option Addr} {n n' c : Nat} {o : Int} {l : List Int} (h : Vec w A' n' l) (p : Pbx w g A n c o) (u0 u1 : Value) :
    Vec ((w.setCell ⟨g, 0, none⟩ u0).setCell ⟨g, 1, none⟩ u1) A' n' l := by
  refine ⟨⟨h.1.1, fun hn => ?_⟩, h.2⟩
  obtain ⟨b, off, e, hb, hc⟩ := h.1.2 hn
  have hlen := h.1.1
  have hne : b ≠ g := by
    rintro rfl
    have hl0 : 0 < l.length := by rw [List.length_map] at hlen; omega
    have h0 := hc 0 (.int .i32 l[0]) (by rw [List.getElem?_map, List.getElem?_eq_getElem hl0]; rfl)
    rw [cell_of_row _ _ _ _ _ _ p] at h0
    rcases (show off + 0 = 0 ∨ off + 0 = 1 ∨ 2 ≤ off + 0 from by omega) with q | q | q
    · rw [q] at h0; cases h0
    · rw [q] at h0; simp at h0
    · rw [Array.getElem?_eq_none (by simpa using q)] at h0; cases h0
  refine ⟨b, off, e, by simpa [World.setCell] using hb, fun j u hu => ?_⟩
  rw [World.cell?_of_block (w := w) (w' := (w.setCell ⟨g, 0, none⟩ u0).setCell ⟨g, 1, none⟩ u1) (by show _ = w.heap[b]?; rw [heap_setCell_other _ _ _ _ hne, heap_setCell_other _ _ _ _ hne])]
  exact hc j u hu
set_option maxRecDepth 100000 in
theorem refBetw_any (A B : Option Addr) (n m c d : Nat) (l r : List Int) (w : World) (h : Vec w A n l) (h' : Vec w B m r) (hn : n ≤ 10000) (hm : m ≤ 10000) :
    Calls Try.prog 48 #[.slice A n c, .slice B m d] w fun e w' => ∃ A' c', e = .returned (.agg #[.slice A' (min n m) c', .int .i64 (Pm.off l r)]) ∧ Vec w' A' (min n m) (Vm.less l r) ∧ Below w.heap.size w w' := by
  obtain ⟨W, hW⟩ : ∃ W, W = w.alloc (.cells #[.slice none 0 0, .int .i64 0] 57) := ⟨_, rfl⟩
  have hb : Below w.heap.size w W := by rw [hW]; exact (Below.refl _ w).alloc (Nat.le_refl _) _
  have hs : W.heap.size = w.heap.size + 1 := by rw [hW]; simp
  have hp : Pbx W w.heap.size none 0 0 0 := by rw [hW]; exact Pbx.new w none 0 0 0
  have HP := Lib.hid hp
  have HB := Lib.hid hb
  have HS := Lib.hid hs
  have V := Lib.hid (h.below hb)
  have V' := Lib.hid (h'.below hb)
  have HW := Lib.hid hW
  have e := Lib.hid (Pm.off_sum l r)
  clear h h' hb hW hp hs
  go_enter Try.func48, Try.ntmps48
  go_wp2_with fail
  rw [← HW.out]
  clear HW
  refine (refLess_any A B n m c d l r W V.out V'.out hn hm).mono ?_
  rintro _ w1 ⟨A', c', rfl, hv, hb1⟩
  obtain ⟨N, hN⟩ : ∃ N, N = min n m := ⟨_, rfl⟩
  have hn' : N ≤ 10000 := by omega
  rw [← hN] at hv
  rw [← hN]
  have HN := Lib.hid hN
  have HV := Lib.hid hv
  have V1 := Lib.hid (V.out.below hb1)
  have V1' := Lib.hid (V'.out.below hb1)
  have P1 := Lib.hid (HP.out.below hb1)
  have HB1 := Lib.hid (HB.out.trans (hb1.mono HB.out.size))
  clear hN hv hb1 V V' HP HB
  go_wp2_with fail
  refine (refDot_any _ _ _ _ _ _ _ _ _ HV.out V1.out (by omega) (by omega)).mono ?_
  rintro _ w2 ⟨rfl, hb2⟩
  have V2 := Lib.hid (HV.out.below hb2)
  have V2' := Lib.hid (V1'.out.below hb2)
  have P2 := Lib.hid (P1.out.below hb2)
  have HB2 := Lib.hid (HB1.out.trans (hb2.mono HB1.out.size))
  clear hb2 HV V1 V1' P1 HB1
  go_wp2_with fail
  refine (refDot_any _ _ _ _ _ _ _ _ _ V2.out V2'.out (by omega) (by omega)).mono ?_
  rintro _ w3 ⟨rfl, hb3⟩
  have V3 := Lib.hid (V2.out.below hb3)
  have hP3 := P2.out.below hb3
  have HB3 := Lib.hid (HB2.out.trans (hb3.mono HB2.out.size))
  clear hb3 V2 V2' P2 HB2
  have k0 := hP3.c0
  have k1 := hP3.c1
  have f0 := frozen_of_row w3 w.heap.size 0 _ _ hP3
  have f1 := frozen_of_row w3 w.heap.size 1 _ _ hP3
  have P3 := Lib.hid hP3
  clear hP3
  go_wp2
  rw [e.out]
  obtain ⟨W2, hW2⟩ : ∃ W2, W2 = (w3.setCell ⟨w.heap.size, 0, none⟩ (.slice A' N c')).setCell ⟨w.heap.size, 1, none⟩ (.int .i64 (Pm.off l r)) := ⟨_, rfl⟩
  rw [← hW2]
  have hrow : Pbx W2 w.heap.size A' N c' (Pm.off l r) := by
    unfold Pbx; rw [hW2, heap_setCell_same _ _ _ _ _ _ (heap_setCell_same _ _ _ _ _ _ P3.out)]; rfl
  have hv : Vec W2 A' N (Vm.less l r) := by rw [hW2]; exact V3.out.off_plane P3.out _ _
  have hb : Below w.heap.size w W2 := by rw [hW2]; exact (HB3.out.setCell (Nat.le_refl _) _).setCell (Nat.le_refl _) _
  refine bodyPost_ret (v := .agg #[.slice A' N c', .int .i64 (Pm.off l r)]) (results_cell_row (p := 4) Try.results48 _ _ w.heap.size 57 _ (0, 0) _ rfl hrow Try.underlying57 rfl Try.sizePlane) rfl ?_
  exact ⟨A', c', by rw [HN.out], by rw [← HN.out]; exact hv, hb⟩

set_option maxRecDepth 100000 in
theorem flat_any (n : Nat) (dim : Int) (w : World) (hn : n ≤ 1024) (hd : (n : Int) = if dim < 0 ∨ 1024 < dim then 0 else dim) :
    Calls Try.prog 45 #[.int .i64 dim] w fun e w' => ∃ g, e = .returned (.agg #[.slice (some ⟨g, 0, none⟩) n n, .int .i64 0]) ∧ w.heap.size ≤ g ∧ Blk w' g (Pm.flat n) ∧ Below w.heap.size w w' := by
  obtain ⟨W, hW⟩ : ∃ W, W = w.alloc (.cells #[.slice none 0 0, .int .i64 0] 57) := ⟨_, rfl⟩
  have hs : W.heap.size = w.heap.size + 1 := by rw [hW]; simp
  have hp : Pbx W w.heap.size none 0 0 0 := by rw [hW]; exact Pbx.new w none 0 0 0
  obtain ⟨M, hM, hM2, hmk⟩ := made_i32 n (by omega)
  have hf : M = ((Pm.flat n).map (Value.int .i32)).toArray := by
    refine Array.ext' (List.ext_getElem? fun j => ?_)
    rw [List.toList_toArray, Pm.flat, List.map_replicate, Array.getElem?_toList]
    rcases Nat.lt_or_ge j n with hj | hj
    · rw [hM2 j hj, List.getElem?_replicate_of_lt hj]
    · rw [Array.getElem?_eq_none (by omega), List.getElem?_eq_none (by simpa using hj)]
  obtain ⟨W1, hW1⟩ : ∃ W1, W1 = W.alloc (.cells M 21) := ⟨_, rfl⟩
  have hb1 : Below w.heap.size w W1 := by rw [hW1, hW]; exact ((Below.refl _ w).alloc (Nat.le_refl _) _).alloc (by simp) _
  have hk1 : Blk W1 (w.heap.size + 1) (Pm.flat n) := by unfold Blk; rw [← hf, hW1, ← hs]; exact heap_alloc_new _ _
  have hp1 : Pbx W1 w.heap.size none 0 0 0 := by rw [hW1]; exact hp.below ((Below.refl _ _).alloc (Nat.le_refl _) _)
  have k0 := hp1.c0
  have k1 := hp1.c1
  have f0 := frozen_of_row W1 w.heap.size 0 _ _ hp1
  have f1 := frozen_of_row W1 w.heap.size 1 _ _ hp1
  have hr := hmk W
  rw [← hW1, hs] at hr
  obtain ⟨W2, hW2⟩ : ∃ W2, W2 = (W1.setCell ⟨w.heap.size, 0, none⟩ (.slice (some ⟨w.heap.size + 1, 0, none⟩) n n)).setCell ⟨w.heap.size, 1, none⟩ (.int .i64 0) := ⟨_, rfl⟩
  have hrow : Pbx W2 w.heap.size (some ⟨w.heap.size + 1, 0, none⟩) n n 0 := by
    unfold Pbx; rw [hW2, heap_setCell_same _ _ _ _ _ _ (heap_setCell_same _ _ _ _ _ _ hp1)]; rfl
  have hk2 : Blk W2 (w.heap.size + 1) (Pm.flat n) := by
    unfold Blk; rw [hW2, heap_setCell_other _ _ _ _ (by show w.heap.size + 1 ≠ w.heap.size; omega), heap_setCell_other _ _ _ _ (by show w.heap.size + 1 ≠ w.heap.size; omega)]; exact hk1
  have hb2 : Below w.heap.size w W2 := by rw [hW2]; exact (hb1.setCell (Nat.le_refl _) _).setCell (Nat.le_refl _) _
  have HROW := Lib.hid hrow
  have HK := Lib.hid hk2
  have HB := Lib.hid hb2
  have HW := Lib.hid hW
  have HW2 := Lib.hid hW2
  clear hW hs hp hM hM2 hmk hf hW1 hb1 hk1 hp1 hW2 hrow hk2 hb2
  by_cases q : dim < 0
  · rw [if_pos (.inl q)] at hd
    obtain rfl : n = 0 := by omega
    rw [show ((0 : Nat) : Int) = 0 from rfl] at hr
    go_enter Try.func45, Try.ntmps45
    go_wp2_with fail
    rw [← HW.out, hr]
    go_wp2
    rw [← HW2.out]
    refine bodyPost_ret (v := .agg #[.slice (some ⟨w.heap.size + 1, 0, none⟩) 0 0, .int .i64 0]) (results_cell_row (p := 2) Try.results45 _ _ w.heap.size 57 _ (0, 0) _ rfl HROW.out Try.underlying57 rfl Try.sizePlane) rfl ?_
    exact ⟨_, rfl, by omega, HK.out, HB.out⟩
  by_cases q2 : 1024 < dim
  · rw [if_pos (.inr q2)] at hd
    obtain rfl : n = 0 := by omega
    rw [show ((0 : Nat) : Int) = 0 from rfl] at hr
    go_enter Try.func45, Try.ntmps45
    go_wp2_with fail
    rw [← HW.out, hr]
    go_wp2
    rw [← HW2.out]
    refine bodyPost_ret (v := .agg #[.slice (some ⟨w.heap.size + 1, 0, none⟩) 0 0, .int .i64 0]) (results_cell_row (p := 2) Try.results45 _ _ w.heap.size 57 _ (0, 0) _ rfl HROW.out Try.underlying57 rfl Try.sizePlane) rfl ?_
    exact ⟨_, rfl, by omega, HK.out, HB.out⟩
  · rw [if_neg (by omega)] at hd
    subst hd
    go_enter Try.func45, Try.ntmps45
    go_wp2_with fail
    rw [← HW.out, hr]
    go_wp2
    rw [← HW2.out]
    refine bodyPost_ret (v := .agg #[.slice (some ⟨w.heap.size + 1, 0, none⟩) n n, .int .i64 0]) (results_cell_row (p := 2) Try.results45 _ _ w.heap.size 57 _ (0, 0) _ rfl HROW.out Try.underlying57 rfl Try.sizePlane) rfl ?_
    exact ⟨_, rfl, by omega, HK.out, HB.out⟩
end Go.Proofs.Ytafkbagjjknhlaa
