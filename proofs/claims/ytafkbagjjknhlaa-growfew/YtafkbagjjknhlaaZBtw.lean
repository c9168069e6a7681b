/-
  Layer 12 (split): between of the program, by a contract.
-/
import Derived.Test.YtafkbagjjknhlaaZPrt
import Derived.Test.YtafkbagjjknhlaaRPair
namespace Go.Proofs.Ytafkbagjjknhlaa
open Go.RowKit

theorem Btw.fresh {lo hi g : Nat} {a w : World} (h : Btw lo hi a w) (hg : a.heap.size ≤ g) (o : Nat) (u : Value) : Btw lo hi a (w.setCell ⟨g, o, none⟩ u) :=
  ⟨h.os, h.tape, h.output, by simp [World.setCell]; exact h.size, fun k hk ho => (Below.heap_setCell _ _ _ _ (by show k ≠ g; omega)).trans (h.block k hk ho)⟩
section
variable {w : World} {S : Nat → Prop} {s m c : Nat} {d : Int} {L : List (List Int)} {A : Option Addr} {ids : List Int}
set_option maxRecDepth 100000 in
theorem betweenZ {T lo hi b N i k : Nat} {f : Nat → Int} (x : It w S s d L) (hs : Sl w A m c ids) (hS : ∀ k, S k → k < lo ∨ hi ≤ k) (ho : Out lo hi m A) (hr : Src T w lo hi b f N) (h2 : 2 ≤ m) (hm : m ≤ 100000) (hN : N < 999000)
    (hfi : Rm.fst f (m : Int) = (i : Int)) (hfk : Rm.snd f (m : Int) = (k : Int)) (him : i < m) (hkm : k < m) :
    Calls Try.prog 41 #[.pointer (some ⟨s, 0, none⟩), .slice A m c, .iface T (.pointer (some ⟨b, 0, none⟩))] w fun e w' => ∃ g n,
      e = .returned (.agg #[.slice (some ⟨g, 0, none⟩) n n, .int .i64 (Pm.off (Zm.item L (ids.getD i 0)) (Zm.item L (ids.getD k 0)))]) ∧
      Vec w' (some ⟨g, 0, none⟩) n (Vm.less (Zm.item L (ids.getD i 0)) (Zm.item L (ids.getD k 0))) ∧ n ≤ 10000 ∧ w.heap.size ≤ g ∧ Src T w' lo hi b (Rm.dr f 2) (N + 2) ∧ Btw lo hi w w' := by
  have hik : i < ids.length := by rw [hs.length]; exact him
  have hkk : k < ids.length := by rw [hs.length]; exact hkm
  obtain ⟨x1, hx1⟩ : ∃ x1, x1 = ids.getD i 0 := ⟨_, rfl⟩
  obtain ⟨x2, hx2⟩ : ∃ x2, x2 = ids.getD k 0 := ⟨_, rfl⟩
  rw [← hx1, ← hx2]
  rw [List.getD_eq_getElem?_getD, List.getElem?_eq_getElem hik] at hx1
  rw [List.getD_eq_getElem?_getD, List.getElem?_eq_getElem hkk] at hx2
  have e2 : Rm.np (m : Int) = 2 := by unfold Rm.np; rw [if_neg (by omega)]
  obtain ⟨W, hW⟩ : ∃ W, W = w.alloc (.cells #[.slice none 0 0, .int .i64 0] 57) := ⟨_, rfl⟩
  have hb : Below w.heap.size w W := by rw [hW]; exact (Below.refl _ w).alloc (Nat.le_refl _) _
  have hws : W.heap.size = w.heap.size + 1 := by rw [hW]; simp
  have P : Pbx W w.heap.size none 0 0 0 := by rw [hW]; exact Pbx.new w none 0 0 0
  have hhi := hr.size
  have hrW := hr.below hb
  have FP0 := pair_any hrW (m : Int) (by omega) (by omega)
  rw [e2, hfi, hfk] at FP0
  have FP := Lib.hid FP0
  have HI := Lib.hid (x.below hb)
  have HS := Lib.hid (hs.below hb)
  have HSS := Lib.hid hS
  have HO := Lib.hid ho
  have HB := Lib.hid hb
  have HP := Lib.hid P
  have HW := Lib.hid hW
  have HX1 : Hid (x1 = ids[i]) := Lib.hid hx1
  have HX2 : Hid (x2 = ids[k]) := Lib.hid hx2
  obtain ⟨n1, hn1⟩ : ∃ n, n = (Zm.item L x1).length := ⟨_, rfl⟩
  obtain ⟨n2, hn2⟩ : ∃ n, n = (Zm.item L x2).length := ⟨_, rfl⟩
  have l1 : n1 ≤ 10000 := by rw [hn1]; exact itemLen x x1
  have l2 : n2 ≤ 10000 := by rw [hn2]; exact itemLen x x2
  have HN1 := Lib.hid hn1
  have HN2 := Lib.hid hn2
  clear x hs hS ho hr hrW FP0 hb P hW hfi hfk hx1 hx2 e2 hn1 hn2
  go_enter Try.func41, Try.ntmps41
  go_wp2_with fail
  rw [← HW.out]
  clear HW
  refine FP.out.mono ?_
  rintro _ w1 ⟨rfl, hr1, hb1⟩
  have HR1 := Lib.hid hr1
  have HB1 := Lib.hid hb1
  have I1 := Lib.hid (HI.out.btw HSS.out hb1)
  have S1 := Lib.hid (HS.out.btw HO.out hb1)
  have P1 : Hid (Pbx w1 w.heap.size none 0 0 0) := Lib.hid ((hb1.block w.heap.size (by omega) (.inr hhi)).trans HP.out)
  have s1 := hb1.size
  obtain ⟨b2, off2, hA2, hb2, hc2⟩ := S1.out.at_ (List.getElem?_eq_getElem hik)
  obtain ⟨b3, off3, hA3, hb3, hc3⟩ := S1.out.at_ (List.getElem?_eq_getElem hkk)
  have hbb : b3 = b2 ∧ off3 = off2 := by rw [hA2] at hA3; injection hA3 with e; injection e with e1 e3; exact ⟨e1.symm, e3.symm⟩
  obtain ⟨rfl, rfl⟩ := hbb
  clear hA3 hb3
  subst hA2
  rw [← HX1.out] at hc2
  rw [← HX2.out] at hc3
  clear hr1 hb1 HI HS HP FP HX1 HX2 hik hkk
  have F1 := atZ I1.out x1
  rw [← HN1.out] at F1
  have FA := Lib.hid F1
  have HC3 := Lib.hid hc3
  clear F1 hc3
  go_wp2_with fail
  refine FA.out.mono ?_
  rintro _ w2 ⟨A1, c1, q1, rfl, hv1, hb4⟩
  have V1 := Lib.hid hv1
  have B2 := Lib.hid hb4
  have hc3 := (hb4.cell (p := ⟨b3, off3 + k, none⟩) hb2).trans HC3.out
  have s2 := hb4.size
  have F1 := atZ (I1.out.below hb4) x2
  rw [← HN2.out] at F1
  have FA2 := Lib.hid F1
  clear F1 hv1 hb4 FA HC3 hc2
  go_wp2_with fail
  refine FA2.out.mono ?_
  rintro _ w3 ⟨A2, c2, q2, rfl, hv2, hb5⟩
  have V2 := Lib.hid hv2
  have V1' := Lib.hid (V1.out.below hb5)
  have B3 := Lib.hid (B2.out.trans (hb5.mono B2.out.size))
  have s3 := hb5.size
  clear hv2 hb5 FA2 V1 B2 hc3
  go_wp2_with fail
  refine (betw_any A1 A2 n1 n2 c1 c2 _ _ w3 V1'.out V2.out l1 l2).mono ?_
  rintro _ w4 ⟨g, rfl, hg, hk, hb6⟩
  obtain ⟨Nm, hNm⟩ : ∃ Nm, Nm = min n1 n2 := ⟨_, rfl⟩
  have hNl : Nm ≤ 10000 := by omega
  rw [← hNm]
  have HV := Lib.hid (hk.vec (n := Nm) (by rw [less_len V1'.out.length V2.out.length, hNm]) (Vm.less_in _ _))
  have B4 := Lib.hid (B3.out.trans (hb6.mono B3.out.size))
  have P4 := P1.out.below B4.out
  have k0 := P4.c0
  have k1 := P4.c1
  have f0 := frozen_of_row w4 w.heap.size 0 _ _ P4
  have f1 := frozen_of_row w4 w.heap.size 1 _ _ P4
  have HP4 := Lib.hid P4
  have hg2 : w1.heap.size ≤ g := by omega
  clear hk hb6 P4 V1' V2 hNm
  go_wp2
  obtain ⟨W2, hW2⟩ : ∃ W2, W2 = (w4.setCell ⟨w.heap.size, 0, none⟩ (.slice (some ⟨g, 0, none⟩) Nm Nm)).setCell ⟨w.heap.size, 1, none⟩ (.int .i64 (Pm.off (Zm.item L x1) (Zm.item L x2))) := ⟨_, rfl⟩
  rw [← hW2]
  have hrow : Pbx W2 w.heap.size (some ⟨g, 0, none⟩) Nm Nm (Pm.off (Zm.item L x1) (Zm.item L x2)) := by
    unfold Pbx; rw [hW2, heap_setCell_same _ _ _ _ _ _ (heap_setCell_same _ _ _ _ _ _ HP4.out)]; rfl
  have hv : Vec W2 (some ⟨g, 0, none⟩) Nm (Vm.less (Zm.item L x1) (Zm.item L x2)) := by rw [hW2]; exact HV.out.off_plane HP4.out _ _
  have hbt : Btw lo hi w W2 := by
    rw [hW2]
    exact (((Btw.of_below HB.out).trans (HB1.out.trans (Btw.of_below B4.out))).fresh (Nat.le_refl _) 0 _).fresh (Nat.le_refl _) 1 _
  have hsr : Src T W2 lo hi b (Rm.dr f 2) (N + 2) := HR1.out.keep (by rw [hW2]; simp [World.setCell]; exact B4.out.size) fun q _ hq => by
    rw [hW2, heap_setCell_other _ _ _ _ (by show q ≠ w.heap.size; omega), heap_setCell_other _ _ _ _ (by show q ≠ w.heap.size; omega)]
    exact B4.out.block q (by omega)
  refine bodyPost_ret (v := .agg #[.slice (some ⟨g, 0, none⟩) Nm Nm, .int .i64 (Pm.off (Zm.item L x1) (Zm.item L x2))]) (results_cell_row (p := 6) Try.results41 _ _ w.heap.size 57 _ (0, 0) _ rfl hrow Try.underlying57 rfl Try.sizePlane) rfl ?_
  exact ⟨g, Nm, rfl, hv, hNl, by omega, hsr, hbt⟩
end
end Go.Proofs.Ytafkbagjjknhlaa
