/-
  Layer 12 (split): Part, Halves and Good of the program, by contracts.
  Layer 12 (split): between of the program, by a contract.
-/
import Derived.Test.YtafkbagjjknhlaaZGat
import Derived.Test.YtafkbagjjknhlaaDRef
import Derived.Test.YtafkbagjjknhlaaDArg
import Derived.Test.YtafkbagjjknhlaaRPair
namespace Go.Proofs.Ytafkbagjjknhlaa
open Go.RowKit

section
variable {w : World} {S : Nat → Prop} {s m c : Nat} {d : Int} {L : List (List Int)} {A Ap : Option Addr} {ids lp : List Int} {np cp : Nat} {o : Int}
theorem itemLen (x : It w S s d L) (id : Int) : (Zm.item L id).length ≤ 10000 := by
  by_cases g : 0 ≤ id ∧ id < (L.length : Int)
  · obtain ⟨k, rfl⟩ : ∃ k : Nat, id = k := ⟨id.toNat, by omega⟩
    have hk : k < L.length := by omega
    have hc := x.ok.at_ (List.getElem?_eq_getElem hk)
    rw [Zm.item_in hk, Dm.len_of hc]
    have := dim_max hc
    omega
  · by_cases g0 : id < 0
    · rw [Zm.item_low g0]; exact Nat.zero_le _
    · rw [Zm.item_high (by omega)]; exact Nat.zero_le _
theorem atZ (x : It w S s d L) (id : Int) :
    Calls Try.prog 54 #[.pointer (some ⟨s, 0, none⟩), .int .i64 id] w fun e w' => ∃ A' c' q, e = .returned (.tuple #[.slice A' (Zm.item L id).length c', .bool q]) ∧ Vec w' A' (Zm.item L id).length (Zm.item L id) ∧ Below w.heap.size w w' := by
  by_cases g : 0 ≤ id ∧ id < (L.length : Int)
  · obtain ⟨k, rfl⟩ : ∃ k : Nat, id = k := ⟨id.toNat, by omega⟩
    have hk : k < L.length := by omega
    have hl : L[k]? = some L[k] := List.getElem?_eq_getElem hk
    have hv := x.ok.at_ hl
    rw [Zm.item_in hk, Dm.len_of hv]
    refine (atD x hl).mono ?_
    rintro _ w' ⟨g, rfl, -, hB, hb⟩
    exact ⟨_, _, _, rfl, hB.vecD hv, hb⟩
  · refine (atD_no x id g).mono ?_
    rintro _ _ ⟨rfl, rfl⟩
    have e : Zm.item L id = [] := by
      by_cases g0 : id < 0
      · exact Zm.item_low g0
      · exact Zm.item_high (by omega)
    rw [e]
    exact ⟨none, 0, false, rfl, ⟨Lst.nil _ _ _, by simp⟩, Below.refl _ _⟩

set_option maxRecDepth 100000 in
theorem part1Z {k g1 g2 g3 : Nat} (x : It w S s d L) (hs : Sl w A m c ids) (hk : k < m) (_hm : m ≤ 100000) (hv : Vec w Ap np lp) (hnp : np ≤ 10000) (q1 : w.cell? ⟨g1, 0, none⟩ = some (.pointer (some ⟨s, 0, none⟩))) (q2 : w.cell? ⟨g2, 0, none⟩ = some (.slice A m c)) (P : Pbx w g3 Ap np cp o) :
    Calls Try.prog 57 #[.int .i64 (k : Int), .pointer (some ⟨g1, 0, none⟩), .pointer (some ⟨g2, 0, none⟩), .pointer (some ⟨g3, 0, none⟩)] w fun e w' => e = .returned (.bool (Zm.on L lp o (ids.getD k 0))) ∧ Below w.heap.size w w' := by
  have hkl : k < ids.length := by rw [hs.length]; exact hk
  obtain ⟨b2, off2, rfl, hb2, hc2⟩ := hs.at_ (List.getElem?_eq_getElem hkl)
  obtain ⟨y, hy⟩ : ∃ y, y = ids[k] := ⟨_, rfl⟩
  rw [← hy] at hc2
  rw [show ids.getD k 0 = y from by rw [List.getD_eq_getElem?_getD, List.getElem?_eq_getElem hkl, hy]; rfl]
  obtain ⟨n, hn⟩ : ∃ n, n = (Zm.item L y).length := ⟨_, rfl⟩
  have hn' : n ≤ 10000 := by rw [hn]; exact itemLen x y
  have FA : Hid (∀ V, Below w.heap.size w V → Calls Try.prog 54 #[.pointer (some ⟨s, 0, none⟩), .int .i64 y] V fun e w' => ∃ A' c' q, e = .returned (.tuple #[.slice A' n c', .bool q]) ∧ Vec w' A' n (Zm.item L y) ∧ Below w.heap.size w w') := Lib.hid fun V hb =>
    (atZ (x.below hb) y).mono fun _ _ ⟨A', c', q, h1, h2, h3⟩ => ⟨A', c', q, by rw [h1, hn], by rw [hn]; exact h2, hb.trans (h3.mono hb.size)⟩
  have CL : Hid (∀ V, Below w.heap.size w V → V.cell? ⟨g1, 0, none⟩ = some (.pointer (some ⟨s, 0, none⟩)) ∧ V.cell? ⟨g2, 0, none⟩ = some (.slice (some ⟨b2, off2, none⟩) m c) ∧ V.cell? ⟨b2, off2 + k, none⟩ = some (.int .i64 y)) := Lib.hid fun V hb =>
    ⟨(hb.cell (p := ⟨g1, 0, none⟩) (cell_block_lt q1)).trans q1, (hb.cell (p := ⟨g2, 0, none⟩) (cell_block_lt q2)).trans q2, (hb.cell (p := ⟨b2, off2 + k, none⟩) hb2).trans hc2⟩
  have HV := Lib.hid hv
  have HP := Lib.hid P
  have G0 := Lib.hid (Below.refl w.heap.size w).drew
  have GA0 := Lib.hid (Below.refl w.heap.size w)
  clear x hs hy hn hv P hb2 hkl
  go_enter Try.func57, Try.ntmps57
  go_wp2
  go_region_held3 (fun V => V.cell? ⟨g1, 0, none⟩ = some (.pointer (some ⟨s, 0, none⟩)) ∧ V.cell? ⟨g2, 0, none⟩ = some (.slice (some ⟨b2, off2, none⟩) m c) ∧ V.cell? ⟨b2, off2 + k, none⟩ = some (.int .i64 y)) (go_keep) (first
    | (go_at_call 54; (with_reducible refine (FA.out _ (by first | exact G0.out | exact GA0.out)).mono ?_); rintro _ Y1 ⟨A', c', q, rfl, hv', hb⟩; obtain ⟨ua0, ua1, ua2⟩ := CL.out Y1 hb; have G1 := Lib.hid hb; have HV1 := Lib.hid hv'; clear hb hv'))
  have hP1 := HP.out.below G1.out
  have k0 := hP1.c0
  have k1 := hP1.c1
  have FS := Lib.hid (fun c' => side_any Ap A' np n cp c' o lp (Zm.item L y) Y1 (HV.out.below G1.out) HV1.out hnp hn')
  clear hP1 FA CL HV HP q1 q2 hc2 ua0 ua1 ua2
  go_wp2_with fail
  refine (FS.out _).mono ?_
  rintro _ Y2 ⟨rfl, hb⟩
  have G2 := Lib.hid (G1.out.trans (hb.mono G1.out.size))
  clear hb
  go_wp2
  go_ret
  exact ⟨rfl, G2.out⟩

set_option maxRecDepth 100000 in
theorem partN (x : It w S s d L) (hs : Sl w A m c ids) (hm : m ≤ 100000) (hv : Vec w Ap np lp) (hnp : np ≤ 10000) :
    Calls Try.prog 42 #[.pointer (some ⟨s, 0, none⟩), .slice A m c, .agg #[.slice Ap np cp, .int .i64 o]] w fun e w' => ∃ A1 c1 A2 c2,
      e = .returned (.tuple #[.slice A1 (Zm.side L lp o false ids).length c1, .slice A2 (Zm.side L lp o true ids).length c2]) ∧ Sl w' A1 (Zm.side L lp o false ids).length c1 (Zm.side L lp o false ids) ∧ Sl w' A2 (Zm.side L lp o true ids).length c2 (Zm.side L lp o true ids) ∧ New w.heap.size A1 ∧ New w.heap.size A2 ∧ Below w.heap.size w w' := by
  obtain ⟨W, hW⟩ : ∃ W, W = ((w.alloc (.cells #[.pointer (some ⟨s, 0, none⟩)] 30)).alloc (.cells #[.slice A m c] 51)).alloc (.cells #[.slice Ap np cp, .int .i64 o] 57) := ⟨_, rfl⟩
  have hb : Below w.heap.size w W := by
    rw [hW]
    exact (((Below.refl _ w).alloc (Nat.le_refl _) _).alloc (by simp) _).alloc (by simp; omega) _
  have q1 : W.cell? ⟨w.heap.size, 0, none⟩ = some (.pointer (some ⟨s, 0, none⟩)) := by
    rw [hW, World.cell?_alloc_some _ _ _ (by rw [World.cell?_alloc_some _ _ _ (by rw [cell_of_row _ _ _ _ _ _ (heap_alloc_new w _)]; rfl), cell_of_row _ _ _ _ _ _ (heap_alloc_new w _)]; rfl), World.cell?_alloc_some _ _ _ (by rw [cell_of_row _ _ _ _ _ _ (heap_alloc_new w _)]; rfl), cell_of_row _ _ _ _ _ _ (heap_alloc_new w _)]; rfl
  have q2 : W.cell? ⟨w.heap.size + 1, 0, none⟩ = some (.slice A m c) := by
    have h := heap_alloc_new (w.alloc (.cells #[.pointer (some ⟨s, 0, none⟩)] 30)) (.cells #[.slice A m c] 51)
    rw [show (w.alloc (.cells #[.pointer (some ⟨s, 0, none⟩)] 30)).heap.size = w.heap.size + 1 from by simp] at h
    rw [hW, World.cell?_alloc_some _ _ _ (by rw [cell_of_row _ _ _ _ _ _ h]; rfl), cell_of_row _ _ _ _ _ _ h]; rfl
  have P : Pbx W (w.heap.size + 2) Ap np cp o := by
    have h := Pbx.new ((w.alloc (.cells #[.pointer (some ⟨s, 0, none⟩)] 30)).alloc (.cells #[.slice A m c] 51)) Ap np cp o
    rw [show ((w.alloc (.cells #[.pointer (some ⟨s, 0, none⟩)] 30)).alloc (.cells #[.slice A m c] 51)).heap.size = w.heap.size + 2 from by simp] at h
    rw [hW]; exact h
  have GT : Gth ids (fun k => Zm.on L lp o (ids.getD k 0)) (fun k => Zm.side L lp o false (ids.take k)) (fun k => Zm.side L lp o true (ids.take k)) := by
    refine ⟨by simp [Zm.side], by simp [Zm.side], fun k hk h => ?_, fun k hk h => ?_⟩ <;>
    · have e : ids.getD k 0 = ids[k] := by rw [List.getD_eq_getElem?_getD, List.getElem?_eq_getElem hk]; rfl
      rw [e] at h
      exact ⟨Zm.side_snoc_yes hk h, Zm.side_snoc_no hk h⟩
  have hall : ids.take m = ids := List.take_of_length_le (by rw [hs.length]; exact Nat.le_refl _)
  have FG := gatherP (.pointer (some ⟨w.heap.size, 0, none⟩)) (.pointer (some ⟨w.heap.size + 1, 0, none⟩)) (.pointer (some ⟨w.heap.size + 2, 0, none⟩)) (hs.below hb) hm GT
    (fun k hk V hV => part1Z ((x.below hb).below hV) ((hs.below hb).below hV) hk hm ((hv.below hb).below hV) hnp ((hV.cell (p := ⟨w.heap.size, 0, none⟩) (cell_block_lt q1)).trans q1) ((hV.cell (p := ⟨w.heap.size + 1, 0, none⟩) (cell_block_lt q2)).trans q2) (P.below hV))
  rw [hall] at FG
  have HW := Lib.hid hW
  have HG := Lib.hid FG
  have HB := Lib.hid hb
  clear x hs hv hb q1 P GT hall FG hW
  go_enter Try.func42, Try.ntmps42
  go_wp2_with fail
  rw [← HW.out]
  clear HW
  go_wp2_with fail
  refine HG.out.mono ?_
  rintro _ w1 ⟨A1, c1, A2, c2, rfl, h1, h2, h3, h4, h5⟩
  have FIN := Lib.hid (And.intro h1 (And.intro h2 (And.intro (h3.mono HB.out.size) (And.intro (h4.mono HB.out.size) (HB.out.trans (h5.mono HB.out.size))))))
  clear h1 h2 h3 h4 h5 HG HB
  go_wp2
  go_ret2
  exact ⟨A1, c1, A2, c2, rfl, FIN.out⟩
theorem half1Z {k h g : Nat} (q : w.cell? ⟨g, 0, none⟩ = some (.int .i64 (h : Int))) :
    Calls Try.prog 59 #[.int .i64 (k : Int), .pointer (some ⟨g, 0, none⟩)] w fun e w' => e = .returned (.bool (decide (h ≤ k))) ∧ Below w.heap.size w w' := by
  have G0 := Lib.hid (Below.refl w.heap.size w)
  go_enter Try.func59, Try.ntmps59
  go_wp2
  go_ret
  exact ⟨rfl, G0.out⟩

theorem gth_half (ids : List Int) (h : Nat) : Gth ids (fun k => decide (h ≤ k)) (fun k => (ids.take k).take h) (fun k => (ids.take k).drop h) := by
  refine ⟨by simp, by simp, fun k hk e => ?_, fun k hk e => ?_⟩
  · have e : h ≤ k := by simpa using e
    refine ⟨?_, ?_⟩
    · rw [List.take_succ_eq_append_getElem hk, List.drop_append_of_le_length (by rw [List.length_take]; omega)]
    · rw [List.take_take, List.take_take, Nat.min_eq_left (by omega), Nat.min_eq_left (by omega)]
  · have e : k < h := by simpa using e
    refine ⟨?_, ?_⟩
    · rw [List.take_take, List.take_take, Nat.min_eq_right (by omega), Nat.min_eq_right (by omega), List.take_succ_eq_append_getElem hk]
    · rw [List.drop_eq_nil_of_le (by rw [List.length_take]; omega), List.drop_eq_nil_of_le (by rw [List.length_take]; omega)]
set_option maxRecDepth 100000 in
theorem halvesN (hs : Sl w A m c ids) (hm : m ≤ 100000) :
    Calls Try.prog 44 #[.slice A m c] w fun e w' => ∃ A1 c1 A2 c2, e = .returned (.tuple #[.slice A1 (Zm.half ids) c1, .slice A2 (m - Zm.half ids) c2]) ∧ Sl w' A1 (Zm.half ids) c1 (ids.take (Zm.half ids)) ∧ Sl w' A2 (m - Zm.half ids) c2 (ids.drop (Zm.half ids)) ∧ New w.heap.size A1 ∧ New w.heap.size A2 ∧ Below w.heap.size w w' := by
  obtain ⟨H, hH⟩ : ∃ H, H = Zm.half ids := ⟨_, rfl⟩
  obtain ⟨hn, hhn⟩ : ∃ hn, hn = m / 2 := ⟨_, rfl⟩
  have hq2 : (m : Int).tdiv 2 = (hn : Int) := by rw [hhn]; rfl
  have hlen := hs.length
  have hHm : H = m - hn := by rw [hH, hhn]; unfold Zm.half; rw [hlen]
  have hle : hn ≤ m := by omega
  have hH1 : (m : Int) - (hn : Int) = (H : Int) := by omega
  obtain ⟨W, hW⟩ : ∃ W, W = w.alloc (.cells #[.int .i64 (H : Int)] 3) := ⟨_, rfl⟩
  have hb : Below w.heap.size w W := by rw [hW]; exact (Below.refl _ w).alloc (Nat.le_refl _) _
  have q1 : W.cell? ⟨w.heap.size, 0, none⟩ = some (.int .i64 (H : Int)) := by
    rw [hW, cell_of_row _ _ _ _ _ _ (heap_alloc_new w _)]; rfl
  have hall : ids.take m = ids := List.take_of_length_le (by rw [hlen]; exact Nat.le_refl _)
  have FG := gatherH (.pointer (some ⟨w.heap.size, 0, none⟩)) (hs.below hb) hm (gth_half ids H)
    (fun k _ V hV => half1Z ((hV.cell (p := ⟨w.heap.size, 0, none⟩) (cell_block_lt q1)).trans q1))
  have l1 : ((ids.take m).take H).length = H := by rw [hall, List.length_take, hlen]; omega
  have l2 : ((ids.take m).drop H).length = m - H := by rw [hall, List.length_drop, hlen]
  simp only [l1, l2] at FG
  simp only [hall] at FG
  rw [← hH]
  have HW := Lib.hid hW
  have HG := Lib.hid FG
  have HB := Lib.hid hb
  clear hs hb q1 hall FG hW l1 l2 hH hhn hlen hHm
  go_enter Try.func44, Try.ntmps44
  go_wp2_with fail
  rw [← HW.out]
  clear HW
  refine HG.out.mono ?_
  rintro _ w1 ⟨A1, c1, A2, c2, rfl, h1, h2, h3, h4, h5⟩
  have FIN := Lib.hid (And.intro h1 (And.intro h2 (And.intro (h3.mono HB.out.size) (And.intro (h4.mono HB.out.size) (HB.out.trans (h5.mono HB.out.size))))))
  clear h1 h2 h3 h4 h5 HG HB
  go_wp2
  go_ret2
  exact ⟨A1, c1, A2, c2, rfl, FIN.out⟩

theorem goodZ {A B : Option Addr} {n m c d : Nat} (hn : n ≤ 100000000) (hm : m ≤ 100000000) :
    Calls Try.prog 43 #[.slice A n c, .slice B m d] w fun e w' => e = .returned (.bool (Zm.good n m)) ∧ w = w' := by
  have hg := Lib.hid (show Zm.good n m = decide (0 < n ∧ 0 < m ∧ n + m ≤ 8 * n ∧ n + m ≤ 8 * m) from rfl)
  go_enter Try.func43, Try.ntmps43
  go_wp2
  all_goals
    go_ret
    refine ⟨congrArg (fun b => Ending.returned (.bool b)) ?_, rfl⟩
    rw [hg.out]
    first
      | exact decide_eq_decide.2 (by constructor <;> intro <;> omega)
      | exact (decide_eq_false (by omega)).symm
end
end Go.Proofs.Ytafkbagjjknhlaa
namespace Go.Proofs.Ytafkbagjjknhlaa
open Go.RowKit

theorem Btw.fresh {lo hi g : Nat} {a w : World} (h : Btw lo hi a w) (hg : a.heap.size ≤ g) (o : Nat) (u : Value) : Btw lo hi a (w.setCell ⟨g, o, none⟩ u) :=
  ⟨h.os, h.tape, h.output, by simp [World.setCell]; exact h.size, fun k hk ho => (Below.heap_setCell _ _ _ _ (by show k ≠ g; omega)).trans (h.block k hk ho)⟩
section
variable {w : World} {S : Nat → Prop} {s m c : Nat} {d : Int} {L : List (List Int)} {A : Option Addr} {ids : List Int}
set_option maxRecDepth 100000 in
theorem betweenZ {T lo hi b N i k : Nat} {f : Nat → Int} (x : It w S s d L) (hs : Sl w A m c ids) (hS : ∀ k, S k → k < lo ∨ hi ≤ k) (ho : Out lo hi m A) (hr : Src T w lo hi b f N) (h2 : 2 ≤ m) (hm : m ≤ 100000) (hN : N < 999000)
    (hfi : Rm.fst f (m : Int) = (i : Int)) (hfk : Rm.snd f (m : Int) = (k : Int)) (him : i < m) (hkm : k < m) :
    Calls Try.prog 41 #[.pointer (some ⟨s, 0, none⟩), .slice A m c, .iface T (.pointer (some ⟨b, 0, none⟩))] w fun e w' => ∃ g n,
      e = .returned (.agg #[.slice (some ⟨g, 0, none⟩) n n, .int .i64 (Pm.off (Zm.item L (ids.getD i 0)) (Zm.item L (ids.getD k 0)))]) ∧
      Vec w' (some ⟨g, 0, none⟩) n (Vm.less (Zm.item L (ids.getD i 0)) (Zm.item L (ids.getD k 0))) ∧ n ≤ 10000 ∧ w.heap.size ≤ g ∧ Src T w' lo hi b (Rm.dr f 2) (N + 2) ∧ Btw lo hi w w' := by
  have hik : i < ids.length := by rw [hs.length]; exact him
  have hkk : k < ids.length := by rw [hs.length]; exact hkm
  obtain ⟨x1, hx1⟩ : ∃ x1, x1 = ids.getD i 0 := ⟨_, rfl⟩
  obtain ⟨x2, hx2⟩ : ∃ x2, x2 = ids.getD k 0 := ⟨_, rfl⟩
  rw [← hx1, ← hx2]
  rw [List.getD_eq_getElem?_getD, List.getElem?_eq_getElem hik] at hx1
  rw [List.getD_eq_getElem?_getD, List.getElem?_eq_getElem hkk] at hx2
  have e2 : Rm.np (m : Int) = 2 := by unfold Rm.np; rw [if_neg (by omega)]
  obtain ⟨W, hW⟩ : ∃ W, W = w.alloc (.cells #[.slice none 0 0, .int .i64 0] 57) := ⟨_, rfl⟩
  have hb : Below w.heap.size w W := by rw [hW]; exact (Below.refl _ w).alloc (Nat.le_refl _) _
  have hws : W.heap.size = w.heap.size + 1 := by rw [hW]; simp
  have P : Pbx W w.heap.size none 0 0 0 := by rw [hW]; exact Pbx.new w none 0 0 0
  have hhi := hr.size
  have hrW := hr.below hb
  have FP0 := pair_any hrW (m : Int) (by omega) (by omega)
  rw [e2, hfi, hfk] at FP0
  have FP := Lib.hid FP0
  have HI := Lib.hid (x.below hb)
  have HS := Lib.hid (hs.below hb)
  have HSS := Lib.hid hS
  have HO := Lib.hid ho
  have HB := Lib.hid hb
  have HP := Lib.hid P
  have HW := Lib.hid hW
  have HX1 : Hid (x1 = ids[i]) := Lib.hid hx1
  have HX2 : Hid (x2 = ids[k]) := Lib.hid hx2
  obtain ⟨n1, hn1⟩ : ∃ n, n = (Zm.item L x1).length := ⟨_, rfl⟩
  obtain ⟨n2, hn2⟩ : ∃ n, n = (Zm.item L x2).length := ⟨_, rfl⟩
  have l1 : n1 ≤ 10000 := by rw [hn1]; exact itemLen x x1
  have l2 : n2 ≤ 10000 := by rw [hn2]; exact itemLen x x2
  have HN1 := Lib.hid hn1
  have HN2 := Lib.hid hn2
  clear x hs hS ho hr hrW FP0 hb P hW hfi hfk hx1 hx2 e2 hn1 hn2
  go_enter Try.func41, Try.ntmps41
  go_wp2_with fail
  rw [← HW.out]
  clear HW
  refine FP.out.mono ?_
  rintro _ w1 ⟨rfl, hr1, hb1⟩
  have HR1 := Lib.hid hr1
  have HB1 := Lib.hid hb1
  have I1 := Lib.hid (HI.out.btw HSS.out hb1)
  have S1 := Lib.hid (HS.out.btw HO.out hb1)
  have P1 : Hid (Pbx w1 w.heap.size none 0 0 0) := Lib.hid ((hb1.block w.heap.size (by omega) (.inr hhi)).trans HP.out)
  have s1 := hb1.size
  obtain ⟨b2, off2, hA2, hb2, hc2⟩ := S1.out.at_ (List.getElem?_eq_getElem hik)
  obtain ⟨b3, off3, hA3, hb3, hc3⟩ := S1.out.at_ (List.getElem?_eq_getElem hkk)
  have hbb : b3 = b2 ∧ off3 = off2 := by rw [hA2] at hA3; injection hA3 with e; injection e with e1 e3; exact ⟨e1.symm, e3.symm⟩
  obtain ⟨rfl, rfl⟩ := hbb
  clear hA3 hb3
  subst hA2
  rw [← HX1.out] at hc2
  rw [← HX2.out] at hc3
  clear hr1 hb1 HI HS HP FP HX1 HX2 hik hkk
  have F1 := atZ I1.out x1
  rw [← HN1.out] at F1
  have FA := Lib.hid F1
  have HC3 := Lib.hid hc3
  clear F1 hc3
  go_wp2_with fail
  refine FA.out.mono ?_
  rintro _ w2 ⟨A1, c1, q1, rfl, hv1, hb4⟩
  have V1 := Lib.hid hv1
  have B2 := Lib.hid hb4
  have hc3 := (hb4.cell (p := ⟨b3, off3 + k, none⟩) hb2).trans HC3.out
  have s2 := hb4.size
  have F1 := atZ (I1.out.below hb4) x2
  rw [← HN2.out] at F1
  have FA2 := Lib.hid F1
  clear F1 hv1 hb4 FA HC3 hc2
  go_wp2_with fail
  refine FA2.out.mono ?_
  rintro _ w3 ⟨A2, c2, q2, rfl, hv2, hb5⟩
  have V2 := Lib.hid hv2
  have V1' := Lib.hid (V1.out.below hb5)
  have B3 := Lib.hid (B2.out.trans (hb5.mono B2.out.size))
  have s3 := hb5.size
  clear hv2 hb5 FA2 V1 B2 hc3
  go_wp2_with fail
  refine (betw_any A1 A2 n1 n2 c1 c2 _ _ w3 V1'.out V2.out l1 l2).mono ?_
  rintro _ w4 ⟨g, rfl, hg, hk, hb6⟩
  obtain ⟨Nm, hNm⟩ : ∃ Nm, Nm = min n1 n2 := ⟨_, rfl⟩
  have hNl : Nm ≤ 10000 := by omega
  rw [← hNm]
  have HV := Lib.hid (hk.vec (n := Nm) (by rw [less_len V1'.out.length V2.out.length, hNm]) (Vm.less_in _ _))
  have B4 := Lib.hid (B3.out.trans (hb6.mono B3.out.size))
  have P4 := P1.out.below B4.out
  have k0 := P4.c0
  have k1 := P4.c1
  have f0 := frozen_of_row w4 w.heap.size 0 _ _ P4
  have f1 := frozen_of_row w4 w.heap.size 1 _ _ P4
  have HP4 := Lib.hid P4
  have hg2 : w1.heap.size ≤ g := by omega
  clear hk hb6 P4 V1' V2 hNm
  go_wp2
  obtain ⟨W2, hW2⟩ : ∃ W2, W2 = (w4.setCell ⟨w.heap.size, 0, none⟩ (.slice (some ⟨g, 0, none⟩) Nm Nm)).setCell ⟨w.heap.size, 1, none⟩ (.int .i64 (Pm.off (Zm.item L x1) (Zm.item L x2))) := ⟨_, rfl⟩
  rw [← hW2]
  have hrow : Pbx W2 w.heap.size (some ⟨g, 0, none⟩) Nm Nm (Pm.off (Zm.item L x1) (Zm.item L x2)) := by
    unfold Pbx; rw [hW2, heap_setCell_same _ _ _ _ _ _ (heap_setCell_same _ _ _ _ _ _ HP4.out)]; rfl
  have hv : Vec W2 (some ⟨g, 0, none⟩) Nm (Vm.less (Zm.item L x1) (Zm.item L x2)) := by rw [hW2]; exact HV.out.off_plane HP4.out _ _
  have hbt : Btw lo hi w W2 := by
    rw [hW2]
    exact (((Btw.of_below HB.out).trans (HB1.out.trans (Btw.of_below B4.out))).fresh (Nat.le_refl _) 0 _).fresh (Nat.le_refl _) 1 _
  have hsr : Src T W2 lo hi b (Rm.dr f 2) (N + 2) := HR1.out.keep (by rw [hW2]; simp [World.setCell]; exact B4.out.size) fun q _ hq => by
    rw [hW2, heap_setCell_other _ _ _ _ (by show q ≠ w.heap.size; omega), heap_setCell_other _ _ _ _ (by show q ≠ w.heap.size; omega)]
    exact B4.out.block q (by omega)
  refine bodyPost_ret (v := .agg #[.slice (some ⟨g, 0, none⟩) Nm Nm, .int .i64 (Pm.off (Zm.item L x1) (Zm.item L x2))]) (results_cell_row (p := 6) Try.results41 _ _ w.heap.size 57 _ (0, 0) _ rfl hrow Try.underlying57 rfl Try.sizePlane) rfl ?_
  exact ⟨g, Nm, rfl, hv, hNl, by omega, hsr, hbt⟩
end
end Go.Proofs.Ytafkbagjjknhlaa
