/-
  Layer 12 (split): Part, Halves and Good of the program, by contracts.
-/
import Derived.Test.YtafkbagjjknhlaaZGat
import Derived.Test.YtafkbagjjknhlaaDRef
import Derived.Test.YtafkbagjjknhlaaDArg
namespace Go.Proofs.Ytafkbagjjknhlaa
open Go.RowKit

section
variable {w : World} {S : Nat → Prop} {s m c : Nat} {d : Int} {L : List (List Int)} {A Ap : Option Addr} {ids lp : List Int} {np cp : Nat} {o : Int}
theorem itemLen (x : It w S s d L) (id : Int) : (Zm.item L id).length ≤ 10000 := by
  by_cases g : 0 ≤ id ∧ id < (L.length : Int)
  · obtain ⟨k, rfl⟩ : ∃ k : Nat, id = k := ⟨id.toNat, by omega⟩
    have hk : k < L.length := by omega
    have hc := x.ok.at_ (List.getElem?_eq_getElem hk)
    rw [Zm.item_in hk, Dm.len_of hc]
    have := dim_max hc
    omega
  · by_cases g0 : id < 0
    · rw [Zm.item_low g0]; exact Nat.zero_le _
    · rw [Zm.item_high (by omega)]; exact Nat.zero_le _
theorem atZ (x : It w S s d L) (id : Int) :
    Calls Try.prog 54 #[.pointer (some ⟨s, 0, none⟩), .int .i64 id] w fun e w' => ∃ A' c' q, e = .returned (.tuple #[.slice A' (Zm.item L id).length c', .bool q]) ∧ Vec w' A' (Zm.item L id).length (Zm.item L id) ∧ Below w.heap.size w w' := by
  by_cases g : 0 ≤ id ∧ id < (L.length : Int)
  · obtain ⟨k, rfl⟩ : ∃ k : Nat, id = k := ⟨id.toNat, by omega⟩
    have hk : k < L.length := by omega
    have hl : L[k]? = some L[k] := List.getElem?_eq_getElem hk
    have hv := x.ok.at_ hl
    rw [Zm.item_in hk, Dm.len_of hv]
    refine (atD x hl).mono ?_
    rintro _ w' ⟨g, rfl, -, hB, hb⟩
    exact ⟨_, _, _, rfl, hB.vecD hv, hb⟩
  · refine (atD_no x id g).mono ?_
    rintro _ _ ⟨rfl, rfl⟩
    have e : Zm.item L id = [] := by
      by_cases g0 : id < 0
      · exact Zm.item_low g0
      · exact Zm.item_high (by omega)
    rw [e]
    exact ⟨none, 0, false, rfl, ⟨Lst.nil _ _ _, by simp⟩, Below.refl _ _⟩

set_option maxRecDepth 100000 in
theorem part1Z {k g1 g2 g3 : Nat} (x : It w S s d L) (hs : Sl w A m c ids) (hk : k < m) (_hm : m ≤ 100000) (hv : Vec w Ap np lp) (hnp : np ≤ 10000) (q1 : w.cell? ⟨g1, 0, none⟩ = some (.pointer (some ⟨s, 0, none⟩))) (q2 : w.cell? ⟨g2, 0, none⟩ = some (.slice A m c)) (P : Pbx w g3 Ap np cp o) :
    Calls Try.prog 57 #[.int .i64 (k : Int), .pointer (some ⟨g1, 0, none⟩), .pointer (some ⟨g2, 0, none⟩), .pointer (some ⟨g3, 0, none⟩)] w fun e w' => e = .returned (.bool (Zm.on L lp o (ids.getD k 0))) ∧ Below w.heap.size w w' := by
  have hkl : k < ids.length := by rw [hs.length]; exact hk
  obtain ⟨b2, off2, rfl, hb2, hc2⟩ := hs.at_ (List.getElem?_eq_getElem hkl)
  obtain ⟨y, hy⟩ : ∃ y, y = ids[k] := ⟨_, rfl⟩
  rw [← hy] at hc2
  rw [show ids.getD k 0 = y from by rw [List.getD_eq_getElem?_getD, List.getElem?_eq_getElem hkl, hy]; rfl]
  obtain ⟨n, hn⟩ : ∃ n, n = (Zm.item L y).length := ⟨_, rfl⟩
  have hn' : n ≤ 10000 := by rw [hn]; exact itemLen x y
  have FA : Hid (∀ V, Below w.heap.size w V → Calls Try.prog 54 #[.pointer (some ⟨s, 0, none⟩), .int .i64 y] V fun e w' => ∃ A' c' q, e = .returned (.tuple #[.slice A' n c', .bool q]) ∧ Vec w' A' n (Zm.item L y) ∧ Below w.heap.size w w') := Lib.hid fun V hb =>
    (atZ (x.below hb) y).mono fun _ _ ⟨A', c', q, h1, h2, h3⟩ => ⟨A', c', q, by rw [h1, hn], by rw [hn]; exact h2, hb.trans (h3.mono hb.size)⟩
  have CL : Hid (∀ V, Below w.heap.size w V → V.cell? ⟨g1, 0, none⟩ = some (.pointer (some ⟨s, 0, none⟩)) ∧ V.cell? ⟨g2, 0, none⟩ = some (.slice (some ⟨b2, off2, none⟩) m c) ∧ V.cell? ⟨b2, off2 + k, none⟩ = some (.int .i64 y)) := Lib.hid fun V hb =>
    ⟨(hb.cell (p := ⟨g1, 0, none⟩) (cell_block_lt q1)).trans q1, (hb.cell (p := ⟨g2, 0, none⟩) (cell_block_lt q2)).trans q2, (hb.cell (p := ⟨b2, off2 + k, none⟩) hb2).trans hc2⟩
  have HV := Lib.hid hv
  have HP := Lib.hid P
  have G0 := Lib.hid (Below.refl w.heap.size w).drew
  have GA0 := Lib.hid (Below.refl w.heap.size w)
  clear x hs hy hn hv P hb2 hkl
  go_enter Try.func57, Try.ntmps57
  go_wp2
  go_region_held3 (fun V => V.cell? ⟨g1, 0, none⟩ = some (.pointer (some ⟨s, 0, none⟩)) ∧ V.cell? ⟨g2, 0, none⟩ = some (.slice (some ⟨b2, off2, none⟩) m c) ∧ V.cell? ⟨b2, off2 + k, none⟩ = some (.int .i64 y)) (go_keep) (first
    | (go_at_call 54; (with_reducible refine (FA.out _ (by first | exact G0.out | exact GA0.out)).mono ?_); rintro _ Y1 ⟨A', c', q, rfl, hv', hb⟩; obtain ⟨ua0, ua1, ua2⟩ := CL.out Y1 hb; have G1 := Lib.hid hb; have HV1 := Lib.hid hv'; clear hb hv'))
  have hP1 := HP.out.below G1.out
  have k0 := hP1.c0
  have k1 := hP1.c1
  have FS := Lib.hid (fun c' => side_any Ap A' np n cp c' o lp (Zm.item L y) Y1 (HV.out.below G1.out) HV1.out hnp hn')
  clear hP1 FA CL HV HP q1 q2 hc2 ua0 ua1 ua2
  go_wp2_with fail
  refine (FS.out _).mono ?_
  rintro _ Y2 ⟨rfl, hb⟩
  have G2 := Lib.hid (G1.out.trans (hb.mono G1.out.size))
  clear hb
  go_wp2
  go_ret
  exact ⟨rfl, G2.out⟩

set_option maxRecDepth 100000 in
theorem partN (x : It w S s d L) (hs : Sl w A m c ids) (hm : m ≤ 100000) (hv : Vec w Ap np lp) (hnp : np ≤ 10000) :
    Calls Try.prog 42 #[.pointer (some ⟨s, 0, none⟩), .slice A m c, .agg #[.slice Ap np cp, .int .i64 o]] w fun e w' => ∃ A1 c1 A2 c2,
      e = .returned (.tuple #[.slice A1 (Zm.side L lp o false ids).length c1, .slice A2 (Zm.side L lp o true ids).length c2]) ∧ Sl w' A1 (Zm.side L lp o false ids).length c1 (Zm.side L lp o false ids) ∧ Sl w' A2 (Zm.side L lp o true ids).length c2 (Zm.side L lp o true ids) ∧ New w.heap.size A1 ∧ New w.heap.size A2 ∧ Below w.heap.size w w' := by
  obtain ⟨W, hW⟩ : ∃ W, W = ((w.alloc (.cells #[.pointer (some ⟨s, 0, none⟩)] 30)).alloc (.cells #[.slice A m c] 51)).alloc (.cells #[.slice Ap np cp, .int .i64 o] 57) := ⟨_, rfl⟩
  have hb : Below w.heap.size w W := by
    rw [hW]
    exact (((Below.refl _ w).alloc (Nat.le_refl _) _).alloc (by simp) _).alloc (by simp; omega) _
  have q1 : W.cell? ⟨w.heap.size, 0, none⟩ = some (.pointer (some ⟨s, 0, none⟩)) := by
    rw [hW, World.cell?_alloc_some _ _ _ (by rw [World.cell?_alloc_some _ _ _ (by rw [cell_of_row _ _ _ _ _ _ (heap_alloc_new w _)]; rfl), cell_of_row _ _ _ _ _ _ (heap_alloc_new w _)]; rfl), World.cell?_alloc_some _ _ _ (by rw [cell_of_row _ _ _ _ _ _ (heap_alloc_new w _)]; rfl), cell_of_row _ _ _ _ _ _ (heap_alloc_new w _)]; rfl
  have q2 : W.cell? ⟨w.heap.size + 1, 0, none⟩ = some (.slice A m c) := by
    have h := heap_alloc_new (w.alloc (.cells #[.pointer (some ⟨s, 0, none⟩)] 30)) (.cells #[.slice A m c] 51)
    rw [show (w.alloc (.cells #[.pointer (some ⟨s, 0, none⟩)] 30)).heap.size = w.heap.size + 1 from by simp] at h
    rw [hW, World.cell?_alloc_some _ _ _ (by rw [cell_of_row _ _ _ _ _ _ h]; rfl), cell_of_row _ _ _ _ _ _ h]; rfl
  have P : Pbx W (w.heap.size + 2) Ap np cp o := by
    have h := Pbx.new ((w.alloc (.cells #[.pointer (some ⟨s, 0, none⟩)] 30)).alloc (.cells #[.slice A m c] 51)) Ap np cp o
    rw [show ((w.alloc (.cells #[.pointer (some ⟨s, 0, none⟩)] 30)).alloc (.cells #[.slice A m c] 51)).heap.size = w.heap.size + 2 from by simp] at h
    rw [hW]; exact h
  have GT : Gth ids (fun k => Zm.on L lp o (ids.getD k 0)) (fun k => Zm.side L lp o false (ids.take k)) (fun k => Zm.side L lp o true (ids.take k)) := by
    refine ⟨by simp [Zm.side], by simp [Zm.side], fun k hk h => ?_, fun k hk h => ?_⟩ <;>
    · have e : ids.getD k 0 = ids[k] := by rw [List.getD_eq_getElem?_getD, List.getElem?_eq_getElem hk]; rfl
      rw [e] at h
      exact ⟨Zm.side_snoc_yes hk h, Zm.side_snoc_no hk h⟩
  have hall : ids.take m = ids := List.take_of_length_le (by rw [hs.length]; exact Nat.le_refl _)
  have FG := gatherP (.pointer (some ⟨w.heap.size, 0, none⟩)) (.pointer (some ⟨w.heap.size + 1, 0, none⟩)) (.pointer (some ⟨w.heap.size + 2, 0, none⟩)) (hs.below hb) hm GT
    (fun k hk V hV => part1Z ((x.below hb).below hV) ((hs.below hb).below hV) hk hm ((hv.below hb).below hV) hnp ((hV.cell (p := ⟨w.heap.size, 0, none⟩) (cell_block_lt q1)).trans q1) ((hV.cell (p := ⟨w.heap.size + 1, 0, none⟩) (cell_block_lt q2)).trans q2) (P.below hV))
  rw [hall] at FG
  have HW := Lib.hid hW
  have HG := Lib.hid FG
  have HB := Lib.hid hb
  clear x hs hv hb q1 P GT hall FG hW
  go_enter Try.func42, Try.ntmps42
  go_wp2_with fail
  rw [← HW.out]
  clear HW
  go_wp2_with fail
  refine HG.out.mono ?_
  rintro _ w1 ⟨A1, c1, A2, c2, rfl, h1, h2, h3, h4, h5⟩
  have FIN := Lib.hid (And.intro h1 (And.intro h2 (And.intro (h3.mono HB.out.size) (And.intro (h4.mono HB.out.size) (HB.out.trans (h5.mono HB.out.size))))))
  clear h1 h2 h3 h4 h5 HG HB
  go_wp2
  go_ret2
  exact ⟨A1, c1, A2, c2, rfl, FIN.out⟩
theorem half1Z {k h g : Nat} (q : w.cell? ⟨g, 0, none⟩ = some (.int .i64 (h : Int))) :
    Calls Try.prog 59 #[.int .i64 (k : Int), .pointer (some ⟨g, 0, none⟩)] w fun e w' => e = .returned (.bool (decide (h ≤ k))) ∧ Below w.heap.size w w' := by
  have G0 := Lib.hid (Below.refl w.heap.size w)
  go_enter Try.func59, Try.ntmps59
  go_wp2
  go_ret
  exact ⟨rfl, G0.out⟩

theorem gth_half (ids : List Int) (h : Nat) : Gth ids (fun k => decide (h ≤ k)) (fun k => (ids.take k).take h) (fun k => (ids.take k).drop h) := by
  refine ⟨by simp, by simp, fun k hk e => ?_, fun k hk e => ?_⟩
  · have e : h ≤ k := by simpa using e
    refine ⟨?_, ?_⟩
    · rw [List.take_succ_eq_append_getElem hk, List.drop_append_of_le_length (by rw [List.length_take]; omega)]
    · rw [List.take_take, List.take_take, Nat.min_eq_left (by omega), Nat.min_eq_left (by omega)]
  · have e : k < h := by simpa using e
    refine ⟨?_, ?_⟩
    · rw [List.take_take, List.take_take, Nat.min_eq_right (by omega), Nat.min_eq_right (by omega), List.take_succ_eq_append_getElem hk]
    · rw [List.drop_eq_nil_of_le (by rw [List.length_take]; omega), List.drop_eq_nil_of_le (by rw [List.length_take]; omega)]
set_option maxRecDepth 100000 in
theorem halvesN (hs : Sl w A m c ids) (hm : m ≤ 100000) :
    Calls Try.prog 44 #[.slice A m c] w fun e w' => ∃ A1 c1 A2 c2, e = .returned (.tuple #[.slice A1 (Zm.half ids) c1, .slice A2 (m - Zm.half ids) c2]) ∧ Sl w' A1 (Zm.half ids) c1 (ids.take (Zm.half ids)) ∧ Sl w' A2 (m - Zm.half ids) c2 (ids.drop (Zm.half ids)) ∧ New w.heap.size A1 ∧ New w.heap.size A2 ∧ Below w.heap.size w w' := by
  obtain ⟨H, hH⟩ : ∃ H, H = Zm.half ids := ⟨_, rfl⟩
  obtain ⟨hn, hhn⟩ : ∃ hn, hn = m / 2 := ⟨_, rfl⟩
  have hq2 : (m : Int).tdiv 2 = (hn : Int) := by rw [hhn]; rfl
  have hlen := hs.length
  have hHm : H = m - hn := by rw [hH, hhn]; unfold Zm.half; rw [hlen]
  have hle : hn ≤ m := by omega
  have hH1 : (m : Int) - (hn : Int) = (H : Int) := by omega
  obtain ⟨W, hW⟩ : ∃ W, W = w.alloc (.cells #[.int .i64 (H : Int)] 3) := ⟨_, rfl⟩
  have hb : Below w.heap.size w W := by rw [hW]; exact (Below.refl _ w).alloc (Nat.le_refl _) _
  have q1 : W.cell? ⟨w.heap.size, 0, none⟩ = some (.int .i64 (H : Int)) := by
    rw [hW, cell_of_row _ _ _ _ _ _ (heap_alloc_new w _)]; rfl
  have hall : ids.take m = ids := List.take_of_length_le (by rw [hlen]; exact Nat.le_refl _)
  have FG := gatherH (.pointer (some ⟨w.heap.size, 0, none⟩)) (hs.below hb) hm (gth_half ids H)
    (fun k _ V hV => half1Z ((hV.cell (p := ⟨w.heap.size, 0, none⟩) (cell_block_lt q1)).trans q1))
  have l1 : ((ids.take m).take H).length = H := by rw [hall, List.length_take, hlen]; omega
  have l2 : ((ids.take m).drop H).length = m - H := by rw [hall, List.length_drop, hlen]
  simp only [l1, l2] at FG
  simp only [hall] at FG
  rw [← hH]
  have HW := Lib.hid hW
  have HG := Lib.hid FG
  have HB := Lib.hid hb
  clear hs hb q1 hall FG hW l1 l2 hH hhn hlen hHm
  go_enter Try.func44, Try.ntmps44
  go_wp2_with fail
  rw [← HW.out]
  clear HW
  refine HG.out.mono ?_
  rintro _ w1 ⟨A1, c1, A2, c2, rfl, h1, h2, h3, h4, h5⟩
  have FIN := Lib.hid (And.intro h1 (And.intro h2 (And.intro (h3.mono HB.out.size) (And.intro (h4.mono HB.out.size) (HB.out.trans (h5.mono HB.out.size))))))
  clear h1 h2 h3 h4 h5 HG HB
  go_wp2
  go_ret2
  exact ⟨A1, c1, A2, c2, rfl, FIN.out⟩

theorem goodZ {A B : Option Addr} {n m c d : Nat} (hn : n ≤ 100000000) (hm : m ≤ 100000000) :
    Calls Try.prog 43 #[.slice A n c, .slice B m d] w fun e w' => e = .returned (.bool (Zm.good n m)) ∧ w = w' := by
  have hg := Lib.hid (show Zm.good n m = decide (0 < n ∧ 0 < m ∧ n + m ≤ 8 * n ∧ n + m ≤ 8 * m) from rfl)
  go_enter Try.func43, Try.ntmps43
  go_wp2
  all_goals
    go_ret
    refine ⟨congrArg (fun b => Ending.returned (.bool b)) ?_, rfl⟩
    rw [hg.out]
    first
      | exact decide_eq_decide.2 (by constructor <;> intro <;> omega)
      | exact (decide_eq_false (by omega)).symm
end
end Go.Proofs.Ytafkbagjjknhlaa
