/-
  Layer 6 (stream): All, and what it hands back, by contracts.
-/
import Derived.Test.YtggbclkinndpnaaMAwk
import Derived.RangeFuncNested
import Derived.RangeFuncBound
import Derived.RangeFuncCalls
import Derived.RangeFuncLeaves
import Derived.Shelf.Abstract
import Derived.Shelf.RegionOpen
import Derived.OwnWalkIn
import Derived.TacticsInMore
import Derived.LoopNIn
import Derived.LoopIn
import Derived.Laws.Rows
import Derived.Laws.Tables
import Derived.Laws.CopyOwn
namespace Go.Proofs.Ytggbclkinndpnaa
open Go.RowKit Go.Shelf
attribute [local go_sem] Oper.semAt_some

theorem Try.sizeDws : (Try.prog.info? 25).map (·.size) = some 3 := by kernel_rfl
theorem lsr_lst {w : World} {lo B : Nat} {A : Option Addr} {n : Nat} {xs : List Int} (h : Lsr w lo B A n xs) : Lst w B A n (xs.map (Value.int .u64)) := by
  refine ⟨by simpa using h.1, fun hn => ?_⟩
  obtain ⟨g, off, e, _, h2, hc⟩ := h.2 hn
  refine ⟨g, off, e, h2, fun j u hu => ?_⟩
  rw [List.getElem?_map] at hu
  cases e1 : xs[j]? with
  | none => rw [e1] at hu; cases hu
  | some x =>
    rw [e1] at hu
    injection hu with hu
    rw [← hu]
    exact hc j x e1
/-- Draws of which the streams are the same -/
def Alike (sc : Bool) (s s' : Int) (xs xs' : List Int) : Prop := ∀ t n, Sm.strF sc s' xs' t n = Sm.strF sc s xs t n

theorem strOwn_any (sc : Bool) (s : Int) (A : Option Addr) (len c : Nat) (xs : List Int) (w : World) (h : Dws w w.heap.size s A len c xs) (hl : len ≤ 1000) :
    Calls Try.prog 17 #[.agg #[.bool sc, .int .u64 s, .slice A len c]] w fun e w' => ∃ s' A' n' c' xs', e = .returned (.agg #[.bool sc, .int .u64 s', .slice A' n' c']) ∧ n' ≤ 1000 ∧ Dws w' w'.heap.size s' A' n' c' xs' ∧ Lsr w' w.heap.size w'.heap.size A' n' xs' ∧ Alike sc s s' xs xs' ∧ Below w.heap.size w w' := by
  cases sc with
  | false =>
    have h' := h.s0
    have h'' := h.s1
    go_enter Try.func17, Try.ntmps17
    go_wp2
    refine bodyPost_ret (v := .agg #[.bool false, .int .u64 s, .slice none 0 0]) (results_cell_row (p := 2) Try.results17 _ _ (w.heap.size + 1) 25 _ (0, 0) _ rfl (heap_alloc2_new w _ _) Try.underlying25 rfl Try.sizeDws) rfl ?_
    exact ⟨s, none, 0, 0, [], rfl, by omega, ⟨h', h'', Lst.nil _ _ _, fun _ => rfl, by simp⟩, ⟨rfl, fun h => absurd h (by omega)⟩, fun t n => by
      by_cases q : t < 0 ∨ n ≤ t
      · rw [Sm.strF_none q, Sm.strF_none q]
      · rw [Sm.strF_seed q, Sm.strF_seed q], ((Below.refl _ _).alloc (Nat.le_refl _) _).alloc (by simp) _⟩
  | true =>
    obtain ⟨D, hD⟩ : ∃ D, D = (w.alloc (.cells #[.bool true, .int .u64 s, .slice A len c] 25)).alloc (.cells #[.bool false, .int .u64 0, .slice none 0 0] 25) := ⟨_, rfl⟩
    have HBD : Hid (Below w.heap.size w D) := by rw [hD]; exact ((Below.refl _ _).alloc (Nat.le_refl _) _).alloc (by simp) _
    have hds : w.heap.size + 1 < D.heap.size := by rw [hD]; simp
    have HR : Hid (D.heap[w.heap.size + 1]? = some (.cells #[.bool false, .int .u64 0, .slice none 0 0] 25 (0, 0))) := by rw [hD]; exact heap_alloc2_new w _ _
    have HK := Lib.hid (clone_any A len c xs D ((h.l.below HBD.out).more HBD.out.size) h.nil hl)
    have HX := Lib.hid h.x
    clear h
    go_enter Try.func17, Try.ntmps17
    go_wp2_with fail
    rw [← hD]
    refine HK.out.mono ?_
    rintro _ w1 ⟨A', c', rfl, -, hls, hb, hn'⟩
    have hrow := (hb.block (w.heap.size + 1) hds).trans HR.out
    have HL := Lib.hid (lsr_lst hls)
    have HN := Lib.hid hn'
    have HB1 := Lib.hid (HBD.out.trans (hb.mono HBD.out.size))
    have HLS := Lib.hid hls
    have hs1 := hb.size
    clear hls hb hn' HK hD HR
    have k0 : w1.cell? ⟨w.heap.size + 1, 0, none⟩ = some (.bool false) := by rw [cell_of_row _ _ _ _ _ _ hrow]; rfl
    have k1 : w1.cell? ⟨w.heap.size + 1, 1, none⟩ = some (.int .u64 0) := by rw [cell_of_row _ _ _ _ _ _ hrow]; rfl
    have k2 : w1.cell? ⟨w.heap.size + 1, 2, none⟩ = some (.slice none 0 0) := by rw [cell_of_row _ _ _ _ _ _ hrow]; rfl
    have f0 := frozen_of_row w1 (w.heap.size + 1) 0 _ _ hrow
    have f1 := frozen_of_row w1 (w.heap.size + 1) 1 _ _ hrow
    have f2 := frozen_of_row w1 (w.heap.size + 1) 2 _ _ hrow
    obtain ⟨W2, hW2⟩ : ∃ W2, W2 = ((w1.setCell ⟨w.heap.size + 1, 0, none⟩ (.bool true)).setCell ⟨w.heap.size + 1, 1, none⟩ (.int .u64 0)).setCell ⟨w.heap.size + 1, 2, none⟩ (.slice A' len c') := ⟨_, rfl⟩
    have HROW := Lib.hid hrow
    clear hrow
    go_wp2
    rw [← hW2]
    have hg : W2.heap[w.heap.size + 1]? = some (.cells #[.bool true, .int .u64 0, .slice A' len c'] 25 (0, 0)) := by
      rw [hW2, heap_setCell_same _ _ _ _ _ _ (heap_setCell_same _ _ _ _ _ _ (heap_setCell_same _ _ _ _ _ _ HROW.out))]; rfl
    have hother : ∀ k, k ≠ w.heap.size + 1 → W2.heap[k]? = w1.heap[k]? := fun k hk => by
      rw [hW2, heap_setCell_other _ _ _ _ hk, heap_setCell_other _ _ _ _ hk, heap_setCell_other _ _ _ _ hk]
    have hsz : W2.heap.size = w1.heap.size := by rw [hW2, size_set, size_set, size_set]
    have hbw : Below w.heap.size w W2 := by rw [hW2]; exact ((HB1.out.setCell (by show _ ≤ w.heap.size + 1; omega) _).setCell (by show _ ≤ w.heap.size + 1; omega) _).setCell (by show _ ≤ w.heap.size + 1; omega) _
    refine bodyPost_ret (v := .agg #[.bool true, .int .u64 0, .slice A' len c']) (results_cell_row (p := 2) Try.results17 _ _ (w.heap.size + 1) 25 _ (0, 0) _ rfl hg Try.underlying25 rfl Try.sizeDws) rfl ?_
    have hLs : Lsr W2 w.heap.size W2.heap.size A' len xs := by
      rw [hsz]
      have h0 := HLS.out.keep (w' := W2) fun q h1 h2 => World.cell?_of_block (hother _ (by omega))
      refine ⟨h0.1, fun hn => ?_⟩
      obtain ⟨g, off, e, h1, h2, h3⟩ := h0.2 hn
      exact ⟨g, off, e, by omega, h2, h3⟩
    refine ⟨0, A', len, c', xs, rfl, hl, ⟨by omega, by omega, lsr_lst hLs, HN.out, HX.out⟩, hLs, fun t n => ?_, hbw⟩
    · by_cases q : t < 0 ∨ n ≤ t
      · rw [Sm.strF_none q, Sm.strF_none q]
      · rw [Sm.strF_list q, Sm.strF_list q]
/-- what All hands back holds, from block q on, below B: Draws of its own, and how many trees there are -/
structure AllAt (W : World) (q B : Nat) (sc : Bool) (s : Int) (A : Option Addr) (n c : Nat) (xs : List Int) (N : Int) : Prop where
  row : W.heap[q]? = some (.cells #[.bool sc, .int .u64 s, .slice A n c] 25 (0, 0))
  t : W.heap[q + 1]? = some (.cells #[.int .i64 N] 3 (0, 0))
  d : Dws W B s A n c xs
  ls : Lsr W q B A n xs
  len : n ≤ 1000
  lt : q + 2 ≤ B
section
variable {W W' : World} {q B n c : Nat} {sc : Bool} {s N : Int} {A : Option Addr} {xs : List Int}
theorem AllAt.keep (h : AllAt W q B sc s A n c xs N) (hk : ∀ j, q ≤ j → j < B → W'.heap[j]? = W.heap[j]?) : AllAt W' q B sc s A n c xs N := by
  have hlt := h.lt
  have hl := h.ls.keep (w' := W') fun a h1 h2 => World.cell?_of_block (hk a.block h1 h2)
  exact ⟨(hk q (Nat.le_refl _) (by omega)).trans h.row, (hk (q + 1) (by omega) (by omega)).trans h.t, ⟨h.d.s0, h.d.s1, lsr_lst hl, h.d.nil, h.d.x⟩, hl, h.len, h.lt⟩
theorem AllAt.cells (h : AllAt W q B sc s A n c xs N) : W.cell? ⟨q, 0, none⟩ = some (.bool sc) ∧ W.cell? ⟨q, 1, none⟩ = some (.int .u64 s) ∧ W.cell? ⟨q, 2, none⟩ = some (.slice A n c) ∧ W.cell? ⟨q + 1, 0, none⟩ = some (.int .i64 N) := by
  rw [cell_of_row _ _ _ _ _ _ h.row, cell_of_row _ _ _ _ _ _ h.row, cell_of_row _ _ _ _ _ _ h.row, cell_of_row _ _ _ _ _ _ h.t]
  exact ⟨rfl, rfl, rfl, rfl⟩
end
theorem strAll_any (sc : Bool) (s : Int) (A : Option Addr) (len c : Nat) (xs : List Int) (n : Int) (w : World) (h : Dws w w.heap.size s A len c xs) (hl : len ≤ 1000) :
    Calls Try.prog 13 #[.agg #[.bool sc, .int .u64 s, .slice A len c], .int .i64 n] w fun e w' => e = .returned (.func (.func 18) #[] #[.pointer (some ⟨w.heap.size + 1, 0, none⟩), .pointer (some ⟨w.heap.size, 0, none⟩)]) ∧
      ∃ s' A' n' c' xs', AllAt w' w.heap.size w'.heap.size sc s' A' n' c' xs' n ∧ Alike sc s s' xs xs' ∧ Below w.heap.size w w' := by
  obtain ⟨D, hD⟩ : ∃ D, D = (w.alloc (.cells #[.bool sc, .int .u64 s, .slice A len c] 25)).alloc (.cells #[.int .i64 n] 3) := ⟨_, rfl⟩
  have HBD : Hid (Below w.heap.size w D) := by rw [hD]; exact ((Below.refl _ _).alloc (Nat.le_refl _) _).alloc (by simp) _
  have hds : D.heap.size = w.heap.size + 2 := by rw [hD]; simp
  have HR0 : Hid (D.heap[w.heap.size]? = some (.cells #[.bool sc, .int .u64 s, .slice A len c] 25 (0, 0))) := by rw [hD]; exact (Below.heap_alloc _ _ _ (by simp)).trans (heap_new w _ _)
  have HR1 : Hid (D.heap[w.heap.size + 1]? = some (.cells #[.int .i64 n] 3 (0, 0))) := by rw [hD]; exact heap_alloc2_new w _ _
  have HK := Lib.hid (strOwn_any sc s A len c xs D ((h.below HBD.out).more HBD.out.size) hl)
  clear h
  go_enter Try.func13, Try.ntmps13
  go_wp2_with fail
  rw [← hD]
  refine HK.out.mono ?_
  rintro _ w1 ⟨s', A', n', c', xs', rfl, hn', hdw, hls, hal, hb⟩
  have hrow := (hb.block w.heap.size (by omega)).trans HR0.out
  have hrow1 := (hb.block (w.heap.size + 1) (by omega)).trans HR1.out
  have HDW := Lib.hid hdw
  have HLS := Lib.hid hls
  have HAL := Lib.hid hal
  have HB1 := Lib.hid (HBD.out.trans (hb.mono HBD.out.size))
  have hs1 := hb.size
  clear hdw hls hal hb HK hD HR0 HR1
  have k0 : w1.cell? ⟨w.heap.size, 0, none⟩ = some (.bool sc) := by rw [cell_of_row _ _ _ _ _ _ hrow]; rfl
  have k1 : w1.cell? ⟨w.heap.size, 1, none⟩ = some (.int .u64 s) := by rw [cell_of_row _ _ _ _ _ _ hrow]; rfl
  have k2 : w1.cell? ⟨w.heap.size, 2, none⟩ = some (.slice A len c) := by rw [cell_of_row _ _ _ _ _ _ hrow]; rfl
  have f0 := frozen_of_row w1 w.heap.size 0 _ _ hrow
  have f1 := frozen_of_row w1 w.heap.size 1 _ _ hrow
  have f2 := frozen_of_row w1 w.heap.size 2 _ _ hrow
  obtain ⟨W2, hW2⟩ : ∃ W2, W2 = ((w1.setCell ⟨w.heap.size, 0, none⟩ (.bool sc)).setCell ⟨w.heap.size, 1, none⟩ (.int .u64 s')).setCell ⟨w.heap.size, 2, none⟩ (.slice A' n' c') := ⟨_, rfl⟩
  have HROW := Lib.hid hrow
  have HROW1 := Lib.hid hrow1
  clear hrow hrow1
  go_wp2
  go_ret
  rw [← hW2]
  have hother : ∀ k, k ≠ w.heap.size → W2.heap[k]? = w1.heap[k]? := fun k hk => by
    rw [hW2, heap_setCell_other _ _ _ _ hk, heap_setCell_other _ _ _ _ hk, heap_setCell_other _ _ _ _ hk]
  have hsz : W2.heap.size = w1.heap.size := by rw [hW2, size_set, size_set, size_set]
  have hbw : Below w.heap.size w W2 := by rw [hW2]; exact ((HB1.out.setCell (Nat.le_refl _) _).setCell (Nat.le_refl _) _).setCell (Nat.le_refl _) _
  have hL2 : Lsr W2 w.heap.size W2.heap.size A' n' xs' := by
    rw [hsz]
    have h0 := HLS.out.keep (w' := W2) fun q h1 h2 => World.cell?_of_block (hother _ (by omega))
    refine ⟨h0.1, fun hn => ?_⟩
    obtain ⟨g, off, e, h1, h2, h3⟩ := h0.2 hn
    exact ⟨g, off, e, by omega, h2, h3⟩
  refine ⟨rfl, s', A', n', c', xs', ⟨?_, (hother _ (by omega)).trans HROW1.out, ?_, hL2, hn', by omega⟩, HAL.out, hbw⟩
  · rw [hW2, heap_setCell_same _ _ _ _ _ _ (heap_setCell_same _ _ _ _ _ _ (heap_setCell_same _ _ _ _ _ _ HROW.out))]; rfl
  · have hd := HDW.out
    exact ⟨hd.s0, hd.s1, lsr_lst hL2, hd.nil, hd.x⟩
end Go.Proofs.Ytggbclkinndpnaa
