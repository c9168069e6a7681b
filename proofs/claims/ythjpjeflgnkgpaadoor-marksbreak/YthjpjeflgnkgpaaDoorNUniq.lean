/-
  Layer 9 (marks): Unique of integers, by contract: what it answers is all of l, rising, each once, in memory of its own.
-/
import Derived.Test.YthjpjeflgnkgpaaDoorNMem
import Derived.Test.YthjpjeflgnkgpaaDoorNShelf
import Derived.Lib.OwnBridge
import Derived.Sort.Grow
import Derived.WalkKit
namespace Go.Proofs.YthjpjeflgnkgpaaDoor
open Go.RowKit Go.Shelf

theorem cloneI_some (b off n c : Nat) (l : List Int) (w : World) (h : Lst w w.heap.size (some ⟨b, off, none⟩) n (ci l)) (h0 : 0 < n) (hn : n ≤ 1000000) :
    Calls Tryd.prog 28 #[.slice (some ⟨b, off, none⟩) n c] w fun e w' => ∃ v', e = .returned v' ∧ w'.ownsRow w.heap.size 3 1 v' n (l.map (Value.int .i64)) ∧ v' ≠ .slice none 0 0 ∧ Below w.heap.size w w' := by
  have hl : l.length = n := by have := h.1; rwa [ci_length] at this
  obtain ⟨b', off', e, _, hc⟩ := h.2 h0
  injection e with e
  injection e with e1 e2
  subst e1
  subst e2
  have := Any.slices_Clone_int Tryd.cloneI b off n c l w (by omega) (by omega) (fun j hj => by
    rw [hc j (.int .i64 l[j]) (by simp [ci, hj]), List.getD_eq_getElem?_getD, List.getElem?_eq_getElem hj]
    rfl)
  rw [List.take_of_length_le (by omega)] at this
  exact this
theorem cloneI_zero (a : Addr) (c : Nat) (w : World) :
    Calls Tryd.prog 28 #[.slice (some a) 0 c] w fun e w' => ∃ v', e = .returned v' ∧ w'.ownsRow w.heap.size 3 1 v' 0 (([] : List Int).map (Value.int .i64)) ∧ v' ≠ .slice none 0 0 ∧ Below w.heap.size w w' := Any.slices_Clone_int_zero Tryd.cloneI a c w
theorem cloneI_nil (n c : Nat) (w : World) : Calls Tryd.prog 28 #[.slice none n c] w fun e w' => e = .returned (.slice none 0 0) ∧ w' = w := Any.slices_Clone_int_nil Tryd.cloneI n c w
theorem sortI_some (g cap n : Nat) (l : List Int) (w : World) (hH : Sort.Holds (Value.int .i64) w g 0 l.toArray) (hg : g < w.heap.size) (hl : l.length = n) (hn : n ≤ 1000000) :
    Calls Tryd.prog 29 #[.slice (some ⟨g, 0, none⟩) n cap] w fun e w' => e = .returned (.tuple #[]) ∧ ∃ q os, w' = Sort.grow (Sort.putRow (Value.int .i64) (Sort.ahead w q) g 0 (l.mergeSort fun x y => decide (x ≤ y)).toArray) os := by
  subst hl
  exact Any.slices_Sort_int Tryd.sortI g 0 cap l w hH hg (by omega)
theorem sortI_none (p : Option Addr) (cap : Nat) (w : World) : Calls Tryd.prog 29 #[.slice p 0 cap] w fun e w' => e = .returned (.tuple #[]) ∧ w' = w := Any.slices_Sort_int_none Tryd.sortI p cap w
theorem compI_some (g cap n : Nat) (l : List Int) (w : World) (hH : Sort.Holds (Value.int .i64) w g 0 l.toArray) (hl : l.length = n) (hn : n ≤ 1000000) (hc : n ≤ cap) :
    Calls Tryd.prog 30 #[.slice (some ⟨g, 0, none⟩) n cap] w fun e w' => e = .returned (.slice (some ⟨g, 0, none⟩) (Lib.compact l).length cap) ∧ ∃ q, w' = Sort.putRow (Value.int .i64) (Sort.ahead w q) g 0 (Lib.compact l ++ List.replicate (n - (Lib.compact l).length) 0).toArray := by
  subst hl
  exact Any.slices_Compact_int Tryd.compI g 0 cap l w hH (by omega) hc
theorem compI_none (p : Option Addr) (cap : Nat) (w : World) : Calls Tryd.prog 30 #[.slice p 0 cap] w fun e w' => e = .returned (.slice p 0 cap) ∧ w' = w := Any.slices_Compact_int_empty Tryd.compI p cap w

theorem below_grow (w : World) (os : Array Obj) : Below w.heap.size w (Sort.grow w os) := ⟨rfl, rfl, rfl, by simp [Sort.grow], fun k hk => Sort.heap_grow_old _ _ hk⟩
/-- what is made of a copy, sorted and compacted -/
theorem uniq_end {w w1 : World} {g cap n q r : Nat} {os : Array Obj} {l : List Int} (hown : w1.ownsRow w.heap.size 3 1 (.slice (some ⟨g, 0, none⟩) n cap) n (l.map (Value.int .i64))) (hb : Below w.heap.size w w1) (hg : w.heap.size ≤ g) (hl : l.length = n) {W : World}
    (hW : W = Sort.putRow (Value.int .i64) (Sort.ahead (Sort.grow (Sort.putRow (Value.int .i64) (Sort.ahead w1 q) g 0 (l.mergeSort fun x y => decide (x ≤ y)).toArray) os) r) g 0 (Nm.uniq l ++ List.replicate (n - (Nm.uniq l).length) 0).toArray) :
    W.ownsRow w.heap.size 3 1 (.slice (some ⟨g, 0, none⟩) (Nm.uniq l).length cap) (Nm.uniq l).length (ci (Nm.uniq l)) ∧ Below w.heap.size w W := by
  have hle := Nm.uniq_le l
  have hs : (l.mergeSort fun x y => decide (x ≤ y)).length = n := by rw [List.length_mergeSort]; exact hl
  have o1 := Lib.ownsRow_putRow (q := q) (k := n) hown (ys := l.mergeSort fun x y => decide (x ≤ y)) hs (Nat.le_refl _)
  rw [List.take_of_length_le (by omega)] at o1
  have o2 := own_below o1 (below_grow _ os)
  have o3 := Lib.ownsRow_putRow (q := r) (k := (Nm.uniq l).length) o2 (ys := Nm.uniq l ++ List.replicate (n - (Nm.uniq l).length) 0) (by simp; omega) (by omega)
  rw [List.take_left] at o3
  have b1 : Below w.heap.size w (Sort.putRow (Value.int .i64) (Sort.ahead w1 q) g 0 (l.mergeSort fun x y => decide (x ≤ y)).toArray) := Lib.below_putRow hb hg
  have b2 := b1.trans ((below_grow _ os).mono b1.size)
  subst hW
  exact ⟨o3, Lib.below_putRow b2 hg⟩

set_option maxHeartbeats 800000 in
theorem uniq_some (A : Option Addr) (n c : Nat) (l : List Int) (w : World) (hn : n ≤ 1000000)
    (hc : Calls Tryd.prog 28 #[.slice A n c] w fun e w' => ∃ v', e = .returned v' ∧ w'.ownsRow w.heap.size 3 1 v' n (l.map (Value.int .i64)) ∧ v' ≠ .slice none 0 0 ∧ Below w.heap.size w w') :
    Calls Tryd.prog 16 #[.slice A n c] w fun e w' => ∃ A' c', e = .returned (.slice A' (Nm.uniq l).length c') ∧ w'.ownsRow w.heap.size 3 1 (.slice A' (Nm.uniq l).length c') (Nm.uniq l).length (ci (Nm.uniq l)) ∧ Below w.heap.size w w' := by
  have HC := Lib.hid hc
  clear hc
  go_enter Tryd.func16, Tryd.ntmps16
  go_wp2_with fail
  refine HC.out.mono ?_
  rintro e w1 ⟨v1, rfl, hown, hne, hb⟩
  obtain ⟨g, cap, rfl, hbg, hgl, hnc, hcm, hlen, hH⟩ := Lib.holds_of_ownsRow hown hne
  have HO := Lib.hid hown
  have HB := Lib.hid hb
  have HS := Lib.hid (sortI_some g cap n l w1 hH hgl hlen hn)
  have HH := Lib.hid hH
  have HLN := Lib.hid hlen
  clear hown hb hH hne hlen
  go_wp2_with fail
  refine HS.out.mono ?_
  rintro e w2 ⟨rfl, q, os, hw2⟩
  have hl2 : (l.mergeSort fun x y => decide (x ≤ y)).length = n := by rw [List.length_mergeSort]; exact HLN.out
  have hH2 : Sort.Holds (Value.int .i64) w2 g 0 (l.mergeSort fun x y => decide (x ≤ y)).toArray := by
    rw [hw2]
    exact Sort.holds_grow _ _ os g 0 _ (by simpa [Sort.putRow, Sort.mapBlock, Sort.ahead] using hgl) (Sort.holds_putRow _ _ g 0 _ _ (Sort.holds_ahead _ w1 q g 0 _ HH.out) (by simp))
  have HK := Lib.hid (compI_some g cap n _ w2 hH2 hl2 hn hnc)
  have HW2 := Lib.hid hw2
  clear hw2 hH2 hl2
  go_wp2_with fail
  refine HK.out.mono ?_
  rintro e w3 ⟨rfl, r, hw3⟩
  have HE := Lib.hid (uniq_end (q := q) (r := r) (os := os) HO.out HB.out hbg HLN.out (show w3 = _ from by rw [hw3, HW2.out]; rfl))
  clear hw3 HK HS HC
  go_wp2
  go_ret
  exact ⟨some ⟨g, 0, none⟩, cap, rfl, HE.out.1, HE.out.2⟩
theorem uniq_nil (n c : Nat) (w : World) : Calls Tryd.prog 16 #[.slice none n c] w fun e w' => e = .returned (.slice none 0 0) ∧ w' = w := by
  go_enter Tryd.func16, Tryd.ntmps16
  go_wp2_with fail
  refine (cloneI_nil n c w).mono ?_
  rintro e w1 ⟨rfl, rfl⟩
  go_wp2_with fail
  refine (sortI_none none 0 _).mono ?_
  rintro e w2 ⟨rfl, rfl⟩
  go_wp2_with fail
  refine (compI_none none 0 _).mono ?_
  rintro e w3 ⟨rfl, rfl⟩
  go_wp2
  go_ret
  exact ⟨rfl, rfl⟩
/-- Unique of integers -/
theorem uniqI (A : Option Addr) (n c : Nat) (l : List Int) (w : World) (h : Sl w A n c l) (hn : n ≤ 1000000) :
    Calls Tryd.prog 16 #[.slice A n c] w fun e w' => ∃ A' c', e = .returned (.slice A' (Nm.uniq l).length c') ∧ w'.ownsRow w.heap.size 3 1 (.slice A' (Nm.uniq l).length c') (Nm.uniq l).length (ci (Nm.uniq l)) ∧ Below w.heap.size w w' := by
  cases A with
  | none =>
    obtain ⟨rfl, rfl, rfl⟩ := h.isNone
    refine (uniq_nil 0 0 w).mono ?_
    rintro e w' ⟨rfl, rfl⟩
    have e0 : Nm.uniq [] = [] := by simp [Nm.uniq, Lib.compact, Lib.compactUpTo]
    rw [e0]
    exact ⟨none, 0, rfl, World.ownsRow_nil _ _ _ _, Below.refl _ _⟩
  | some a =>
    rcases Nat.eq_zero_or_pos n with h0 | h0
    · subst h0
      obtain rfl := h.zero
      exact uniq_some _ 0 c [] w (by omega) (cloneI_zero a c w)
    · obtain ⟨b, off, e, _⟩ := h.lst.2 h0
      rw [e] at h ⊢
      exact uniq_some _ n c l w hn (cloneI_some b off n c l w h.lst h0 hn)
end Go.Proofs.YthjpjeflgnkgpaaDoor
