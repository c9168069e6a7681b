/-
  Layer 9 (marks): texts: a slice of texts, Unique of texts, Contains, by contracts.
-/
import Derived.Test.YthjpjeflgnkgpaaDoorNUniq
import Derived.Lib.RowBridge
namespace Go.Proofs.YthjpjeflgnkgpaaDoor
open Go.RowKit Go.Shelf

/-- a slice of texts that reads as ss (each its bytes) -/
structure Ss (w : World) (A : Option Addr) (n c : Nat) (ss : List (List UInt8)) : Prop where
  lst : Lst w w.heap.size A n (ss.map encStr)
  cap : n ≤ c
  nil : A = none → c = 0
section
variable {w w' : World} {A : Option Addr} {n c : Nat} {ss : List (List UInt8)}
theorem Ss.length (h : Ss w A n c ss) : ss.length = n := by have := h.lst.1; simpa using this
theorem Ss.below (h : Ss w A n c ss) (hb : Below w.heap.size w w') : Ss w' A n c ss := ⟨(h.lst.below hb).more hb.size, h.cap, h.nil⟩
theorem Ss.drewN (h : Ss w A n c ss) (d : Nat) : Ss (w.drewN d) A n c ss := h.below (bdrew (Below.refl _ w) d)
theorem Ss.nil_ (w : World) : Ss w none 0 0 [] := ⟨Lst.nil _ _ _, Nat.le_refl _, fun _ => rfl⟩
theorem Ss.of_own {base : Nat} {e : TypeId} (h : w.ownsRow base e 1 (.slice A n c) n (ss.map encStr)) : Ss w A n c ss := by
  obtain ⟨A', c', e1, h1, h2⟩ := own_form h
  injection e1 with e1 _ e3
  subst e1
  subst e3
  exact ⟨Lst.of_own h, h2, h1⟩
theorem Ss.at_ (h : Ss w A n c ss) {k : Nat} {x : List UInt8} (hx : ss[k]? = some x) : ∃ b off, A = some ⟨b, off, none⟩ ∧ b < w.heap.size ∧ w.cell? ⟨b, off + k, none⟩ = some (encStr x) := by
  have hk : k < n := by have := (List.getElem?_eq_some_iff.1 hx).1; have := h.length; omega
  obtain ⟨b, off, e, hb, hc⟩ := h.lst.at_ hk
  exact ⟨b, off, e, hb, by rw [hc, List.getElem?_map, hx]; rfl⟩
theorem Ss.get (h : Ss w A n c ss) {k : Nat} (hk : k < n) : ∃ x, ss[k]? = some x := ⟨_, List.getElem?_eq_getElem (by rw [h.length]; exact hk)⟩
theorem Ss.zero (h : Ss w A 0 c ss) : ss = [] := List.length_eq_zero_iff.1 h.length
theorem Ss.isNone (h : Ss w none n c ss) : n = 0 ∧ c = 0 ∧ ss = [] := by
  have hc := h.nil rfl
  have hn := h.cap
  have h0 : n = 0 := by omega
  subst h0
  exact ⟨rfl, hc, h.zero⟩
end
/-- a slice of texts that came in -/
theorem Ss.of_cells {w : World} {x : Addr} {n cap : Nat} {Sx : Nat → ByteArray} (hl : n ≤ cap) (h : ∀ j, j < n → w.cell? (x.add j) = some (.string (Sx j))) : Ss w (some x) n cap (Lib.strsOf Sx n) := by
  refine ⟨⟨by simp [Lib.strsOf], fun hn => ?_⟩, hl, fun h => by cases h⟩
  have h0 := h 0 hn
  obtain ⟨b, off, spot⟩ := x
  have hspot : spot = none := by simpa [Addr.add] using World.cell?_spot h0
  subst hspot
  refine ⟨b, off, rfl, ?_, fun j u hu => ?_⟩
  · have := cell_block_lt h0
    rwa [Addr.add_lit] at this
  · have hj : j < n := by
      have := (List.getElem?_eq_some_iff.1 hu).1
      simpa [Lib.strsOf] using this
    have := h j hj
    rw [Addr.add_lit] at this
    rw [this, ← hu]
    simp [Lib.strsOf, hj, encStr]
/-- the same texts, as the program holds them -/
def tx (ss : List (List UInt8)) : List ByteArray := ss.map fun x => ⟨x.toArray⟩
theorem tx_val (ss : List (List UInt8)) : (tx ss).map Value.string = ss.map encStr := by simp [tx, encStr, Function.comp_def]
theorem tx_at {w : World} {b off n c : Nat} {ss : List (List UInt8)} (h : Ss w (some ⟨b, off, none⟩) n c ss) : ∀ j, j < (tx ss).length → w.cell? ⟨b, off + j, none⟩ = some (.string ((tx ss).getD j ByteArray.empty)) := by
  intro j hj
  have hj2 : j < ss.length := by simpa [tx] using hj
  obtain ⟨b', off', e, -, hc⟩ := h.at_ (k := j) (x := ss[j]) (List.getElem?_eq_getElem hj2)
  injection e with e
  injection e with e1 e2
  subst e1
  subst e2
  rw [hc]
  simp [tx, List.getD_eq_getElem?_getD, hj2, encStr]
/-- all of ss, rising, each once -/
def uniqT (ss : List (List UInt8)) : List (List UInt8) := Lib.compact (ss.mergeSort fun x y => decide (x ≤ y))
theorem le_antisymmT (a b : List UInt8) (h1 : a ≤ b) (h2 : b ≤ a) : a = b := List.le_antisymm h1 h2
theorem uniqT_ri (ss : List (List UInt8)) : (uniqT ss).Pairwise (fun a b => a ≤ b ∧ a ≠ b) := by
  have hs : (ss.mergeSort fun x y => decide (x ≤ y)).Pairwise (fun a b => a ≤ b) :=
    (List.pairwise_mergeSort (fun a b c h1 h2 => by simp only [decide_eq_true_eq] at *; exact List.le_trans h1 h2) (fun a b => by simp only [Bool.or_eq_true, decide_eq_true_eq]; exact List.le_total a b) ss).imp (by simp)
  exact Nm.compact_pw le_antisymmT (fun a => List.le_refl a) _ hs
theorem uniqT_mem (ss : List (List UInt8)) (x : List UInt8) : x ∈ uniqT ss ↔ x ∈ ss := by
  unfold uniqT
  rw [Nm.compact_mem, List.mem_mergeSort]
theorem uniqT_le (ss : List (List UInt8)) : (uniqT ss).length ≤ ss.length := by
  unfold uniqT Lib.compact Lib.compactUpTo
  rw [List.length_map]
  refine Nat.le_trans (List.length_filter_le _ _) ?_
  simp

theorem cloneT_some (b off n c : Nat) (ss : List (List UInt8)) (w : World) (h : Ss w (some ⟨b, off, none⟩) n c ss) (hn : n ≤ 1000000) :
    Calls Tryd.prog 31 #[.slice (some ⟨b, off, none⟩) n c] w fun e w' => ∃ v', e = .returned v' ∧ w'.ownsRow w.heap.size 9 1 v' n (ss.map encStr) ∧ v' ≠ .slice none 0 0 ∧ Below w.heap.size w w' := by
  have hl := h.length
  have hl2 : (tx ss).length = n := by simp [tx, hl]
  have := Any.slices_Clone_string Tryd.cloneS b off n c (tx ss) w (by omega) (by omega) (tx_at h)
  rw [List.take_of_length_le (by omega), tx_val] at this
  exact this
theorem cloneT_zero (a : Addr) (c : Nat) (w : World) :
    Calls Tryd.prog 31 #[.slice (some a) 0 c] w fun e w' => ∃ v', e = .returned v' ∧ w'.ownsRow w.heap.size 9 1 v' 0 (([] : List (List UInt8)).map encStr) ∧ v' ≠ .slice none 0 0 ∧ Below w.heap.size w w' := Any.slices_Clone_string_zero Tryd.cloneS a c w
theorem sortT_some (g cap n : Nat) (l : List (List UInt8)) (w : World) (hH : Sort.Holds encStr w g 0 l.toArray) (hg : g < w.heap.size) (hl : l.length = n) (hn : n ≤ 1000000) :
    Calls Tryd.prog 32 #[.slice (some ⟨g, 0, none⟩) n cap] w fun e w' => e = .returned (.tuple #[]) ∧ ∃ q os, w' = Sort.grow (Sort.putRow encStr (Sort.ahead w q) g 0 (l.mergeSort fun x y => decide (x ≤ y)).toArray) os := by
  subst hl
  exact Any.slices_Sort_string Tryd.sortS g 0 cap l w hH hg (by omega)
theorem compT_some (g cap n : Nat) (l : List (List UInt8)) (w : World) (hH : Sort.Holds encStr w g 0 l.toArray) (hl : l.length = n) (hn : n ≤ 1000000) (hc : n ≤ cap) :
    Calls Tryd.prog 33 #[.slice (some ⟨g, 0, none⟩) n cap] w fun e w' => e = .returned (.slice (some ⟨g, 0, none⟩) (Lib.compact l).length cap) ∧ ∃ q, w' = Sort.putRow encStr (Sort.ahead w q) g 0 (Lib.compact l ++ List.replicate (n - (Lib.compact l).length) []).toArray := by
  subst hl
  exact Any.slices_Compact_string Tryd.compS g 0 cap l w hH (by omega) hc
theorem uniqT_end {w w1 : World} {g cap n q r : Nat} {os : Array Obj} {l : List (List UInt8)} (hown : w1.ownsRow w.heap.size 9 1 (.slice (some ⟨g, 0, none⟩) n cap) n (l.map encStr)) (hb : Below w.heap.size w w1) (hg : w.heap.size ≤ g) (hl : l.length = n) {W : World}
    (hW : W = Sort.putRow encStr (Sort.ahead (Sort.grow (Sort.putRow encStr (Sort.ahead w1 q) g 0 (l.mergeSort fun x y => decide (x ≤ y)).toArray) os) r) g 0 (uniqT l ++ List.replicate (n - (uniqT l).length) []).toArray) :
    W.ownsRow w.heap.size 9 1 (.slice (some ⟨g, 0, none⟩) (uniqT l).length cap) (uniqT l).length ((uniqT l).map encStr) ∧ Below w.heap.size w W := by
  have hle := uniqT_le l
  have hs : (l.mergeSort fun x y => decide (x ≤ y)).length = n := by rw [List.length_mergeSort]; exact hl
  have o1 := Lib.ownsRow_putRow (q := q) (k := n) hown (ys := l.mergeSort fun x y => decide (x ≤ y)) hs (Nat.le_refl _)
  rw [List.take_of_length_le (by omega)] at o1
  have o2 := own_below o1 (below_grow _ os)
  have o3 := Lib.ownsRow_putRow (q := r) (k := (uniqT l).length) o2 (ys := uniqT l ++ List.replicate (n - (uniqT l).length) []) (by simp; omega) (by omega)
  rw [List.take_left] at o3
  have b1 : Below w.heap.size w (Sort.putRow encStr (Sort.ahead w1 q) g 0 (l.mergeSort fun x y => decide (x ≤ y)).toArray) := Lib.below_putRow hb hg
  have b2 := b1.trans ((below_grow _ os).mono b1.size)
  subst hW
  exact ⟨o3, Lib.below_putRow b2 hg⟩

set_option maxHeartbeats 800000 in
theorem uniqT_some (A : Option Addr) (n c : Nat) (l : List (List UInt8)) (w : World) (hn : n ≤ 1000000)
    (hc : Calls Tryd.prog 31 #[.slice A n c] w fun e w' => ∃ v', e = .returned v' ∧ w'.ownsRow w.heap.size 9 1 v' n (l.map encStr) ∧ v' ≠ .slice none 0 0 ∧ Below w.heap.size w w') :
    Calls Tryd.prog 17 #[.slice A n c] w fun e w' => ∃ A' c', e = .returned (.slice A' (uniqT l).length c') ∧ w'.ownsRow w.heap.size 9 1 (.slice A' (uniqT l).length c') (uniqT l).length ((uniqT l).map encStr) ∧ Below w.heap.size w w' := by
  have HC := Lib.hid hc
  clear hc
  go_enter Tryd.func17, Tryd.ntmps17
  go_wp2_with fail
  refine HC.out.mono ?_
  rintro e w1 ⟨v1, rfl, hown, hne, hb⟩
  obtain ⟨g, cap, rfl, hbg, hgl, hnc, hcm, hlen, hH⟩ := Lib.holds_of_ownsRow hown hne
  have HO := Lib.hid hown
  have HB := Lib.hid hb
  have HS := Lib.hid (sortT_some g cap n l w1 hH hgl hlen hn)
  have HH := Lib.hid hH
  have HLN := Lib.hid hlen
  clear hown hb hH hne hlen
  go_wp2_with fail
  refine HS.out.mono ?_
  rintro e w2 ⟨rfl, q, os, hw2⟩
  have hl2 : (l.mergeSort fun x y => decide (x ≤ y)).length = n := by rw [List.length_mergeSort]; exact HLN.out
  have hH2 : Sort.Holds encStr w2 g 0 (l.mergeSort fun x y => decide (x ≤ y)).toArray := by
    rw [hw2]
    exact Sort.holds_grow _ _ os g 0 _ (by simpa [Sort.putRow, Sort.mapBlock, Sort.ahead] using hgl) (Sort.holds_putRow _ _ g 0 _ _ (Sort.holds_ahead _ w1 q g 0 _ HH.out) (by simp))
  have HK := Lib.hid (compT_some g cap n _ w2 hH2 hl2 hn hnc)
  have HW2 := Lib.hid hw2
  clear hw2 hH2 hl2
  go_wp2_with fail
  refine HK.out.mono ?_
  rintro e w3 ⟨rfl, r, hw3⟩
  have HE := Lib.hid (uniqT_end (q := q) (r := r) (os := os) HO.out HB.out hbg HLN.out (show w3 = _ from by rw [hw3, HW2.out]; rfl))
  clear hw3 HK HS HC
  go_wp2
  go_ret
  exact ⟨some ⟨g, 0, none⟩, cap, rfl, HE.out.1, HE.out.2⟩
theorem uniqT_nil (n c : Nat) (w : World) : Calls Tryd.prog 17 #[.slice none n c] w fun e w' => e = .returned (.slice none 0 0) ∧ w' = w := by
  go_enter Tryd.func17, Tryd.ntmps17
  go_wp2_with fail
  refine (Any.slices_Clone_string_nil Tryd.cloneS n c w : Calls Tryd.prog 31 _ _ _).mono ?_
  rintro e w1 ⟨rfl, rfl⟩
  go_wp2_with fail
  refine (Any.slices_Sort_string_none Tryd.sortS none 0 _ : Calls Tryd.prog 32 _ _ _).mono ?_
  rintro e w2 ⟨rfl, rfl⟩
  go_wp2_with fail
  refine (Any.slices_Compact_string_empty Tryd.compS none 0 _ : Calls Tryd.prog 33 _ _ _).mono ?_
  rintro e w3 ⟨rfl, rfl⟩
  go_wp2
  go_ret
  exact ⟨rfl, rfl⟩
/-- Unique of texts -/
theorem uniqS (A : Option Addr) (n c : Nat) (l : List (List UInt8)) (w : World) (h : Ss w A n c l) (hn : n ≤ 1000000) :
    Calls Tryd.prog 17 #[.slice A n c] w fun e w' => ∃ A' c', e = .returned (.slice A' (uniqT l).length c') ∧ w'.ownsRow w.heap.size 9 1 (.slice A' (uniqT l).length c') (uniqT l).length ((uniqT l).map encStr) ∧ Below w.heap.size w w' := by
  cases A with
  | none =>
    obtain ⟨rfl, rfl, rfl⟩ := h.isNone
    refine (uniqT_nil 0 0 w).mono ?_
    rintro e w' ⟨rfl, rfl⟩
    have e0 : uniqT [] = [] := by simp [uniqT, Lib.compact, Lib.compactUpTo]
    rw [e0]
    exact ⟨none, 0, rfl, World.ownsRow_nil _ _ _ _, Below.refl _ _⟩
  | some a =>
    rcases Nat.eq_zero_or_pos n with h0 | h0
    · subst h0
      obtain rfl := h.zero
      exact uniqT_some _ 0 c [] w (by omega) (cloneT_zero a c w)
    · obtain ⟨b, off, e, _⟩ := h.lst.2 h0
      rw [e] at h ⊢
      exact uniqT_some _ n c l w hn (cloneT_some b off n c l w h hn)
/-- Contains of texts -/
theorem contT (A : Option Addr) (n c : Nat) (ss : List (List UInt8)) (x : List UInt8) (w : World) (h : Ss w A n c ss) (hn : n ≤ 1000000) (hx : x ∈ ss) :
    Calls Tryd.prog 18 #[.slice A n c, encStr x] w fun e w' => e = .returned (.bool true) ∧ w' = w := by
  have hl := h.length
  have hp : 0 < n := by rw [← hl]; exact List.length_pos_of_mem hx
  obtain ⟨b, off, e, _⟩ := h.lst.2 hp
  subst e
  have hl2 : (tx ss).length = n := by simp [tx, hl]
  have := Any.slices_Contains_string Tryd.contS b off n c (tx ss) ⟨x.toArray⟩ w (by omega) (by omega) (tx_at h)
  rw [List.take_of_length_le (by omega), (Lib.containsS_iff (tx ss) ⟨x.toArray⟩).2 (List.mem_map.2 ⟨x, hx, rfl⟩)] at this
  exact this
end Go.Proofs.YthjpjeflgnkgpaaDoor
