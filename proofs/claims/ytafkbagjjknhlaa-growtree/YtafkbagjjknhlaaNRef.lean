/-
  Layer 9 (marks): the document's own functions, by contracts: Same, Unique.
-/
import Derived.Test.YtafkbagjjknhlaaNMem
import Derived.WalkKit
namespace Go.Proofs.Ytafkbagjjknhlaa
open Go.RowKit

theorem take_step {l l' : List Int} {i : Nat} {x : Int} (h : l.take i = l'.take i) (h1 : l[i]? = some x) (h2 : l'[i]? = some x) : l.take (i + 1) = l'.take (i + 1) := by rw [List.take_add_one, List.take_add_one, h, h1, h2]
theorem refSame (A A' : Option Addr) (n c n' c' : Nat) (l l' : List Int) (w : World) (h : Sl w A n c l) (h' : Sl w A' n' c' l') (hn : n ≤ 1000000) :
    Calls Try.prog 28 #[.slice A n c, .slice A' n' c'] w fun e w' => e = .returned (.bool (decide (l = l'))) ∧ Below w.heap.size w w' := by
  have hl := h.length
  have hl' := h'.length
  by_cases hnn : n = n'
  · subst hnn
    have HS := Lib.hid h
    have HS' := Lib.hid h'
    have HL := Lib.hid hl
    have HL' := Lib.hid hl'
    clear h h' hl hl'
    go_enter Try.func28, Try.ntmps28
    go_wp2
    go_loopw [5] (fun p wr => ∃ k : Nat, p = .int .i64 (k : Int) ∧ k ≤ n ∧ l.take k = l'.take k ∧ Below w.heap.size w wr) (fun p _ => n - (intOf p).toNat)
    case atStart => exact ⟨0, rfl, Nat.zero_le _, rfl, Below.refl _ _⟩
    case round =>
      obtain ⟨k, rfl, hk, ht, hb⟩ := hrel
      have HT := Lib.hid ht
      have HB := Lib.hid hb
      clear ht hb
      by_cases hlt : k < n
      · obtain ⟨x, hx⟩ := HS.out.get hlt
        obtain ⟨y, hy⟩ := HS'.out.get hlt
        obtain ⟨b, off, rfl, hbl, c1⟩ := HS.out.at_ hx
        obtain ⟨b', off', rfl, hbl', c2⟩ := HS'.out.at_ hy
        replace c1 := (HB.out.cell (p := ⟨b, off + k, none⟩) hbl).trans c1
        replace c2 := (HB.out.cell (p := ⟨b', off' + k, none⟩) hbl').trans c2
        have HX := Lib.hid hx
        have HY := Lib.hid hy
        clear hx hy hbl hbl'
        by_cases hxy : x = y
        · subst hxy
          go_wp2
          go_quiet (fail)
          have HB2 := Lib.hid (bdrew HB.out nq)
          go_wp2
          go_roundw
          case rel => exact ⟨k + 1, congrArg (Value.int .i64) (by omega), by omega, take_step HT.out HX.out HY.out, HB2.out⟩
          case measure => simp [intOf]; omega
        · have g : (x != y) = true := by simp [hxy]
          have HNE := Lib.hid (show l ≠ l' from fun e => hxy (by have h1 := HX.out; have h2 := HY.out; rw [e, h2] at h1; injection h1 with h1; exact h1.symm))
          clear hxy
          go_wp2
          go_quiet (fail)
          have HB2 := Lib.hid (bdrew HB.out nq)
          go_wp2
          go_ret
          exact ⟨by rw [show decide (l = l') = false from by simp [HNE.out]]; rfl, HB2.out⟩
      · have HE := Lib.hid (show l = l' from by have := HT.out; rw [show k = n by omega, List.take_of_length_le (by rw [HL.out]; exact Nat.le_refl _), List.take_of_length_le (by rw [HL'.out]; exact Nat.le_refl _)] at this; exact this)
        go_wp2
        go_ret
        exact ⟨by rw [show decide (l = l') = true from by simp [HE.out]]; rfl, HB.out⟩
  · have hne : l ≠ l' := fun e => hnn (by rw [← hl, ← hl', e])
    have HNE := Lib.hid hne
    clear h h' hl hl' hne
    go_enter Try.func28, Try.ntmps28
    go_wp2
    go_ret
    exact ⟨by rw [show decide (l = l') = false from by simp [HNE.out]]; rfl, Below.refl _ _⟩
theorem step_lt {S : List Int} {q : Nat} {x y : Int} (h : ∀ j, j < q → S.getD j 0 < x) (hy : S[q]? = some y) (hlt : y < x) : ∀ j, j < q + 1 → S.getD j 0 < x := by
  intro j hj
  by_cases e : j = q
  · subst e; rw [List.getD_eq_getElem?_getD, hy]; exact hlt
  · exact h j (by omega)
end Go.Proofs.Ytafkbagjjknhlaa
