/-
  Layer 10 (data): slices of slices of int32 that came in, as a list of lists.
-/
import Derived.Test.YtecdgpacofojeaaMD
import Derived.Deep.Matrix
import Derived.Lib.SmallJoins
namespace Go.Proofs.Ytecdgpacofojeaa
open Go.RowKit

theorem Lv.of_rows {w : World} {x : Addr} {n cap base : Nat} {A : Nat → Option Addr} {L C : Nat → Nat} {Z : Nat → List Int} (hl : n ≤ cap)
    (h : ∀ r, r < cap → w.cell? (x.add r) = some (.slice (A r) (L r) (C r)) ∧ L r ≤ C r ∧ C r ≤ maxLen ∧ (Z r).length = C r ∧ (∀ n ∈ Z r, (Lit.int .i32 n).wf = true) ∧ (A r = none → C r = 0) ∧ ∀ a', A r = some a' → base ≤ a'.block ∧ ∀ c, c < C r → w.cell? (a'.add c) = some (.int .i32 ((Z r).getD c 0))) :
    Lv w (some x) n cap ((List.range n).map fun r => (Z r).take (L r)) := by
  refine ⟨by simp, hl, fun h => (by cases h), fun k l hk => ?_⟩
  rw [List.getElem?_map] at hk
  have hkn : k < n := by
    rcases Nat.lt_or_ge k n with h | h
    · exact h
    · rw [List.getElem?_eq_none (by simp; exact h)] at hk; cases hk
  rw [List.getElem?_range hkn] at hk
  simp at hk
  subst hk
  obtain ⟨h1, h2, h3, h4, h5, h6, h7⟩ := h k (by omega)
  obtain ⟨b, off, spot⟩ := x
  have hspot : spot = none := by simpa [Addr.add] using World.cell?_spot (h 0 (by omega)).1
  subst hspot
  have hb := cell_block_lt h1
  rw [Addr.add_lit] at h1 hb
  have hr : IsRow .i32 w (A k) (L k) (C k) (Z k) := by
    cases hA : A k with
    | none =>
      have := h6 hA
      exact .inl ⟨rfl, by omega, this, List.length_eq_zero_iff.1 (by omega)⟩
    | some a' => exact .inr ⟨a', rfl, h2, h3, h4, fun i hi => (h7 a' hA).2 i (by omega), h5⟩
  obtain ⟨g1, _, _, g4, _⟩ := hr.lst
  exact ⟨b, off, rfl, hb, A k, L k, C k, h1, ⟨g1, fun c hc => bounds_i32 (g4 c hc)⟩, by omega⟩
/-- two slices in a block of their own -/
theorem lv_two {w : World} {g : Nat} {A B : Option Addr} {n m c c' : Nat} {l r : List Int} (h : w.heap[g]? = some (.cells #[.slice A n c, .slice B m c'] 64 (0, 0))) (h1 : Vec w A n l) (h2 : Vec w B m r) (hn : n ≤ maxLen) (hm : m ≤ maxLen) :
    Lv w (some ⟨g, 0, none⟩) 2 2 [l, r] :=
  Lv.of_lst (vs := [.slice A n c, .slice B m c']) ⟨rfl, fun _ => ⟨g, 0, rfl, lt_of_block h, fun j u hu => by rw [cell_of_row _ _ _ _ _ _ h, Nat.zero_add]; simpa using hu⟩⟩ (((Vl.nil w).snoc h1 hn).snoc h2 hm) (Nat.le_refl _) fun h => (by cases h)
theorem lv_one {w : World} {g : Nat} {A : Option Addr} {n c : Nat} {l : List Int} (h : w.heap[g]? = some (.cells #[.slice A n c] 64 (0, 0))) (h1 : Vec w A n l) (hn : n ≤ maxLen) :
    Lv w (some ⟨g, 0, none⟩) 1 1 [l] :=
  Lv.of_lst (vs := [.slice A n c]) ⟨rfl, fun _ => ⟨g, 0, rfl, lt_of_block h, fun j u hu => by rw [cell_of_row _ _ _ _ _ _ h, Nat.zero_add]; simpa using hu⟩⟩ ((Vl.nil w).snoc h1 hn) (Nat.le_refl _) fun h => (by cases h)
end Go.Proofs.Ytecdgpacofojeaa
