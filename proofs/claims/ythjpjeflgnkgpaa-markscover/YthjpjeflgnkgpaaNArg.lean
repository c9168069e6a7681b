/-
  Layer 9 (marks): slices of slices that came in, as a list of lists.
-/
import Derived.Test.YthjpjeflgnkgpaaNVal
import Derived.Deep.Matrix
import Derived.Lib.SmallJoins
namespace Go.Proofs.Ythjpjeflgnkgpaa
open Go.RowKit

theorem Ls.nil_ (w : World) : Ls w none 0 0 [] := ⟨rfl, Nat.le_refl _, fun _ => rfl, fun k l h => by simp at h⟩
theorem Ls.of_rows {w : World} {x : Addr} {n cap base : Nat} {A : Nat → Option Addr} {L C : Nat → Nat} {Z : Nat → List Int} (hl : n ≤ cap)
    (h : ∀ r, r < cap → w.cell? (x.add r) = some (.slice (A r) (L r) (C r)) ∧ L r ≤ C r ∧ C r ≤ maxLen ∧ (Z r).length = C r ∧ (∀ n ∈ Z r, (Lit.int .i64 n).wf = true) ∧ (A r = none → C r = 0) ∧ ∀ a', A r = some a' → base ≤ a'.block ∧ ∀ c, c < C r → w.cell? (a'.add c) = some (.int .i64 ((Z r).getD c 0))) :
    Ls w (some x) n cap ((List.range n).map fun r => (Z r).take (L r)) := by
  refine ⟨by simp, hl, fun h => (by cases h), fun k l hk => ?_⟩
  rw [List.getElem?_map] at hk
  have hkn : k < n := by
    rcases Nat.lt_or_ge k n with h | h
    · exact h
    · rw [List.getElem?_eq_none (by simp; exact h)] at hk; cases hk
  rw [List.getElem?_range hkn] at hk
  simp at hk
  subst hk
  obtain ⟨h1, h2, h3, h4, h5, h6, h7⟩ := h k (by omega)
  obtain ⟨b, off, spot⟩ := x
  have hspot : spot = none := by simpa [Addr.add] using World.cell?_spot (h 0 (by omega)).1
  subst hspot
  have hb := cell_block_lt h1
  rw [Addr.add_lit] at h1 hb
  refine ⟨b, off, rfl, hb, A k, L k, C k, h1, Sl.of_row (cap := C k) (zs := Z k) ?_⟩
  cases hA : A k with
  | none =>
    have := h6 hA
    exact .inl ⟨rfl, by omega, this, List.length_eq_zero_iff.1 (by omega)⟩
  | some a' => exact .inr ⟨a', rfl, h2, h3, h4, fun i hi => (h7 a' hA).2 i (by omega), h5⟩
end Go.Proofs.Ythjpjeflgnkgpaa
