/-
  Layer 4 (order): slices of structs that came in, as a list.
-/
import Derived.Test.YtdpoieemadblnaaOSlc
import Derived.Deep.SlicePairs
import Derived.Lib.SmallJoins
namespace Go.Proofs.Ytdpoieemadblnaa
open Go.RowKit

theorem each_list {w : World} {x : Addr} : ∀ n : Nat, (∀ j, j < n → ∃ q : Om.E, w.cell? (x.add (j * 2)) = some (.int .i64 q.1) ∧ w.cell? (x.add (j * 2 + 1)) = some (.int .i64 q.2)) →
    ∃ l : List Om.E, l.length = n ∧ ∀ j u, (cel l)[j]? = some u → w.cell? (x.add j) = some u := by
  intro n
  induction n with
  | zero => intro _; exact ⟨[], rfl, fun j u hu => by simp [cel_nil] at hu⟩
  | succ n ih =>
    intro h
    obtain ⟨l, hl, hc⟩ := ih fun j hj => h j (by omega)
    obtain ⟨q, h1, h2⟩ := h n (by omega)
    refine ⟨l ++ [q], by simp [hl], fun j u hu => ?_⟩
    rw [cel_append] at hu
    rcases Nat.lt_or_ge j (cel l).length with hj | hj
    · rw [List.getElem?_append_left hj] at hu
      exact hc j u hu
    · rw [List.getElem?_append_right hj] at hu
      rw [cel_length, hl] at hu hj
      have : j - 2 * n = 0 ∨ j - 2 * n = 1 := by
        have := (List.getElem?_eq_some_iff.1 hu).1
        simp [cel] at this
        omega
      rcases this with e | e
      · rw [e] at hu
        obtain rfl : j = n * 2 := by omega
        rw [h1]; simpa [cel] using hu
      · rw [e] at hu
        obtain rfl : j = n * 2 + 1 := by omega
        rw [h2]; simpa [cel] using hu
theorem VecE.of_each {w : World} {x : Addr} (n : Nat) (h : ∀ j, j < n → ∃ q : Om.E, w.cell? (x.add (j * 2)) = some (.int .i64 q.1) ∧ w.cell? (x.add (j * 2 + 1)) = some (.int .i64 q.2)) : ∃ l : List Om.E, VecE w (some x) n l := by
  obtain ⟨l, hl, hc⟩ := each_list n h
  refine ⟨l, hl, fun hn => ?_⟩
  obtain ⟨b, off, spot⟩ := x
  obtain ⟨q, h1, _⟩ := h 0 hn
  have hspot : spot = none := by simpa [Addr.add] using World.cell?_spot h1
  subst hspot
  refine ⟨b, off, rfl, ?_, fun j u hu => ?_⟩
  · have := cell_block_lt h1
    rwa [Addr.add_lit] at this
  · have := hc j u hu
    rwa [Addr.add_lit] at this
end Go.Proofs.Ytdpoieemadblnaa
