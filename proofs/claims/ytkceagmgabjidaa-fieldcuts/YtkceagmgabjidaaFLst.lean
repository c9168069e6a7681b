/-
  A slice that reads as a list: own words for memory, for any element of one cell. Nothing of the program stands here but that it imports the walk's kit.
-/
import Derived.Below
import Derived.OwnWalk
import Derived.OneCell
import Derived.Laws.OwnMore
import Derived.Laws.BytesArg
import Derived.Lib.Hide
import Derived.DataReads
namespace Go.Proofs.Ytkceagmgabjidaa
open Go.RowKit

theorem cell_block_lt {w : World} {a : Addr} {v : Value} (h : w.cell? a = some v) : a.block < w.heap.size := by
  rcases Nat.lt_or_ge a.block w.heap.size with hlt | hge
  · exact hlt
  · unfold World.cell? at h
    rw [Array.getElem?_eq_none hge] at h
    cases h

/-- the slice value '.slice A n c' holds the cells xs, one a place, all of them below block B -/
def Lst (w : World) (B : Nat) (A : Option Addr) (n : Nat) (xs : List Value) : Prop :=
  xs.length = n ∧ (0 < n → ∃ b off, A = some ⟨b, off, none⟩ ∧ b < B ∧ ∀ j u, xs[j]? = some u → w.cell? ⟨b, off + j, none⟩ = some u)

section
variable {w w' : World} {B B' n : Nat} {A : Option Addr} {xs : List Value}
theorem Lst.at_ {k : Nat} (h : Lst w B A n xs) (hk : k < n) : ∃ b off, A = some ⟨b, off, none⟩ ∧ b < B ∧ w.cell? ⟨b, off + k, none⟩ = xs[k]? := by
  obtain ⟨b, off, e, hb, hc⟩ := h.2 (by omega)
  have hl : k < xs.length := by have := h.1; omega
  exact ⟨b, off, e, hb, by rw [hc k _ (List.getElem?_eq_getElem hl), List.getElem?_eq_getElem hl]⟩
theorem Lst.keep (h : Lst w B A n xs) (hk : ∀ p : Addr, p.block < B → w'.cell? p = w.cell? p) : Lst w' B A n xs :=
  ⟨h.1, fun hn => by
    obtain ⟨b, off, e, hb, hc⟩ := h.2 hn
    exact ⟨b, off, e, hb, fun j u hu => (hk ⟨b, off + j, none⟩ hb).trans (hc j u hu)⟩⟩
theorem Lst.more (h : Lst w B A n xs) (hB : B ≤ B') : Lst w B' A n xs :=
  ⟨h.1, fun hn => by
    obtain ⟨b, off, e, hb, hc⟩ := h.2 hn
    exact ⟨b, off, e, by omega, hc⟩⟩
theorem Lst.below (h : Lst w B A n xs) (hb : Below B w w') : Lst w' B A n xs := h.keep fun _ hp => hb.cell hp
theorem Lst.of_own {base : Nat} {e : TypeId} {c : Nat} (h : w.ownsRow base e 1 (.slice A n c) n xs) : Lst w w.heap.size A n xs := by
  refine ⟨by have := h.1; omega, fun hn => ?_⟩
  rcases h.2 with ⟨_, h0⟩ | ⟨g, cap, cur, hv, _, hg, _⟩
  · omega
  · have hA : A = some ⟨g, 0, none⟩ := by injection hv
    subst hA
    refine ⟨g, 0, rfl, lt_of_block hg, fun j u hu => ?_⟩
    have hl : j < n := by have := h.1; have := (List.getElem?_eq_some_iff.1 hu).1; omega
    have hc : cap = c := by injection hv with _ _ hc; exact hc.symm
    subst hc
    rw [Nat.zero_add, h.cellAt j (by omega)]
    exact hu
theorem Lst.nil (w : World) (B : Nat) (A : Option Addr) : Lst w B A 0 [] := ⟨rfl, fun h => absurd h (by omega)⟩
/-- a row that came in, as the frame opens it -/
theorem Lst.of_row {k : IntKind} {x : Addr} {len cap : Nat} {zs : List Int} (hl : len ≤ cap) (hz : zs.length = cap)
    (hcell : ∀ i, i < zs.length → w.cell? (x.add i) = some (.int k (zs.getD i 0))) : Lst w w.heap.size (some x) len ((zs.take len).map (Value.int k)) := by
  refine ⟨by simp; omega, fun hn => ?_⟩
  obtain ⟨b, off, spot⟩ := x
  have h0 := hcell 0 (by omega)
  have hspot : spot = none := by simpa [Addr.add] using World.cell?_spot h0
  subst hspot
  refine ⟨b, off, rfl, ?_, fun j u hu => ?_⟩
  · have := cell_block_lt h0
    rwa [Addr.add_lit] at this
  · rw [List.getElem?_map, List.getElem?_take] at hu
    have hj : j < len := by
      rcases Nat.lt_or_ge j len with h | h
      · exact h
      · rw [if_neg (by omega)] at hu; simp at hu
    rw [if_pos hj, List.getElem?_eq_getElem (by omega)] at hu
    simp at hu
    have := hcell j (by omega)
    rw [Addr.add_lit] at this
    rw [this, ← hu, List.getD_eq_getElem?_getD, List.getElem?_eq_getElem (by omega)]
    rfl
end

/-- what the walk is told of a slice of integers that came in: it is nil, or it leads to a row of 'cap' cells, the numbers zs (the first 'len' are its elements), each fitting its kind -/
def IsRow (k : IntKind) (w : World) (a : Option Addr) (len cap : Nat) (zs : List Int) : Prop :=
  (a = none ∧ len = 0 ∧ cap = 0 ∧ zs = []) ∨
  ∃ x, a = some x ∧ len ≤ cap ∧ cap ≤ maxLen ∧ zs.length = cap ∧ (∀ i, i < zs.length → w.cell? (x.add i) = some (.int k (zs.getD i 0))) ∧ ∀ n ∈ zs, (Lit.int k n).wf = true
theorem IsRow.lst {k : IntKind} {w : World} {a : Option Addr} {len cap : Nat} {zs : List Int} (h : IsRow k w a len cap zs) :
    Lst w w.heap.size a len ((zs.take len).map (Value.int k)) ∧ len ≤ zs.length ∧ len ≤ cap ∧ (∀ n ∈ zs.take len, (Lit.int k n).wf = true) ∧ (a = none → cap = 0) := by
  rcases h with ⟨rfl, rfl, rfl, rfl⟩ | ⟨x, rfl, hl, hm, hz, hcell, hwf⟩
  · exact ⟨by simpa using Lst.nil w _ _, by simp, by simp, by simp, fun _ => rfl⟩
  · exact ⟨Lst.of_row hl hz hcell, by omega, hl, fun n hn => hwf n (List.mem_of_mem_take hn), fun h => by cases h⟩
end Go.Proofs.Ytkceagmgabjidaa
