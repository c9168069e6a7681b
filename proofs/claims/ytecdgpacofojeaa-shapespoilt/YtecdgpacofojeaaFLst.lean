/-
  A slice that reads as a list: own words for memory, for any element of one cell. Nothing of the program stands here but that it imports the walk's kit.
-/
import Derived.Below
import Derived.OwnWalk
import Derived.OneCell
import Derived.Laws.OwnMore
import Derived.Laws.BytesArg
import Derived.Lib.Hide
import Derived.DataReads
import Derived.Laws.AppendOwnNone
namespace Go.Proofs.Ytecdgpacofojeaa
open Go.RowKit

theorem cell_block_lt {w : World} {a : Addr} {v : Value} (h : w.cell? a = some v) : a.block < w.heap.size := by
  rcases Nat.lt_or_ge a.block w.heap.size with hlt | hge
  · exact hlt
  · unfold World.cell? at h
    rw [Array.getElem?_eq_none hge] at h
    cases h

/-- the slice value '.slice A n c' holds the cells xs, one a place, all of them below block B -/
def Lst (w : World) (B : Nat) (A : Option Addr) (n : Nat) (xs : List Value) : Prop :=
  xs.length = n ∧ (0 < n → ∃ b off, A = some ⟨b, off, none⟩ ∧ b < B ∧ ∀ j u, xs[j]? = some u → w.cell? ⟨b, off + j, none⟩ = some u)

section
variable {w w' : World} {B B' n : Nat} {A : Option Addr} {xs : List Value}
theorem Lst.at_ {k : Nat} (h : Lst w B A n xs) (hk : k < n) : ∃ b off, A = some ⟨b, off, none⟩ ∧ b < B ∧ w.cell? ⟨b, off + k, none⟩ = xs[k]? := by
  obtain ⟨b, off, e, hb, hc⟩ := h.2 (by omega)
  have hl : k < xs.length := by have := h.1; omega
  exact ⟨b, off, e, hb, by rw [hc k _ (List.getElem?_eq_getElem hl), List.getElem?_eq_getElem hl]⟩
theorem Lst.keep (h : Lst w B A n xs) (hk : ∀ p : Addr, p.block < B → w'.cell? p = w.cell? p) : Lst w' B A n xs :=
  ⟨h.1, fun hn => by
    obtain ⟨b, off, e, hb, hc⟩ := h.2 hn
    exact ⟨b, off, e, hb, fun j u hu => (hk ⟨b, off + j, none⟩ hb).trans (hc j u hu)⟩⟩
theorem Lst.more (h : Lst w B A n xs) (hB : B ≤ B') : Lst w B' A n xs :=
  ⟨h.1, fun hn => by
    obtain ⟨b, off, e, hb, hc⟩ := h.2 hn
    exact ⟨b, off, e, by omega, hc⟩⟩
theorem Lst.below (h : Lst w B A n xs) (hb : Below B w w') : Lst w' B A n xs := h.keep fun _ hp => hb.cell hp
theorem Lst.of_own {base : Nat} {e : TypeId} {c : Nat} (h : w.ownsRow base e 1 (.slice A n c) n xs) : Lst w w.heap.size A n xs := by
  refine ⟨by have := h.1; omega, fun hn => ?_⟩
  rcases h.2 with ⟨_, h0⟩ | ⟨g, cap, cur, hv, _, hg, _⟩
  · omega
  · have hA : A = some ⟨g, 0, none⟩ := by injection hv
    subst hA
    refine ⟨g, 0, rfl, lt_of_block hg, fun j u hu => ?_⟩
    have hl : j < n := by have := h.1; have := (List.getElem?_eq_some_iff.1 hu).1; omega
    have hc : cap = c := by injection hv with _ _ hc; exact hc.symm
    subst hc
    rw [Nat.zero_add, h.cellAt j (by omega)]
    exact hu
theorem Lst.nil (w : World) (B : Nat) (A : Option Addr) : Lst w B A 0 [] := ⟨rfl, fun h => absurd h (by omega)⟩
/-- a row that came in, as the frame opens it -/
theorem Lst.of_row {k : IntKind} {x : Addr} {len cap : Nat} {zs : List Int} (hl : len ≤ cap) (hz : zs.length = cap)
    (hcell : ∀ i, i < zs.length → w.cell? (x.add i) = some (.int k (zs.getD i 0))) : Lst w w.heap.size (some x) len ((zs.take len).map (Value.int k)) := by
  refine ⟨by simp; omega, fun hn => ?_⟩
  obtain ⟨b, off, spot⟩ := x
  have h0 := hcell 0 (by omega)
  have hspot : spot = none := by simpa [Addr.add] using World.cell?_spot h0
  subst hspot
  refine ⟨b, off, rfl, ?_, fun j u hu => ?_⟩
  · have := cell_block_lt h0
    rwa [Addr.add_lit] at this
  · rw [List.getElem?_map, List.getElem?_take] at hu
    have hj : j < len := by
      rcases Nat.lt_or_ge j len with h | h
      · exact h
      · rw [if_neg (by omega)] at hu; simp at hu
    rw [if_pos hj, List.getElem?_eq_getElem (by omega)] at hu
    simp at hu
    have := hcell j (by omega)
    rw [Addr.add_lit] at this
    rw [this, ← hu, List.getD_eq_getElem?_getD, List.getElem?_eq_getElem (by omega)]
    rfl
end

/-- append of a list that reads, nil too, to a row of the call's own -/
theorem append_lst {P : Program} (w : World) {ops : Array Oper} {rest : List Oper} {o : Oper} {a : Act} {Q : Exit → Act → World → Prop} (hgd : o.guard = none) (s x : Operand) (t : TypeId)
    (ho : o.op = .call { callee := .builtin .append, args := #[s, x], argTypes := #[t, t] })
    (base : Nat) (e : TypeId) (i : TypeInfo) (z : Value) (bytes : Nat) (ht : P.underlying t = some (.slice e)) (hi : P.info? e = some i) (hz : i.zero = some z)
    (hsize : i.size = 1) (hby : i.bytes = bytes) (hzs : z.cells.size = 1)
    (v : Value) (n : Nat) (xs : List Value) (hs : a.eval s = v) (hown : w.ownsRow base e 1 v n xs)
    (B : Nat) (A : Option Addr) (m c : Nat) (news : List Value) (hx : a.eval x = .slice A m c) (hA : A = none → c = 0) (hL : Lst w B A m news) (h1 : ∀ u ∈ news, u.oneCell' = true)
    (h63 : n + m ≤ maxLen) (hbytes : (n + m) * bytes ≤ 140737488355328) (hbase : base ≤ w.heap.size)
    (h : ∀ v' w', w'.ownsRow base e 1 v' (n + m) (xs ++ news) → w.grownBy w' v.ownBlock → wpList P ops Q rest (a.put o.dst v') w') : wpList P ops Q (o :: rest) a w := by
  cases A with
  | none =>
    obtain rfl : m = 0 := by
      rcases Nat.eq_zero_or_pos m with h0 | h0
      · exact h0
      · obtain ⟨_, _, hc, _⟩ := hL.2 h0; cases hc
    obtain rfl : news = [] := List.length_eq_zero_iff.1 hL.1
    obtain rfl := hA rfl
    exact wpList_append_own_none hgd s x t ho base e i 1 ht hi v n xs hs hown hx (h v w (by simpa using hown) (World.grownBy.refl _ _))
  | some ad =>
    refine wpList_append_own w hgd s x t ho base e i z 1 bytes ht hi hz hsize hby hzs (by decide) v n xs hs hown ad m c news hx (by rw [hL.1]; omega) ?_ h1 h63 hbytes hbase fun v' w' h2 h3 _ => h v' w' h2 h3
    intro j u hu
    have hj : 0 < m := by have := (List.getElem?_eq_some_iff.1 hu).1; have := hL.1; omega
    obtain ⟨b, off, hc, _, hcell⟩ := hL.2 hj
    injection hc with hc
    subst hc
    rw [Addr.add_lit]
    exact hcell j u hu
/-- an empty row that was built -/
theorem own_empty (w : World) (e : TypeId) : (w.alloc (.cells #[] e)).ownsRow w.heap.size e 1 (.slice (some ⟨w.heap.size, 0, none⟩) 0 0) 0 [] :=
  ⟨rfl, .inr ⟨w.heap.size, 0, #[], rfl, Nat.le_refl _, heap_alloc_new w _, Nat.le_refl _, Nat.zero_le _, rfl, rfl⟩⟩
theorem ints_one (k : IntKind) (l : List Int) : ∀ u ∈ l.map (Value.int k), u.oneCell' = true := ints_oneCell k l

/-- what the walk is told of a slice of integers that came in: it is nil, or it leads to a row of 'cap' cells, the numbers zs (the first 'len' are its elements), each fitting its kind -/
def IsRow (k : IntKind) (w : World) (a : Option Addr) (len cap : Nat) (zs : List Int) : Prop :=
  (a = none ∧ len = 0 ∧ cap = 0 ∧ zs = []) ∨
  ∃ x, a = some x ∧ len ≤ cap ∧ cap ≤ maxLen ∧ zs.length = cap ∧ (∀ i, i < zs.length → w.cell? (x.add i) = some (.int k (zs.getD i 0))) ∧ ∀ n ∈ zs, (Lit.int k n).wf = true
theorem IsRow.lst {k : IntKind} {w : World} {a : Option Addr} {len cap : Nat} {zs : List Int} (h : IsRow k w a len cap zs) :
    Lst w w.heap.size a len ((zs.take len).map (Value.int k)) ∧ len ≤ zs.length ∧ len ≤ cap ∧ (∀ n ∈ zs.take len, (Lit.int k n).wf = true) ∧ (a = none → cap = 0) := by
  rcases h with ⟨rfl, rfl, rfl, rfl⟩ | ⟨x, rfl, hl, hm, hz, hcell, hwf⟩
  · exact ⟨by simpa using Lst.nil w _ _, by simp, by simp, by simp, fun _ => rfl⟩
  · exact ⟨Lst.of_row hl hz hcell, by omega, hl, fun n hn => hwf n (List.mem_of_mem_take hn), fun h => by cases h⟩
end Go.Proofs.Ytecdgpacofojeaa
