/-
  Layer 4 (order): own words for memory: a block of structs of two numbers, and a world of which all but one block is as it was.
-/
import Derived.Test.YtafkbagjjknhlaaOMath
import Derived.Test.YtafkbagjjknhlaaFLst
import Derived.BigQuiet
namespace Go.Proofs.Ytafkbagjjknhlaa
open Go.RowKit

/-- the cells of a list of structs -/
def cel (l : List Om.E) : List Value := l.flatMap fun p => [.int .i64 p.1, .int .i64 p.2]
theorem cel_nil : cel [] = [] := rfl
theorem cel_cons (p : Om.E) (l : List Om.E) : cel (p :: l) = .int .i64 p.1 :: .int .i64 p.2 :: cel l := rfl
theorem cel_append (a b : List Om.E) : cel (a ++ b) = cel a ++ cel b := by simp [cel]
theorem cel_length (l : List Om.E) : (cel l).length = 2 * l.length := by
  induction l with
  | nil => rfl
  | cons p l ih => rw [cel_cons]; simp [ih]; omega
theorem cel_fst : ∀ (l : List Om.E) (i : Nat) (x : Om.E), l[i]? = some x → (cel l)[2 * i]? = some (.int .i64 x.1) := by
  intro l
  induction l with
  | nil => intro i x h; simp at h
  | cons p l ih =>
    intro i x h
    cases i with
    | zero => simp at h; subst h; rfl
    | succ i => rw [cel_cons, show 2 * (i + 1) = 2 * i + 1 + 1 from by omega, List.getElem?_cons_succ, List.getElem?_cons_succ]; exact ih i x (by simpa using h)
theorem cel_snd : ∀ (l : List Om.E) (i : Nat) (x : Om.E), l[i]? = some x → (cel l)[2 * i + 1]? = some (.int .i64 x.2) := by
  intro l
  induction l with
  | nil => intro i x h; simp at h
  | cons p l ih =>
    intro i x h
    cases i with
    | zero => simp at h; subst h; rfl
    | succ i => rw [cel_cons, show 2 * (i + 1) + 1 = 2 * i + 1 + 1 + 1 from by omega, List.getElem?_cons_succ, List.getElem?_cons_succ]; exact ih i x (by simpa using h)
theorem cel_set : ∀ (l : List Om.E) (i : Nat) (x : Om.E), ((cel l).set (2 * i) (.int .i64 x.1)).set (2 * i + 1) (.int .i64 x.2) = cel (l.set i x) := by
  intro l
  induction l with
  | nil => intro i x; rfl
  | cons p l ih =>
    intro i x
    cases i with
    | zero => rfl
    | succ i =>
      rw [cel_cons, show 2 * (i + 1) = 2 * i + 1 + 1 from by omega, List.set_cons_succ, List.set_cons_succ, List.set_cons_succ, List.set_cons_succ, List.set_cons_succ, cel_cons, ih]

/-- a block of these structs alone -/
def BlkE (t : TypeId) (w : World) (g : Nat) (l : List Om.E) : Prop := w.heap[g]? = some (.cells (cel l).toArray t (0, 0))
section
variable {t : TypeId} {w w' : World} {g : Nat} {l : List Om.E}
theorem BlkE.lt (h : BlkE t w g l) : g < w.heap.size := lt_of_block h
theorem BlkE.fst (h : BlkE t w g l) {i : Nat} {x : Om.E} (hx : l[i]? = some x) : w.cell? ⟨g, i * 2, none⟩ = some (.int .i64 x.1) := by
  rw [Nat.mul_comm i 2, cell_of_row _ _ _ _ _ _ h]; simpa using cel_fst l i x hx
theorem BlkE.snd (h : BlkE t w g l) {i : Nat} {x : Om.E} (hx : l[i]? = some x) : w.cell? ⟨g, i * 2 + 1, none⟩ = some (.int .i64 x.2) := by
  rw [Nat.mul_comm i 2, cell_of_row _ _ _ _ _ _ h]; simpa using cel_snd l i x hx
theorem BlkE.frozen (h : BlkE t w g l) (k : Nat) : w.frozen? ⟨g, k, none⟩ = false := frozen_of_row _ _ _ _ _ h
theorem BlkE.set (h : BlkE t w g l) (i : Nat) (x1 x2 : Int) : BlkE t ((w.setCell ⟨g, i * 2, none⟩ (.int .i64 x1)).setCell ⟨g, i * 2 + 1, none⟩ (.int .i64 x2)) g (l.set i (x1, x2)) := by
  rw [Nat.mul_comm i 2]
  have h1 : (w.setCell ⟨g, 2 * i, none⟩ (.int .i64 x1)).heap[g]? = some (.cells ((cel l).toArray.setIfInBounds (2 * i) (.int .i64 x1)) t (0, 0)) := heap_setCell_same _ _ _ _ _ _ h
  have h2 : ((w.setCell ⟨g, 2 * i, none⟩ (.int .i64 x1)).setCell ⟨g, 2 * i + 1, none⟩ (.int .i64 x2)).heap[g]? = some (.cells (((cel l).toArray.setIfInBounds (2 * i) (.int .i64 x1)).setIfInBounds (2 * i + 1) (.int .i64 x2)) t (0, 0)) := heap_setCell_same _ _ _ _ _ _ h1
  unfold BlkE
  rw [h2, ← cel_set l i (x1, x2)]
  congr 2
  refine Array.ext' ?_
  simp
theorem BlkE.drew (h : BlkE t w g l) : BlkE t w.drew g l := h
theorem BlkE.drewN (h : BlkE t w g l) (d : Nat) : BlkE t (w.drewN d) g l := by
  induction d with
  | zero => exact h
  | succ d ih => exact ih.drew
theorem BlkE.below (h : BlkE t w g l) (hb : Below w.heap.size w w') : BlkE t w' g l := by
  unfold BlkE; rw [hb.block g h.lt]; exact h

/-- all but block g is as it was -/
structure But (g : Nat) (w w' : World) : Prop where
  os : w'.os = w.os
  tape : w'.tape = w.tape
  output : w'.output = w.output
  size : w.heap.size ≤ w'.heap.size
  block : ∀ k, k < w.heap.size → k ≠ g → w'.heap[k]? = w.heap[k]?
theorem But.refl (g : Nat) (w : World) : But g w w := ⟨rfl, rfl, rfl, Nat.le_refl _, fun _ _ _ => rfl⟩
theorem But.trans {a b c : World} (h : But g a b) (k : But g b c) : But g a c :=
  ⟨k.os.trans h.os, k.tape.trans h.tape, k.output.trans h.output, Nat.le_trans h.size k.size, fun i hi hg => (k.block i (Nat.lt_of_lt_of_le hi h.size) hg).trans (h.block i hi hg)⟩
theorem But.of_below (h : Below w.heap.size w w') : But g w w' := ⟨h.os, h.tape, h.output, h.size, fun k hk _ => h.block k hk⟩
theorem But.below {a b c : World} (h : But g a b) (k : Below b.heap.size b c) : But g a c := h.trans (But.of_below k)
theorem But.drew {a : World} (h : But g a w) : But g a w.drew := ⟨h.os, h.tape, h.output, h.size, h.block⟩
theorem But.drewN {a : World} (h : But g a w) (d : Nat) : But g a (w.drewN d) := by
  induction d with
  | zero => exact h
  | succ d ih => exact ih.drew
theorem But.setCell {a : World} (h : But g a w) (o : Nat) (u : Value) : But g a (w.setCell ⟨g, o, none⟩ u) :=
  h.trans ⟨rfl, rfl, rfl, by simp [World.setCell], fun k _ hg => Below.heap_setCell _ _ _ _ hg⟩
theorem But.cell {a : World} (h : But g a w) {p : Addr} (hp : p.block < a.heap.size) (hg : p.block ≠ g) : w.cell? p = a.cell? p := World.cell?_of_block (w := a) (h.block p.block hp hg)
/-- a block that is new is none of the old ones -/
theorem But.old {B : Nat} {a : World} (h : But g a w) (hB : B ≤ a.heap.size) (hg : B ≤ g) : Below B a w := ⟨h.os, h.tape, h.output, h.size, fun k hk => h.block k (by omega) (by omega)⟩
/-- two structs stored -/
theorem BlkE.swap {a : World} (h : BlkE t w g l) (hb : But g a w) (p q : Nat) (x1 x2 y1 y2 : Int) :
    BlkE t ((((w.setCell ⟨g, p * 2, none⟩ (.int .i64 y1)).setCell ⟨g, p * 2 + 1, none⟩ (.int .i64 y2)).setCell ⟨g, q * 2, none⟩ (.int .i64 x1)).setCell ⟨g, q * 2 + 1, none⟩ (.int .i64 x2)).drew g ((l.set p (y1, y2)).set q (x1, x2)) ∧
    But g a ((((w.setCell ⟨g, p * 2, none⟩ (.int .i64 y1)).setCell ⟨g, p * 2 + 1, none⟩ (.int .i64 y2)).setCell ⟨g, q * 2, none⟩ (.int .i64 x1)).setCell ⟨g, q * 2 + 1, none⟩ (.int .i64 x2)).drew :=
  ⟨((h.set p y1 y2).set q x1 x2).drew, ((((hb.setCell _ _).setCell _ _).setCell _ _).setCell _ _).drew⟩
end
end Go.Proofs.Ytafkbagjjknhlaa
