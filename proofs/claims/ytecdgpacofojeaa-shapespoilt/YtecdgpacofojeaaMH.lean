/-
  Layer 4 (order): own words for memory: a block of structs of two numbers, and a world of which all but one block is as it was.
  Layer 4 (order): which of two comes first, by contracts: Nearer, Ahead, Less, Compare, and the comparison that Sort hands on.
  Layer 7 (heap): own words for memory: a row that begins with some cells, a heap that holds it, and what lies beside it.
-/
import Derived.Test.YtecdgpacofojeaaOMath
import Derived.Test.YtecdgpacofojeaaFLst
import Derived.BigQuiet
import Derived.Test.YtecdgpacofojeaaGRet
import Derived.Test.YtecdgpacofojeaaRows
import Derived.WalkKit
import Derived.WalkSpells
import Derived.WalkLawsBesides
import Derived.Outline
import Derived.Below
import Derived.Lib.Hide
import Derived.Deep.QuietTactic
import Derived.Test.YtecdgpacofojeaaHMath
import Derived.Lib.SliceRun
namespace Go.Proofs.Ytecdgpacofojeaa
open Go.RowKit

/-- the cells of a list of structs -/
def cel (l : List Om.E) : List Value := l.flatMap fun p => [.int .i64 p.1, .int .i64 p.2]
theorem cel_nil : cel [] = [] := rfl
theorem cel_cons (p : Om.E) (l : List Om.E) : cel (p :: l) = .int .i64 p.1 :: .int .i64 p.2 :: cel l := rfl
theorem cel_append (a b : List Om.E) : cel (a ++ b) = cel a ++ cel b := by simp [cel]
theorem cel_length (l : List Om.E) : (cel l).length = 2 * l.length := by
  induction l with
  | nil => rfl
  | cons p l ih => rw [cel_cons]; simp [ih]; omega
theorem cel_fst : ∀ (l : List Om.E) (i : Nat) (x : Om.E), l[i]? = some x → (cel l)[2 * i]? = some (.int .i64 x.1) := by
  intro l
  induction l with
  | nil => intro i x h; simp at h
  | cons p l ih =>
    intro i x h
    cases i with
    | zero => simp at h; subst h; rfl
    | succ i => rw [cel_cons, show 2 * (i + 1) = 2 * i + 1 + 1 from by omega, List.getElem?_cons_succ, List.getElem?_cons_succ]; exact ih i x (by simpa using h)
theorem cel_snd : ∀ (l : List Om.E) (i : Nat) (x : Om.E), l[i]? = some x → (cel l)[2 * i + 1]? = some (.int .i64 x.2) := by
  intro l
  induction l with
  | nil => intro i x h; simp at h
  | cons p l ih =>
    intro i x h
    cases i with
    | zero => simp at h; subst h; rfl
    | succ i => rw [cel_cons, show 2 * (i + 1) + 1 = 2 * i + 1 + 1 + 1 from by omega, List.getElem?_cons_succ, List.getElem?_cons_succ]; exact ih i x (by simpa using h)
theorem cel_set : ∀ (l : List Om.E) (i : Nat) (x : Om.E), ((cel l).set (2 * i) (.int .i64 x.1)).set (2 * i + 1) (.int .i64 x.2) = cel (l.set i x) := by
  intro l
  induction l with
  | nil => intro i x; rfl
  | cons p l ih =>
    intro i x
    cases i with
    | zero => rfl
    | succ i =>
      rw [cel_cons, show 2 * (i + 1) = 2 * i + 1 + 1 from by omega, List.set_cons_succ, List.set_cons_succ, List.set_cons_succ, List.set_cons_succ, List.set_cons_succ, cel_cons, ih]

/-- a block of these structs alone -/
def BlkE (t : TypeId) (w : World) (g : Nat) (l : List Om.E) : Prop := w.heap[g]? = some (.cells (cel l).toArray t (0, 0))
section
variable {t : TypeId} {w w' : World} {g : Nat} {l : List Om.E}
theorem BlkE.lt (h : BlkE t w g l) : g < w.heap.size := lt_of_block h
theorem BlkE.fst (h : BlkE t w g l) {i : Nat} {x : Om.E} (hx : l[i]? = some x) : w.cell? ⟨g, i * 2, none⟩ = some (.int .i64 x.1) := by
  rw [Nat.mul_comm i 2, cell_of_row _ _ _ _ _ _ h]; simpa using cel_fst l i x hx
theorem BlkE.snd (h : BlkE t w g l) {i : Nat} {x : Om.E} (hx : l[i]? = some x) : w.cell? ⟨g, i * 2 + 1, none⟩ = some (.int .i64 x.2) := by
  rw [Nat.mul_comm i 2, cell_of_row _ _ _ _ _ _ h]; simpa using cel_snd l i x hx
theorem BlkE.frozen (h : BlkE t w g l) (k : Nat) : w.frozen? ⟨g, k, none⟩ = false := frozen_of_row _ _ _ _ _ h
theorem BlkE.set (h : BlkE t w g l) (i : Nat) (x1 x2 : Int) : BlkE t ((w.setCell ⟨g, i * 2, none⟩ (.int .i64 x1)).setCell ⟨g, i * 2 + 1, none⟩ (.int .i64 x2)) g (l.set i (x1, x2)) := by
  rw [Nat.mul_comm i 2]
  have h1 : (w.setCell ⟨g, 2 * i, none⟩ (.int .i64 x1)).heap[g]? = some (.cells ((cel l).toArray.setIfInBounds (2 * i) (.int .i64 x1)) t (0, 0)) := heap_setCell_same _ _ _ _ _ _ h
  have h2 : ((w.setCell ⟨g, 2 * i, none⟩ (.int .i64 x1)).setCell ⟨g, 2 * i + 1, none⟩ (.int .i64 x2)).heap[g]? = some (.cells (((cel l).toArray.setIfInBounds (2 * i) (.int .i64 x1)).setIfInBounds (2 * i + 1) (.int .i64 x2)) t (0, 0)) := heap_setCell_same _ _ _ _ _ _ h1
  unfold BlkE
  rw [h2, ← cel_set l i (x1, x2)]
  congr 2
  refine Array.ext' ?_
  simp
theorem BlkE.drew (h : BlkE t w g l) : BlkE t w.drew g l := h
theorem BlkE.drewN (h : BlkE t w g l) (d : Nat) : BlkE t (w.drewN d) g l := by
  induction d with
  | zero => exact h
  | succ d ih => exact ih.drew
theorem BlkE.below (h : BlkE t w g l) (hb : Below w.heap.size w w') : BlkE t w' g l := by
  unfold BlkE; rw [hb.block g h.lt]; exact h

/-- all but block g is as it was -/
structure But (g : Nat) (w w' : World) : Prop where
  os : w'.os = w.os
  tape : w'.tape = w.tape
  output : w'.output = w.output
  size : w.heap.size ≤ w'.heap.size
  block : ∀ k, k < w.heap.size → k ≠ g → w'.heap[k]? = w.heap[k]?
theorem But.refl (g : Nat) (w : World) : But g w w := ⟨rfl, rfl, rfl, Nat.le_refl _, fun _ _ _ => rfl⟩
theorem But.trans {a b c : World} (h : But g a b) (k : But g b c) : But g a c :=
  ⟨k.os.trans h.os, k.tape.trans h.tape, k.output.trans h.output, Nat.le_trans h.size k.size, fun i hi hg => (k.block i (Nat.lt_of_lt_of_le hi h.size) hg).trans (h.block i hi hg)⟩
theorem But.of_below (h : Below w.heap.size w w') : But g w w' := ⟨h.os, h.tape, h.output, h.size, fun k hk _ => h.block k hk⟩
theorem But.below {a b c : World} (h : But g a b) (k : Below b.heap.size b c) : But g a c := h.trans (But.of_below k)
theorem But.drew {a : World} (h : But g a w) : But g a w.drew := ⟨h.os, h.tape, h.output, h.size, h.block⟩
theorem But.drewN {a : World} (h : But g a w) (d : Nat) : But g a (w.drewN d) := by
  induction d with
  | zero => exact h
  | succ d ih => exact ih.drew
theorem But.setCell {a : World} (h : But g a w) (o : Nat) (u : Value) : But g a (w.setCell ⟨g, o, none⟩ u) :=
  h.trans ⟨rfl, rfl, rfl, by simp [World.setCell], fun k _ hg => Below.heap_setCell _ _ _ _ hg⟩
theorem But.cell {a : World} (h : But g a w) {p : Addr} (hp : p.block < a.heap.size) (hg : p.block ≠ g) : w.cell? p = a.cell? p := World.cell?_of_block (w := a) (h.block p.block hp hg)
/-- a block that is new is none of the old ones -/
theorem But.old {B : Nat} {a : World} (h : But g a w) (hB : B ≤ a.heap.size) (hg : B ≤ g) : Below B a w := ⟨h.os, h.tape, h.output, h.size, fun k hk => h.block k (by omega) (by omega)⟩
/-- two structs stored -/
theorem BlkE.swap {a : World} (h : BlkE t w g l) (hb : But g a w) (p q : Nat) (x1 x2 y1 y2 : Int) :
    BlkE t ((((w.setCell ⟨g, p * 2, none⟩ (.int .i64 y1)).setCell ⟨g, p * 2 + 1, none⟩ (.int .i64 y2)).setCell ⟨g, q * 2, none⟩ (.int .i64 x1)).setCell ⟨g, q * 2 + 1, none⟩ (.int .i64 x2)).drew g ((l.set p (y1, y2)).set q (x1, x2)) ∧
    But g a ((((w.setCell ⟨g, p * 2, none⟩ (.int .i64 y1)).setCell ⟨g, p * 2 + 1, none⟩ (.int .i64 y2)).setCell ⟨g, q * 2, none⟩ (.int .i64 x1)).setCell ⟨g, q * 2 + 1, none⟩ (.int .i64 x2)).drew :=
  ⟨((h.set p y1 y2).set q x1 x2).drew, ((((hb.setCell _ _).setCell _ _).setCell _ _).setCell _ _).drew⟩
end
end Go.Proofs.Ytecdgpacofojeaa
namespace Go.Proofs.Ytecdgpacofojeaa
open Go.RowKit


theorem below_two (w : World) (o o' : Obj) : Below w.heap.size w ((w.alloc o).alloc o') := ((Below.refl _ w).alloc (Nat.le_refl _) _).alloc (by simp) _

/-- two boxed structs, as a call that came behind reads them -/
theorem boxes {w w1 : World} {x1 x2 y1 y2 : Int} {t : TypeId} (hb : Below ((w.alloc (.cells #[.int .i64 x1, .int .i64 x2] t)).alloc (.cells #[.int .i64 y1, .int .i64 y2] t)).heap.size ((w.alloc (.cells #[.int .i64 x1, .int .i64 x2] t)).alloc (.cells #[.int .i64 y1, .int .i64 y2] t)) w1) :
    w1.cell? ⟨w.heap.size, 0, none⟩ = some (.int .i64 x1) ∧ w1.cell? ⟨w.heap.size, 1, none⟩ = some (.int .i64 x2) ∧ w1.cell? ⟨w.heap.size + 1, 0, none⟩ = some (.int .i64 y1) ∧ w1.cell? ⟨w.heap.size + 1, 1, none⟩ = some (.int .i64 y2) ∧ w.heap.size + 1 < w1.heap.size ∧ Below w.heap.size w w1 := by
  have h2 : ((w.alloc (.cells #[.int .i64 x1, .int .i64 x2] t)).alloc (.cells #[.int .i64 y1, .int .i64 y2] t)).heap.size = w.heap.size + 2 := by simp
  have hs := hb.size
  rw [h2] at hb hs
  refine ⟨?_, ?_, ?_, ?_, by omega, (below_two w _ _).trans (hb.mono (by omega))⟩
  all_goals
    rw [hb.cell (by simp)]
    simp

end Go.Proofs.Ytecdgpacofojeaa
namespace Go.Proofs.Ytecdgpacofojeaa
open Go.RowKit

/-- block g has room for c elements of sz cells, and begins with the cells cs -/
def Rw (t : TypeId) (sz : Nat) (w : World) (g c : Nat) (cs : List Value) : Prop :=
  ∃ cur : Array Value, w.heap[g]? = some (.cells cur t (0, 0)) ∧ cur.size = c * sz ∧ cs.length ≤ c * sz ∧ cur.toList.take cs.length = cs
section
variable {t T : TypeId} {sz : Nat} {w w' : World} {g c n B : Nat} {cs : List Value} {F : Value}
theorem Rw.lt (h : Rw t sz w g c cs) : g < w.heap.size := by obtain ⟨_, h, _⟩ := h; exact lt_of_block h
theorem Rw.cell (h : Rw t sz w g c cs) {i : Nat} {v : Value} (hv : cs[i]? = some v) : w.cell? ⟨g, i, none⟩ = some v := by
  obtain ⟨cur, h1, h2, h3, h4⟩ := h
  have hi := (List.getElem?_eq_some_iff.1 hv).1
  rw [cell_of_row _ _ _ _ _ _ h1]
  rw [← h4, List.getElem?_take, if_pos hi] at hv
  simpa using hv
theorem Rw.some_ (h : Rw t sz w g c cs) {i : Nat} (hi : i < c * sz) : (w.cell? ⟨g, i, none⟩).isSome = true := by
  obtain ⟨cur, h1, h2, h3, h4⟩ := h
  rw [cell_of_row _ _ _ _ _ _ h1]
  simp; omega
theorem Rw.frozen (h : Rw t sz w g c cs) (k : Nat) : w.frozen? ⟨g, k, none⟩ = false := by obtain ⟨_, h, _⟩ := h; exact frozen_of_row _ _ _ _ _ h
theorem Rw.set (h : Rw t sz w g c cs) (i : Nat) (v : Value) : Rw t sz (w.setCell ⟨g, i, none⟩ v) g c (cs.set i v) := by
  obtain ⟨cur, h1, h2, h3, h4⟩ := h
  refine ⟨_, heap_setCell_same _ _ _ _ _ _ h1, by simpa using h2, by simpa using h3, ?_⟩
  rw [List.length_set]
  conv => rhs; rw [← h4]
  simp [List.take_set]
theorem Rw.drew (h : Rw t sz w g c cs) : Rw t sz w.drew g c cs := h
theorem Rw.keep (h : Rw t sz w g c cs) (hb : w'.heap[g]? = w.heap[g]?) : Rw t sz w' g c cs := by obtain ⟨cur, h1, h2⟩ := h; exact ⟨cur, hb.trans h1, h2⟩
theorem Rw.take (h : Rw t sz w g c cs) (k : Nat) : Rw t sz w g c (cs.take k) := by
  obtain ⟨cur, h1, h2, h3, h4⟩ := h
  refine ⟨cur, h1, h2, by simp; omega, ?_⟩
  rw [List.length_take, ← List.take_take, h4, List.take_eq_take_iff]

/-- a heap at block B (its type T, its first F) whose list is the row g: n elements, with room for c, that are the cells cs -/
structure In (T : TypeId) (F : Value) (t : TypeId) (sz : Nat) (w : World) (B g n c : Nat) (cs : List Value) : Prop where
  blk : w.heap[B]? = some (.cells #[F, .slice (some ⟨g, 0, none⟩) n c] T (0, 0))
  row : Rw t sz w g c cs
  len : cs.length = n * sz
  nc : n ≤ c
  cm : c ≤ maxLen
  ne : B ≠ g
theorem In.f (h : In T F t sz w B g n c cs) : w.cell? ⟨B, 0, none⟩ = some F := by rw [cell_of_row _ _ _ _ _ _ h.blk]; rfl
theorem In.l (h : In T F t sz w B g n c cs) : w.cell? ⟨B, 1, none⟩ = some (.slice (some ⟨g, 0, none⟩) n c) := by rw [cell_of_row _ _ _ _ _ _ h.blk]; rfl
theorem In.frozen (h : In T F t sz w B g n c cs) (k : Nat) : w.frozen? ⟨B, k, none⟩ = false := frozen_of_row _ _ _ _ _ h.blk
theorem In.lt (h : In T F t sz w B g n c cs) : B < w.heap.size := lt_of_block h.blk
theorem In.below (h : In T F t sz w B g n c cs) (hb : Below w.heap.size w w') : In T F t sz w' B g n c cs :=
  ⟨(hb.block B h.lt).trans h.blk, h.row.keep (hb.block g h.row.lt), h.len, h.nc, h.cm, h.ne⟩
theorem In.drew (h : In T F t sz w B g n c cs) : In T F t sz w.drew B g n c cs := ⟨h.blk, h.row, h.len, h.nc, h.cm, h.ne⟩
theorem In.drewN (h : In T F t sz w B g n c cs) (d : Nat) : In T F t sz (w.drewN d) B g n c cs := by
  induction d with
  | zero => exact h
  | succ d ih => exact ih.drew
theorem In.set (h : In T F t sz w B g n c cs) (i : Nat) (v : Value) : In T F t sz (w.setCell ⟨g, i, none⟩ v) B g n c (cs.set i v) :=
  ⟨(Below.heap_setCell _ _ _ _ h.ne).trans h.blk, h.row.set i v, by simpa using h.len, h.nc, h.cm, h.ne⟩
/-- the list is cut shorter -/
theorem In.short (h : In T F t sz w B g n c cs) {m : Nat} (hm : m ≤ n) (u : Value) (hu : u = .slice (some ⟨g, 0, none⟩) m c) : In T F t sz (w.setCell ⟨B, 1, none⟩ u) B g m c (cs.take (m * sz)) := by
  subst hu
  have hg : g ≠ B := fun e => h.ne e.symm
  refine ⟨by rw [heap_setCell_same _ _ _ _ _ _ h.blk]; rfl, (h.row.take _).keep (Below.heap_setCell _ _ _ _ hg), ?_, Nat.le_trans hm h.nc, h.cm, h.ne⟩
  rw [List.length_take, h.len]
  exact Nat.min_eq_left (Nat.mul_le_mul_right _ hm)

/-- all but the blocks of S is as it was -/
structure Kept (S : Nat → Prop) (w w' : World) : Prop where
  os : w'.os = w.os
  tape : w'.tape = w.tape
  output : w'.output = w.output
  size : w.heap.size ≤ w'.heap.size
  block : ∀ k, k < w.heap.size → ¬ S k → w'.heap[k]? = w.heap[k]?
variable {S S' : Nat → Prop} {a b : World}
theorem Kept.refl (S : Nat → Prop) (w : World) : Kept S w w := ⟨rfl, rfl, rfl, Nat.le_refl _, fun _ _ _ => rfl⟩
theorem Kept.trans (h : Kept S a b) (k : Kept S' b w) (hS : ∀ k, S' k → S k ∨ a.heap.size ≤ k) : Kept S a w :=
  ⟨k.os.trans h.os, k.tape.trans h.tape, k.output.trans h.output, Nat.le_trans h.size k.size, fun i hi hg => (k.block i (Nat.lt_of_lt_of_le hi h.size) (fun e => by rcases hS i e with q | q; exact hg q; omega)).trans (h.block i hi hg)⟩
theorem Kept.of_below (h : Below w.heap.size w w') : Kept S w w' := ⟨h.os, h.tape, h.output, h.size, fun k hk _ => h.block k hk⟩
theorem Kept.below (h : Kept S a b) (k : Below b.heap.size b w) : Kept S a w := h.trans (Kept.of_below (S := S) k) fun _ h => .inl h
theorem Kept.but (h : Kept S a b) (k : But g b w) (hg : S g ∨ a.heap.size ≤ g) : Kept S a w :=
  h.trans (S' := fun i => i = g) ⟨k.os, k.tape, k.output, k.size, fun i hi hne => k.block i hi hne⟩ fun i e => by subst e; exact hg
theorem Kept.setCell (h : Kept S a w) {o : Nat} {v : Value} (hg : S g ∨ a.heap.size ≤ g) : Kept S a (w.setCell ⟨g, o, none⟩ v) := h.but ((But.refl g w).setCell o v) hg
theorem Kept.drew (h : Kept S a w) : Kept S a w.drew := ⟨h.os, h.tape, h.output, h.size, h.block⟩
theorem Kept.drewN (h : Kept S a w) (d : Nat) : Kept S a (w.drewN d) := by
  induction d with
  | zero => exact h
  | succ d ih => exact ih.drew
/-- what is new is none of the old -/
theorem Kept.old {B0 : Nat} (h : Kept S a w) (hB : B0 ≤ a.heap.size) (hS : ∀ k, S k → B0 ≤ k) : Below B0 a w :=
  ⟨h.os, h.tape, h.output, h.size, fun k hk => h.block k (by omega) (fun e => by have := hS k e; omega)⟩
theorem Kept.grown {row : Option Nat} (h : Kept S a b) (k : b.grownBy w row) (hr : ∀ i, row = some i → S i ∨ a.heap.size ≤ i) : Kept S a w :=
  h.trans (S' := fun i => some i = row) ⟨k.os, k.tape, k.output, k.size, fun i hi hne => k.block i hi hne⟩ fun i e => hr i e.symm

/-- a heap at block B, all of it within the blocks of S, its cells cs (n elements) -/
def Hd (T : TypeId) (F : Value) (t : TypeId) (sz : Nat) (w : World) (S : Nat → Prop) (B n : Nat) (cs : List Value) : Prop :=
  S B ∧ (∀ k, S k → k < w.heap.size) ∧
  ((cs = [] ∧ n = 0 ∧ w.heap[B]? = some (.cells #[F, .slice none 0 0] T (0, 0))) ∨ ∃ g c, S g ∧ In T F t sz w B g n c cs)
theorem Hd.lt (h : Hd T F t sz w S B n cs) : B < w.heap.size := h.2.1 B h.1
theorem Hd.keep (h : Hd T F t sz w S B n cs) (hs : w.heap.size ≤ w'.heap.size) (hk : ∀ k, S k → w'.heap[k]? = w.heap[k]?) : Hd T F t sz w' S B n cs := by
  refine ⟨h.1, fun k hS => Nat.lt_of_lt_of_le (h.2.1 k hS) hs, ?_⟩
  rcases h.2.2 with ⟨h1, h2, h3⟩ | ⟨g, c, hg, hi⟩
  · exact .inl ⟨h1, h2, (hk B h.1).trans h3⟩
  · exact .inr ⟨g, c, hg, (hk B h.1).trans hi.blk, hi.row.keep (hk g hg), hi.len, hi.nc, hi.cm, hi.ne⟩
theorem Hd.below (h : Hd T F t sz w S B n cs) (hb : Below w.heap.size w w') : Hd T F t sz w' S B n cs := h.keep hb.size fun k hS => hb.block k (h.2.1 k hS)
theorem Hd.drew (h : Hd T F t sz w S B n cs) : Hd T F t sz w.drew S B n cs := h.keep (Nat.le_refl _) fun _ _ => rfl
theorem Hd.other (h : Hd T F t sz w S B n cs) (hb : Kept S' w w') (ho : ∀ k, S k → ¬ S' k) : Hd T F t sz w' S B n cs := h.keep hb.size fun k hS => hb.block k (h.2.1 k hS) (ho k hS)
/-- its list, as it lies in its cell -/
theorem Hd.list (h : Hd T F t sz w S B n cs) : ∃ A c, w.heap[B]? = some (.cells #[F, .slice A n c] T (0, 0)) ∧ w.cell? ⟨B, 1, none⟩ = some (.slice A n c) ∧ w.frozen? ⟨B, 1, none⟩ = false ∧ cs.length = n * sz ∧ w.ownsRow 0 t sz (.slice A n c) n cs ∧ (∀ k, (Value.slice A n c).ownBlock = some k → S k ∧ k ≠ B) ∧ ((A = none ∧ n = 0 ∧ c = 0 ∧ cs = []) ∨ ∃ g, A = some ⟨g, 0, none⟩ ∧ S g ∧ In T F t sz w B g n c cs) := by
  rcases h.2.2 with ⟨rfl, rfl, h3⟩ | ⟨g, c, hg, hi⟩
  · exact ⟨none, 0, h3, by rw [cell_of_row _ _ _ _ _ _ h3]; rfl, frozen_of_row _ _ _ _ _ h3, by simp, World.ownsRow_nil _ _ _ _, fun k hk => by simp [Value.ownBlock] at hk, .inl ⟨rfl, rfl, rfl, rfl⟩⟩
  · refine ⟨some ⟨g, 0, none⟩, c, hi.blk, hi.l, hi.frozen 1, hi.len, ?_, fun k hk => ?_, .inr ⟨g, rfl, hg, hi⟩⟩
    · obtain ⟨cur, h1, h2, h3, h4⟩ := hi.row
      exact ⟨hi.len, .inr ⟨g, c, cur, rfl, Nat.zero_le _, h1, hi.nc, hi.cm, h2, by rw [← hi.len]; exact h4⟩⟩
    · have e : g = k := by simpa [Value.ownBlock] using hk
      subst e
      exact ⟨hg, fun e => hi.ne e.symm⟩
/-- a list of one's own becomes a heap's -/
theorem In.of_own {base : Nat} (hB : w.heap[B]? = some (.cells #[F, .slice (some ⟨g, 0, none⟩) n c] T (0, 0))) (ho : w.ownsRow base t sz (.slice (some ⟨g, 0, none⟩) n c) n cs) (hg : B ≠ g) : In T F t sz w B g n c cs := by
  obtain ⟨h1, h2⟩ := ho
  rcases h2 with ⟨h, _⟩ | ⟨g', cap, cur, hv, _, hb, hn, hm, hs, ht⟩
  · cases h
  · injection hv with e1 _ e3
    injection e1 with e1
    injection e1 with e1
    subst e1
    subst e3
    exact ⟨hB, ⟨cur, hb, hs, by rw [h1]; exact Nat.mul_le_mul_right _ hn, by rw [h1]; exact ht⟩, h1, hn, hm, hg⟩
end
/-- clear of a slice of one element -/
theorem clear_one {P : Program} (w : World) (t e ty : TypeId) (z : Value) (cs : List Value) (ht : P.underlying t = some (.slice e)) (hv : ∀ w, (zeroValue e).run P w = .ok z w) (hz : (Builtin.zeroCells z.cells 1).toList = cs) (h1 : ∀ v ∈ cs, v.oneCell' = true) (b o c k : Nat) (hk : k = 1)
    (hc : ∀ j, j < cs.length → (w.cell? ⟨b, o + j, none⟩).isSome = true) (hf : ∀ j, j < cs.length → w.frozen? ⟨b, o + j, none⟩ = false) :
    (Builtin.clear_ #[t] ty #[.slice (some ⟨b, o, none⟩) k c]).run P w = .ok (.tuple #[]) (w.setCells b o cs) := by
  subst hk
  have hst := run_storeCells_cells (P := P) b o cs 0 w (by simpa using hc) (by simpa using hf) h1
  simp only [Nat.add_zero] at hst
  simp [Builtin.clear_, run_underlying ht, hv, hz, hst]
/-- what an append to a heap's list comes to, ahead of the store -/
theorem pushed {T t : TypeId} {F : Value} {sz : Nat} {w W0 W2 : World} {S : Nat → Prop} {B n c g' cap' : Nat} {A : Option Addr} {cs : List Value} {nw : Obj}
    (h : Hd T F t sz w S B n cs) (hb : w.heap[B]? = some (.cells #[F, .slice A n c] T (0, 0))) (hS : ∀ k, (Value.slice A n c).ownBlock = some k → S k ∧ k ≠ B)
    (hW : W0 = w.alloc nw) (hg : W0.grownBy W2 (Value.slice A n c).ownBlock) (hl : (Value.slice A n c).ownBlock = some g' ∨ g' = W0.heap.size) {cs' : List Value} {n' : Nat} (ho : W2.ownsRow 0 t sz (.slice (some ⟨g', 0, none⟩) n' cap') n' cs') :
    W2.heap[B]? = some (.cells #[F, .slice A n c] T (0, 0)) ∧ Kept S w (W2.setCell ⟨B, 1, none⟩ (.slice (some ⟨g', 0, none⟩) n' cap')) ∧ (S g' ∨ w.heap.size ≤ g') ∧
    In T F t sz (W2.setCell ⟨B, 1, none⟩ (.slice (some ⟨g', 0, none⟩) n' cap')) B g' n' cap' cs' := by
  have hs0 : W0.heap.size = w.heap.size + 1 := by rw [hW]; simp
  have hBlt := h.lt
  have hB0 : W0.heap[B]? = some (.cells #[F, .slice A n c] T (0, 0)) := by rw [hW, Below.heap_alloc _ _ _ hBlt]; exact hb
  have hB2 : W2.heap[B]? = some (.cells #[F, .slice A n c] T (0, 0)) := by
    rw [hg.block B (by omega) (fun e => (hS B e.symm).2 rfl)]
    exact hB0
  have hg' : S g' ∨ w.heap.size ≤ g' := by
    rcases hl with e | e
    · exact .inl (hS g' e).1
    · exact .inr (by omega)
  have hne : B ≠ g' := by
    rcases hl with e | e
    · exact fun q => (hS g' e).2 q.symm
    · omega
  have k0 : Kept S w W0 := by rw [hW]; exact Kept.of_below ((Below.refl _ w).alloc (Nat.le_refl _) _)
  have k2 : Kept S w W2 := k0.grown hg fun i e => .inl (hS i e).1
  refine ⟨hB2, k2.setCell (.inl h.1), hg', In.of_own (base := 0) (by rw [heap_setCell_same _ _ _ _ _ _ hB2]; rfl) ?_ hne⟩
  refine ho.kept (row := some B) ⟨rfl, rfl, rfl, by simp [World.setCell], fun k _ hk => Below.heap_setCell _ _ _ _ (fun e => hk (by rw [e]))⟩ (.inr (by simp [Value.ownBlock]; exact fun e => hne e.symm))

end Go.Proofs.Ytecdgpacofojeaa
