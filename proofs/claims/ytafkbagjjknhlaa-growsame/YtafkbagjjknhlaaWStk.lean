/-
  Layer 13 (grow): plain facts: a tree that is grown by a stack is the one that the recursion makes.
-/
import Derived.Test.YtafkbagjjknhlaaWMath
namespace Go.Proofs.Ytafkbagjjknhlaa
open Go.RowKit

namespace Wm
/-- what is left to be grown: ids, how deep, and whose right child it is -/
structure Tk where
  ids : List Int
  dep : Nat
  wh : Option Nat
/-- a node's right child is told -/
def right (N : List Nd) : Option Nat → List Nd
  | none => N
  | some q => N.modify q fun t => { t with rt := N.length }
theorem right_length (N : List Nd) (q : Option Nat) : (right N q).length = N.length := by cases q <;> simp [right]
theorem right_at (A B : List Nd) (x : Nd) : right (A ++ [x] ++ B) (some A.length) = A ++ [{ x with rt := (A ++ [x] ++ B).length }] ++ B := by
  have : ∀ (A B : List Nd) (x : Nd) (g : Nd → Nd), (A ++ [x] ++ B).modify A.length g = A ++ [g x] ++ B := by
    intro A B x g
    induction A with
    | nil => rfl
    | cons y A ih => simp only [List.cons_append, List.length_cons, List.modify_succ_cons]; rw [ih]
  exact this A B x _
/-- what all that is left comes to: the top of the stack ahead -/
def fin (L : List (List Int)) (d lim D : Nat) (f : Nat → Int) : List Tk → List Nd → Nat → List Nd × Nat
  | [], N, k => (N, k)
  | t :: S, N, k => fin L d lim D f S (right N t.wh ++ (grow L d lim (D - t.dep) t.ids N.length (Rm.dr f k)).1) (k + (grow L d lim (D - t.dep) t.ids N.length (Rm.dr f k)).2)
section
variable {L : List (List Int)} {d lim D : Nat} {f : Nat → Int} {t : Tk} {S : List Tk} {N : List Nd} {k : Nat}
theorem fin_leaf (h : t.ids.length ≤ lim ∨ D ≤ t.dep) : fin L d lim D f (t :: S) N k = fin L d lim D f S (right N t.wh ++ [one t.ids]) k := by
  rw [fin, grow_leaf (h.imp id fun h => by omega)]
  rfl
theorem fin_node (h : lim < t.ids.length) (hd : t.dep < D) :
    fin L d lim D f (t :: S) N k = fin L d lim D f (⟨lfF L t.ids (Rm.dr f k), t.dep + 1, none⟩ :: ⟨rgF L t.ids (Rm.dr f k), t.dep + 1, some N.length⟩ :: S)
      (right N t.wh ++ [⟨false, [], pnF L t.ids (Rm.dr f k) d, poF L t.ids (Rm.dr f k), N.length + 1, 0⟩]) (k + 2 * trF L t.ids (Rm.dr f k)) := by
  obtain ⟨r, hr⟩ : ∃ r, D - t.dep = r + 1 := ⟨D - t.dep - 1, by omega⟩
  have hr2 : D - (t.dep + 1) = r := by omega
  rw [fin, fin, fin, hr]
  dsimp only
  rw [hr2]
  have hl : (right N t.wh ++ [⟨false, [], pnF L t.ids (Rm.dr f k) d, poF L t.ids (Rm.dr f k), N.length + 1, 0⟩] : List Nd).length = N.length + 1 := by rw [List.length_append, right_length]; rfl
  rw [show right (right N t.wh ++ [⟨false, [], pnF L t.ids (Rm.dr f k) d, poF L t.ids (Rm.dr f k), N.length + 1, 0⟩] : List Nd) none = right N t.wh ++ [⟨false, [], pnF L t.ids (Rm.dr f k) d, poF L t.ids (Rm.dr f k), N.length + 1, 0⟩] from rfl, hl]
  obtain ⟨a, ha⟩ : ∃ a, grow L d lim r (lfF L t.ids (Rm.dr f k)) (N.length + 1) (Rm.dr f (k + 2 * trF L t.ids (Rm.dr f k))) = a := ⟨_, rfl⟩
  rw [ha]
  have hl2 : (right N t.wh ++ [⟨false, [], pnF L t.ids (Rm.dr f k) d, poF L t.ids (Rm.dr f k), N.length + 1, 0⟩] ++ a.1 : List Nd).length = N.length + 1 + a.1.length := by rw [List.length_append, hl]
  rw [hl2]
  obtain ⟨b, hb⟩ : ∃ b, grow L d lim r (rgF L t.ids (Rm.dr f k)) (N.length + 1 + a.1.length) (Rm.dr f (k + 2 * trF L t.ids (Rm.dr f k) + a.2)) = b := ⟨_, rfl⟩
  rw [hb]
  have hg := grow_node (L := L) (d := d) (lim := lim) (r := r) (p := N.length) (f := Rm.dr f k) (ids := t.ids) h (a := a) (b := b) (by rw [Rm.dr_dr, ha]) (by rw [Rm.dr_dr, ← Nat.add_assoc, hb])
  rw [hg]
  have hrt : right (right N t.wh ++ [⟨false, [], pnF L t.ids (Rm.dr f k) d, poF L t.ids (Rm.dr f k), N.length + 1, 0⟩] ++ a.1) (some N.length) =
      right N t.wh ++ [⟨false, [], pnF L t.ids (Rm.dr f k) d, poF L t.ids (Rm.dr f k), N.length + 1, N.length + 1 + a.1.length⟩] ++ a.1 := by
    have h0 := right_at (right N t.wh) a.1 ⟨false, [], pnF L t.ids (Rm.dr f k) d, poF L t.ids (Rm.dr f k), N.length + 1, 0⟩
    rw [right_length, hl2] at h0
    exact h0
  rw [hrt]
  congr 1
  · simp
  · omega
/-- how much is left at most: each step takes one off it -/
def left (S : List Tk) : Nat := (S.map fun t => 2 * t.ids.length - 1).sum
theorem left_leaf (h : 1 ≤ t.ids.length) : left S < left (t :: S) := by unfold left; rw [List.map_cons, List.sum_cons]; omega
theorem left_node (h : 2 ≤ t.ids.length) (g : Nat → Int) (e e' : Nat) (q q' : Option Nat) : left (⟨lfF L t.ids g, e, q⟩ :: ⟨rgF L t.ids g, e', q'⟩ :: S) < left (t :: S) := by
  have h1 := lr_len (L := L) (ids := t.ids) (f := g)
  have h2 := lr_pos (L := L) (ids := t.ids) (f := g) h
  unfold left
  rw [List.map_cons, List.map_cons, List.map_cons, List.sum_cons, List.sum_cons, List.sum_cons]
  dsimp only
  omega
end
end Wm
end Go.Proofs.Ytafkbagjjknhlaa
