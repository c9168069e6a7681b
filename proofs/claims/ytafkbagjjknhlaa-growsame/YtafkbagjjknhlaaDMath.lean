/-
  Layer 10 (data), in lists alone: which vectors may be items of a dimension, the first error of many, and what is kept of them. Nothing of the program stands here.
-/
import Derived.Test.YtafkbagjjknhlaaVMath
namespace Go.Proofs.Ytafkbagjjknhlaa.Dm
open Go Go.RowKit

/-- the first error of vectors of a dimension; 0, if there is none -/
def first (d : Int) : List (List Int) → Int
  | [] => 0
  | l :: r => if Vm.chk l d = 0 then first d r else Vm.chk l d
/-- the first error of a list that is to be items -/
def chks (d : Int) (L : List (List Int)) : Int := if d < 1 ∨ 1024 < d then 1 else first d L
/-- each may be -/
def Ok (d : Int) (L : List (List Int)) : Prop := ∀ l ∈ L, Vm.chk l d = 0
/-- those that may be -/
def kept (d : Int) (L : List (List Int)) : List (List Int) := L.filter fun l => decide (Vm.chk l d = 0)

section
variable {d : Int} {L : List (List Int)} {k : Nat} {x : List Int}
theorem Ok.nil (d : Int) : Ok d [] := fun _ h => by cases h
theorem first_ok (h : Ok d L) : first d L = 0 := by
  induction L with
  | nil => rfl
  | cons l r ih =>
    rw [first, if_pos (h l (.head _))]
    exact ih fun y hy => h y (.tail _ hy)
theorem first_at (h : Ok d (L.take k)) (hx : L[k]? = some x) (hc : Vm.chk x d ≠ 0) : first d L = Vm.chk x d := by
  induction L generalizing k with
  | nil => simp at hx
  | cons l r ih =>
    cases k with
    | zero =>
      simp at hx
      subst hx
      rw [first, if_neg hc]
    | succ k =>
      rw [first, if_pos (h l (by simp))]
      exact ih (k := k) (fun y hy => h y (by rw [List.take_succ_cons]; exact .tail _ hy)) (by simpa using hx)
theorem ok_of_first (h : first d L = 0) : Ok d L := by
  induction L with
  | nil => exact Ok.nil d
  | cons l r ih =>
    by_cases c : Vm.chk l d = 0
    · rw [first, if_pos c] at h
      intro y hy
      rcases List.mem_cons.1 hy with rfl | hy
      · exact c
      · exact ih h y hy
    · rw [first, if_neg c] at h
      exact absurd h c
theorem Ok.snoc (h : Ok d (L.take k)) (hx : L[k]? = some x) (hc : Vm.chk x d = 0) : Ok d (L.take (k + 1)) := by
  intro y hy
  rw [List.take_add_one, hx] at hy
  rcases List.mem_append.1 hy with hy | hy
  · exact h y hy
  · simp at hy; subst hy; exact hc
theorem Ok.app (h : Ok d L) (hc : Vm.chk x d = 0) : Ok d (L ++ [x]) := by
  intro y hy
  rcases List.mem_append.1 hy with hy | hy
  · exact h y hy
  · simp at hy; subst hy; exact hc
theorem Ok.at_ (h : Ok d L) (hx : L[k]? = some x) : Vm.chk x d = 0 := h x (List.mem_of_getElem? hx)
theorem chks_range (h : d < 1 ∨ 1024 < d) : chks d L = 1 := by unfold chks; rw [if_pos h]
theorem chks_first (h0 : 1 ≤ d) (h1 : d ≤ 1024) : chks d L = first d L := by unfold chks; rw [if_neg (by omega)]
theorem chks_zero (h : chks d L = 0) : 1 ≤ d ∧ d ≤ 1024 ∧ Ok d L := by
  by_cases g : d < 1 ∨ 1024 < d
  · rw [chks_range g] at h; omega
  · have h0 : 1 ≤ d := by omega
    have h1 : d ≤ 1024 := by omega
    rw [chks_first h0 h1] at h
    exact ⟨h0, h1, ok_of_first h⟩
theorem chks_ok (h0 : 1 ≤ d) (h1 : d ≤ 1024) (h : Ok d L) : chks d L = 0 := by rw [chks_first h0 h1, first_ok h]
/-- a vector that may be: as long as the dimension -/
theorem len_of (h : Vm.chk x d = 0) : x.length = d.toNat := by have := Vm.chk_ok h; omega
theorem in_of (h : Vm.chk x d = 0) : ∀ y ∈ x, -2147483648 ≤ y ∧ y ≤ 2147483647 := fun y hy => by
  have := (Vm.chk_ok h).2.2.2 y hy
  unfold Vm.good at this
  omega
/-- how far two are that may be: 0 just of the same ones -/
theorem far_zero {y : List Int} (hx : Vm.chk x d = 0) (hy : Vm.chk y d = 0) : Vm.far x y = 0 ↔ x = y := by
  obtain ⟨h0, h1, h2, h3⟩ := Vm.chk_ok hx
  obtain ⟨_, _, h4, h5⟩ := Vm.chk_ok hy
  have hb := Vm.farZ_bound x y h3 h5
  have e : Vm.far x y = Vm.farZ x y := Vm.wrap_in (by omega) (by omega)
  rw [e]
  exact Vm.farZ_zero x y (by omega)
theorem kept_nil (d : Int) : kept d [] = [] := rfl
theorem kept_yes (hx : L[k]? = some x) (hc : Vm.chk x d = 0) : kept d (L.take (k + 1)) = kept d (L.take k) ++ [x] := by
  unfold kept
  rw [List.take_add_one, hx, List.filter_append]
  simp [hc]
theorem kept_no (hx : L[k]? = some x) (hc : Vm.chk x d ≠ 0) : kept d (L.take (k + 1)) = kept d (L.take k) := by
  unfold kept
  rw [List.take_add_one, hx, List.filter_append]
  simp [hc]
theorem kept_ok (d : Int) (L : List (List Int)) : Ok d (kept d L) := fun y hy => by
  unfold kept at hy
  simpa using (List.mem_filter.1 hy).2
theorem kept_le (d : Int) (L : List (List Int)) : (kept d L).length ≤ L.length := List.length_filter_le _ _
theorem kept_take_le (d : Int) (L : List (List Int)) (k : Nat) : (kept d (L.take k)).length ≤ k := by
  have := kept_le d (L.take k)
  rw [List.length_take] at this
  omega
end
end Go.Proofs.Ytafkbagjjknhlaa.Dm
