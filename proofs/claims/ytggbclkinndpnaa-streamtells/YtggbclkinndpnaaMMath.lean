/-
  Layer 6 (stream): a tree's part of a list, and a tree's stream: plain arithmetic.
-/
import Derived.Test.YtggbclkinndpnaaRMath
namespace Go.Proofs.Ytggbclkinndpnaa
open Go.RowKit
namespace Sm

/-- the first k numbers of the list at the tree, and at each place by as many trees farther -/
def part (xs : List Int) (t n k : Nat) : List Int := (List.range k).map fun j => xs[t + j * n]?.getD 0
/-- how many there are -/
def cnt (len t n : Nat) : Nat := if t < len then 1 + (len - 1 - t) / n else 0
/-- all of them -/
def share (xs : List Int) (t n : Nat) : List Int := part xs t n (cnt xs.length t n)

theorem part_zero (xs : List Int) (t n : Nat) : part xs t n 0 = [] := rfl
theorem part_succ (xs : List Int) (t n k : Nat) : part xs t n (k + 1) = part xs t n k ++ [xs[t + k * n]?.getD 0] := by
  unfold part; rw [List.range_succ, List.map_append]; rfl
theorem part_length (xs : List Int) (t n k : Nat) : (part xs t n k).length = k := by simp [part]
theorem lt_cnt {len t n k : Nat} (hn : 1 ≤ n) : k < cnt len t n ↔ t + k * n < len := by
  unfold cnt
  by_cases h : t < len
  · rw [if_pos h]
    have : k < 1 + (len - 1 - t) / n ↔ k ≤ (len - 1 - t) / n := by omega
    rw [this, Nat.le_div_iff_mul_le (by omega)]
    omega
  · rw [if_neg h]
    omega
theorem cnt_le (len t n : Nat) (hn : 1 ≤ n) : cnt len t n ≤ len := by
  rcases Nat.eq_zero_or_pos (cnt len t n) with h | h
  · omega
  · have := (lt_cnt (len := len) (t := t) (k := cnt len t n - 1) hn).1 (by omega)
    have : cnt len t n - 1 ≤ (cnt len t n - 1) * n := Nat.le_mul_of_pos_right _ (by omega)
    omega
theorem share_length (xs : List Int) (t n : Nat) : (share xs t n).length = cnt xs.length t n := part_length _ _ _ _
theorem share_at (xs : List Int) (t n : Nat) (hn : 1 ≤ n) (k : Nat) : (share xs t n)[k]?.getD 0 = xs[t + k * n]?.getD 0 := by
  by_cases h : k < cnt xs.length t n
  · unfold share part
    rw [List.getElem?_map, List.getElem?_eq_getElem (by simpa using h)]
    simp
  · have h1 : ¬ t + k * n < xs.length := fun q => h ((lt_cnt hn).2 q)
    rw [List.getElem?_eq_none (by rw [share_length]; omega), List.getElem?_eq_none (by omega)]
theorem getD_in {xs : List Int} (h : ∀ x ∈ xs, 0 ≤ x ∧ x < 18446744073709551616) (k : Nat) : 0 ≤ xs[k]?.getD 0 ∧ xs[k]?.getD 0 < 18446744073709551616 := by
  cases e : xs[k]? with
  | none => simp
  | some x => simpa using h x (List.mem_of_getElem? e)
theorem part_in {xs : List Int} (h : ∀ x ∈ xs, 0 ≤ x ∧ x < 18446744073709551616) (t n k : Nat) : ∀ x ∈ part xs t n k, 0 ≤ x ∧ x < 18446744073709551616 := by
  intro x hx
  obtain ⟨j, _, rfl⟩ := List.mem_map.1 hx
  exact getD_in h _

/-- a mixer that begins behind n draws -/
theorem mix_ahead (s : Int) (n : Nat) : Rm.mixAt (IntKind.u64.wrap (s + IntKind.u64.wrap ((n : Int) * 11400714819323198485))) 0 = Rm.mixAt s n := by
  unfold Rm.mixAt Rm.zAt
  congr 1
  simp only [Rm.wrap_u64, Int.add_emod_emod, Int.emod_add_emod]
  congr 1
  rw [Int.add_mul]
  simp
  omega

/-- a tree's stream -/
def strF (sc : Bool) (seed : Int) (xs : List Int) (t n : Int) : Nat → Int :=
  if t < 0 ∨ n ≤ t then fun _ => 0 else if sc then fun k => xs[t.toNat + k * n.toNat]?.getD 0 else Rm.mixAt (Rm.mixAt seed t.toNat)
theorem strF_none {sc : Bool} {seed : Int} {xs : List Int} {t n : Int} (h : t < 0 ∨ n ≤ t) : strF sc seed xs t n = fun _ => 0 := if_pos h
theorem strF_list {seed : Int} {xs : List Int} {t n : Int} (h : ¬ (t < 0 ∨ n ≤ t)) : strF true seed xs t n = fun k => xs[t.toNat + k * n.toNat]?.getD 0 := by unfold strF; rw [if_neg h]; rfl
theorem strF_seed {seed : Int} {xs : List Int} {t n : Int} (h : ¬ (t < 0 ∨ n ≤ t)) : strF false seed xs t n = Rm.mixAt (Rm.mixAt seed t.toNat) := by unfold strF; rw [if_neg h]; rfl
/-- how many places below i are the tree's -/
def Own (t n i o : Nat) : Prop := i ≤ t + o * n ∧ t + o * n < i + n ∧ o ≤ i
theorem own_zero {t n : Nat} (h : t < n) : Own t n 0 0 := ⟨by omega, by omega, by omega⟩
/-- a place of the tree's is the next one that it tells -/
theorem own_at {t n i o : Nat} (h : Own t n i o) (hn : t < n) (hi : i % n = t) : t + o * n = i := by
  obtain ⟨h1, h2, h3⟩ := h
  have h4 : (t + o * n) % n = t := by rw [Nat.add_mul_mod_self_right, Nat.mod_eq_of_lt hn]
  obtain ⟨d, hd⟩ : ∃ d, t + o * n = i + d := ⟨t + o * n - i, by omega⟩
  rw [hd] at h4 h2 ⊢
  have hd2 : d < n := by omega
  have e1 := Nat.div_add_mod i n
  have e2 := Nat.div_add_mod (i + d) n
  rw [h4] at e2
  rw [hi] at e1
  have e3 : n * ((i + d) / n) = n * (i / n) + d := by omega
  have e4 : (i + d) / n = i / n := by
    have h5 : i / n ≤ (i + d) / n := Nat.div_le_div_right (by omega)
    rcases Nat.lt_or_ge (i / n) ((i + d) / n) with h6 | h6
    · have := Nat.mul_le_mul_left n h6
      rw [Nat.mul_succ] at this
      omega
    · omega
  rw [e4] at e3
  omega
theorem own_yes {t n i o : Nat} (h : Own t n i o) (hn : t < n) (hi : i % n = t) : Own t n (i + 1) (o + 1) := by
  have e := own_at h hn hi
  obtain ⟨h1, h2, h3⟩ := h
  rw [Own, Nat.add_mul]
  omega
theorem own_no {t n i o : Nat} (h : Own t n i o) (hn : t < n) (hi : i % n ≠ t) : Own t n (i + 1) o := by
  obtain ⟨h1, h2, h3⟩ := h
  refine ⟨?_, by omega, by omega⟩
  rcases Nat.lt_or_ge i (t + o * n) with h4 | h4
  · omega
  · have : i = t + o * n := by omega
    exact absurd (by rw [this, Nat.add_mul_mod_self_right, Nat.mod_eq_of_lt hn]) hi
end Sm
end Go.Proofs.Ytggbclkinndpnaa
