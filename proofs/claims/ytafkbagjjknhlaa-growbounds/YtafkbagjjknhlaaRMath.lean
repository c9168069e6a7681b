/-
  Layer 5 (rng): the numbers of a mixer (SplitMix64), and what Below and Pair make of two draws: plain arithmetic.
-/
import Derived.IntWalk
import Derived.WalkArith
import Derived.OpenShut
namespace Go.Proofs.Ytafkbagjjknhlaa
open Go.RowKit
namespace Rm

def m1 (z : Int) : Int := IntKind.u64.wrap (bits .xor .u64 z (z / 1073741824) * 13787848793156543929)
def m2 (z : Int) : Int := IntKind.u64.wrap (bits .xor .u64 z (z / 134217728) * 10723151780598845931)
def m3 (z : Int) : Int := bits .xor .u64 z (z / 2147483648)
/-- what a mixer's new state tells -/
def out (z : Int) : Int := m3 (m2 (m1 z))
/-- the state behind one draw -/
def nxt (s : Int) : Int := IntKind.u64.wrap (s + 11400714819323198485)
/-- the state behind k + 1 draws, at once -/
def zAt (s : Int) (k : Nat) : Int := IntKind.u64.wrap (s + ((k : Int) + 1) * 11400714819323198485)
/-- a mixer's draw of number k -/
def mixAt (s : Int) (k : Nat) : Int := out (zAt s k)

theorem wrap_u64 (n : Int) : IntKind.u64.wrap n = n % 18446744073709551616 := by
  simp [IntKind.wrap, IntKind.bits, IntKind.signed]
theorem wrap_in (n : Int) : 0 ≤ IntKind.u64.wrap n ∧ IntKind.u64.wrap n < 18446744073709551616 := by rw [wrap_u64]; omega
theorem nxt_in (s : Int) : 0 ≤ nxt s ∧ nxt s < 18446744073709551616 := wrap_in _
theorem m1_in (z : Int) : 0 ≤ m1 z ∧ m1 z < 18446744073709551616 := wrap_in _
theorem m2_in (z : Int) : 0 ≤ m2 z ∧ m2 z < 18446744073709551616 := wrap_in _
theorem bits_in (x y : Int) : 0 ≤ bits .xor .u64 x y ∧ bits .xor .u64 x y < 18446744073709551616 := by
  have h : bits .xor .u64 x y = IntKind.u64.wrap ((BitVec.ofInt 64 x ^^^ BitVec.ofInt 64 y).toNat : Int) := rfl
  rw [h]; exact wrap_in _
theorem mixAt_in (s : Int) (k : Nat) : 0 ≤ mixAt s k ∧ mixAt s k < 18446744073709551616 := bits_in _ _
theorem mix_zero (s : Int) : mixAt s 0 = out (nxt s) := by unfold mixAt zAt nxt; simp
theorem mix_succ (s : Int) (k : Nat) : mixAt (nxt s) k = mixAt s (k + 1) := by
  unfold mixAt zAt nxt
  congr 1
  rw [wrap_u64, wrap_u64, wrap_u64]
  rw [Int.emod_add_emod]
  congr 1
  push_cast
  rw [Int.add_mul]; rw [Int.add_mul, Int.add_mul]
  omega
/-- the document's own way to the same number -/
theorem quo_in (z c : Int) (h : 0 ≤ z ∧ z < 18446744073709551616) (hc : 1 ≤ c) : IntKind.u64.wrap (z.tdiv c) = z / c := IntWalk.u64_quo z c ⟨h.1, by omega, hc⟩
def n1 (z : Int) : Int := IntKind.u64.wrap (bits .xor .u64 z (IntKind.u64.wrap (z.tdiv 1073741824)) * 13787848793156543929)
def n2 (z : Int) : Int := IntKind.u64.wrap (bits .xor .u64 z (IntKind.u64.wrap (z.tdiv 134217728)) * 10723151780598845931)
def n3 (z : Int) : Int := bits .xor .u64 z (IntKind.u64.wrap (z.tdiv 2147483648))
theorem n1_eq (z : Int) (h : 0 ≤ z ∧ z < 18446744073709551616) : n1 z = m1 z := by unfold n1 m1; rw [quo_in z _ h (by decide)]
theorem n2_eq (z : Int) (h : 0 ≤ z ∧ z < 18446744073709551616) : n2 z = m2 z := by unfold n2 m2; rw [quo_in z _ h (by decide)]
theorem n3_eq (z : Int) (h : 0 ≤ z ∧ z < 18446744073709551616) : n3 z = m3 z := by unfold n3 m3; rw [quo_in z _ h (by decide)]
theorem ref_eq (s : Int) (k : Nat) : n3 (n2 (n1 (IntKind.u64.wrap (s + IntKind.u64.wrap (((k : Int) + 1) * 11400714819323198485))))) = mixAt s k := by
  rw [n1_eq _ (wrap_in _), n2_eq _ (m1_in _), n3_eq _ (m2_in _)]
  unfold mixAt zAt out
  congr 3
  rw [wrap_u64, wrap_u64, wrap_u64, Int.add_emod_emod]

/-- a draw below n -/
def below (x n : Int) : Int := if n < 1 then 0 else x % n
theorem below_in (x n : Int) (h : 1 ≤ n) : 0 ≤ below x n ∧ below x n < n := by
  unfold below; rw [if_neg (by omega)]
  exact ⟨Int.emod_nonneg _ (by omega), Int.emod_lt_of_pos _ (by omega)⟩
/-- the second one of a pair -/
def second (a b : Int) : Int := if b < a then b else b + 1
/-- how many draws Below, and Pair, make -/
def nb (n : Int) : Nat := if n < 1 then 0 else 1
def np (n : Int) : Nat := if n < 2 then 0 else 2
/-- a stream behind j draws -/
def dr (f : Nat → Int) (j : Nat) : Nat → Int := fun k => f (k + j)
def fst (f : Nat → Int) (n : Int) : Int := if n < 2 then 0 else below (f 0) n
def snd (f : Nat → Int) (n : Int) : Int := if n < 2 then 0 else second (below (f 0) n) (below (f 1) (n - 1))
theorem dr_zero (f : Nat → Int) : dr f 0 = f := rfl
theorem dr_dr (f : Nat → Int) (i j : Nat) : dr (dr f i) j = dr f (i + j) := by
  funext k; unfold dr; rw [Nat.add_assoc, Nat.add_comm j i]
theorem dr_at (f : Nat → Int) (j k : Nat) : dr f j k = f (k + j) := rfl
theorem pair_ok (f : Nat → Int) (n : Int) (h : 2 ≤ n) : 0 ≤ fst f n ∧ fst f n < n ∧ 0 ≤ snd f n ∧ snd f n < n ∧ fst f n ≠ snd f n := by
  unfold fst snd
  rw [if_neg (by omega), if_neg (by omega)]
  have h1 := below_in (f 0) n (by omega)
  have h2 := below_in (f 1) (n - 1) (by omega)
  generalize below (f 0) n = a at *
  generalize below (f 1) (n - 1) = b at *
  unfold second
  split <;> omega
end Rm
end Go.Proofs.Ytafkbagjjknhlaa
