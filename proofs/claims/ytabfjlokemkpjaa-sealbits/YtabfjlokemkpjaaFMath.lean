/-
  Plain facts of bytes and numbers, for layer 1 (field): a number's field, lowest byte first, is 'fld'; what bytes tell is 'val'. Nothing of the program stands here.
-/
import Derived.Laws.Entries
import Derived.Laws.Bits64
import Derived.IntWalk
namespace Go.Proofs.Ytabfjlokemkpjaa.Fm
open Go Go.RowKit

/-- 256 to a power, under a name that no simplifier opens -/
def pw (k : Nat) : Nat := 256 ^ k
theorem pw_zero : pw 0 = 1 := rfl
theorem pw_succ (k : Nat) : pw (k + 1) = pw k * 256 := by unfold pw; rw [Nat.pow_succ]
theorem pw_pos (k : Nat) : 0 < pw k := Nat.pow_pos (by decide)
theorem pw_mono {a b : Nat} (h : a ≤ b) : pw a ≤ pw b := Nat.pow_le_pow_right (by decide) h
theorem pw_add (a b : Nat) : pw (a + b) = pw a * pw b := by unfold pw; rw [Nat.pow_add]
theorem pw_two (k : Nat) : pw k = 2 ^ (8 * k) := by unfold pw; rw [Nat.pow_mul]
theorem pw_seven : pw 7 = 72057594037927936 := by decide
theorem pw_eight : pw 8 = 18446744073709551616 := by decide

/-- a number's field of a size: its bytes, the lowest one first -/
def fld (n : Nat) : Nat → List UInt8
  | 0 => []
  | k + 1 => fld n k ++ [UInt8.ofNat (n / pw k)]
/-- what bytes tell, the lowest one first -/
def val : List UInt8 → Nat
  | [] => 0
  | b :: r => b.toNat + 256 * val r

theorem fld_length (n k : Nat) : (fld n k).length = k := by
  induction k with
  | zero => rfl
  | succ k ih => simp [fld, ih]
theorem val_append (a b : List UInt8) : val (a ++ b) = val a + pw a.length * val b := by
  induction a with
  | nil => simp [val, pw_zero]
  | cons x r ih =>
    simp only [List.cons_append, val, ih, List.length_cons, pw_succ]
    rw [Nat.mul_add, ← Nat.mul_assoc, Nat.mul_comm 256 (pw r.length)]; omega
theorem val_snoc (a : List UInt8) (b : UInt8) : val (a ++ [b]) = val a + pw a.length * b.toNat := by
  rw [val_append]; simp [val]
theorem val_lt (l : List UInt8) : val l < pw l.length := by
  induction l with
  | nil => simp [val, pw_zero]
  | cons x r ih =>
    have := x.toNat_lt
    simp only [val, List.length_cons, pw_succ]; omega
theorem val_fld (n k : Nat) : val (fld n k) = n % pw k := by
  induction k with
  | zero => simp [fld, val, pw_zero, Nat.mod_one]
  | succ k ih =>
    simp only [fld]
    rw [val_snoc, ih, fld_length, pw_succ, Nat.mod_mul]
    simp
theorem fld_low (n m k : Nat) (h : n % pw k = m % pw k) : fld n k = fld m k := by
  induction k with
  | zero => rfl
  | succ k ih =>
    have hp := pw_pos k
    have h1 : n % pw k = m % pw k := by
      have := congrArg (· % pw k) h
      simpa [pw_succ, Nat.mod_mul_right_mod] using this
    have h2 : n / pw k % 256 = m / pw k % 256 := by
      rw [pw_succ, Nat.mod_mul, Nat.mod_mul, h1] at h
      exact Nat.eq_of_mul_eq_mul_left hp (by omega)
    simp only [fld]
    rw [ih h1]
    congr 2
    apply UInt8.toNat_inj.1
    simpa using h2
theorem fld_val (l : List UInt8) : fld (val l) l.length = l := by
  have key : ∀ k, k ≤ l.length → fld (val l) k = l.take k := by
    intro k
    induction k with
    | zero => intro _; simp [fld]
    | succ k ih =>
      intro hk
      have e : l = l.take k ++ l.drop k := (List.take_append_drop k l).symm
      have hd : l.drop k = l[k] :: l.drop (k + 1) := List.drop_eq_getElem_cons (by omega)
      have hv : val l = val (l.take k) + pw k * (l[k].toNat + 256 * val (l.drop (k + 1))) := by
        conv => lhs; rw [e, val_append]
        rw [hd]; simp [val, Nat.min_eq_left (by omega : k ≤ l.length)]
      have hl : val (l.take k) < pw k := by
        have := val_lt (l.take k); simpa [Nat.min_eq_left (by omega : k ≤ l.length)] using this
      simp only [fld]
      rw [ih (by omega), List.take_succ_eq_append_getElem (by omega)]
      congr 2
      apply UInt8.toNat_inj.1
      rw [hv, Nat.add_mul_div_left _ _ (pw_pos k), Nat.div_eq_of_lt hl]
      simp
  simpa using key l.length (Nat.le_refl _)
theorem fld_get (n k i : Nat) (h : i < k) : (fld n k)[i]? = some (UInt8.ofNat (n / pw i)) := by
  induction k with
  | zero => omega
  | succ k ih =>
    simp only [fld]
    by_cases e : i = k
    · subst e; rw [List.getElem?_append_right (by simp [fld_length])]; simp [fld_length]
    · rw [List.getElem?_append_left (by simp [fld_length]; omega)]; exact ih (by omega)

/-- an 'or' of a low part and a shifted one is their sum -/
theorem or_sum (a b k : Nat) (ha : a < 2 ^ k) (h : a + 2 ^ k * b < 18446744073709551616) :
    bits .or .u64 (a : Int) ((2 ^ k * b : Nat) : Int) = ((a + 2 ^ k * b : Nat) : Int) := by
  have ha' : a < 18446744073709551616 := by omega
  have hb' : 2 ^ k * b < 18446744073709551616 := by omega
  have h1 : (BitVec.ofInt 64 (a : Int)).toNat = a := by
    rw [BitVec.ofInt_natCast, BitVec.toNat_ofNat]; exact Nat.mod_eq_of_lt (by simpa using ha')
  have h2 : (BitVec.ofInt 64 ((2 ^ k * b : Nat) : Int)).toNat = 2 ^ k * b := by
    rw [BitVec.ofInt_natCast, BitVec.toNat_ofNat]; exact Nat.mod_eq_of_lt (by simpa using hb')
  show IntKind.u64.wrap ((BitVec.ofInt 64 (a : Int) ||| BitVec.ofInt 64 ((2 ^ k * b : Nat) : Int)).toNat : Int) = _
  rw [BitVec.toNat_or, h1, h2, IntKind.wrap_u64]
  have e : a ||| 2 ^ k * b = a + 2 ^ k * b := by
    rw [Nat.or_comm, ← Nat.two_pow_add_eq_or_of_lt ha, Nat.add_comm]
  rw [e]; omega

/-- does a number fit into a field of a size? -/
def fitsB (n size : Int) : Bool := decide (0 ≤ n ∧ n < (pw size.toNat : Nat))
theorem fits_neg {n size : Int} (h : n < 0) : fitsB n size = false := by unfold fitsB; simp; omega
theorem fits_none {n size : Int} (h : size < 1) : fitsB n size = (n == 0) := by
  unfold fitsB
  rw [show size.toNat = 0 from by omega, pw_zero, Bool.eq_iff_iff]; simp; omega
theorem fits_all {n size : Int} (h0 : 0 ≤ n) (h1 : n ≤ 9223372036854775807) (h : 8 ≤ size) : fitsB n size = true := by
  unfold fitsB
  have : pw 8 ≤ pw size.toNat := pw_mono (by omega)
  rw [pw_eight] at this
  simp; omega
theorem fits_mid {n size : Int} (h0 : 0 ≤ n) (_h1 : 1 ≤ size) (_h2 : size < 8) : fitsB n size = (n / 2 ^ (8 * size).toNat == 0) := by
  unfold fitsB
  obtain ⟨m, rfl⟩ := Int.eq_ofNat_of_zero_le h0
  have e : (8 * size).toNat = 8 * size.toNat := by omega
  rw [e, Bool.eq_iff_iff]
  have hp := pw_pos size.toNat
  have e2 : ((2 : Int) ^ (8 * size.toNat)) = ((pw size.toNat : Nat) : Int) := by rw [pw_two]; simp
  rw [e2]
  simp only [decide_eq_true_eq, beq_iff_eq]
  rw [show ((m : Int) / (pw size.toNat : Int)) = ((m / pw size.toNat : Nat) : Int) from by simp]
  constructor
  · intro h; rw [Nat.div_eq_of_lt (by omega)]; rfl
  · intro h
    have : m / pw size.toNat = 0 := by omega
    have := (Nat.div_eq_zero_iff).1 this
    omega

/-- what a field of a number tells, signed -/
def sgn (n size : Int) : Int :=
  if 1 ≤ size ∧ size ≤ 8 then
    let m := n % (pw size.toNat : Nat)
    if (pw size.toNat : Nat) ≤ 2 * m then m - (pw size.toNat : Nat) else m
  else 0
theorem sgn_code {n size : Int} (_h1 : 0 ≤ n) (_h2 : n ≤ 18446744073709551615) (s1 : 1 ≤ size) (s2 : size ≤ 8) :
    wrap64 (IntKind.u64.wrap (n * 2 ^ (8 * (8 - size)).toNat)) / 2 ^ (8 * (8 - size)).toNat = sgn n size := by
  unfold sgn wrap64 pw
  rw [if_pos ⟨s1, s2⟩, IntKind.wrap_u64]
  rcases (show size = 1 ∨ size = 2 ∨ size = 3 ∨ size = 4 ∨ size = 5 ∨ size = 6 ∨ size = 7 ∨ size = 8 from by omega) with rfl | rfl | rfl | rfl | rfl | rfl | rfl | rfl
  all_goals
    simp
    split <;> omega
theorem sgn_eight {n : Int} (h1 : 0 ≤ n) (h2 : n ≤ 18446744073709551615) : sgn n 8 = wrap64 n := by
  unfold sgn wrap64
  rw [if_pos (by omega), show ((8 : Int).toNat) = 8 from rfl, pw_eight]
  simp only []
  split <;> omega
theorem even_pw (k : Nat) (h : 1 ≤ k) : 2 * (pw k / 2) = pw k := by
  obtain ⟨j, rfl⟩ : ∃ j, k = j + 1 := ⟨k - 1, by omega⟩
  rw [pw_succ]; omega
theorem sgn_high {n size : Int} (s1 : 1 ≤ size) (s2 : size ≤ 8) (h : ((pw size.toNat : Nat) : Int) / 2 ≤ n % (pw size.toNat : Nat)) :
    sgn n size = n % (pw size.toNat : Nat) - (pw size.toNat : Nat) := by
  have := even_pw size.toNat (by omega)
  unfold sgn
  rw [if_pos ⟨s1, s2⟩]
  simp only []
  rw [if_pos (by omega)]
theorem sgn_low {n size : Int} (s1 : 1 ≤ size) (s2 : size ≤ 8) (h : n % (pw size.toNat : Nat) < ((pw size.toNat : Nat) : Int) / 2) :
    sgn n size = n % (pw size.toNat : Nat) := by
  have := even_pw size.toNat (by omega)
  unfold sgn
  rw [if_pos ⟨s1, s2⟩]
  simp only []
  rw [if_neg (by omega)]
end Go.Proofs.Ytabfjlokemkpjaa.Fm
