/-
  Plain facts of lists of whole numbers, for layer 3 (vec): sums of products, of squares of differences, differences, what may be a vector. Nothing of the program stands here.
  Plain facts of planes between vectors, for layer 11 (plane): what a margin is, what the plane between two vectors is, which plane may be. Nothing of the program stands here.
  Plain facts of ids that are split by planes, for layer 12 (split): which item an id is, both sides, what is good, halves, and what is chosen of four tries. Nothing of the program stands here.
  Layer 10 (data), in lists alone: which vectors may be items of a dimension, the first error of many, and what is kept of them. Nothing of the program stands here.
-/
import Derived.Laws.BitsLemmas
import Derived.IntWalk
namespace Go.Proofs.Ytafkbagjjknhlaa.Vm
open Go Go.RowKit

/-- the sum of products, by the places that both have -/
def dotZ : List Int → List Int → Int
  | x :: l, y :: m => x * y + dotZ l m
  | _, _ => 0
/-- the sum of the squares of differences, by the places that both have -/
def farZ : List Int → List Int → Int
  | x :: l, y :: m => (x - y) * (x - y) + farZ l m
  | _, _ => 0
/-- as int64 -/
def dot (l m : List Int) : Int := wrap64 (dotZ l m)
def far (l m : List Int) : Int := wrap64 (farZ l m)
/-- differences, each as int32 -/
def less : List Int → List Int → List Int
  | x :: l, y :: m => wrap32 (x - y) :: less l m
  | _, _ => []
/-- how many places both have -/
def both (l m : List Int) : Nat := min l.length m.length

theorem less_length (l m : List Int) : (less l m).length = both l m := by
  unfold both
  induction l generalizing m with
  | nil => simp [less]
  | cons x l ih =>
    cases m with
    | nil => simp [less]
    | cons y m => simp only [less, List.length_cons, ih m]; omega

theorem dotZ_snoc (k : Nat) (l m : List Int) (hl : k < l.length) (hm : k < m.length) : dotZ (l.take (k + 1)) (m.take (k + 1)) = dotZ (l.take k) (m.take k) + l[k] * m[k] := by
  induction k generalizing l m with
  | zero =>
    cases l with
    | nil => exact absurd hl (by simp)
    | cons x l => cases m with
      | nil => exact absurd hm (by simp)
      | cons y m => simp [dotZ]
  | succ k ih =>
    cases l with
    | nil => exact absurd hl (by simp)
    | cons x l => cases m with
      | nil => exact absurd hm (by simp)
      | cons y m =>
        have := ih l m (by simpa using hl) (by simpa using hm)
        simp only [List.take_succ_cons, dotZ, List.getElem_cons_succ] at this ⊢
        rw [this]; omega
theorem farZ_snoc (k : Nat) (l m : List Int) (hl : k < l.length) (hm : k < m.length) : farZ (l.take (k + 1)) (m.take (k + 1)) = farZ (l.take k) (m.take k) + (l[k] - m[k]) * (l[k] - m[k]) := by
  induction k generalizing l m with
  | zero =>
    cases l with
    | nil => exact absurd hl (by simp)
    | cons x l => cases m with
      | nil => exact absurd hm (by simp)
      | cons y m => simp [farZ]
  | succ k ih =>
    cases l with
    | nil => exact absurd hl (by simp)
    | cons x l => cases m with
      | nil => exact absurd hm (by simp)
      | cons y m =>
        have := ih l m (by simpa using hl) (by simpa using hm)
        simp only [List.take_succ_cons, farZ, List.getElem_cons_succ] at this ⊢
        rw [this]; omega
theorem dotZ_both (l m : List Int) : dotZ (l.take (both l m)) (m.take (both l m)) = dotZ l m := by
  unfold both
  induction l generalizing m with
  | nil => simp [dotZ]
  | cons x l ih =>
    cases m with
    | nil => simp [dotZ]
    | cons y m =>
      rw [show min (x :: l).length (y :: m).length = min l.length m.length + 1 from by simp only [List.length_cons]; omega]
      simp only [List.take_succ_cons, dotZ, ih m]
theorem farZ_both (l m : List Int) : farZ (l.take (both l m)) (m.take (both l m)) = farZ l m := by
  unfold both
  induction l generalizing m with
  | nil => simp [farZ]
  | cons x l ih =>
    cases m with
    | nil => simp [farZ]
    | cons y m =>
      rw [show min (x :: l).length (y :: m).length = min l.length m.length + 1 from by simp only [List.length_cons]; omega]
      simp only [List.take_succ_cons, farZ, ih m]

theorem wrap_add (a b : Int) : wrap64 (wrap64 a + b) = wrap64 (a + b) := by
  simp only [wrap64]; omega
theorem wrap_add' (a b : Int) : wrap64 (wrap64 a + wrap64 b) = wrap64 (a + b) := by
  simp only [wrap64]; omega
theorem wrap_in {a : Int} (h0 : -9223372036854775808 ≤ a) (h1 : a ≤ 9223372036854775807) : wrap64 a = a := by
  simp only [wrap64]; omega
theorem wrap_lo (a : Int) : -9223372036854775808 ≤ wrap64 a := by simp only [wrap64]; omega
theorem wrap_hi (a : Int) : wrap64 a ≤ 9223372036854775807 := by simp only [wrap64]; omega
theorem wrap32_in {a : Int} (h0 : -2147483648 ≤ a) (h1 : a ≤ 2147483647) : wrap32 a = a := by
  simp only [wrap32]; omega
theorem wrap32_lo (a : Int) : -2147483648 ≤ wrap32 a := by simp only [wrap32]; omega
theorem wrap32_hi (a : Int) : wrap32 a ≤ 2147483647 := by simp only [wrap32]; omega
theorem dot_lo (l m : List Int) : -9223372036854775808 ≤ dot l m := wrap_lo _
theorem dot_hi (l m : List Int) : dot l m ≤ 9223372036854775807 := wrap_hi _
theorem far_lo (l m : List Int) : -9223372036854775808 ≤ far l m := wrap_lo _
theorem far_hi (l m : List Int) : far l m ≤ 9223372036854775807 := wrap_hi _

theorem dot_snoc (k : Nat) (l m : List Int) (hl : k < l.length) (hm : k < m.length) : wrap64 (dot (l.take k) (m.take k) + l[k] * m[k]) = dot (l.take (k + 1)) (m.take (k + 1)) := by
  unfold dot; rw [wrap_add, dotZ_snoc k l m hl hm]
theorem far_snoc (k : Nat) (l m : List Int) (hl : k < l.length) (hm : k < m.length) : wrap64 (far (l.take k) (m.take k) + (l[k] - m[k]) * (l[k] - m[k])) = far (l.take (k + 1)) (m.take (k + 1)) := by
  unfold far; rw [wrap_add, farZ_snoc k l m hl hm]
theorem far_snoc' (k : Nat) (l m : List Int) (hl : k < l.length) (hm : k < m.length) : wrap64 (far (l.take k) (m.take k) + wrap64 ((l[k] - m[k]) * (l[k] - m[k]))) = far (l.take (k + 1)) (m.take (k + 1)) := by
  unfold far; rw [wrap_add', farZ_snoc k l m hl hm]
theorem dot_both (l m : List Int) : dot (l.take (both l m)) (m.take (both l m)) = dot l m := by unfold dot; rw [dotZ_both]
theorem far_both (l m : List Int) : far (l.take (both l m)) (m.take (both l m)) = far l m := by unfold far; rw [farZ_both]
theorem dot_none (l m : List Int) : dot (l.take 0) (m.take 0) = 0 := wrap_in (by simp [dotZ]) (by simp [dotZ]) |>.trans (by simp [dotZ])
theorem far_none (l m : List Int) : far (l.take 0) (m.take 0) = 0 := wrap_in (by simp [farZ]) (by simp [farZ]) |>.trans (by simp [farZ])

/-- how great products of two int32 are, and squares of their differences: each stays an int64 -/
theorem mul_bound {x y a : Int} (hx0 : -a ≤ x) (hx1 : x ≤ a) (hy0 : -a ≤ y) (hy1 : y ≤ a) : -(a * a) ≤ x * y ∧ x * y ≤ a * a := by
  have h1 : 0 ≤ (a - x) * (a - y) := Int.mul_nonneg (by omega) (by omega)
  have h2 : 0 ≤ (a + x) * (a + y) := Int.mul_nonneg (by omega) (by omega)
  have h3 : 0 ≤ (a - x) * (a + y) := Int.mul_nonneg (by omega) (by omega)
  have h4 : 0 ≤ (a + x) * (a - y) := Int.mul_nonneg (by omega) (by omega)
  constructor <;> grind
theorem sq_bound {d a : Int} (h0 : -a ≤ d) (h1 : d ≤ a) : 0 ≤ d * d ∧ d * d ≤ a * a := by
  refine ⟨?_, (mul_bound h0 h1 h0 h1).2⟩
  rcases Int.le_total 0 d with h | h
  · exact Int.mul_nonneg h h
  · have := Int.mul_nonneg (show 0 ≤ -d by omega) (show 0 ≤ -d by omega)
    rwa [Int.neg_mul_neg] at this

/-- may it be a vector of a dimension? the errors' numbers -/
def good (x : Int) : Prop := -1048576 ≤ x ∧ x ≤ 1048576
instance (x : Int) : Decidable (good x) := by unfold good; infer_instance
def chk (l : List Int) (dim : Int) : Int :=
  if dim < 1 ∨ 1024 < dim then 1 else if (l.length : Int) ≠ dim then 3 else if ∀ x ∈ l, good x then 0 else 4
theorem chk_range {l : List Int} {dim : Int} (h : dim < 1 ∨ 1024 < dim) : chk l dim = 1 := by unfold chk; rw [if_pos h]
theorem chk_dim {l : List Int} {dim : Int} (h : ¬ (dim < 1 ∨ 1024 < dim)) (h2 : (l.length : Int) ≠ dim) : chk l dim = 3 := by unfold chk; rw [if_neg h, if_pos h2]
theorem chk_good {l : List Int} {dim : Int} (h : ¬ (dim < 1 ∨ 1024 < dim)) (h2 : (l.length : Int) = dim) (h3 : ∀ x ∈ l, good x) : chk l dim = 0 := by
  unfold chk; rw [if_neg h, if_neg (by omega), if_pos h3]
theorem chk_bad {l : List Int} {dim : Int} (h : ¬ (dim < 1 ∨ 1024 < dim)) (h2 : (l.length : Int) = dim) (h3 : ¬ ∀ x ∈ l, good x) : chk l dim = 4 := by
  unfold chk; rw [if_neg h, if_neg (by omega), if_neg h3]
theorem chk_ok {l : List Int} {dim : Int} (h : chk l dim = 0) : 1 ≤ dim ∧ dim ≤ 1024 ∧ (l.length : Int) = dim ∧ ∀ x ∈ l, good x := by
  by_cases a : dim < 1 ∨ 1024 < dim
  · rw [chk_range a] at h; omega
  · by_cases b : (l.length : Int) = dim
    · by_cases c : ∀ x ∈ l, good x
      · exact ⟨by omega, by omega, b, c⟩
      · rw [chk_bad a b c] at h; omega
    · rw [chk_dim a b] at h; omega

/-- vectors that may be: nothing goes round -/
theorem dotZ_bound (l m : List Int) (hl : ∀ x ∈ l, good x) (hm : ∀ x ∈ m, good x) : -((l.length : Int) * 1099511627776) ≤ dotZ l m ∧ dotZ l m ≤ (l.length : Int) * 1099511627776 := by
  induction l generalizing m with
  | nil => simp [dotZ]
  | cons x l ih =>
    cases m with
    | nil => simp [dotZ]; omega
    | cons y m =>
      have ⟨i0, i1⟩ := ih m (fun z hz => hl z (.tail _ hz)) (fun z hz => hm z (.tail _ hz))
      have ⟨x0, x1⟩ := hl x (.head _)
      have ⟨y0, y1⟩ := hm y (.head _)
      have ⟨p0, p1⟩ := mul_bound (a := 1048576) x0 x1 y0 y1
      have e : dotZ (x :: l) (y :: m) = x * y + dotZ l m := rfl
      rw [e, List.length_cons, Int.natCast_add]
      generalize x * y = p at *
      omega
theorem farZ_bound (l m : List Int) (hl : ∀ x ∈ l, good x) (hm : ∀ x ∈ m, good x) : 0 ≤ farZ l m ∧ farZ l m ≤ (l.length : Int) * 4398046511104 := by
  induction l generalizing m with
  | nil => simp [farZ]
  | cons x l ih =>
    cases m with
    | nil => simp [farZ]; omega
    | cons y m =>
      have ⟨i0, i1⟩ := ih m (fun z hz => hl z (.tail _ hz)) (fun z hz => hm z (.tail _ hz))
      have ⟨x0, x1⟩ := hl x (.head _)
      have ⟨y0, y1⟩ := hm y (.head _)
      have ⟨p0, p1⟩ := sq_bound (d := x - y) (a := 2097152) (by omega) (by omega)
      have e : farZ (x :: l) (y :: m) = (x - y) * (x - y) + farZ l m := rfl
      rw [e, List.length_cons, Int.natCast_add]
      generalize (x - y) * (x - y) = p at *
      omega
theorem farZ_nonneg (l m : List Int) : 0 ≤ farZ l m := by
  induction l generalizing m with
  | nil => simp [farZ]
  | cons x l ih =>
    cases m with
    | nil => simp [farZ]
    | cons y m =>
      have h := ih m
      have e : farZ (x :: l) (y :: m) = (x - y) * (x - y) + farZ l m := rfl
      have p := (sq_bound (d := x - y) (a := (x - y).natAbs) (by omega) (by omega)).1
      rw [e]; omega
theorem farZ_zero (l m : List Int) (h : l.length = m.length) : farZ l m = 0 ↔ l = m := by
  induction l generalizing m with
  | nil => cases m with
    | nil => simp [farZ]
    | cons y m => simp at h
  | cons x l ih =>
    cases m with
    | nil => simp at h
    | cons y m =>
      have hi := ih m (by simpa using h)
      have e : farZ (x :: l) (y :: m) = (x - y) * (x - y) + farZ l m := rfl
      have hn := farZ_nonneg l m
      have p := (sq_bound (d := x - y) (a := (x - y).natAbs) (by omega) (by omega)).1
      rw [e]
      constructor
      · intro h0
        have h1 : (x - y) * (x - y) = 0 := by omega
        have h2 : x - y = 0 := by rcases Int.mul_eq_zero.1 h1 with h | h <;> exact h
        have h3 := hi.1 (by omega)
        rw [show x = y from by omega, h3]
      · intro h0
        injection h0 with h1 h2
        have := hi.2 h2
        subst h1
        simp [this]
theorem farZ_comm (l m : List Int) : farZ l m = farZ m l := by
  induction l generalizing m with
  | nil => cases m <;> simp [farZ]
  | cons x l ih =>
    cases m with
    | nil => simp [farZ]
    | cons y m => simp only [farZ, ih m]; grind
theorem dotZ_comm (l m : List Int) : dotZ l m = dotZ m l := by
  induction l generalizing m with
  | nil => cases m <;> simp [dotZ]
  | cons x l ih =>
    cases m with
    | nil => simp [dotZ]
    | cons y m => simp only [dotZ, ih m]; grind
theorem far_comm (l m : List Int) : far l m = far m l := by unfold far; rw [farZ_comm]
theorem dot_comm (l m : List Int) : dot l m = dot m l := by unfold dot; rw [dotZ_comm]
theorem less_cons (x y : Int) (l m : List Int) (hx : good x) (hy : good y) : less (x :: l) (y :: m) = (x - y) :: less l m := by
  simp only [less]
  unfold good at hx hy
  rw [wrap32_in (by omega) (by omega)]
theorem dotZ_less (l m : List Int) (hl : ∀ x ∈ l, good x) (hm : ∀ x ∈ m, good x) : dotZ (less l m) (less l m) = farZ l m := by
  induction l generalizing m with
  | nil => simp [less, dotZ, farZ]
  | cons x l ih =>
    cases m with
    | nil => simp [less, dotZ, farZ]
    | cons y m =>
      rw [less_cons x y l m (hl x (.head _)) (hm y (.head _))]
      simp only [dotZ, farZ, ih m (fun z hz => hl z (.tail _ hz)) (fun z hz => hm z (.tail _ hz))]
theorem farZ_split (l m : List Int) (h : l.length = m.length) : dotZ l l + dotZ m m - 2 * dotZ l m = farZ l m := by
  induction l generalizing m with
  | nil => cases m with
    | nil => simp [dotZ, farZ]
    | cons y m => simp at h
  | cons x l ih =>
    cases m with
    | nil => simp at h
    | cons y m =>
      have := ih m (by simpa using h)
      simp only [dotZ, farZ]; grind
theorem dotZ_less_by (l m c : List Int) (h : l.length = m.length) (h' : l.length = c.length) (hl : ∀ x ∈ l, good x) (hm : ∀ x ∈ m, good x) : dotZ (less l m) c = dotZ l c - dotZ m c := by
  induction l generalizing m c with
  | nil =>
    cases m with
    | nil => simp [less, dotZ]
    | cons y m => simp at h
  | cons x l ih =>
    cases m with
    | nil => simp at h
    | cons y m =>
      cases c with
      | nil => simp at h'
      | cons z c =>
        rw [less_cons x y l m (hl x (.head _)) (hm y (.head _))]
        have := ih m c (by simpa using h) (by simpa using h') (fun z hz => hl z (.tail _ hz)) (fun z hz => hm z (.tail _ hz))
        simp only [dotZ]; grind
theorem farZ_bent (l m c : List Int) (h : l.length = m.length) (h' : l.length = c.length) : farZ l c ≤ 2 * (farZ l m + farZ m c) := by
  induction l generalizing m c with
  | nil =>
    have := farZ_nonneg m c
    simp [farZ]; omega
  | cons x l ih =>
    cases m with
    | nil => simp at h
    | cons y m =>
      cases c with
      | nil => simp at h'
      | cons z c =>
        have := ih m c (by simpa using h) (by simpa using h')
        have p := (sq_bound (d := x - 2 * y + z) (a := (x - 2 * y + z).natAbs) (by omega) (by omega)).1
        have e : (x - 2 * y + z) * (x - 2 * y + z) = 2 * ((x - y) * (x - y) + (y - z) * (y - z)) - (x - z) * (x - z) := by grind
        simp only [farZ]
        rw [e] at p
        generalize (x - y) * (x - y) = p1 at *
        generalize (y - z) * (y - z) = p2 at *
        generalize (x - z) * (x - z) = p3 at *
        omega
theorem dotZ_app (a b c d : List Int) (h : a.length = b.length) : dotZ (a ++ c) (b ++ d) = dotZ a b + dotZ c d := by
  induction a generalizing b with
  | nil => cases b with
    | nil => simp [dotZ]
    | cons y b => simp at h
  | cons x a ih =>
    cases b with
    | nil => simp at h
    | cons y b => simp only [List.cons_append, dotZ, ih b (by simpa using h)]; omega
theorem farZ_app (a b c d : List Int) (h : a.length = b.length) : farZ (a ++ c) (b ++ d) = farZ a b + farZ c d := by
  induction a generalizing b with
  | nil => cases b with
    | nil => simp [farZ]
    | cons y b => simp at h
  | cons x a ih =>
    cases b with
    | nil => simp at h
    | cons y b => simp only [List.cons_append, farZ, ih b (by simpa using h)]; omega
theorem dot_app (a b c d : List Int) (h : a.length = b.length) : dot (a ++ c) (b ++ d) = wrap64 (dot a b + dot c d) := by
  unfold dot; rw [wrap_add', dotZ_app a b c d h]
theorem far_app (a b c d : List Int) (h : a.length = b.length) : far (a ++ c) (b ++ d) = wrap64 (far a b + far c d) := by
  unfold far; rw [wrap_add', farZ_app a b c d h]
theorem app_inj (a b c d : List Int) (h : a.length = b.length) : (a ++ c = b ++ d) ↔ (a = b ∧ c = d) := by
  constructor
  · intro e; exact List.append_inj e h
  · rintro ⟨rfl, rfl⟩; rfl
/-- both shifted by the same -/
def plus (l c : List Int) : List Int := List.zipWith (· + ·) l c
theorem plus_length (l c : List Int) : (plus l c).length = min l.length c.length := by simp [plus]
theorem plus_snoc (k : Nat) (l c : List Int) (hl : k < l.length) (hm : k < c.length) : plus (l.take (k + 1)) (c.take (k + 1)) = plus (l.take k) (c.take k) ++ [l[k] + c[k]] := by
  unfold plus
  rw [List.take_succ_eq_append_getElem hl, List.take_succ_eq_append_getElem hm, List.zipWith_append (by simp; omega)]
  rfl
theorem farZ_plus (l m c : List Int) (h : l.length = c.length) (h' : m.length = c.length) : farZ (plus l c) (plus m c) = farZ l m := by
  induction l generalizing m c with
  | nil => simp [plus, farZ]
  | cons x l ih =>
    cases m with
    | nil => simp [plus, farZ]
    | cons y m =>
      cases c with
      | nil => simp at h'
      | cons z c =>
        have := ih m c (by simpa using h) (by simpa using h')
        simp only [plus, List.zipWith_cons_cons, farZ] at this ⊢
        rw [this]
        grind
theorem far_plus (l m c : List Int) (h : l.length = c.length) (h' : m.length = c.length) : far (plus l c) (plus m c) = far l m := by unfold far; rw [farZ_plus l m c h h']
theorem less_plus (l m c : List Int) (h : l.length = c.length) (h' : m.length = c.length) : less (plus l c) (plus m c) = less l m := by
  induction l generalizing m c with
  | nil => simp [plus, less]
  | cons x l ih =>
    cases m with
    | nil => simp [plus, less]
    | cons y m =>
      cases c with
      | nil => simp at h'
      | cons z c =>
        have := ih m c (by simpa using h) (by simpa using h')
        simp only [plus, List.zipWith_cons_cons, less] at this ⊢
        rw [this, show x + z - (y + z) = x - y from by omega]
theorem less_back (l c : List Int) (h : l.length = c.length) (hl : ∀ x ∈ l, good x) : less (plus l c) c = l := by
  induction l generalizing c with
  | nil => simp [plus, less]
  | cons x l ih =>
    cases c with
    | nil => simp at h
    | cons z c =>
      have := ih c (by simpa using h) (fun z hz => hl z (.tail _ hz))
      have hx := hl x (.head _)
      unfold good at hx
      simp only [plus, List.zipWith_cons_cons, less] at this ⊢
      rw [this, show x + z - z = x from by omega, wrap32_in (by omega) (by omega)]
theorem less_snoc (k : Nat) (l m : List Int) (hl : k < l.length) (hm : k < m.length) : less (l.take (k + 1)) (m.take (k + 1)) = less (l.take k) (m.take k) ++ [wrap32 (l[k] - m[k])] := by
  induction k generalizing l m with
  | zero =>
    cases l with
    | nil => exact absurd hl (by simp)
    | cons x l => cases m with
      | nil => exact absurd hm (by simp)
      | cons y m => simp [less]
  | succ k ih =>
    cases l with
    | nil => exact absurd hl (by simp)
    | cons x l => cases m with
      | nil => exact absurd hm (by simp)
      | cons y m =>
        have := ih l m (by simpa using hl) (by simpa using hm)
        simp only [List.take_succ_cons, less, List.getElem_cons_succ, List.cons_append] at this ⊢
        rw [this]
theorem less_both (l m : List Int) : less (l.take (both l m)) (m.take (both l m)) = less l m := by
  unfold both
  induction l generalizing m with
  | nil => simp [less]
  | cons x l ih =>
    cases m with
    | nil => simp [less]
    | cons y m =>
      rw [show min (x :: l).length (y :: m).length = min l.length m.length + 1 from by simp only [List.length_cons]; omega]
      simp only [List.take_succ_cons, less, ih m]
theorem less_get (k : Nat) (l m : List Int) (hl : k < l.length) (hm : k < m.length) : (less l m)[k]? = some (wrap32 (l[k] - m[k])) := by
  induction k generalizing l m with
  | zero =>
    cases l with
    | nil => exact absurd hl (by simp)
    | cons x l => cases m with
      | nil => exact absurd hm (by simp)
      | cons y m => simp [less]
  | succ k ih =>
    cases l with
    | nil => exact absurd hl (by simp)
    | cons x l => cases m with
      | nil => exact absurd hm (by simp)
      | cons y m =>
        have := ih l m (by simpa using hl) (by simpa using hm)
        simpa [less] using this
theorem less_in (l m : List Int) : ∀ x ∈ less l m, -2147483648 ≤ x ∧ x ≤ 2147483647 := by
  induction l generalizing m with
  | nil => simp [less]
  | cons x l ih =>
    cases m with
    | nil => simp [less]
    | cons y m =>
      intro z hz
      simp only [less, List.mem_cons] at hz
      rcases hz with rfl | hz
      · exact ⟨wrap32_lo _, wrap32_hi _⟩
      · exact ih m z hz
end Go.Proofs.Ytafkbagjjknhlaa.Vm
namespace Go.Proofs.Ytafkbagjjknhlaa.Pm
open Go Go.RowKit

/-- the margin of a vector at a plane (its normal, its offset) -/
def mar (l : List Int) (o : Int) (v : List Int) : Int := wrap64 (2 * Vm.dotZ l v - o)
/-- the offset of the plane between two vectors -/
def off (a b : List Int) : Int := wrap64 (Vm.dotZ (Vm.less a b) a + Vm.dotZ (Vm.less a b) b)
/-- may a normal's coordinate be? may a plane of a dimension? the errors' numbers -/
def ok (x : Int) : Prop := -2097152 ≤ x ∧ x ≤ 2097152
instance (x : Int) : Decidable (ok x) := by unfold ok; infer_instance
def chk (l : List Int) (o dim : Int) : Int :=
  if dim < 1 ∨ 1024 < dim then 1 else if (l.length : Int) ≠ dim then 3 else if ∀ x ∈ l, ok x then (if -9007199254740992 ≤ o ∧ o ≤ 9007199254740992 then 0 else 1) else 4
theorem chk_range {l : List Int} {o dim : Int} (h : dim < 1 ∨ 1024 < dim) : chk l o dim = 1 := by unfold chk; rw [if_pos h]
theorem chk_dim {l : List Int} {o dim : Int} (h : ¬ (dim < 1 ∨ 1024 < dim)) (h2 : (l.length : Int) ≠ dim) : chk l o dim = 3 := by unfold chk; rw [if_neg h, if_pos h2]
theorem chk_good {l : List Int} {o dim : Int} (h : ¬ (dim < 1 ∨ 1024 < dim)) (h2 : (l.length : Int) = dim) (h3 : ∀ x ∈ l, ok x) (h4 : -9007199254740992 ≤ o) (h5 : o ≤ 9007199254740992) : chk l o dim = 0 := by
  unfold chk; rw [if_neg h, if_neg (by omega), if_pos h3, if_pos ⟨h4, h5⟩]
theorem chk_off {l : List Int} {o dim : Int} (h : ¬ (dim < 1 ∨ 1024 < dim)) (h2 : (l.length : Int) = dim) (h3 : ∀ x ∈ l, ok x) (h4 : o < -9007199254740992 ∨ 9007199254740992 < o) : chk l o dim = 1 := by
  unfold chk; rw [if_neg h, if_neg (by omega), if_pos h3, if_neg (by omega)]
theorem chk_bad {l : List Int} {o dim : Int} (h : ¬ (dim < 1 ∨ 1024 < dim)) (h2 : (l.length : Int) = dim) (h3 : ¬ ∀ x ∈ l, ok x) : chk l o dim = 4 := by
  unfold chk; rw [if_neg h, if_neg (by omega), if_neg h3]
theorem chk_ok {l : List Int} {o dim : Int} (h : chk l o dim = 0) : 1 ≤ dim ∧ dim ≤ 1024 ∧ (l.length : Int) = dim ∧ (∀ x ∈ l, ok x) ∧ -9007199254740992 ≤ o ∧ o ≤ 9007199254740992 := by
  by_cases a : dim < 1 ∨ 1024 < dim
  · rw [chk_range a] at h; omega
  · by_cases b : (l.length : Int) = dim
    · by_cases c : ∀ x ∈ l, ok x
      · by_cases d : o < -9007199254740992 ∨ 9007199254740992 < o
        · rw [chk_off a b c d] at h; omega
        · exact ⟨by omega, by omega, b, c, by omega, by omega⟩
      · rw [chk_bad a b c] at h; omega
    · rw [chk_dim a b] at h; omega

theorem mar_two (l : List Int) (o : Int) (v : List Int) : wrap64 (wrap64 (2 * Vm.dot l v) - o) = mar l o v := by
  unfold mar Vm.dot; simp only [wrap64]; omega
theorem mar_sum (l : List Int) (o : Int) (v : List Int) : wrap64 (wrap64 (Vm.dot l v + Vm.dot l v) - o) = mar l o v := by
  unfold mar Vm.dot; simp only [wrap64]; omega
theorem off_sum (a b : List Int) : wrap64 (Vm.dot (Vm.less a b) a + Vm.dot (Vm.less a b) b) = off a b := by
  unfold off Vm.dot; rw [Vm.wrap_add']
theorem mar_lo (l : List Int) (o : Int) (v : List Int) : -9223372036854775808 ≤ mar l o v := Vm.wrap_lo _
theorem mar_hi (l : List Int) (o : Int) (v : List Int) : mar l o v ≤ 9223372036854775807 := Vm.wrap_hi _
theorem off_lo (a b : List Int) : -9223372036854775808 ≤ off a b := Vm.wrap_lo _
theorem off_hi (a b : List Int) : off a b ≤ 9223372036854775807 := Vm.wrap_hi _

/-- a normal that may be and a vector that may be -/
theorem dotZ_bound (l m : List Int) (hl : ∀ x ∈ l, ok x) (hm : ∀ x ∈ m, Vm.good x) : -((l.length : Int) * 2199023255552) ≤ Vm.dotZ l m ∧ Vm.dotZ l m ≤ (l.length : Int) * 2199023255552 := by
  induction l generalizing m with
  | nil => simp [Vm.dotZ]
  | cons x l ih =>
    cases m with
    | nil => simp [Vm.dotZ]; omega
    | cons y m =>
      have ⟨i0, i1⟩ := ih m (fun z hz => hl z (.tail _ hz)) (fun z hz => hm z (.tail _ hz))
      have ⟨x0, x1⟩ := hl x (.head _)
      have ⟨y0, y1⟩ := hm y (.head _)
      have ⟨p0, p1⟩ := Vm.mul_bound (x := x) (y := 2 * y) (a := 2097152) x0 x1 (by omega) (by omega)
      have e : Vm.dotZ (x :: l) (y :: m) = x * y + Vm.dotZ l m := rfl
      rw [e, List.length_cons, Int.natCast_add]
      rw [show x * (2 * y) = 2 * (x * y) from by grind] at p0 p1
      generalize x * y = p at *
      omega
theorem less_ok (l m : List Int) (hl : ∀ x ∈ l, Vm.good x) (hm : ∀ x ∈ m, Vm.good x) : ∀ x ∈ Vm.less l m, ok x := by
  induction l generalizing m with
  | nil => simp [Vm.less]
  | cons x l ih =>
    cases m with
    | nil => simp [Vm.less]
    | cons y m =>
      intro z hz
      have hx := hl x (.head _)
      have hy := hm y (.head _)
      rw [Vm.less_cons x y l m hx hy] at hz
      rcases List.mem_cons.1 hz with rfl | hz
      · unfold ok; unfold Vm.good at hx hy; omega
      · exact ih m (fun z hz => hl z (.tail _ hz)) (fun z hz => hm z (.tail _ hz)) z hz
theorem less_flip (l m : List Int) (h : l.length = m.length) (hl : ∀ x ∈ l, Vm.good x) (hm : ∀ x ∈ m, Vm.good x) : Vm.less l m = Vm.less m l ↔ l = m := by
  induction l generalizing m with
  | nil => cases m with
    | nil => simp
    | cons y m => simp at h
  | cons x l ih =>
    cases m with
    | nil => simp at h
    | cons y m =>
      have hx := hl x (.head _)
      have hy := hm y (.head _)
      have := ih m (by simpa using h) (fun z hz => hl z (.tail _ hz)) (fun z hz => hm z (.tail _ hz))
      rw [Vm.less_cons x y l m hx hy, Vm.less_cons y x m l hy hx, List.cons.injEq, List.cons.injEq, this]
      constructor
      · rintro ⟨a, b⟩; exact ⟨by omega, b⟩
      · rintro ⟨a, b⟩; exact ⟨by omega, b⟩

/-- vectors that may be, of one length -/
structure Two (a b : List Int) (n : Nat) : Prop where
  le : n ≤ 1024
  la : a.length = n
  lb : b.length = n
  ga : ∀ x ∈ a, Vm.good x
  gb : ∀ x ∈ b, Vm.good x
theorem Two.flip {a b : List Int} {n : Nat} (h : Two a b n) : Two b a n := ⟨h.le, h.lb, h.la, h.gb, h.ga⟩
theorem Two.off {a b : List Int} {n : Nat} (h : Two a b n) : off a b = Vm.dotZ a a - Vm.dotZ b b := by
  have h1 := Vm.dotZ_less_by a b a (by rw [h.la, h.lb]) rfl h.ga h.gb
  have h2 := Vm.dotZ_less_by a b b (by rw [h.la, h.lb]) (by rw [h.la, h.lb]) h.ga h.gb
  have h3 := Vm.dotZ_comm a b
  have b1 := Vm.dotZ_bound a a h.ga h.ga
  have b2 := Vm.dotZ_bound b b h.gb h.gb
  have := h.le
  rw [h.la] at b1
  rw [h.lb] at b2
  unfold Pm.off
  rw [show Vm.dotZ (Vm.less a b) a + Vm.dotZ (Vm.less a b) b = Vm.dotZ a a - Vm.dotZ b b from by omega]
  exact Vm.wrap_in (by omega) (by omega)
theorem Two.chk {a b : List Int} {n : Nat} (h : Two a b n) (h0 : 1 ≤ n) : chk (Vm.less a b) (Pm.off a b) (n : Int) = 0 := by
  have b1 := Vm.dotZ_bound a a h.ga h.ga
  have b2 := Vm.dotZ_bound b b h.gb h.gb
  have e := h.off
  have := h.le
  rw [h.la] at b1
  rw [h.lb] at b2
  refine chk_good (by omega) ?_ (less_ok a b h.ga h.gb) (by omega) (by omega)
  rw [Vm.less_length]; unfold Vm.both; rw [h.la, h.lb]; omega
/-- margins at the plane between two: how far from the second one, less how far from the first one -/
theorem Two.mar {a b v : List Int} {n : Nat} (h : Two a b n) (k : Two a v n) : mar (Vm.less a b) (Pm.off a b) v = Vm.far v b - Vm.far v a ∧ Vm.far v b = Vm.farZ v b ∧ Vm.far v a = Vm.farZ v a ∧ 0 ≤ Vm.farZ v a ∧ Vm.farZ v a ≤ 4503599627370496 ∧ 0 ≤ Vm.farZ v b ∧ Vm.farZ v b ≤ 4503599627370496 := by
  have b1 := Vm.farZ_bound v b k.gb h.gb
  have b2 := Vm.farZ_bound v a k.gb h.ga
  have hn := h.le
  rw [k.lb] at b1 b2
  have e1 : Vm.far v b = Vm.farZ v b := Vm.wrap_in (by omega) (by omega)
  have e2 : Vm.far v a = Vm.farZ v a := Vm.wrap_in (by omega) (by omega)
  refine ⟨?_, e1, e2, by omega, by omega, by omega, by omega⟩
  rw [e1, e2]
  unfold Pm.mar
  rw [h.off, Vm.dotZ_less_by a b v (by rw [h.la, h.lb]) (by rw [h.la, k.lb]) h.ga h.gb]
  have s1 := Vm.farZ_split v b (by rw [k.lb, h.lb])
  have s2 := Vm.farZ_split v a (by rw [k.lb, h.la])
  have c1 := Vm.dotZ_comm a v
  have c2 := Vm.dotZ_comm b v
  rw [show 2 * (Vm.dotZ a v - Vm.dotZ b v) - (Vm.dotZ a a - Vm.dotZ b b) = Vm.farZ v b - Vm.farZ v a from by omega]
  exact Vm.wrap_in (by omega) (by omega)
theorem far_self (a : List Int) : Vm.far a a = 0 := by
  unfold Vm.far
  rw [(Vm.farZ_zero a a rfl).2 rfl]
  exact Vm.wrap_in (by omega) (by omega)
theorem Two.fst {a b : List Int} {n : Nat} (h : Two a b n) : Pm.mar (Vm.less a b) (Pm.off a b) a = Vm.far a b := by
  rw [(h.mar (v := a) ⟨h.le, h.la, h.la, h.ga, h.ga⟩).1, far_self]; omega
theorem Two.snd {a b : List Int} {n : Nat} (h : Two a b n) : Pm.mar (Vm.less a b) (Pm.off a b) b = -Vm.far a b := by
  rw [(h.mar (v := b) h).1, far_self, Vm.far_comm b a]; omega
theorem Two.turn {a b v : List Int} {n : Nat} (h : Two a b n) (k : Two a v n) : Pm.mar (Vm.less a b) (Pm.off a b) v = -Pm.mar (Vm.less b a) (Pm.off b a) v := by
  rw [(h.mar k).1, (h.flip.mar (v := v) ⟨h.le, h.lb, k.lb, h.gb, k.gb⟩).1]; omega
theorem Two.same {a b : List Int} {n : Nat} (h : Two a b n) : (Pm.off a b = Pm.off b a ∧ Vm.less a b = Vm.less b a) ↔ a = b := by
  constructor
  · rintro ⟨-, e⟩; exact (less_flip a b (by rw [h.la, h.lb]) h.ga h.gb).1 e
  · rintro rfl; exact ⟨rfl, rfl⟩
/-- of a plane and a vector that may be the margin doesn't go round -/
theorem mar_bound {l v : List Int} {o : Int} {n : Nat} (h : chk l o (n : Int) = 0) (k : Vm.chk v (n : Int) = 0) : -18014398509481984 ≤ mar l o v ∧ mar l o v ≤ 18014398509481984 := by
  obtain ⟨-, d1, e0, g0, o0, o1⟩ := chk_ok h
  obtain ⟨-, -, -, g1⟩ := Vm.chk_ok k
  have b := dotZ_bound l v g0 g1
  have e : mar l o v = 2 * Vm.dotZ l v - o := Vm.wrap_in (by omega) (by omega)
  omega
/-- the flat plane -/
def flat (n : Nat) : List Int := List.replicate n 0
theorem flat_dot (n : Nat) (v : List Int) : Vm.dotZ (flat n) v = 0 := by
  unfold flat
  induction n generalizing v with
  | zero => rfl
  | succ n ih =>
    cases v with
    | nil => rfl
    | cons y v => rw [List.replicate_succ]; simp only [Vm.dotZ, ih v]; omega
theorem flat_mar (n : Nat) (v : List Int) : mar (flat n) 0 v = 0 := by
  unfold mar; rw [flat_dot]; exact Vm.wrap_in (by omega) (by omega)
theorem flat_length (n : Nat) : (flat n).length = n := by simp [flat]
theorem flat_in (n : Nat) : ∀ x ∈ flat n, -2147483648 ≤ x ∧ x ≤ 2147483647 := fun x hx => by
  rw [flat, List.mem_replicate] at hx; omega
theorem flat_chk (n : Nat) (h0 : 1 ≤ n) (h1 : n ≤ 1024) : chk (flat n) 0 (n : Int) = 0 :=
  chk_good (by omega) (by rw [flat_length]) (fun x hx => by rw [flat, List.mem_replicate] at hx; unfold ok; omega) (by omega) (by omega)
theorem flat_succ (k : Nat) : flat (k + 1) = flat k ++ [0] := List.replicate_succ'

/-- the middle, and the one as far behind it -/
def mid : List Int → List Int → List Int
  | x :: l, y :: m => (x + y) :: mid l m
  | _, _ => []
def far2 : List Int → List Int → List Int
  | x :: l, y :: m => (x + 2 * y) :: far2 l m
  | _, _ => []
theorem mid_snoc (k : Nat) (l m : List Int) (hl : k < l.length) (hm : k < m.length) : mid (l.take (k + 1)) (m.take (k + 1)) = mid (l.take k) (m.take k) ++ [l[k] + m[k]] := by
  induction k generalizing l m with
  | zero =>
    cases l with
    | nil => exact absurd hl (by simp)
    | cons x l => cases m with
      | nil => exact absurd hm (by simp)
      | cons y m => simp [mid]
  | succ k ih =>
    cases l with
    | nil => exact absurd hl (by simp)
    | cons x l => cases m with
      | nil => exact absurd hm (by simp)
      | cons y m =>
        have := ih l m (by simpa using hl) (by simpa using hm)
        simp only [List.take_succ_cons, mid, List.getElem_cons_succ, List.cons_append] at this ⊢
        rw [this]
theorem far2_snoc (k : Nat) (l m : List Int) (hl : k < l.length) (hm : k < m.length) : far2 (l.take (k + 1)) (m.take (k + 1)) = far2 (l.take k) (m.take k) ++ [l[k] + 2 * m[k]] := by
  induction k generalizing l m with
  | zero =>
    cases l with
    | nil => exact absurd hl (by simp)
    | cons x l => cases m with
      | nil => exact absurd hm (by simp)
      | cons y m => simp [far2]
  | succ k ih =>
    cases l with
    | nil => exact absurd hl (by simp)
    | cons x l => cases m with
      | nil => exact absurd hm (by simp)
      | cons y m =>
        have := ih l m (by simpa using hl) (by simpa using hm)
        simp only [List.take_succ_cons, far2, List.getElem_cons_succ, List.cons_append] at this ⊢
        rw [this]
/-- what PlaneMiddle asks of its numbers -/
def near (x y : Int) : Prop := -524288 ≤ x ∧ x ≤ 524288 ∧ -131072 ≤ y ∧ y ≤ 131072
def Near : List Int → List Int → Prop
  | x :: l, y :: m => near x y ∧ Near l m
  | _, _ => True
theorem near_snoc (k : Nat) (l m : List Int) (hl : k < l.length) (hm : k < m.length) (h : Near (l.take k) (m.take k)) (h' : near l[k] m[k]) : Near (l.take (k + 1)) (m.take (k + 1)) := by
  induction k generalizing l m with
  | zero =>
    cases l with
    | nil => exact absurd hl (by simp)
    | cons x l => cases m with
      | nil => exact absurd hm (by simp)
      | cons y m => simpa [Near] using h'
  | succ k ih =>
    cases l with
    | nil => exact absurd hl (by simp)
    | cons x l => cases m with
      | nil => exact absurd hm (by simp)
      | cons y m =>
        simp only [List.take_succ_cons, Near, List.getElem_cons_succ] at h h' ⊢
        exact ⟨h.1, ih l m (by simpa using hl) (by simpa using hm) h.2 h'⟩
theorem mid_facts (l m : List Int) (h : l.length = m.length) (k : Near l m) : (mid l m).length = l.length ∧ (far2 l m).length = l.length ∧ (∀ x ∈ l, Vm.good x) ∧ (∀ x ∈ mid l m, Vm.good x) ∧ (∀ x ∈ far2 l m, Vm.good x) ∧
    Vm.farZ (mid l m) (far2 l m) = Vm.farZ (mid l m) l ∧ Vm.farZ l (far2 l m) = 4 * Vm.farZ l (mid l m) := by
  induction l generalizing m with
  | nil => cases m with
    | nil => simp [mid, far2, Vm.farZ]
    | cons y m => simp at h
  | cons x l ih =>
    cases m with
    | nil => simp at h
    | cons y m =>
      obtain ⟨⟨x0, x1, y0, y1⟩, k2⟩ := k
      obtain ⟨i1, i2, i3, i4, i5, i6, i7⟩ := ih m (by simpa using h) k2
      refine ⟨by simp [mid, i1], by simp [far2, i2], ?_, ?_, ?_, ?_, ?_⟩
      · intro z hz; rcases List.mem_cons.1 hz with rfl | hz
        · exact ⟨by omega, by omega⟩
        · exact i3 z hz
      · intro z hz; simp only [mid] at hz; rcases List.mem_cons.1 hz with rfl | hz
        · exact ⟨by omega, by omega⟩
        · exact i4 z hz
      · intro z hz; simp only [far2] at hz; rcases List.mem_cons.1 hz with rfl | hz
        · exact ⟨by omega, by omega⟩
        · exact i5 z hz
      · simp only [mid, far2, Vm.farZ, i6]; grind
      · simp only [mid, far2, Vm.farZ, i7]; grind
theorem mid_tells {l m : List Int} {n : Nat} (h : l.length = n) (h' : m.length = n) (hn : n ≤ 1024) (k : Near l m) : Pm.mar (Vm.less l (far2 l m)) (Pm.off l (far2 l m)) (mid l m) = 0 ∧
    ∃ D, Vm.far l (mid l m) = D ∧ Pm.mar (Vm.less l (far2 l m)) (Pm.off l (far2 l m)) l = 4 * D ∧ 0 ≤ D ∧ D ≤ 4503599627370496 := by
  obtain ⟨i1, i2, i3, i4, i5, i6, i7⟩ := mid_facts l m (by rw [h, h']) k
  have T : Two l (far2 l m) n := ⟨hn, h, by rw [i2, h], i3, i5⟩
  have K : Two l (mid l m) n := ⟨hn, h, by rw [i1, h], i3, i4⟩
  obtain ⟨m1, m2, m3, m4, m5, m6, m7⟩ := T.mar K
  refine ⟨by rw [m1, m2, m3, i6]; omega, _, rfl, ?_, ?_, ?_⟩
  · rw [T.fst]
    have b1 := Vm.farZ_bound l (far2 l m) i3 i5
    have b2 := Vm.farZ_bound l (mid l m) i3 i4
    rw [h] at b1 b2
    have e1 : Vm.far l (far2 l m) = Vm.farZ l (far2 l m) := Vm.wrap_in (by omega) (by omega)
    have e2 : Vm.far l (mid l m) = Vm.farZ l (mid l m) := Vm.wrap_in (by omega) (by omega)
    rw [e1, e2, i7]
  · rw [Vm.far_comm, m3]; omega
  · rw [Vm.far_comm, m3]; omega
end Go.Proofs.Ytafkbagjjknhlaa.Pm
namespace Go.Proofs.Ytafkbagjjknhlaa.Zm
open Go Go.RowKit

/-- an id's item: the empty vector, if there is none -/
def item (L : List (List Int)) (id : Int) : List Int := if 0 ≤ id then L.getD id.toNat [] else []
theorem item_in {L : List (List Int)} {k : Nat} (h : k < L.length) : item L (k : Int) = L[k] := by
  unfold item; rw [if_pos (by omega)]; simp [List.getD_eq_getElem?_getD, h]
theorem item_low {L : List (List Int)} {id : Int} (h : id < 0) : item L id = [] := by unfold item; rw [if_neg (by omega)]
theorem item_high {L : List (List Int)} {id : Int} (h : (L.length : Int) ≤ id) : item L id = [] := by
  unfold item
  by_cases q : 0 ≤ id
  · rw [if_pos q, List.getD_eq_getElem?_getD, List.getElem?_eq_none (by omega)]; rfl
  · rw [if_neg q]
/-- is it on the Side of a plane? -/
def on (L : List (List Int)) (l : List Int) (o : Int) (id : Int) : Bool := decide (0 ≤ Pm.mar l o (item L id))
/-- those that are, or aren't, as they stood -/
def side (L : List (List Int)) (l : List Int) (o : Int) (b : Bool) (ids : List Int) : List Int := ids.filter fun id => on L l o id == b
theorem side_snoc_yes {L : List (List Int)} {l : List Int} {o : Int} {b : Bool} {ids : List Int} {k : Nat} (hk : k < ids.length) (h : on L l o ids[k] = b) :
    side L l o b (ids.take (k + 1)) = side L l o b (ids.take k) ++ [ids[k]] := by
  unfold side
  rw [List.take_succ_eq_append_getElem hk, List.filter_append]
  simp [h]
theorem side_snoc_no {L : List (List Int)} {l : List Int} {o : Int} {b : Bool} {ids : List Int} {k : Nat} (hk : k < ids.length) (h : on L l o ids[k] = !b) :
    side L l o b (ids.take (k + 1)) = side L l o b (ids.take k) := by
  unfold side
  rw [List.take_succ_eq_append_getElem hk, List.filter_append]
  simp [h]
theorem side_le (L : List (List Int)) (l : List Int) (o : Int) (b : Bool) (ids : List Int) : (side L l o b ids).length ≤ ids.length := List.length_filter_le _ _
theorem side_perm (L : List (List Int)) (l : List Int) (o : Int) (ids : List Int) : (side L l o false ids ++ side L l o true ids).Perm ids := by
  unfold side
  induction ids with
  | nil => exact List.Perm.refl _
  | cons x ids ih =>
    cases h : on L l o x with
    | false => simpa [h] using ih
    | true =>
      simp only [List.filter_cons, h, beq_self_eq_true, if_true, show (true == false) = false from rfl, Bool.false_eq_true, if_false]
      exact List.perm_middle.trans (List.Perm.cons _ ih)
theorem side_both (L : List (List Int)) (l : List Int) (o : Int) (ids : List Int) : (side L l o false ids).length + (side L l o true ids).length = ids.length := by
  have := (side_perm L l o ids).length_eq; rwa [List.length_append] at this
/-- is a part good? -/
def good (n m : Nat) : Bool := decide (0 < n ∧ 0 < m ∧ n + m ≤ 8 * n ∧ n + m ≤ 8 * m)
/-- halves: left the first ones -/
def half (ids : List Int) : Nat := ids.length - ids.length / 2

section
variable (L : List (List Int)) (ids : List Int) (p q : Nat → Int)
/-- the t-th try's plane, by the places that the source told -/
def at_ (i : Int) : Int := ids.getD i.toNat 0
def pn (t : Nat) : List Int := Vm.less (item L (at_ ids (p t))) (item L (at_ ids (q t)))
def po (t : Nat) : Int := Pm.off (item L (at_ ids (p t))) (item L (at_ ids (q t)))
def lf (t : Nat) : List Int := side L (pn L ids p q t) (po L ids p q t) false ids
def rg (t : Nat) : List Int := side L (pn L ids p q t) (po L ids p q t) true ids
def ok (t : Nat) : Bool := good (lf L ids p q t).length (rg L ids p q t).length
/-- the first of four tries that is good -/
def pick : Option Nat := if ids.length < 2 then none else (List.range 4).find? (ok L ids p q)
def tries : Nat := if ids.length < 2 then 0 else match pick L ids p q with | some t => t + 1 | none => 4
end
section
variable {L : List (List Int)} {ids : List Int} {p q : Nat → Int}
theorem pick_some {t : Nat} (h2 : 2 ≤ ids.length) (ht : t < 4) (h : ok L ids p q t = true) (hb : ∀ s, s < t → ok L ids p q s = false) : pick L ids p q = some t := by
  unfold pick
  rw [if_neg (by omega), List.find?_range_eq_some]
  exact ⟨h, by simpa using ht, fun s hs => by simpa using hb s hs⟩
theorem pick_none (h : ids.length < 2 ∨ ∀ s, s < 4 → ok L ids p q s = false) : pick L ids p q = none := by
  unfold pick
  rcases h with h | h
  · rw [if_pos h]
  · split
    · rfl
    · rw [List.find?_eq_none]
      intro s hs
      rw [h s (by simpa using hs)]; simp
theorem pick_is {t : Nat} (h : pick L ids p q = some t) : 2 ≤ ids.length ∧ t < 4 ∧ ok L ids p q t = true := by
  unfold pick at h
  by_cases g : ids.length < 2
  · rw [if_pos g] at h; cases h
  · rw [if_neg g] at h
    rw [List.find?_range_eq_some] at h
    exact ⟨by omega, by simpa using h.2.1, h.1⟩
/-- both sides of what is chosen -/
def lfOf (L : List (List Int)) (ids : List Int) (p q : Nat → Int) : List Int := match pick L ids p q with | some t => lf L ids p q t | none => ids.take (half ids)
def rgOf (L : List (List Int)) (ids : List Int) (p q : Nat → Int) : List Int := match pick L ids p q with | some t => rg L ids p q t | none => ids.drop (half ids)
/-- the plane of what is chosen -/
def pnOf (L : List (List Int)) (ids : List Int) (p q : Nat → Int) (d : Nat) : List Int := match pick L ids p q with | some t => pn L ids p q t | none => Pm.flat d
def poOf (L : List (List Int)) (ids : List Int) (p q : Nat → Int) : Int := match pick L ids p q with | some t => po L ids p q t | none => 0
/-- what is chosen where a try was good, and where none was -/
theorem of_some {t : Nat} (h : pick L ids p q = some t) (d : Nat) : pnOf L ids p q d = pn L ids p q t ∧ poOf L ids p q = po L ids p q t ∧ lfOf L ids p q = lf L ids p q t ∧ rgOf L ids p q = rg L ids p q t ∧ tries L ids p q = t + 1 := by
  have := (pick_is h).1
  unfold pnOf poOf lfOf rgOf tries
  rw [h, if_neg (by omega)]; exact ⟨rfl, rfl, rfl, rfl, rfl⟩
theorem of_none (h : pick L ids p q = none) (d : Nat) : pnOf L ids p q d = Pm.flat d ∧ poOf L ids p q = 0 ∧ lfOf L ids p q = ids.take (half ids) ∧ rgOf L ids p q = ids.drop (half ids) ∧ tries L ids p q = if ids.length < 2 then 0 else 4 := by
  unfold pnOf poOf lfOf rgOf tries
  rw [h]; exact ⟨rfl, rfl, rfl, rfl, rfl⟩
theorem of_perm : (lfOf L ids p q ++ rgOf L ids p q).Perm ids := by
  unfold lfOf rgOf
  cases pick L ids p q with
  | some t => exact side_perm _ _ _ _
  | none => rw [List.take_append_drop]
theorem of_length : (lfOf L ids p q).length + (rgOf L ids p q).length = ids.length := by
  have := (of_perm (L := L) (ids := ids) (p := p) (q := q)).length_eq; rwa [List.length_append] at this
theorem of_whole (h : 2 ≤ ids.length) : 0 < (lfOf L ids p q).length ∧ 0 < (rgOf L ids p q).length ∧ ids.length ≤ 8 * (lfOf L ids p q).length ∧ ids.length ≤ 8 * (rgOf L ids p q).length := by
  have hl := of_length (L := L) (ids := ids) (p := p) (q := q)
  unfold lfOf rgOf at *
  cases hp : pick L ids p q with
  | some t =>
    rw [hp] at hl
    obtain ⟨-, -, hk⟩ := pick_is hp
    unfold ok good at hk
    have := of_decide_eq_true hk
    dsimp only at hl ⊢
    omega
  | none =>
    rw [hp] at hl
    dsimp only at hl ⊢
    have h1 : (ids.take (half ids)).length = half ids := by rw [List.length_take]; unfold half; omega
    unfold half at *
    omega
theorem tries_le : tries L ids p q ≤ 4 := by
  unfold tries
  split
  · omega
  · cases hp : pick L ids p q with
    | some t => have := (pick_is hp).2.1; dsimp only; omega
    | none => dsimp only; omega
end

/-- items that are all the same: nothing is left of any plane between two of them -/
theorem same_less (v : List Int) : Vm.less v v = Pm.flat v.length := by
  unfold Pm.flat
  induction v with
  | nil => rfl
  | cons x v ih => rw [List.length_cons, List.replicate_succ, ← ih]; simp [Vm.less, wrap32]
theorem same_off (v : List Int) : Pm.off v v = 0 := by
  unfold Pm.off; rw [same_less, Pm.flat_dot]; exact Vm.wrap_in (by omega) (by omega)
theorem same_side (L : List (List Int)) (v : List Int) (ids : List Int) : side L (Vm.less v v) (Pm.off v v) false ids = [] := by
  unfold side on
  rw [same_less, same_off]
  simp [Pm.flat_mar]
theorem same_bad {L : List (List Int)} {ids : List Int} {p q : Nat → Int} {v : List Int} {t : Nat} (h1 : item L (at_ ids (p t)) = v) (h2 : item L (at_ ids (q t)) = v) : ok L ids p q t = false := by
  unfold ok lf pn po
  rw [h1, h2, same_side]
  simp [good]

/-- all shifted by the same number -/
def up (by_ : Int) (l : List Int) : List Int := l.map (· + by_)
theorem up_far (c : Int) (l m : List Int) : Vm.farZ (up c l) (up c m) = Vm.farZ l m := by
  unfold up
  induction l generalizing m with
  | nil => simp [Vm.farZ]
  | cons x l ih =>
    cases m with
    | nil => simp [Vm.farZ]
    | cons y m =>
      simp only [List.map_cons, Vm.farZ, ih m]
      rw [show x + c - (y + c) = x - y from by omega]
theorem up_length (c : Int) (l : List Int) : (up c l).length = l.length := by simp [up]
/-- of three items that may be, and may be when they are shifted, the margin stays -/
theorem up_mar {a b v : List Int} {n : Nat} {c : Int} (h : Pm.Two a b n) (k : Pm.Two a v n) (h' : Pm.Two (up c a) (up c b) n) (k' : Pm.Two (up c a) (up c v) n) :
    Pm.mar (Vm.less (up c a) (up c b)) (Pm.off (up c a) (up c b)) (up c v) = Pm.mar (Vm.less a b) (Pm.off a b) v := by
  obtain ⟨m1, m2, m3, -⟩ := h.mar k
  obtain ⟨n1, n2, n3, -⟩ := h'.mar k'
  rw [m1, n1, m2, m3, n2, n3, up_far, up_far]
/-- items that may be, each of them -/
def All (L : List (List Int)) (n : Nat) : Prop := ∀ l ∈ L, l.length = n ∧ ∀ x ∈ l, Vm.good x
def In (L : List (List Int)) (id : Int) : Prop := 0 ≤ id ∧ id < (L.length : Int)
theorem item_mem {L : List (List Int)} {id : Int} (h : In L id) : item L id ∈ L := by
  obtain ⟨h0, h1⟩ := h
  obtain ⟨k, rfl⟩ : ∃ k : Nat, id = k := ⟨id.toNat, by omega⟩
  rw [item_in (by omega)]; exact List.getElem_mem _
theorem item_up {L : List (List Int)} {id : Int} (c : Int) (h : In L id) : item (L.map (up c)) id = up c (item L id) := by
  obtain ⟨h0, h1⟩ := h
  obtain ⟨k, rfl⟩ : ∃ k : Nat, id = k := ⟨id.toNat, by omega⟩
  rw [item_in (L := L) (k := k) (by omega), item_in (L := L.map (up c)) (k := k) (by rw [List.length_map]; omega)]; simp
theorem two_items {L : List (List Int)} {n : Nat} {i j : Int} (hn : n ≤ 1024) (h : All L n) (hi : In L i) (hj : In L j) : Pm.Two (item L i) (item L j) n :=
  ⟨hn, (h _ (item_mem hi)).1, (h _ (item_mem hj)).1, (h _ (item_mem hi)).2, (h _ (item_mem hj)).2⟩
theorem at_mem {ids : List Int} {i : Int} (h0 : 0 ≤ i) (h1 : i < (ids.length : Int)) : at_ ids i ∈ ids := by
  unfold at_
  rw [List.getD_eq_getElem?_getD, List.getElem?_eq_getElem (by omega)]
  exact List.getElem_mem _
/-- ids are split as they are, when all items are shifted by the same -/
theorem up_side {L : List (List Int)} {n : Nat} {c : Int} {i j : Int} (hn : n ≤ 1024) (h : All L n) (h' : All (L.map (up c)) n) (hi : In L i) (hj : In L j) (b : Bool) (ids : List Int) (hx : ∀ x ∈ ids, In L x) :
    side (L.map (up c)) (Vm.less (item (L.map (up c)) i) (item (L.map (up c)) j)) (Pm.off (item (L.map (up c)) i) (item (L.map (up c)) j)) b ids = side L (Vm.less (item L i) (item L j)) (Pm.off (item L i) (item L j)) b ids := by
  unfold side
  refine List.filter_congr fun x hm => ?_
  have hI : ∀ {k}, In L k → In (L.map (up c)) k := fun h => ⟨h.1, by simpa using h.2⟩
  have e : Pm.mar (Vm.less (item (L.map (up c)) i) (item (L.map (up c)) j)) (Pm.off (item (L.map (up c)) i) (item (L.map (up c)) j)) (item (L.map (up c)) x) = Pm.mar (Vm.less (item L i) (item L j)) (Pm.off (item L i) (item L j)) (item L x) := by
    have t1 := two_items hn h hi hj
    have t2 := two_items hn h hi (hx x hm)
    have t3 := two_items hn h' (hI hi) (hI hj)
    have t4 := two_items hn h' (hI hi) (hI (hx x hm))
    rw [item_up c hi, item_up c hj] at t3
    rw [item_up c hi, item_up c (hx x hm)] at t4
    rw [item_up c hi, item_up c hj, item_up c (hx x hm)]
    exact up_mar t1 t2 t3 t4
  unfold on
  rw [e]
theorem up_of {L : List (List Int)} {n : Nat} {c : Int} {ids : List Int} {p q : Nat → Int} (hn : n ≤ 1024) (h : All L n) (h' : All (L.map (up c)) n) (hx : ∀ x ∈ ids, In L x)
    (hp : ∀ t, 2 ≤ ids.length → 0 ≤ p t ∧ p t < (ids.length : Int) ∧ 0 ≤ q t ∧ q t < (ids.length : Int)) :
    lfOf (L.map (up c)) ids p q = lfOf L ids p q ∧ rgOf (L.map (up c)) ids p q = rgOf L ids p q ∧ tries (L.map (up c)) ids p q = tries L ids p q := by
  by_cases g : ids.length < 2
  · unfold lfOf rgOf tries
    rw [pick_none (.inl g), pick_none (.inl g), if_pos g]; exact ⟨rfl, rfl, rfl⟩
  · have key : ∀ t b, side (L.map (up c)) (pn (L.map (up c)) ids p q t) (po (L.map (up c)) ids p q t) b ids = side L (pn L ids p q t) (po L ids p q t) b ids := fun t b => by
      obtain ⟨a1, a2, a3, a4⟩ := hp t (by omega)
      exact up_side hn h h' (hx _ (at_mem a1 a2)) (hx _ (at_mem a3 a4)) b ids hx
    have k1 : lf (L.map (up c)) ids p q = lf L ids p q := funext fun t => key t false
    have k2 : rg (L.map (up c)) ids p q = rg L ids p q := funext fun t => key t true
    have k3 : ok (L.map (up c)) ids p q = ok L ids p q := funext fun t => by unfold ok; rw [k1, k2]
    have k4 : pick (L.map (up c)) ids p q = pick L ids p q := by unfold pick; rw [k3]
    unfold lfOf rgOf tries
    rw [k4, k1, k2]; exact ⟨rfl, rfl, rfl⟩
end Go.Proofs.Ytafkbagjjknhlaa.Zm
namespace Go.Proofs.Ytafkbagjjknhlaa.Dm
open Go Go.RowKit

/-- the first error of vectors of a dimension; 0, if there is none -/
def first (d : Int) : List (List Int) → Int
  | [] => 0
  | l :: r => if Vm.chk l d = 0 then first d r else Vm.chk l d
/-- the first error of a list that is to be items -/
def chks (d : Int) (L : List (List Int)) : Int := if d < 1 ∨ 1024 < d then 1 else first d L
/-- each may be -/
def Ok (d : Int) (L : List (List Int)) : Prop := ∀ l ∈ L, Vm.chk l d = 0
/-- those that may be -/
def kept (d : Int) (L : List (List Int)) : List (List Int) := L.filter fun l => decide (Vm.chk l d = 0)

section
variable {d : Int} {L : List (List Int)} {k : Nat} {x : List Int}
theorem Ok.nil (d : Int) : Ok d [] := fun _ h => by cases h
theorem first_ok (h : Ok d L) : first d L = 0 := by
  induction L with
  | nil => rfl
  | cons l r ih =>
    rw [first, if_pos (h l (.head _))]
    exact ih fun y hy => h y (.tail _ hy)
theorem first_at (h : Ok d (L.take k)) (hx : L[k]? = some x) (hc : Vm.chk x d ≠ 0) : first d L = Vm.chk x d := by
  induction L generalizing k with
  | nil => simp at hx
  | cons l r ih =>
    cases k with
    | zero =>
      simp at hx
      subst hx
      rw [first, if_neg hc]
    | succ k =>
      rw [first, if_pos (h l (by simp))]
      exact ih (k := k) (fun y hy => h y (by rw [List.take_succ_cons]; exact .tail _ hy)) (by simpa using hx)
theorem ok_of_first (h : first d L = 0) : Ok d L := by
  induction L with
  | nil => exact Ok.nil d
  | cons l r ih =>
    by_cases c : Vm.chk l d = 0
    · rw [first, if_pos c] at h
      intro y hy
      rcases List.mem_cons.1 hy with rfl | hy
      · exact c
      · exact ih h y hy
    · rw [first, if_neg c] at h
      exact absurd h c
theorem Ok.snoc (h : Ok d (L.take k)) (hx : L[k]? = some x) (hc : Vm.chk x d = 0) : Ok d (L.take (k + 1)) := by
  intro y hy
  rw [List.take_add_one, hx] at hy
  rcases List.mem_append.1 hy with hy | hy
  · exact h y hy
  · simp at hy; subst hy; exact hc
theorem Ok.app (h : Ok d L) (hc : Vm.chk x d = 0) : Ok d (L ++ [x]) := by
  intro y hy
  rcases List.mem_append.1 hy with hy | hy
  · exact h y hy
  · simp at hy; subst hy; exact hc
theorem Ok.at_ (h : Ok d L) (hx : L[k]? = some x) : Vm.chk x d = 0 := h x (List.mem_of_getElem? hx)
theorem chks_range (h : d < 1 ∨ 1024 < d) : chks d L = 1 := by unfold chks; rw [if_pos h]
theorem chks_first (h0 : 1 ≤ d) (h1 : d ≤ 1024) : chks d L = first d L := by unfold chks; rw [if_neg (by omega)]
theorem chks_zero (h : chks d L = 0) : 1 ≤ d ∧ d ≤ 1024 ∧ Ok d L := by
  by_cases g : d < 1 ∨ 1024 < d
  · rw [chks_range g] at h; omega
  · have h0 : 1 ≤ d := by omega
    have h1 : d ≤ 1024 := by omega
    rw [chks_first h0 h1] at h
    exact ⟨h0, h1, ok_of_first h⟩
theorem chks_ok (h0 : 1 ≤ d) (h1 : d ≤ 1024) (h : Ok d L) : chks d L = 0 := by rw [chks_first h0 h1, first_ok h]
/-- a vector that may be: as long as the dimension -/
theorem len_of (h : Vm.chk x d = 0) : x.length = d.toNat := by have := Vm.chk_ok h; omega
theorem in_of (h : Vm.chk x d = 0) : ∀ y ∈ x, -2147483648 ≤ y ∧ y ≤ 2147483647 := fun y hy => by
  have := (Vm.chk_ok h).2.2.2 y hy
  unfold Vm.good at this
  omega
/-- how far two are that may be: 0 just of the same ones -/
theorem far_zero {y : List Int} (hx : Vm.chk x d = 0) (hy : Vm.chk y d = 0) : Vm.far x y = 0 ↔ x = y := by
  obtain ⟨h0, h1, h2, h3⟩ := Vm.chk_ok hx
  obtain ⟨_, _, h4, h5⟩ := Vm.chk_ok hy
  have hb := Vm.farZ_bound x y h3 h5
  have e : Vm.far x y = Vm.farZ x y := Vm.wrap_in (by omega) (by omega)
  rw [e]
  exact Vm.farZ_zero x y (by omega)
theorem kept_nil (d : Int) : kept d [] = [] := rfl
theorem kept_yes (hx : L[k]? = some x) (hc : Vm.chk x d = 0) : kept d (L.take (k + 1)) = kept d (L.take k) ++ [x] := by
  unfold kept
  rw [List.take_add_one, hx, List.filter_append]
  simp [hc]
theorem kept_no (hx : L[k]? = some x) (hc : Vm.chk x d ≠ 0) : kept d (L.take (k + 1)) = kept d (L.take k) := by
  unfold kept
  rw [List.take_add_one, hx, List.filter_append]
  simp [hc]
theorem kept_ok (d : Int) (L : List (List Int)) : Ok d (kept d L) := fun y hy => by
  unfold kept at hy
  simpa using (List.mem_filter.1 hy).2
theorem kept_le (d : Int) (L : List (List Int)) : (kept d L).length ≤ L.length := List.length_filter_le _ _
theorem kept_take_le (d : Int) (L : List (List Int)) (k : Nat) : (kept d (L.take k)).length ≤ k := by
  have := kept_le d (L.take k)
  rw [List.length_take] at this
  omega
end
end Go.Proofs.Ytafkbagjjknhlaa.Dm
