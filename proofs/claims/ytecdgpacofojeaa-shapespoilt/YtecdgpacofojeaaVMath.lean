/-
  Plain facts of lists of whole numbers, for layer 3 (vec): sums of products, of squares of differences, differences, what may be a vector. Nothing of the program stands here.
-/
import Derived.Laws.BitsLemmas
import Derived.IntWalk
namespace Go.Proofs.Ytecdgpacofojeaa.Vm
open Go Go.RowKit

/-- the sum of products, by the places that both have -/
def dotZ : List Int → List Int → Int
  | x :: l, y :: m => x * y + dotZ l m
  | _, _ => 0
/-- the sum of the squares of differences, by the places that both have -/
def farZ : List Int → List Int → Int
  | x :: l, y :: m => (x - y) * (x - y) + farZ l m
  | _, _ => 0
/-- as int64 -/
def dot (l m : List Int) : Int := wrap64 (dotZ l m)
def far (l m : List Int) : Int := wrap64 (farZ l m)
/-- differences, each as int32 -/
def less : List Int → List Int → List Int
  | x :: l, y :: m => wrap32 (x - y) :: less l m
  | _, _ => []
/-- how many places both have -/
def both (l m : List Int) : Nat := min l.length m.length

theorem less_length (l m : List Int) : (less l m).length = both l m := by
  unfold both
  induction l generalizing m with
  | nil => simp [less]
  | cons x l ih =>
    cases m with
    | nil => simp [less]
    | cons y m => simp only [less, List.length_cons, ih m]; omega

theorem dotZ_snoc (k : Nat) (l m : List Int) (hl : k < l.length) (hm : k < m.length) : dotZ (l.take (k + 1)) (m.take (k + 1)) = dotZ (l.take k) (m.take k) + l[k] * m[k] := by
  induction k generalizing l m with
  | zero =>
    cases l with
    | nil => exact absurd hl (by simp)
    | cons x l => cases m with
      | nil => exact absurd hm (by simp)
      | cons y m => simp [dotZ]
  | succ k ih =>
    cases l with
    | nil => exact absurd hl (by simp)
    | cons x l => cases m with
      | nil => exact absurd hm (by simp)
      | cons y m =>
        have := ih l m (by simpa using hl) (by simpa using hm)
        simp only [List.take_succ_cons, dotZ, List.getElem_cons_succ] at this ⊢
        rw [this]; omega
theorem farZ_snoc (k : Nat) (l m : List Int) (hl : k < l.length) (hm : k < m.length) : farZ (l.take (k + 1)) (m.take (k + 1)) = farZ (l.take k) (m.take k) + (l[k] - m[k]) * (l[k] - m[k]) := by
  induction k generalizing l m with
  | zero =>
    cases l with
    | nil => exact absurd hl (by simp)
    | cons x l => cases m with
      | nil => exact absurd hm (by simp)
      | cons y m => simp [farZ]
  | succ k ih =>
    cases l with
    | nil => exact absurd hl (by simp)
    | cons x l => cases m with
      | nil => exact absurd hm (by simp)
      | cons y m =>
        have := ih l m (by simpa using hl) (by simpa using hm)
        simp only [List.take_succ_cons, farZ, List.getElem_cons_succ] at this ⊢
        rw [this]; omega
theorem dotZ_both (l m : List Int) : dotZ (l.take (both l m)) (m.take (both l m)) = dotZ l m := by
  unfold both
  induction l generalizing m with
  | nil => simp [dotZ]
  | cons x l ih =>
    cases m with
    | nil => simp [dotZ]
    | cons y m =>
      rw [show min (x :: l).length (y :: m).length = min l.length m.length + 1 from by simp only [List.length_cons]; omega]
      simp only [List.take_succ_cons, dotZ, ih m]
theorem farZ_both (l m : List Int) : farZ (l.take (both l m)) (m.take (both l m)) = farZ l m := by
  unfold both
  induction l generalizing m with
  | nil => simp [farZ]
  | cons x l ih =>
    cases m with
    | nil => simp [farZ]
    | cons y m =>
      rw [show min (x :: l).length (y :: m).length = min l.length m.length + 1 from by simp only [List.length_cons]; omega]
      simp only [List.take_succ_cons, farZ, ih m]

theorem wrap_add (a b : Int) : wrap64 (wrap64 a + b) = wrap64 (a + b) := by
  simp only [wrap64]; omega
theorem wrap_add' (a b : Int) : wrap64 (wrap64 a + wrap64 b) = wrap64 (a + b) := by
  simp only [wrap64]; omega
theorem wrap_in {a : Int} (h0 : -9223372036854775808 ≤ a) (h1 : a ≤ 9223372036854775807) : wrap64 a = a := by
  simp only [wrap64]; omega
theorem wrap_lo (a : Int) : -9223372036854775808 ≤ wrap64 a := by simp only [wrap64]; omega
theorem wrap_hi (a : Int) : wrap64 a ≤ 9223372036854775807 := by simp only [wrap64]; omega
theorem wrap32_in {a : Int} (h0 : -2147483648 ≤ a) (h1 : a ≤ 2147483647) : wrap32 a = a := by
  simp only [wrap32]; omega
theorem wrap32_lo (a : Int) : -2147483648 ≤ wrap32 a := by simp only [wrap32]; omega
theorem wrap32_hi (a : Int) : wrap32 a ≤ 2147483647 := by simp only [wrap32]; omega
theorem dot_lo (l m : List Int) : -9223372036854775808 ≤ dot l m := wrap_lo _
theorem dot_hi (l m : List Int) : dot l m ≤ 9223372036854775807 := wrap_hi _
theorem far_lo (l m : List Int) : -9223372036854775808 ≤ far l m := wrap_lo _
theorem far_hi (l m : List Int) : far l m ≤ 9223372036854775807 := wrap_hi _

theorem dot_snoc (k : Nat) (l m : List Int) (hl : k < l.length) (hm : k < m.length) : wrap64 (dot (l.take k) (m.take k) + l[k] * m[k]) = dot (l.take (k + 1)) (m.take (k + 1)) := by
  unfold dot; rw [wrap_add, dotZ_snoc k l m hl hm]
theorem far_snoc (k : Nat) (l m : List Int) (hl : k < l.length) (hm : k < m.length) : wrap64 (far (l.take k) (m.take k) + (l[k] - m[k]) * (l[k] - m[k])) = far (l.take (k + 1)) (m.take (k + 1)) := by
  unfold far; rw [wrap_add, farZ_snoc k l m hl hm]
theorem far_snoc' (k : Nat) (l m : List Int) (hl : k < l.length) (hm : k < m.length) : wrap64 (far (l.take k) (m.take k) + wrap64 ((l[k] - m[k]) * (l[k] - m[k]))) = far (l.take (k + 1)) (m.take (k + 1)) := by
  unfold far; rw [wrap_add', farZ_snoc k l m hl hm]
theorem dot_both (l m : List Int) : dot (l.take (both l m)) (m.take (both l m)) = dot l m := by unfold dot; rw [dotZ_both]
theorem far_both (l m : List Int) : far (l.take (both l m)) (m.take (both l m)) = far l m := by unfold far; rw [farZ_both]
theorem dot_none (l m : List Int) : dot (l.take 0) (m.take 0) = 0 := wrap_in (by simp [dotZ]) (by simp [dotZ]) |>.trans (by simp [dotZ])
theorem far_none (l m : List Int) : far (l.take 0) (m.take 0) = 0 := wrap_in (by simp [farZ]) (by simp [farZ]) |>.trans (by simp [farZ])

/-- how great products of two int32 are, and squares of their differences: each stays an int64 -/
theorem mul_bound {x y a : Int} (hx0 : -a ≤ x) (hx1 : x ≤ a) (hy0 : -a ≤ y) (hy1 : y ≤ a) : -(a * a) ≤ x * y ∧ x * y ≤ a * a := by
  have h1 : 0 ≤ (a - x) * (a - y) := Int.mul_nonneg (by omega) (by omega)
  have h2 : 0 ≤ (a + x) * (a + y) := Int.mul_nonneg (by omega) (by omega)
  have h3 : 0 ≤ (a - x) * (a + y) := Int.mul_nonneg (by omega) (by omega)
  have h4 : 0 ≤ (a + x) * (a - y) := Int.mul_nonneg (by omega) (by omega)
  constructor <;> grind
theorem sq_bound {d a : Int} (h0 : -a ≤ d) (h1 : d ≤ a) : 0 ≤ d * d ∧ d * d ≤ a * a := by
  refine ⟨?_, (mul_bound h0 h1 h0 h1).2⟩
  rcases Int.le_total 0 d with h | h
  · exact Int.mul_nonneg h h
  · have := Int.mul_nonneg (show 0 ≤ -d by omega) (show 0 ≤ -d by omega)
    rwa [Int.neg_mul_neg] at this

/-- may it be a vector of a dimension? the errors' numbers -/
def good (x : Int) : Prop := -1048576 ≤ x ∧ x ≤ 1048576
instance (x : Int) : Decidable (good x) := by unfold good; infer_instance
def chk (l : List Int) (dim : Int) : Int :=
  if dim < 1 ∨ 1024 < dim then 1 else if (l.length : Int) ≠ dim then 3 else if ∀ x ∈ l, good x then 0 else 4
theorem chk_range {l : List Int} {dim : Int} (h : dim < 1 ∨ 1024 < dim) : chk l dim = 1 := by unfold chk; rw [if_pos h]
theorem chk_dim {l : List Int} {dim : Int} (h : ¬ (dim < 1 ∨ 1024 < dim)) (h2 : (l.length : Int) ≠ dim) : chk l dim = 3 := by unfold chk; rw [if_neg h, if_pos h2]
theorem chk_good {l : List Int} {dim : Int} (h : ¬ (dim < 1 ∨ 1024 < dim)) (h2 : (l.length : Int) = dim) (h3 : ∀ x ∈ l, good x) : chk l dim = 0 := by
  unfold chk; rw [if_neg h, if_neg (by omega), if_pos h3]
theorem chk_bad {l : List Int} {dim : Int} (h : ¬ (dim < 1 ∨ 1024 < dim)) (h2 : (l.length : Int) = dim) (h3 : ¬ ∀ x ∈ l, good x) : chk l dim = 4 := by
  unfold chk; rw [if_neg h, if_neg (by omega), if_neg h3]
theorem chk_ok {l : List Int} {dim : Int} (h : chk l dim = 0) : 1 ≤ dim ∧ dim ≤ 1024 ∧ (l.length : Int) = dim ∧ ∀ x ∈ l, good x := by
  by_cases a : dim < 1 ∨ 1024 < dim
  · rw [chk_range a] at h; omega
  · by_cases b : (l.length : Int) = dim
    · by_cases c : ∀ x ∈ l, good x
      · exact ⟨by omega, by omega, b, c⟩
      · rw [chk_bad a b c] at h; omega
    · rw [chk_dim a b] at h; omega

/-- vectors that may be: nothing goes round -/
theorem dotZ_bound (l m : List Int) (hl : ∀ x ∈ l, good x) (hm : ∀ x ∈ m, good x) : -((l.length : Int) * 1099511627776) ≤ dotZ l m ∧ dotZ l m ≤ (l.length : Int) * 1099511627776 := by
  induction l generalizing m with
  | nil => simp [dotZ]
  | cons x l ih =>
    cases m with
    | nil => simp [dotZ]; omega
    | cons y m =>
      have ⟨i0, i1⟩ := ih m (fun z hz => hl z (.tail _ hz)) (fun z hz => hm z (.tail _ hz))
      have ⟨x0, x1⟩ := hl x (.head _)
      have ⟨y0, y1⟩ := hm y (.head _)
      have ⟨p0, p1⟩ := mul_bound (a := 1048576) x0 x1 y0 y1
      have e : dotZ (x :: l) (y :: m) = x * y + dotZ l m := rfl
      rw [e, List.length_cons, Int.natCast_add]
      generalize x * y = p at *
      omega
theorem farZ_bound (l m : List Int) (hl : ∀ x ∈ l, good x) (hm : ∀ x ∈ m, good x) : 0 ≤ farZ l m ∧ farZ l m ≤ (l.length : Int) * 4398046511104 := by
  induction l generalizing m with
  | nil => simp [farZ]
  | cons x l ih =>
    cases m with
    | nil => simp [farZ]; omega
    | cons y m =>
      have ⟨i0, i1⟩ := ih m (fun z hz => hl z (.tail _ hz)) (fun z hz => hm z (.tail _ hz))
      have ⟨x0, x1⟩ := hl x (.head _)
      have ⟨y0, y1⟩ := hm y (.head _)
      have ⟨p0, p1⟩ := sq_bound (d := x - y) (a := 2097152) (by omega) (by omega)
      have e : farZ (x :: l) (y :: m) = (x - y) * (x - y) + farZ l m := rfl
      rw [e, List.length_cons, Int.natCast_add]
      generalize (x - y) * (x - y) = p at *
      omega
theorem farZ_nonneg (l m : List Int) : 0 ≤ farZ l m := by
  induction l generalizing m with
  | nil => simp [farZ]
  | cons x l ih =>
    cases m with
    | nil => simp [farZ]
    | cons y m =>
      have h := ih m
      have e : farZ (x :: l) (y :: m) = (x - y) * (x - y) + farZ l m := rfl
      have p := (sq_bound (d := x - y) (a := (x - y).natAbs) (by omega) (by omega)).1
      rw [e]; omega
theorem farZ_zero (l m : List Int) (h : l.length = m.length) : farZ l m = 0 ↔ l = m := by
  induction l generalizing m with
  | nil => cases m with
    | nil => simp [farZ]
    | cons y m => simp at h
  | cons x l ih =>
    cases m with
    | nil => simp at h
    | cons y m =>
      have hi := ih m (by simpa using h)
      have e : farZ (x :: l) (y :: m) = (x - y) * (x - y) + farZ l m := rfl
      have hn := farZ_nonneg l m
      have p := (sq_bound (d := x - y) (a := (x - y).natAbs) (by omega) (by omega)).1
      rw [e]
      constructor
      · intro h0
        have h1 : (x - y) * (x - y) = 0 := by omega
        have h2 : x - y = 0 := by rcases Int.mul_eq_zero.1 h1 with h | h <;> exact h
        have h3 := hi.1 (by omega)
        rw [show x = y from by omega, h3]
      · intro h0
        injection h0 with h1 h2
        have := hi.2 h2
        subst h1
        simp [this]
theorem farZ_comm (l m : List Int) : farZ l m = farZ m l := by
  induction l generalizing m with
  | nil => cases m <;> simp [farZ]
  | cons x l ih =>
    cases m with
    | nil => simp [farZ]
    | cons y m => simp only [farZ, ih m]; grind
theorem dotZ_comm (l m : List Int) : dotZ l m = dotZ m l := by
  induction l generalizing m with
  | nil => cases m <;> simp [dotZ]
  | cons x l ih =>
    cases m with
    | nil => simp [dotZ]
    | cons y m => simp only [dotZ, ih m]; grind
theorem far_comm (l m : List Int) : far l m = far m l := by unfold far; rw [farZ_comm]
theorem dot_comm (l m : List Int) : dot l m = dot m l := by unfold dot; rw [dotZ_comm]
theorem less_cons (x y : Int) (l m : List Int) (hx : good x) (hy : good y) : less (x :: l) (y :: m) = (x - y) :: less l m := by
  simp only [less]
  unfold good at hx hy
  rw [wrap32_in (by omega) (by omega)]
theorem dotZ_less (l m : List Int) (hl : ∀ x ∈ l, good x) (hm : ∀ x ∈ m, good x) : dotZ (less l m) (less l m) = farZ l m := by
  induction l generalizing m with
  | nil => simp [less, dotZ, farZ]
  | cons x l ih =>
    cases m with
    | nil => simp [less, dotZ, farZ]
    | cons y m =>
      rw [less_cons x y l m (hl x (.head _)) (hm y (.head _))]
      simp only [dotZ, farZ, ih m (fun z hz => hl z (.tail _ hz)) (fun z hz => hm z (.tail _ hz))]
theorem farZ_split (l m : List Int) (h : l.length = m.length) : dotZ l l + dotZ m m - 2 * dotZ l m = farZ l m := by
  induction l generalizing m with
  | nil => cases m with
    | nil => simp [dotZ, farZ]
    | cons y m => simp at h
  | cons x l ih =>
    cases m with
    | nil => simp at h
    | cons y m =>
      have := ih m (by simpa using h)
      simp only [dotZ, farZ]; grind
theorem dotZ_less_by (l m c : List Int) (h : l.length = m.length) (h' : l.length = c.length) (hl : ∀ x ∈ l, good x) (hm : ∀ x ∈ m, good x) : dotZ (less l m) c = dotZ l c - dotZ m c := by
  induction l generalizing m c with
  | nil =>
    cases m with
    | nil => simp [less, dotZ]
    | cons y m => simp at h
  | cons x l ih =>
    cases m with
    | nil => simp at h
    | cons y m =>
      cases c with
      | nil => simp at h'
      | cons z c =>
        rw [less_cons x y l m (hl x (.head _)) (hm y (.head _))]
        have := ih m c (by simpa using h) (by simpa using h') (fun z hz => hl z (.tail _ hz)) (fun z hz => hm z (.tail _ hz))
        simp only [dotZ]; grind
theorem farZ_bent (l m c : List Int) (h : l.length = m.length) (h' : l.length = c.length) : farZ l c ≤ 2 * (farZ l m + farZ m c) := by
  induction l generalizing m c with
  | nil =>
    have := farZ_nonneg m c
    simp [farZ]; omega
  | cons x l ih =>
    cases m with
    | nil => simp at h
    | cons y m =>
      cases c with
      | nil => simp at h'
      | cons z c =>
        have := ih m c (by simpa using h) (by simpa using h')
        have p := (sq_bound (d := x - 2 * y + z) (a := (x - 2 * y + z).natAbs) (by omega) (by omega)).1
        have e : (x - 2 * y + z) * (x - 2 * y + z) = 2 * ((x - y) * (x - y) + (y - z) * (y - z)) - (x - z) * (x - z) := by grind
        simp only [farZ]
        rw [e] at p
        generalize (x - y) * (x - y) = p1 at *
        generalize (y - z) * (y - z) = p2 at *
        generalize (x - z) * (x - z) = p3 at *
        omega
theorem dotZ_app (a b c d : List Int) (h : a.length = b.length) : dotZ (a ++ c) (b ++ d) = dotZ a b + dotZ c d := by
  induction a generalizing b with
  | nil => cases b with
    | nil => simp [dotZ]
    | cons y b => simp at h
  | cons x a ih =>
    cases b with
    | nil => simp at h
    | cons y b => simp only [List.cons_append, dotZ, ih b (by simpa using h)]; omega
theorem farZ_app (a b c d : List Int) (h : a.length = b.length) : farZ (a ++ c) (b ++ d) = farZ a b + farZ c d := by
  induction a generalizing b with
  | nil => cases b with
    | nil => simp [farZ]
    | cons y b => simp at h
  | cons x a ih =>
    cases b with
    | nil => simp at h
    | cons y b => simp only [List.cons_append, farZ, ih b (by simpa using h)]; omega
theorem dot_app (a b c d : List Int) (h : a.length = b.length) : dot (a ++ c) (b ++ d) = wrap64 (dot a b + dot c d) := by
  unfold dot; rw [wrap_add', dotZ_app a b c d h]
theorem far_app (a b c d : List Int) (h : a.length = b.length) : far (a ++ c) (b ++ d) = wrap64 (far a b + far c d) := by
  unfold far; rw [wrap_add', farZ_app a b c d h]
theorem app_inj (a b c d : List Int) (h : a.length = b.length) : (a ++ c = b ++ d) ↔ (a = b ∧ c = d) := by
  constructor
  · intro e; exact List.append_inj e h
  · rintro ⟨rfl, rfl⟩; rfl
/-- both shifted by the same -/
def plus (l c : List Int) : List Int := List.zipWith (· + ·) l c
theorem plus_length (l c : List Int) : (plus l c).length = min l.length c.length := by simp [plus]
theorem plus_snoc (k : Nat) (l c : List Int) (hl : k < l.length) (hm : k < c.length) : plus (l.take (k + 1)) (c.take (k + 1)) = plus (l.take k) (c.take k) ++ [l[k] + c[k]] := by
  unfold plus
  rw [List.take_succ_eq_append_getElem hl, List.take_succ_eq_append_getElem hm, List.zipWith_append (by simp; omega)]
  rfl
theorem farZ_plus (l m c : List Int) (h : l.length = c.length) (h' : m.length = c.length) : farZ (plus l c) (plus m c) = farZ l m := by
  induction l generalizing m c with
  | nil => simp [plus, farZ]
  | cons x l ih =>
    cases m with
    | nil => simp [plus, farZ]
    | cons y m =>
      cases c with
      | nil => simp at h'
      | cons z c =>
        have := ih m c (by simpa using h) (by simpa using h')
        simp only [plus, List.zipWith_cons_cons, farZ] at this ⊢
        rw [this]
        grind
theorem far_plus (l m c : List Int) (h : l.length = c.length) (h' : m.length = c.length) : far (plus l c) (plus m c) = far l m := by unfold far; rw [farZ_plus l m c h h']
theorem less_plus (l m c : List Int) (h : l.length = c.length) (h' : m.length = c.length) : less (plus l c) (plus m c) = less l m := by
  induction l generalizing m c with
  | nil => simp [plus, less]
  | cons x l ih =>
    cases m with
    | nil => simp [plus, less]
    | cons y m =>
      cases c with
      | nil => simp at h'
      | cons z c =>
        have := ih m c (by simpa using h) (by simpa using h')
        simp only [plus, List.zipWith_cons_cons, less] at this ⊢
        rw [this, show x + z - (y + z) = x - y from by omega]
theorem less_back (l c : List Int) (h : l.length = c.length) (hl : ∀ x ∈ l, good x) : less (plus l c) c = l := by
  induction l generalizing c with
  | nil => simp [plus, less]
  | cons x l ih =>
    cases c with
    | nil => simp at h
    | cons z c =>
      have := ih c (by simpa using h) (fun z hz => hl z (.tail _ hz))
      have hx := hl x (.head _)
      unfold good at hx
      simp only [plus, List.zipWith_cons_cons, less] at this ⊢
      rw [this, show x + z - z = x from by omega, wrap32_in (by omega) (by omega)]
theorem less_snoc (k : Nat) (l m : List Int) (hl : k < l.length) (hm : k < m.length) : less (l.take (k + 1)) (m.take (k + 1)) = less (l.take k) (m.take k) ++ [wrap32 (l[k] - m[k])] := by
  induction k generalizing l m with
  | zero =>
    cases l with
    | nil => exact absurd hl (by simp)
    | cons x l => cases m with
      | nil => exact absurd hm (by simp)
      | cons y m => simp [less]
  | succ k ih =>
    cases l with
    | nil => exact absurd hl (by simp)
    | cons x l => cases m with
      | nil => exact absurd hm (by simp)
      | cons y m =>
        have := ih l m (by simpa using hl) (by simpa using hm)
        simp only [List.take_succ_cons, less, List.getElem_cons_succ, List.cons_append] at this ⊢
        rw [this]
theorem less_both (l m : List Int) : less (l.take (both l m)) (m.take (both l m)) = less l m := by
  unfold both
  induction l generalizing m with
  | nil => simp [less]
  | cons x l ih =>
    cases m with
    | nil => simp [less]
    | cons y m =>
      rw [show min (x :: l).length (y :: m).length = min l.length m.length + 1 from by simp only [List.length_cons]; omega]
      simp only [List.take_succ_cons, less, ih m]
theorem less_get (k : Nat) (l m : List Int) (hl : k < l.length) (hm : k < m.length) : (less l m)[k]? = some (wrap32 (l[k] - m[k])) := by
  induction k generalizing l m with
  | zero =>
    cases l with
    | nil => exact absurd hl (by simp)
    | cons x l => cases m with
      | nil => exact absurd hm (by simp)
      | cons y m => simp [less]
  | succ k ih =>
    cases l with
    | nil => exact absurd hl (by simp)
    | cons x l => cases m with
      | nil => exact absurd hm (by simp)
      | cons y m =>
        have := ih l m (by simpa using hl) (by simpa using hm)
        simpa [less] using this
theorem less_in (l m : List Int) : ∀ x ∈ less l m, -2147483648 ≤ x ∧ x ≤ 2147483647 := by
  induction l generalizing m with
  | nil => simp [less]
  | cons x l ih =>
    cases m with
    | nil => simp [less]
    | cons y m =>
      intro z hz
      simp only [less, List.mem_cons] at hz
      rcases hz with rfl | hz
      · exact ⟨wrap32_lo _, wrap32_hi _⟩
      · exact ih m z hz
end Go.Proofs.Ytecdgpacofojeaa.Vm
