/-
  Layer 8 (topk): the first few of many, in lists alone; nothing of the program stands here.
-/
import Derived.Test.YtdpoieemadblnaaKMath
import Derived.Test.YtdpoieemadblnaaHSrt
namespace Go.Proofs.Ytdpoieemadblnaa.Km
open Om (E)
section
variable {f : E → E → Bool}
theorem merge_end (a : List E) (y : E) (h : ∀ x ∈ a, f y x = false) : Om.merge f a [y] = a ++ [y] := by
  induction a with
  | nil => rw [Om.nil_merge]; rfl
  | cons x a ih => rw [Om.merge_no (h x (by simp)), ih fun u hu => h u (by simp [hu])]; rfl
theorem isort_fix : ∀ (n : Nat) (a : List E), a.length ≤ n → Om.Srt f a → Om.isort f a = a := by
  intro n
  induction n with
  | zero => intro a h _; obtain rfl : a = [] := List.length_eq_zero_iff.1 (by omega); rfl
  | succ n ih =>
    intro a h hs
    rcases List.eq_nil_or_concat a with rfl | ⟨b, y, rfl⟩
    · rfl
    · rw [List.concat_eq_append] at *
      obtain ⟨h1, -, h3⟩ := List.pairwise_append.1 hs
      rw [Om.isort_snoc, ih b (by simp at h; omega) h1, merge_end b y fun x hx => h3 x hx y (by simp)]
theorem merge_take : ∀ (k i j : Nat) (A B : List E), k ≤ i → k ≤ j → (Om.merge f (A.take i) (B.take j)).take k = (Om.merge f A B).take k := by
  intro k
  induction k with
  | zero => intros; simp
  | succ k ih =>
    intro i j A B hi hj
    obtain ⟨i, rfl⟩ : ∃ i', i = i' + 1 := ⟨i - 1, by omega⟩
    obtain ⟨j, rfl⟩ : ∃ j', j = j' + 1 := ⟨j - 1, by omega⟩
    cases A with
    | nil => rw [List.take_nil, Om.nil_merge, Om.nil_merge, List.take_take, Nat.min_eq_left hj]
    | cons x xs =>
      cases B with
      | nil => rw [List.take_nil, Om.merge_nil, Om.merge_nil, List.take_take, Nat.min_eq_left hi]
      | cons y ys =>
        rw [List.take_succ_cons, List.take_succ_cons]
        cases h : f y x with
        | true =>
          rw [Om.merge_yes h, Om.merge_yes h, List.take_succ_cons, List.take_succ_cons]
          have := ih (i + 1) j (x :: xs) ys (by omega) (by omega)
          rw [List.take_succ_cons] at this
          rw [this]
        | false =>
          rw [Om.merge_no h, Om.merge_no h, List.take_succ_cons, List.take_succ_cons]
          have := ih i (j + 1) xs (y :: ys) (by omega) (by omega)
          rw [List.take_succ_cons] at this
          rw [this]
/-- the first few of two lists -/
theorem fst_parts (ho : Om.Ord f) (m : Int) (l r : List E) : fst f m (fst f m l ++ fst f m r) = fst f m (l ++ r) := by
  have h1 := isort_fix (f := f) _ _ (Nat.le_refl _) (fst_srt ho m l)
  have h2 := isort_fix (f := f) _ _ (Nat.le_refl _) (fst_srt ho m r)
  unfold fst at h1 h2 ⊢
  rw [Om.isort_append ho, h1, h2, merge_take _ _ _ _ _ (Nat.le_refl _) (Nat.le_refl _), ← Om.isort_append ho]
/-- what is offered again, the other way round -/
theorem fst_again (ho : Om.Ord f) (hf : ∀ a b, f a b = false → f b a = false → a = b) (m : Int) (l : List E) : fst f m (fst f m l).reverse = fst f m l := by
  have hs := fst_srt ho m l
  have e : Om.isort f (fst f m l).reverse = fst f m l := Om.srt_unique hf _ _ (Om.isort_srt ho _) hs ((Om.isort_perm _).trans (List.reverse_perm _))
  conv => lhs; unfold fst
  rw [show (Om.isort f (List.take m.toNat (Om.isort f l)).reverse) = fst f m l from e]
  unfold fst
  rw [List.take_take, Nat.min_self]
/-- the first few are the beginning of all in order, cut where it ends -/
theorem fst_cut (m : Int) (n : Nat) (l : List E) (hn : n = min l.length m.toNat) : fst f m l = (Om.isort f l).take n := by
  unfold fst
  rw [hn]
  rcases Nat.le_total m.toNat l.length with h | h
  · rw [Nat.min_eq_right h]
  · rw [Nat.min_eq_left h, List.take_of_length_le (by rw [Om.isort_length]; exact h), List.take_of_length_le (by rw [Om.isort_length]; exact Nat.le_refl _)]
end
theorem near_eq : ∀ a b : E, Om.near a b = false → Om.near b a = false → a = b := by
  rintro ⟨a1, a2⟩ ⟨b1, b2⟩ h1 h2
  simp only [Om.near] at *
  split at h1 <;> split at h2 <;> simp at * <;> omega
end Go.Proofs.Ytdpoieemadblnaa.Km
