/-
  Layer 4 (order): plain mathematics, more: lists that are cut by a size.
-/
import Derived.Test.YtdpoieemadblnaaOMath
namespace Go.Proofs.Ytdpoieemadblnaa.Om
/-- none is first of the one just ahead of it -/
def Next (f : E → E → Bool) (l : List E) (k : Nat) : Prop := ∀ j x y, j + 1 < k → l[j]? = some x → l[j + 1]? = some y → f y x = false
theorem next_one (f : E → E → Bool) (l : List E) : Next f l 1 := fun j x y h => absurd h (by omega)
theorem next_step {f : E → E → Bool} {l : List E} {k : Nat} {x y : E} (h : Next f l k) (hx : l[k - 1]? = some x) (hy : l[k]? = some y) (hk : 1 ≤ k) (hf : f y x = false) : Next f l (k + 1) := by
  intro j a b hj ha hb
  rcases Nat.lt_or_ge (j + 1) k with h1 | h1
  · exact h j a b h1 ha hb
  · obtain rfl : k = j + 1 := by omega
    rw [Nat.add_sub_cancel] at hx
    rw [hx] at ha; rw [hy] at hb
    injection ha with ha; injection hb with hb
    subst ha; subst hb; exact hf
theorem next_no {f : E → E → Bool} {l : List E} {k n : Nat} {x y : E} (hx : l[k - 1]? = some x) (hy : l[k]? = some y) (hk : 1 ≤ k) (hn : k < n) (hf : f y x = true) : ¬ Next f l n := by
  intro h
  have := h (k - 1) x y (by omega) hx (by rw [show k - 1 + 1 = k from by omega]; exact hy)
  rw [hf] at this; cases this
theorem next_few {f : E → E → Bool} {l : List E} {k n : Nat} (h : Next f l k) (hn : n ≤ k) : Next f l n := fun j x y hj => h j x y (by omega)
theorem next_srt {f : E → E → Bool} {l : List E} (h : Srt f l) (n : Nat) : Next f l n := by
  intro j x y _ hx hy
  obtain ⟨hj, rfl⟩ := List.getElem?_eq_some_iff.1 hx
  obtain ⟨hk, rfl⟩ := List.getElem?_eq_some_iff.1 hy
  exact h.next hk
section
variable {f : E → E → Bool} {A D : List E} {a b s : Nat}
theorem cut_one (hb : b = a + s) : A ++ D.drop a = A ++ ((D.drop a).take s ++ D.drop b) := by
  subst hb
  rw [← List.drop_drop, List.take_append_drop]
theorem ck_one (hs : 0 < s) (hb : b = a + s) : (A ++ isort f ((D.drop a).take s)) ++ ck f s (D.drop b) = A ++ ck f s (D.drop a) := by
  subst hb
  rw [ck_eq s hs (D.drop a), List.drop_drop, List.append_assoc]
theorem ck_last (hs : 0 < s) (h : (D.drop a).length ≤ s) : A ++ (isort f (D.drop a) ++ []) = A ++ ck f s (D.drop a) := by
  rw [ck_whole s hs _ h, List.append_nil]
theorem two_cut (hs : 0 < s) (hb : b = a + 2 * s) : A ++ ck f s (D.drop a) = A ++ (isort f ((D.drop a).take s) ++ (isort f (((D.drop a).drop s).take s) ++ ck f s (D.drop b))) := by
  subst hb
  rw [ck_two s hs (D.drop a), List.drop_drop (i := 2 * s)]
theorem two_put (ho : Ord f) (hs : 0 < s) (hb : b = a + 2 * s) : (A ++ merge f (isort f ((D.drop a).take s)) (isort f (((D.drop a).drop s).take s))) ++ ck f (2 * s) (D.drop b) = A ++ ck f (2 * s) (D.drop a) := by
  subst hb
  rw [isort_two ho, ck_eq (2 * s) (by omega) (D.drop a), List.drop_drop, List.append_assoc]
theorem end_cut (hs : 0 < s) (h : (D.drop a).length ≤ 2 * s) : A ++ ck f s (D.drop a) = A ++ (isort f ((D.drop a).take s) ++ (isort f ((D.drop a).drop s) ++ [])) := by
  rw [ck_eq s hs, ck_whole s hs ((D.drop a).drop s) (by simp at h ⊢; omega), List.append_nil]
theorem end_put (ho : Ord f) (hs : 0 < s) (h : (D.drop a).length ≤ 2 * s) : A ++ (merge f (isort f ((D.drop a).take s)) (isort f ((D.drop a).drop s)) ++ []) = A ++ ck f (2 * s) (D.drop a) := by
  rw [List.append_nil, ← isort_append ho, List.take_append_drop, ck_whole (2 * s) (by omega) _ h]
theorem end_none (hs : 0 < s) (h : (D.drop a).length ≤ s) : A ++ ck f s (D.drop a) = A ++ ck f (2 * s) (D.drop a) := by
  rw [ck_whole s hs _ h, ck_whole (2 * s) (by omega) _ (by omega)]
end
end Go.Proofs.Ytdpoieemadblnaa.Om
