/-
  Layer 7 (heap): what is drained, in lists alone: a list in order is told by what it holds; the first one popped stands first in it. Nothing of the program stands here.
-/
import Derived.Test.YtdpoieemadblnaaHMath
import Derived.Test.YtdpoieemadblnaaOMath
namespace Go.Proofs.Ytdpoieemadblnaa.Om

section
variable {f : E → E → Bool}
theorem merge_perm : ∀ (n : Nat) (a b : List E), a.length + b.length ≤ n → (merge f a b).Perm (a ++ b) := by
  intro n
  induction n with
  | zero =>
    intro a b h
    obtain rfl : a = [] := List.length_eq_zero_iff.1 (by omega)
    obtain rfl : b = [] := List.length_eq_zero_iff.1 (by omega)
    rw [merge_nil]
    exact List.Perm.refl _
  | succ n ih =>
    intro a b h
    cases a with
    | nil => rw [nil_merge]; exact List.Perm.refl _
    | cons x a =>
      cases b with
      | nil => rw [merge_nil]; simp
      | cons y b =>
        cases hf : f y x with
        | true =>
          rw [merge_yes hf]
          refine (List.Perm.cons y (ih (x :: a) b (by simp at *; omega))).trans ?_
          exact List.perm_middle.symm
        | false =>
          rw [merge_no hf]
          exact List.Perm.cons x (ih a (y :: b) (by simp at *; omega))
theorem fold_perm : ∀ (l acc : List E), (l.foldl (fun acc y => merge f acc [y]) acc).Perm (acc ++ l) := by
  intro l
  induction l with
  | nil => intro acc; simp
  | cons y l ih =>
    intro acc
    rw [List.foldl_cons]
    refine (ih _).trans ?_
    refine ((merge_perm _ _ _ (Nat.le_refl _)).append_right l).trans ?_
    simp
theorem isort_perm (l : List E) : (isort f l).Perm l := by
  have := fold_perm (f := f) l []
  simpa [isort] using this
theorem srt_unique (hf : ∀ a b, f a b = false → f b a = false → a = b) : ∀ (l r : List E), Srt f l → Srt f r → l.Perm r → l = r := by
  intro l
  induction l with
  | nil => intro r _ _ h; exact h.symm.eq_nil.symm
  | cons x l ih =>
    intro r h1 h2 h
    cases r with
    | nil => exact absurd h.eq_nil (by simp)
    | cons y r =>
      have hx : ∀ u ∈ l, f u x = false := (List.pairwise_cons.1 h1).1
      have hy : ∀ u ∈ r, f u y = false := (List.pairwise_cons.1 h2).1
      have e : x = y := by
        rcases List.mem_cons.1 (h.subset (List.mem_cons_self (a := x) (l := l))) with e | e
        · exact e
        · rcases List.mem_cons.1 (h.symm.subset (List.mem_cons_self (a := y) (l := r))) with e2 | e2
          · exact e2.symm
          · exact hf _ _ (hy x e) (hx y e2)
      subst e
      rw [ih r (List.pairwise_cons.1 h1).2 (List.pairwise_cons.1 h2).2 h.cons_inv]
/-- the first one popped stands first in order -/
theorem isort_pop (ho : Ord f) (hf : ∀ a b, f a b = false → f b a = false → a = b) {L L' : List E} {x z : E} (h : Hm.Po f z L x true L') : isort f L = x :: isort f L' := by
  rcases h with ⟨_, _, h, _⟩ | ⟨_, hp, hm⟩
  · cases h
  refine srt_unique hf _ _ (isort_srt ho L) ?_ ?_
  · refine List.pairwise_cons.2 ⟨fun u hu => hm u (hp.symm.subset (List.mem_cons_of_mem _ ((isort_perm L').subset hu))), isort_srt ho L'⟩
  · exact (isort_perm L).trans (hp.trans (List.Perm.cons x (isort_perm L').symm))
theorem po_nil {L L' : List E} {x z : E} {ok : Bool} (h : Hm.Po f z L x ok L') (hl : L.length = 0) : ok = false := by
  rcases h with ⟨_, _, h, _⟩ | ⟨_, hp, _⟩
  · exact h
  · have := hp.length_eq; simp at this; omega
theorem po_some {L L' : List E} {x z : E} {ok : Bool} (h : Hm.Po f z L x ok L') (hl : 0 < L.length) : ok = true := by
  rcases h with ⟨rfl, _, _, _⟩ | ⟨h, _⟩
  · simp at hl
  · exact h
end
end Go.Proofs.Ytdpoieemadblnaa.Om
