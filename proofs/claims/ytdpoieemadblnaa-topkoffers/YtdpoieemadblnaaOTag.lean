/-
  Layer 4 (order): plain mathematics, more: numbers, and where they stood.
-/
import Derived.Test.YtdpoieemadblnaaOChnk
namespace Go.Proofs.Ytdpoieemadblnaa.Om

/-- numbers, and where they stand from a place on -/
def tag : List Int → Int → List E
  | [], _ => []
  | x :: z, o => (x, o) :: tag z (o + 1)
theorem tag_length : ∀ (z : List Int) (o : Int), (tag z o).length = z.length
  | [], _ => rfl
  | _ :: z, o => by simp [tag, tag_length z]
theorem tag_at : ∀ (z : List Int) (o : Int) (j : Nat), (tag z o)[j]? = z[j]?.map fun x => (x, o + j)
  | [], _, _ => by simp [tag]
  | x :: z, o, 0 => by simp [tag]
  | x :: z, o, j + 1 => by
    rw [tag, List.getElem?_cons_succ, List.getElem?_cons_succ, tag_at z (o + 1) j]
    congr 1
    funext y
    rw [show o + 1 + (j : Int) = o + ((j + 1 : Nat) : Int) from by omega]
theorem tag_snoc {z : List Int} {o : Int} {k : Nat} {x : Int} (h : z[k]? = some x) : tag (z.take (k + 1)) o = tag (z.take k) o ++ [(x, o + k)] := by
  refine List.ext_getElem? fun j => ?_
  have hk := (List.getElem?_eq_some_iff.1 h).1
  have hl : (tag (z.take k) o).length = k := by rw [tag_length]; simp; omega
  rcases Nat.lt_trichotomy j k with hj | hj | hj
  · rw [List.getElem?_append_left (by omega), tag_at, tag_at, List.getElem?_take, List.getElem?_take, if_pos (by omega), if_pos hj]
  · subst hj
    rw [List.getElem?_append_right (by omega), tag_at, hl, List.getElem?_take, if_pos (by omega), h]
    simp
  · rw [List.getElem?_append_right (by omega), tag_at, hl, List.getElem?_take, if_neg (by omega)]
    rw [List.getElem?_eq_none (by simp; omega)]
    rfl
/-- none falls -/
def Rise (z : List Int) (k : Nat) : Prop := ∀ j x y, j + 1 < k → z[j]? = some x → z[j + 1]? = some y → ¬ y < x
theorem rise_next (z : List Int) (o : Int) (k : Nat) : Next less (tag z o) k ↔ Rise z k := by
  constructor
  · intro h j x y hj hx hy
    have := h j (x, o + j) (y, o + ((j + 1 : Nat) : Int)) hj (by rw [tag_at, hx]; rfl) (by rw [tag_at, hy]; rfl)
    simpa [less] using this
  · intro h j x y hj hx hy
    rw [tag_at] at hx hy
    cases hx' : z[j]? with
    | none => rw [hx'] at hx; cases hx
    | some a =>
      cases hy' : z[j + 1]? with
      | none => rw [hy'] at hy; cases hy
      | some b =>
        rw [hx'] at hx; rw [hy'] at hy
        simp at hx hy
        subst hx; subst hy
        have := h j a b hj hx' hy'
        simp [less]; omega
theorem rise_one (z : List Int) : Rise z 1 := fun j x y h => absurd h (by omega)
theorem rise_step {z : List Int} {k : Nat} {x y : Int} (h : Rise z k) (hx : z[k - 1]? = some x) (hy : z[k]? = some y) (hk : 1 ≤ k) (hf : ¬ y < x) : Rise z (k + 1) := by
  intro j a b hj ha hb
  rcases Nat.lt_or_ge (j + 1) k with h1 | h1
  · exact h j a b h1 ha hb
  · obtain rfl : k = j + 1 := by omega
    rw [Nat.add_sub_cancel] at hx
    rw [hx] at ha; rw [hy] at hb
    injection ha with ha; injection hb with hb
    subst ha; subst hb; exact hf
theorem rise_no {z : List Int} {k n : Nat} {x y : Int} (hx : z[k - 1]? = some x) (hy : z[k]? = some y) (hk : 1 ≤ k) (hn : k < n) (hf : y < x) : ¬ Rise z n := by
  intro h
  exact h (k - 1) x y (by omega) hx (by rw [show k - 1 + 1 = k from by omega]; exact hy) hf
theorem rise_few {z : List Int} {k n : Nat} (h : Rise z k) (hn : n ≤ k) : Rise z n := fun j x y hj => h j x y (by omega)
end Go.Proofs.Ytdpoieemadblnaa.Om
