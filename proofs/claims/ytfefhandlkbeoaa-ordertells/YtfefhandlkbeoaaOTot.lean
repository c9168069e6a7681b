/-
  Layer 4 (order): plain mathematics, more: of two just one is first; and words for structs that lie in variables.
-/
import Derived.Test.YtfefhandlkbeoaaOEqR
import Derived.Test.YtfefhandlkbeoaaOEqT
import Derived.Test.YtfefhandlkbeoaaOAwk
namespace Go.Proofs.Ytfefhandlkbeoaa
open Go.RowKit
namespace Om
theorem ahead_ord : Ord ahead := by
  constructor
  · intro a b h
    unfold ahead at *
    split at h <;> split <;> simp at * <;> omega
  · intro a b c h1 h2
    unfold ahead at *
    split at h1 <;> split at h2 <;> split <;> simp at * <;> omega
theorem cmp_back {f : E → E → Bool} (ho : Ord f) (a b : E) : cmp f b a = - cmp f a b := by
  unfold cmp
  cases h1 : f a b with
  | true => have := ho.anti a b h1; simp [this]
  | false =>
    cases h2 : f b a with
    | true => simp
    | false => simp
theorem near_zero (a1 a2 b1 b2 : Int) : (cmp near (a1, a2) (b1, b2) == 0) = decide (a1 = b1 ∧ a2 = b2) := by
  unfold cmp near
  by_cases h : a2 = b2
  · subst h
    by_cases h1 : a1 < b1
    · have : a1 ≠ b1 := by omega
      simp [h1, this]
    · by_cases h2 : b1 < a1
      · have : a1 ≠ b1 := by omega
        simp [h1, h2, this]
      · obtain rfl : a1 = b1 := by omega
        simp
  · have h' : b2 ≠ a2 := fun e => h e.symm
    by_cases h1 : a2 < b2
    · simp [h, h1]
    · have h2 : b2 < a2 := by omega
      simp [h, h', h1, h2]
theorem ahead_zero (a1 a2 b1 b2 : Int) : (cmp ahead (a1, a2) (b1, b2) == 0) = decide (a1 = b1 ∧ a2 = b2) := by
  unfold cmp ahead
  by_cases h : a1 = b1
  · subst h
    by_cases h1 : a2 < b2
    · have : a2 ≠ b2 := by omega
      simp [h1, this]
    · by_cases h2 : b2 < a2
      · have : a2 ≠ b2 := by omega
        simp [h1, h2, this]
      · obtain rfl : a2 = b2 := by omega
        simp
  · have h' : b1 ≠ a1 := fun e => h e.symm
    by_cases h1 : b1 < a1
    · simp [h, h1]
    · have h2 : a1 < b1 := by omega
      simp [h, h', h1, h2]
theorem goes_on {f : E → E → Bool} (ho : Ord f) {a b c : E} (h1 : f a b = true) (h2 : f b c = true) : f a c = true := first_goes ho h1 (ho.anti _ _ h2)
theorem cmp_small {f : E → E → Bool} (a b : E) : -1 ≤ cmp f a b ∧ cmp f a b ≤ 1 := by
  unfold cmp
  split
  · omega
  · split <;> omega
end Om

/-- a variable that holds a struct of two numbers -/
def Box (w : World) (g : Nat) (x1 x2 : Int) : Prop := w.cell? ⟨g, 0, none⟩ = some (.int .i64 x1) ∧ w.cell? ⟨g, 1, none⟩ = some (.int .i64 x2) ∧ g < w.heap.size
theorem Box.below {w w' : World} {g : Nat} {x1 x2 : Int} (h : Box w g x1 x2) (hb : Below w.heap.size w w') : Box w' g x1 x2 :=
  ⟨(hb.cell (p := ⟨g, 0, none⟩) h.2.2).trans h.1, (hb.cell (p := ⟨g, 1, none⟩) h.2.2).trans h.2.1, Nat.lt_of_lt_of_le h.2.2 hb.size⟩
theorem Box.drew {w : World} {g : Nat} {x1 x2 : Int} (h : Box w g x1 x2) : Box w.drew g x1 x2 := h
theorem Box.new (w : World) (x1 x2 : Int) (t : TypeId) : Box (w.alloc (.cells #[.int .i64 x1, .int .i64 x2] t)) w.heap.size x1 x2 := ⟨by simp, by simp, by simp⟩
theorem Box.alloc {w : World} {g : Nat} {x1 x2 : Int} (h : Box w g x1 x2) (o : Obj) : Box (w.alloc o) g x1 x2 := h.below ((Below.refl _ w).alloc (Nat.le_refl _) _)
theorem boxNext (w : World) (o : Obj) (x1 x2 : Int) (t : TypeId) : Box ((w.alloc o).alloc (.cells #[.int .i64 x1, .int .i64 x2] t)).drew (w.heap.size + 1) x1 x2 := by
  have := (Box.new (w.alloc o) x1 x2 t).drew
  rwa [show (w.alloc o).heap.size = w.heap.size + 1 from by simp] at this
end Go.Proofs.Ytfefhandlkbeoaa
