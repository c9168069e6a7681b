/-
  Layer 8 (topk): own words for memory: the cells of a list of things, each beside when it came.
-/
import Derived.Test.YtdpoieemadblnaaKMath
import Derived.Test.YtdpoieemadblnaaHMem
namespace Go.Proofs.Ytdpoieemadblnaa
open Go.RowKit

/-- the cells of such a list -/
def ce3 (l : List Km.Ent) : List Value := l.flatMap fun p => [.int .i64 p.1.1, .int .i64 p.1.2, .int .i64 p.2]
theorem ce3_nil : ce3 [] = [] := rfl
theorem ce3_cons (p : Km.Ent) (l : List Km.Ent) : ce3 (p :: l) = .int .i64 p.1.1 :: .int .i64 p.1.2 :: .int .i64 p.2 :: ce3 l := rfl
theorem ce3_append (a b : List Km.Ent) : ce3 (a ++ b) = ce3 a ++ ce3 b := by simp [ce3]
theorem ce3_length (l : List Km.Ent) : (ce3 l).length = l.length * 3 := by
  induction l with
  | nil => rfl
  | cons p l ih => rw [ce3_cons]; simp [ih]; omega
theorem ce3_at : ∀ (l : List Km.Ent) (i : Nat) (x : Km.Ent), l[i]? = some x → (ce3 l)[i * 3]? = some (.int .i64 x.1.1) ∧ (ce3 l)[i * 3 + 1]? = some (.int .i64 x.1.2) ∧ (ce3 l)[i * 3 + 2]? = some (.int .i64 x.2) := by
  intro l
  induction l with
  | nil => intro i x h; simp at h
  | cons p l ih =>
    intro i x h
    cases i with
    | zero => simp at h; subst h; exact ⟨rfl, rfl, rfl⟩
    | succ i =>
      have := ih i x (by simpa using h)
      rw [ce3_cons, show (i + 1) * 3 = i * 3 + 1 + 1 + 1 from by omega]
      simp only [show i * 3 + 1 + 1 + 1 + 1 = i * 3 + 1 + 1 + 1 + 1 from rfl, show i * 3 + 1 + 1 + 1 + 2 = i * 3 + 2 + 1 + 1 + 1 from rfl, List.getElem?_cons_succ]
      exact this
theorem ce3_set : ∀ (l : List Km.Ent) (i : Nat) (x : Km.Ent), (((ce3 l).set (i * 3) (.int .i64 x.1.1)).set (i * 3 + 1) (.int .i64 x.1.2)).set (i * 3 + 2) (.int .i64 x.2) = ce3 (l.set i x) := by
  intro l
  induction l with
  | nil => intro i x; rfl
  | cons p l ih =>
    intro i x
    cases i with
    | zero => rfl
    | succ i =>
      have := ih i x
      rw [ce3_cons, show (i + 1) * 3 = i * 3 + 1 + 1 + 1 from by omega]
      simp only [show i * 3 + 1 + 1 + 1 + 2 = i * 3 + 2 + 1 + 1 + 1 from rfl, List.set_cons_succ, ce3_cons, this]
theorem ce3_one (l : List Km.Ent) : ∀ u ∈ ce3 l, u.oneCell' = true := by
  induction l with
  | nil => intro u hu; cases hu
  | cons p l ih =>
    intro u hu
    rw [ce3_cons] at hu
    rcases List.mem_cons.1 hu with rfl | hu
    · rfl
    rcases List.mem_cons.1 hu with rfl | hu
    · rfl
    rcases List.mem_cons.1 hu with rfl | hu
    · rfl
    · exact ih u hu
theorem ce3_take (l : List Km.Ent) (k : Nat) (hk : k ≤ l.length) : (ce3 l).take (k * 3) = ce3 (l.take k) := by
  have e2 : ce3 l = ce3 (l.take k) ++ ce3 (l.drop k) := by rw [← ce3_append, List.take_append_drop]
  have e3 : (ce3 (l.take k)).length = k * 3 := by rw [ce3_length, List.length_take]; omega
  rw [e2, List.take_left' e3]
/-- the last one, or none -/
def lastE (es : List Km.Ent) : Km.Ent := es.getLast?.getD ((0, 0), 0)
theorem lastE_fst (es : List Km.Ent) : (lastE es).1 = (es.map Prod.fst).getLast?.getD (0, 0) := by
  unfold lastE
  rw [List.getLast?_map]
  cases es.getLast? <;> rfl
theorem below_three (w : World) (o o' o'' : Obj) : Below w.heap.size w (((w.alloc o).alloc o').alloc o'') := (below_two w o o').alloc (by simp; omega) _
/-- two boxed structs of three cells, as a call that came behind reads them -/
theorem boxes3 {w w1 : World} {x1 x2 x3 y1 y2 y3 : Int} {t : TypeId} (hb : Below ((w.alloc (.cells #[.int .i64 x1, .int .i64 x2, .int .i64 x3] t)).alloc (.cells #[.int .i64 y1, .int .i64 y2, .int .i64 y3] t)).heap.size ((w.alloc (.cells #[.int .i64 x1, .int .i64 x2, .int .i64 x3] t)).alloc (.cells #[.int .i64 y1, .int .i64 y2, .int .i64 y3] t)) w1) :
    (w1.cell? ⟨w.heap.size, 0, none⟩ = some (.int .i64 x1) ∧ w1.cell? ⟨w.heap.size, 1, none⟩ = some (.int .i64 x2) ∧ w1.cell? ⟨w.heap.size, 2, none⟩ = some (.int .i64 x3)) ∧ (w1.cell? ⟨w.heap.size + 1, 0, none⟩ = some (.int .i64 y1) ∧ w1.cell? ⟨w.heap.size + 1, 1, none⟩ = some (.int .i64 y2) ∧ w1.cell? ⟨w.heap.size + 1, 2, none⟩ = some (.int .i64 y3)) ∧ w.heap.size + 1 < w1.heap.size ∧ Below w.heap.size w w1 := by
  have h2 : ((w.alloc (.cells #[.int .i64 x1, .int .i64 x2, .int .i64 x3] t)).alloc (.cells #[.int .i64 y1, .int .i64 y2, .int .i64 y3] t)).heap.size = w.heap.size + 2 := by simp
  have hs := hb.size
  rw [h2] at hb hs
  refine ⟨⟨?_, ?_, ?_⟩, ⟨?_, ?_, ?_⟩, by omega, (below_two w _ _).trans (hb.mono (by omega))⟩
  all_goals
    rw [hb.cell (by simp)]
    simp
end Go.Proofs.Ytdpoieemadblnaa
