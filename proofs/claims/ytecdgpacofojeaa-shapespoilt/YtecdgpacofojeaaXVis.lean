/-
  Layer 14 (shape): own words: lists of slices, and what is told of a tree: places and depths, in lists and in memory.
-/
import Derived.Test.YtecdgpacofojeaaXMem
import Derived.Test.YtecdgpacofojeaaMN
import Derived.Test.YtecdgpacofojeaaMH
import Derived.Maps.AppendAt
namespace Go.Proofs.Ytecdgpacofojeaa
open Go.RowKit

/-- slices of numbers that read as L -/
def SlV (w : World) (vs : List Value) (L : List (List Int)) : Prop := vs.length = L.length ∧ ∀ (k : Nat) (l : List Int), L[k]? = some l → ∃ A n c, vs[k]? = some (.slice A n c) ∧ Sl w A n c l
section
variable {w w' : World} {vs : List Value} {L : List (List Int)} {A : Option Addr} {n c : Nat} {l : List Int}
theorem SlV.nil (w : World) : SlV w [] [] := ⟨rfl, fun k l h => by simp at h⟩
theorem SlV.below (h : SlV w vs L) (hb : Below w.heap.size w w') : SlV w' vs L :=
  ⟨h.1, fun k l hl => by obtain ⟨A, n, c, h1, h2⟩ := h.2 k l hl; exact ⟨A, n, c, h1, h2.below hb⟩⟩
theorem SlV.snoc (h : SlV w vs L) (hs : Sl w A n c l) : SlV w (vs ++ [.slice A n c]) (L ++ [l]) := by
  refine ⟨by simp [h.1], fun k x hx => ?_⟩
  rcases Nat.lt_or_ge k L.length with hk | hk
  · rw [List.getElem?_append_left hk] at hx
    rw [List.getElem?_append_left (by rw [h.1]; exact hk)]
    exact h.2 k x hx
  · rw [List.getElem?_append_right hk] at hx
    have e : k - L.length = 0 := by
      rcases Nat.eq_zero_or_pos (k - L.length) with h | h
      · exact h
      · rw [List.getElem?_eq_none (by simp; omega)] at hx; cases hx
    rw [e] at hx
    simp at hx
    subst hx
    rw [List.getElem?_append_right (by rw [h.1]; exact hk), h.1, e]
    exact ⟨A, n, c, rfl, hs⟩
theorem Ls.of_lst (h : Lst w w.heap.size A n vs) (hv : SlV w vs L) (hc : n ≤ c) (hA : A = none → c = 0) : Ls w A n c L := by
  have hn := h.1
  refine ⟨by rw [← hv.1, hn], hc, hA, fun k l hl => ?_⟩
  have hk : k < n := by have := (List.getElem?_eq_some_iff.1 hl).1; have := hv.1; omega
  obtain ⟨b, off, e, hb, hcell⟩ := h.at_ hk
  obtain ⟨A', n', c', h1, h2⟩ := hv.2 k l hl
  exact ⟨b, off, e, hb, A', n', c', by rw [hcell, h1], h2⟩
theorem Ls.of_own {base : Nat} {e : TypeId} (h : w.ownsRow base e 1 (.slice A n c) n vs) (hv : SlV w vs L) : Ls w A n c L := by
  obtain ⟨A', c', e1, h1, h2⟩ := own_form h
  injection e1 with e1 _ e3
  subst e1
  subst e3
  exact Ls.of_lst (Lst.of_own h) hv h2 h1
end
namespace Xm
theorem lists_snoc (T : List Nd) (x : Nd) : lists (T ++ [x]) = if x.leaf = true then lists T ++ [x.ids] else lists T := by
  unfold lists
  rw [List.filter_append, List.map_append, List.filter_cons]
  split <;> simp
theorem leaves_snoc (T : List Nd) (x : Nd) : leaves (T ++ [x]) = leaves T + if x.leaf = true then 1 else 0 := by
  rw [leaves_append, leaves_cons]; rfl
theorem leaves_le (T : List Nd) : leaves T ≤ T.length := List.length_filter_le _ _
/-- places and depths -/
def visits : Nat → List Nat → List Om.E
  | _, [] => []
  | p, y :: v => ((p : Int), (y : Int)) :: visits (p + 1) v
theorem visits_length (p : Nat) (v : List Nat) : (visits p v).length = v.length := by
  induction v generalizing p with
  | nil => rfl
  | cons y v ih => show (visits (p + 1) v).length + 1 = _; rw [ih]; rfl
theorem visits_append (p : Nat) (a b : List Nat) : visits p (a ++ b) = visits p a ++ visits (p + a.length) b := by
  induction a generalizing p with
  | nil => rfl
  | cons y a ih =>
    show _ :: visits (p + 1) (a ++ b) = _ :: (visits (p + 1) a ++ visits (p + (a.length + 1)) b)
    rw [ih, show p + 1 + a.length = p + (a.length + 1) from by omega]
theorem visits_get {p k : Nat} {v : List Nat} {y : Nat} (h : v[k]? = some y) : (visits p v)[k]? = some (((p + k : Nat) : Int), (y : Int)) := by
  induction v generalizing p k with
  | nil => cases h
  | cons z v ih =>
    cases k with
    | zero => simp at h; subst h; rfl
    | succ k =>
      show (visits (p + 1) v)[k]? = _
      rw [ih (by simpa using h), show p + 1 + k = p + (k + 1) from by omega]
theorem visits_at {p k : Nat} {v : List Nat} {a b : Int} (h : (visits p v)[k]? = some (a, b)) : ∃ y, v[k]? = some y ∧ a = ((p + k : Nat) : Int) ∧ b = (y : Int) := by
  have hk : k < v.length := by have := (List.getElem?_eq_some_iff.1 h).1; rwa [visits_length] at this
  have hy := List.getElem?_eq_getElem hk
  rw [visits_get hy] at h
  injection h with h
  injection h with h1 h2
  exact ⟨_, hy, h1.symm, h2.symm⟩
/-- the greatest of numbers -/
def most (v : List Nat) : Nat := v.foldl max 0
theorem most_snoc (v : List Nat) (y : Nat) : most (v ++ [y]) = max (most v) y := by unfold most; rw [List.foldl_append]; rfl
theorem most_le {v : List Nat} {b : Nat} (h : ∀ y ∈ v, y ≤ b) : most v ≤ b := by
  have : ∀ (v : List Nat) (a : Nat), a ≤ b → (∀ y ∈ v, y ≤ b) → v.foldl max a ≤ b := by
    intro v
    induction v with
    | nil => intro a ha _; exact ha
    | cons y v ih => intro a ha h; exact ih _ (by have := h y (.head _); omega) fun z hz => h z (.tail _ hz)
  exact this v 0 (Nat.zero_le _) h
end Xm
/-- a slice of pairs of numbers that reads as l -/
structure Prs (w : World) (A : Option Addr) (n c : Nat) (l : List Om.E) : Prop where
  len : l.length = n
  cap : n ≤ c
  nil : A = none → c = 0
  ex : 0 < n → ∃ b off, A = some ⟨b, off, none⟩ ∧ b < w.heap.size ∧ ∀ j u, (cel l)[j]? = some u → w.cell? ⟨b, off + j, none⟩ = some u
section
variable {w w' : World} {A : Option Addr} {n c : Nat} {l : List Om.E}
theorem Prs.below (h : Prs w A n c l) (hb : Below w.heap.size w w') : Prs w' A n c l := ⟨h.len, h.cap, h.nil, fun hn => by
  obtain ⟨b, off, e, hlt, hc⟩ := h.ex hn
  exact ⟨b, off, e, Nat.lt_of_lt_of_le hlt hb.size, fun j u hu => (hb.cell (p := ⟨b, off + j, none⟩) hlt).trans (hc j u hu)⟩⟩
theorem Prs.nil_ (w : World) : Prs w none 0 0 [] := ⟨rfl, Nat.le_refl _, fun _ => rfl, fun h => absurd h (Nat.lt_irrefl 0)⟩
theorem Prs.at_ (h : Prs w A n c l) {k : Nat} {x y : Int} (hk : l[k]? = some (x, y)) : ∃ b off, A = some ⟨b, off, none⟩ ∧ b < w.heap.size ∧ w.cell? ⟨b, off + k * 2, none⟩ = some (.int .i64 x) ∧ w.cell? ⟨b, off + k * 2 + 1, none⟩ = some (.int .i64 y) := by
  have hn : 0 < n := by have := (List.getElem?_eq_some_iff.1 hk).1; have := h.len; omega
  obtain ⟨b, off, e, hlt, hc⟩ := h.ex hn
  rw [Nat.mul_comm k 2]
  exact ⟨b, off, e, hlt, hc _ _ (cel_fst l k _ hk), by rw [Nat.add_assoc]; exact hc _ _ (cel_snd l k _ hk)⟩
theorem own2_form {base : Nat} {e : TypeId} {v : Value} {xs : List Value} (h : w.ownsRow base e 2 v n xs) : ∃ A c, v = .slice A n c ∧ (A = none → c = 0) ∧ n ≤ c := by
  rcases h.2 with ⟨rfl, rfl⟩ | ⟨g, cap, cur, rfl, _, _, h1, _⟩
  · exact ⟨none, 0, rfl, fun _ => rfl, Nat.le_refl _⟩
  · exact ⟨some ⟨g, 0, none⟩, cap, rfl, fun h => (by cases h), h1⟩
theorem Prs.of_own {base : Nat} {e : TypeId} (h : w.ownsRow base e 2 (.slice A n c) n (cel l)) : Prs w A n c l := by
  obtain ⟨A', c', e1, h1, h2⟩ := own2_form h
  injection e1 with e1 _ e3
  subst e1
  subst e3
  have hl := h.1
  rw [cel_length] at hl
  refine ⟨by omega, h2, h1, fun hn => ?_⟩
  rcases h.2 with ⟨_, h0⟩ | ⟨g, cap, cur, hv', hbg, hg, _⟩
  · omega
  · injection hv' with e
    subst e
    refine ⟨g, 0, rfl, lt_of_block hg, fun j u hu => ?_⟩
    have := h.cells (g := g) rfl j u hu
    rwa [Addr.add_lit] at this
theorem own_new2 (W : World) (e : TypeId) (v0 v1 : Value) : (W.alloc (.cells #[v0, v1] e)).ownsRow W.heap.size e 2 (.slice (some ⟨W.heap.size, 0, none⟩) 1 1) 1 [v0, v1] :=
  ⟨rfl, .inr ⟨W.heap.size, 1, #[v0, v1], rfl, Nat.le_refl _, heap_alloc_new W _, Nat.le_refl _, by unfold maxLen; omega, rfl, rfl⟩⟩
theorem cel_cells (l : List Om.E) : ∀ u ∈ cel l, u.oneCell' = true := by
  intro u hu
  unfold cel at hu
  obtain ⟨p, _, hp⟩ := List.mem_flatMap.1 hu
  simp at hp
  rcases hp with rfl | rfl <;> rfl
end
end Go.Proofs.Ytecdgpacofojeaa
