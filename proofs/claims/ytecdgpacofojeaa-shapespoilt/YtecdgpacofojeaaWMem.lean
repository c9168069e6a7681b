/-
  Layer 13 (grow): own words for memory: a slice of nodes.
-/
import Derived.Test.YtecdgpacofojeaaWMath
namespace Go.Proofs.Ytecdgpacofojeaa
open Go.RowKit

/-- a slice that stands where it may -/
def Inn (Pr : Nat → Prop) (n : Nat) (A : Option Addr) : Prop := 0 < n → ∀ b off s, A = some ⟨b, off, s⟩ → Pr b
/-- a node's slices -/
structure NdA (Pr : Nat → Prop) (w : World) (t : Wm.Nd) (A1 : Option Addr) (n1 c1 : Nat) (A2 : Option Addr) (n2 c2 : Nat) : Prop where
  ids : Sl w A1 n1 c1 t.ids
  in1 : Inn Pr n1 A1
  pn : Vec w A2 n2 t.pn
  in2 : Inn Pr n2 A2
  le : n2 ≤ 10000
/-- a node's cells -/
abbrev ndc (t : Wm.Nd) (A1 : Option Addr) (n1 c1 : Nat) (A2 : Option Addr) (n2 c2 : Nat) : List Value := [.bool t.leaf, .slice A1 n1 c1, .slice A2 n2 c2, .int .i64 t.po, .int .i64 (t.lt : Int), .int .i64 (t.rt : Int)]
/-- cells that are those of nodes -/
def NdV (Pr : Nat → Prop) (w : World) : List Value → List Wm.Nd → Prop
  | vs, [] => vs = []
  | vs, t :: T => ∃ A1 n1 c1 A2 n2 c2 vs', vs = ndc t A1 n1 c1 A2 n2 c2 ++ vs' ∧ NdA Pr w t A1 n1 c1 A2 n2 c2 ∧ NdV Pr w vs' T
section
variable {Pr Pr' : Nat → Prop} {w w' : World} {t : Wm.Nd} {T T' : List Wm.Nd} {vs vs' : List Value} {A A1 A2 : Option Addr} {n c n1 c1 n2 c2 k : Nat} {l : List Int}
theorem Sl.keepIn (h : Sl w A n c l) (hi : Inn Pr n A) (hs : w.heap.size ≤ w'.heap.size) (hk : ∀ k, k < w.heap.size → Pr k → w'.heap[k]? = w.heap[k]?) : Sl w' A n c l := by
  refine ⟨⟨h.lst.1, fun hn => ?_⟩, h.cap, h.nil⟩
  obtain ⟨b, off, e, hlt, hc⟩ := h.lst.2 hn
  exact ⟨b, off, e, Nat.lt_of_lt_of_le hlt hs, fun j u hu => (World.cell?_of_block (w := w) (hk b hlt (hi hn b off none e))).trans (hc j u hu)⟩
theorem Vec.keepIn (h : Vec w A n l) (hi : Inn Pr n A) (hs : w.heap.size ≤ w'.heap.size) (hk : ∀ k, k < w.heap.size → Pr k → w'.heap[k]? = w.heap[k]?) : Vec w' A n l := by
  refine ⟨⟨h.1.1, fun hn => ?_⟩, h.2⟩
  obtain ⟨b, off, e, hlt, hc⟩ := h.1.2 hn
  exact ⟨b, off, e, Nat.lt_of_lt_of_le hlt hs, fun j u hu => (World.cell?_of_block (w := w) (hk b hlt (hi hn b off none e))).trans (hc j u hu)⟩
theorem NdA.keep (h : NdA Pr w t A1 n1 c1 A2 n2 c2) (hs : w.heap.size ≤ w'.heap.size) (hk : ∀ k, k < w.heap.size → Pr k → w'.heap[k]? = w.heap[k]?) : NdA Pr w' t A1 n1 c1 A2 n2 c2 :=
  ⟨h.ids.keepIn h.in1 hs hk, h.in1, h.pn.keepIn h.in2 hs hk, h.in2, h.le⟩
theorem NdA.mono (h : NdA Pr w t A1 n1 c1 A2 n2 c2) (hp : ∀ k, Pr k → Pr' k) : NdA Pr' w t A1 n1 c1 A2 n2 c2 :=
  ⟨h.ids, fun hn b off s e => hp _ (h.in1 hn b off s e), h.pn, fun hn b off s e => hp _ (h.in2 hn b off s e), h.le⟩
theorem NdV.keep (h : NdV Pr w vs T) (hs : w.heap.size ≤ w'.heap.size) (hk : ∀ k, k < w.heap.size → Pr k → w'.heap[k]? = w.heap[k]?) : NdV Pr w' vs T := by
  induction T generalizing vs with
  | nil => exact h
  | cons t T ih =>
    obtain ⟨A1, n1, c1, A2, n2, c2, vs', e, h1, h2⟩ := h
    exact ⟨A1, n1, c1, A2, n2, c2, vs', e, h1.keep hs hk, ih h2⟩
theorem NdV.mono (h : NdV Pr w vs T) (hp : ∀ k, Pr k → Pr' k) : NdV Pr' w vs T := by
  induction T generalizing vs with
  | nil => exact h
  | cons t T ih =>
    obtain ⟨A1, n1, c1, A2, n2, c2, vs', e, h1, h2⟩ := h
    exact ⟨A1, n1, c1, A2, n2, c2, vs', e, h1.mono hp, ih h2⟩
theorem NdV.len (h : NdV Pr w vs T) : vs.length = T.length * 6 := by
  induction T generalizing vs with
  | nil => rw [show vs = [] from h]; rfl
  | cons t T ih =>
    obtain ⟨A1, n1, c1, A2, n2, c2, vs', rfl, h1, h2⟩ := h
    have := ih h2
    simp; omega
theorem NdV.append (h : NdV Pr w vs T) (h' : NdV Pr w vs' T') : NdV Pr w (vs ++ vs') (T ++ T') := by
  induction T generalizing vs with
  | nil => rw [show vs = [] from h]; exact h'
  | cons t T ih =>
    obtain ⟨A1, n1, c1, A2, n2, c2, vs1, rfl, h1, h2⟩ := h
    exact ⟨A1, n1, c1, A2, n2, c2, vs1 ++ vs', by rw [List.append_assoc], h1, ih h2⟩
theorem NdV.one (h : NdA Pr w t A1 n1 c1 A2 n2 c2) : NdV Pr w (ndc t A1 n1 c1 A2 n2 c2) [t] := ⟨A1, n1, c1, A2, n2, c2, [], by simp, h, rfl⟩
theorem NdV.cells (h : NdV Pr w vs T) : ∀ u ∈ vs, u.oneCell' = true := by
  induction T generalizing vs with
  | nil => rw [show vs = [] from h]; simp
  | cons t T ih =>
    obtain ⟨A1, n1, c1, A2, n2, c2, vs1, rfl, h1, h2⟩ := h
    intro u hu
    rcases List.mem_append.1 hu with hu | hu
    · simp at hu
      rcases hu with rfl | rfl | rfl | rfl | rfl | rfl <;> rfl
    · exact ih h2 u hu
theorem NdV.get (h : NdV Pr w vs T) (hk : T[k]? = some t) : ∃ A1 n1 c1 A2 n2 c2, NdA Pr w t A1 n1 c1 A2 n2 c2 ∧ vs[k * 6]? = some (.bool t.leaf) ∧ vs[k * 6 + 1]? = some (.slice A1 n1 c1) ∧ vs[k * 6 + 2]? = some (.slice A2 n2 c2) ∧
    vs[k * 6 + 3]? = some (.int .i64 t.po) ∧ vs[k * 6 + 4]? = some (.int .i64 (t.lt : Int)) ∧ vs[k * 6 + 5]? = some (.int .i64 (t.rt : Int)) := by
  induction T generalizing vs k with
  | nil => simp at hk
  | cons a T ih =>
    obtain ⟨A1, n1, c1, A2, n2, c2, vs1, rfl, h1, h2⟩ := h
    cases k with
    | zero =>
      simp at hk
      subst hk
      exact ⟨A1, n1, c1, A2, n2, c2, h1, rfl, rfl, rfl, rfl, rfl, rfl⟩
    | succ k =>
      obtain ⟨B1, m1, d1, B2, m2, d2, g, g0, g1, g2, g3, g4, g5⟩ := ih h2 (by simpa using hk)
      have sh : ∀ j, (ndc a A1 n1 c1 A2 n2 c2 ++ vs1)[(k + 1) * 6 + j]? = vs1[k * 6 + j]? := fun j => by
        rw [List.getElem?_append_right (by simp; omega)]
        congr 1
        simp; omega
      exact ⟨B1, m1, d1, B2, m2, d2, g, by rw [← g0]; exact sh 0, by rw [sh, g1], by rw [sh, g2], by rw [sh, g3], by rw [sh, g4], by rw [sh, g5]⟩

/-- a slice of nodes that reads as T, all of it where it may stand -/
structure Nds (Pr : Nat → Prop) (w : World) (A : Option Addr) (n c : Nat) (T : List Wm.Nd) : Prop where
  len : T.length = n
  cap : n ≤ c
  nil : A = none → c = 0
  ex : ∃ vs, NdV Pr w vs T ∧ (0 < n → ∃ b off, A = some ⟨b, off, none⟩ ∧ Pr b ∧ b < w.heap.size ∧ ∀ j u, vs[j]? = some u → w.cell? ⟨b, off + j, none⟩ = some u)
theorem Nds.keep (h : Nds Pr w A n c T) (hs : w.heap.size ≤ w'.heap.size) (hk : ∀ k, k < w.heap.size → Pr k → w'.heap[k]? = w.heap[k]?) : Nds Pr w' A n c T := by
  obtain ⟨vs, h1, h2⟩ := h.ex
  refine ⟨h.len, h.cap, h.nil, vs, h1.keep hs hk, fun hn => ?_⟩
  obtain ⟨b, off, e, hp, hb, hc⟩ := h2 hn
  exact ⟨b, off, e, hp, Nat.lt_of_lt_of_le hb hs, fun j u hu => (World.cell?_of_block (w := w) (hk b hb hp)).trans (hc j u hu)⟩
theorem Nds.below (h : Nds Pr w A n c T) (hb : Below w.heap.size w w') : Nds Pr w' A n c T := h.keep hb.size fun k hk _ => hb.block k hk
theorem Nds.mono (h : Nds Pr w A n c T) (hp : ∀ k, Pr k → Pr' k) : Nds Pr' w A n c T := by
  obtain ⟨vs, h1, h2⟩ := h.ex
  refine ⟨h.len, h.cap, h.nil, vs, h1.mono hp, fun hn => ?_⟩
  obtain ⟨b, off, e, hp', hb, hc⟩ := h2 hn
  exact ⟨b, off, e, hp _ hp', hb, hc⟩
theorem Nds.btw {lo hi : Nat} (h : Nds Pr w A n c T) (ho : ∀ k, Pr k → k < lo ∨ hi ≤ k) (hb : Btw lo hi w w') : Nds Pr w' A n c T := h.keep hb.size fun k hk hp => hb.block k hk (ho k hp)
theorem Nds.at_ (h : Nds Pr w A n c T) (hk : T[k]? = some t) : ∃ b off, A = some ⟨b, off, none⟩ ∧ b < w.heap.size ∧ Pr b ∧ ∃ A1 n1 c1 A2 n2 c2, NdA Pr w t A1 n1 c1 A2 n2 c2 ∧
    w.cell? ⟨b, off + k * 6, none⟩ = some (.bool t.leaf) ∧ w.cell? ⟨b, off + k * 6 + 1, none⟩ = some (.slice A1 n1 c1) ∧ w.cell? ⟨b, off + k * 6 + 2, none⟩ = some (.slice A2 n2 c2) ∧
    w.cell? ⟨b, off + k * 6 + 3, none⟩ = some (.int .i64 t.po) ∧ w.cell? ⟨b, off + k * 6 + 4, none⟩ = some (.int .i64 (t.lt : Int)) ∧ w.cell? ⟨b, off + k * 6 + 5, none⟩ = some (.int .i64 (t.rt : Int)) := by
  obtain ⟨vs, h1, h2⟩ := h.ex
  have hlt := (List.getElem?_eq_some_iff.1 hk).1
  have hlen := h.len
  obtain ⟨b, off, e, hp, hb, hc⟩ := h2 (by omega)
  obtain ⟨A1, n1, c1, A2, n2, c2, g, g0, g1, g2, g3, g4, g5⟩ := h1.get hk
  exact ⟨b, off, e, hb, hp, A1, n1, c1, A2, n2, c2, g, hc _ _ g0, hc _ _ g1, hc _ _ g2, hc _ _ g3, hc _ _ g4, hc _ _ g5⟩
theorem own6_form {base : Nat} {e : TypeId} {v : Value} {xs : List Value} (h : w.ownsRow base e 6 v n xs) : ∃ A c, v = .slice A n c ∧ (A = none → c = 0) ∧ n ≤ c := by
  rcases h.2 with ⟨rfl, rfl⟩ | ⟨g, cap, cur, rfl, _, _, h1, _⟩
  · exact ⟨none, 0, rfl, fun _ => rfl, Nat.le_refl _⟩
  · exact ⟨some ⟨g, 0, none⟩, cap, rfl, fun h => (by cases h), h1⟩
theorem own6_below {base : Nat} {e : TypeId} {v : Value} {xs : List Value} (h : w.ownsRow base e 6 v n xs) (hb : Below w.heap.size w w') : w'.ownsRow base e 6 v n xs := by
  obtain ⟨h1, h2⟩ := h
  rcases h2 with h2 | ⟨g, cap, cur, hv, hg, hh, hr⟩
  · exact ⟨h1, .inl h2⟩
  · exact ⟨h1, .inr ⟨g, cap, cur, hv, hg, (hb.block g (lt_of_block hh)).trans hh, hr⟩⟩
theorem own6_block {base : Nat} {e : TypeId} {v : Value} {xs : List Value} (h : w.ownsRow base e 6 v n xs) : ∀ k, v.ownBlock = some k → base ≤ k := by
  intro k hk
  rcases h.2 with ⟨rfl, rfl⟩ | ⟨g, cap, cur, rfl, hb, _⟩
  · simp [Value.ownBlock] at hk
  · simp [Value.ownBlock] at hk; omega
theorem Nds.of_own {base : Nat} {e : TypeId} (h : w.ownsRow base e 6 (.slice A n c) n vs) (hv : NdV Pr w vs T) (hT : T.length = n) (hp : ∀ k, base ≤ k → k < w.heap.size → Pr k) : Nds Pr w A n c T := by
  obtain ⟨A', c', e1, h1, h2⟩ := own6_form h
  injection e1 with e1 _ e3
  subst e1
  subst e3
  refine ⟨hT, h2, h1, vs, hv, fun hn => ?_⟩
  rcases h.2 with ⟨_, h0⟩ | ⟨g, cap, cur, hv', hbg, hg, _⟩
  · omega
  · have hA : A = some ⟨g, 0, none⟩ := by injection hv'
    subst hA
    refine ⟨g, 0, rfl, hp g hbg (lt_of_block hg), lt_of_block hg, fun j u hu => ?_⟩
    have := h.cells (g := g) rfl j u hu
    rwa [Addr.add_lit] at this
end
section
variable {w w' : World} {n c : Nat}
/-- the first of a row's elements, still in a row of the call's own -/
theorem own_take {base sz g m : Nat} {e : TypeId} {xs : List Value} (h : w.ownsRow base e sz (.slice (some ⟨g, 0, none⟩) n c) n xs) (hm : m ≤ n) : w.ownsRow base e sz (.slice (some ⟨g, 0, none⟩) m c) m (xs.take (m * sz)) := by
  have hlen := h.1
  have hms : m * sz ≤ n * sz := Nat.mul_le_mul_right _ hm
  refine ⟨by rw [List.length_take]; omega, ?_⟩
  rcases h.2 with ⟨hv, _⟩ | ⟨g', cap, cur, hv, hbg, hg, hnc, hcm, hcs, htake⟩
  · cases hv
  · injection hv with h1 _ h3
    injection h1 with h1
    injection h1 with h1
    subst h1
    subst h3
    refine .inr ⟨g, c, cur, rfl, hbg, hg, by omega, hcm, hcs, ?_⟩
    rw [← htake, List.take_take, Nat.min_eq_left hms]
/-- an element's cell in a row of the call's own is written -/
theorem own_set {base sz g i : Nat} {e : TypeId} {xs : List Value} {u : Value} (h : w.ownsRow base e sz (.slice (some ⟨g, 0, none⟩) n c) n xs) (hi : i < xs.length) : (w.setCell ⟨g, i, none⟩ u).ownsRow base e sz (.slice (some ⟨g, 0, none⟩) n c) n (xs.set i u) := by
  have hlen := h.1
  refine ⟨by rw [List.length_set]; exact hlen, ?_⟩
  rcases h.2 with ⟨hv, _⟩ | ⟨g', cap, cur, hv, hbg, hg, hnc, hcm, hcs, htake⟩
  · cases hv
  · injection hv with h1 _ h3
    injection h1 with h1
    injection h1 with h1
    subst h1
    subst h3
    refine .inr ⟨g, c, _, rfl, hbg, heap_setCell_same _ _ _ _ _ _ hg, hnc, hcm, by simpa using hcs, ?_⟩
    rw [← htake]
    simp [List.take_set]
theorem own_lt6 {base sz : Nat} {e : TypeId} {v : Value} {xs : List Value} (h : w.ownsRow base e sz v n xs) : ∀ k, v.ownBlock = some k → base ≤ k ∧ k < w.heap.size ∧ ∃ cs, w.heap[k]? = some (.cells cs e (0, 0)) := by
  rcases h.2 with ⟨rfl, _⟩ | ⟨g, cap, cur, rfl, hb, hg, _⟩
  · simp [Value.ownBlock]
  · intro k hk
    have e : g = k := by simpa [Value.ownBlock] using hk
    subst e
    exact ⟨hb, lt_of_block hg, _, hg⟩
theorem own_keep6 {base sz : Nat} {e : TypeId} {v : Value} {xs : List Value} (h : w.ownsRow base e sz v n xs) (hk : ∀ k, v.ownBlock = some k → w'.heap[k]? = w.heap[k]?) : w'.ownsRow base e sz v n xs := by
  refine ⟨h.1, ?_⟩
  rcases h.2 with h2 | ⟨g, cap, cur, hv, hb, hg, hr⟩
  · exact .inl h2
  · exact .inr ⟨g, cap, cur, hv, hb, (hk g (by rw [hv]; rfl)).trans hg, hr⟩
end
end Go.Proofs.Ytecdgpacofojeaa
