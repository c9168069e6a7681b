/-
  Layer 14 (shape): own words: nodes that were copied, each with lists of its own.
-/
import Derived.Test.YtecdgpacofojeaaXAwk
namespace Go.Proofs.Ytecdgpacofojeaa
open Go.RowKit

namespace Xm
section
variable {T T' : List Nd} {d n : Int} {r p m k : Nat} {x x' : Nd} {v : List Nat}
theorem Is.rng (h : Is T d r p v m) : ∀ i y, p ≤ i → i < m → T[i]? = some y → 0 ≤ y.lt ∧ y.lt ≤ (T.length : Int) + 1 ∧ 0 ≤ y.rt ∧ y.rt ≤ (T.length : Int) := by
  induction h with
  | @leaf r p x h hl ho =>
    intro i y h1 h2 hy
    obtain rfl : i = p := by omega
    rw [h] at hy; injection hy with hy; subst hy
    have := of_decide_eq_true ho
    omega
  | @node r p m e x a b h hl ho ha hr hb iha ihb =>
    intro i y h1 h2 hy
    rcases Nat.lt_or_ge p i with h3 | h3
    · rcases Nat.lt_or_ge i m with h4 | h4
      · exact iha i y (by omega) h4 hy
      · exact ihb i y h4 h2 hy
    · obtain rfl : i = p := by omega
      rw [h] at hy; injection hy with hy; subst hy
      have := (of_decide_eq_true ho).2.2
      have := ha.len
      have := (List.getElem?_eq_some_iff.1 h).1
      omega
theorem chk_rng (h : chk T n d = 0) (hx : T[k]? = some x) : 0 ≤ x.lt ∧ x.lt ≤ (T.length : Int) + 1 ∧ 0 ≤ x.rt ∧ x.rt ≤ (T.length : Int) := by
  obtain ⟨-, -, -, -, ⟨v, hv⟩, -⟩ := chk_zero h
  exact hv.rng k x (Nat.zero_le _) (List.getElem?_eq_some_iff.1 hx).1 hx
theorem chk_ne (h : chk T n d = 0) (h' : chk T' n d = 14) : T ≠ T' := fun e => by rw [e, h'] at h; omega
theorem tot_set (x' : Nd) : tot (T.set k x') ≤ tot T + (x'.ids.length + x'.pn.length) := by
  induction T generalizing k with
  | nil => simp [tot]
  | cons t T ih =>
    cases k with
    | zero => simp [tot]; omega
    | succ k =>
      have := ih (k := k)
      unfold tot at this ⊢
      simp only [List.set_cons_succ, List.map_cons, List.sum_cons]
      omega
theorem tot_take (T : List Nd) (k : Nat) : tot (T.take k) ≤ tot T := by
  induction T generalizing k with
  | nil => simp [tot]
  | cons t T ih =>
    cases k with
    | zero => simp [tot]
    | succ k =>
      have := ih k
      unfold tot at this ⊢
      simp only [List.take_succ_cons, List.map_cons, List.sum_cons]
      omega
end
end Xm
/-- the cells of nodes, of these slices -/
def cpc : List (Value × Value) → List Xm.Nd → List Value
  | u :: U, x :: T => [.bool x.leaf, u.1, u.2, .int .i64 x.po, .int .i64 x.lt, .int .i64 x.rt] ++ cpc U T
  | _, _ => []
section
variable {U : List (Value × Value)} {u v : Value × Value} {T : List Xm.Nd} {x : Xm.Nd} {lo j n c : Nat} {W W' : World} {A : Option Addr}
theorem cpc_snoc (h : U.length = T.length) : cpc (U ++ [u]) (T ++ [x]) = cpc U T ++ [.bool x.leaf, u.1, u.2, .int .i64 x.po, .int .i64 x.lt, .int .i64 x.rt] := by
  induction U generalizing T with
  | nil =>
    obtain rfl : T = [] := List.length_eq_zero_iff.1 (by simpa using h.symm)
    simp [cpc]
  | cons a U ih =>
    cases T with
    | nil => simp at h
    | cons t T => simp only [List.cons_append, cpc]; rw [ih (by simpa using h)]; simp
theorem cpc_length (h : U.length = T.length) : (cpc U T).length = T.length * 6 := by
  induction U generalizing T with
  | nil =>
    obtain rfl : T = [] := List.length_eq_zero_iff.1 (by simpa using h.symm)
    rfl
  | cons a U ih =>
    cases T with
    | nil => simp at h
    | cons t T => rw [cpc, List.length_append, ih (by simpa using h)]; simp; omega
theorem cpc_get (hu : U[j]? = some u) (hx : T[j]? = some x) (i : Nat) (y : Value) (hy : ([.bool x.leaf, u.1, u.2, .int .i64 x.po, .int .i64 x.lt, .int .i64 x.rt] : List Value)[i]? = some y) : (cpc U T)[j * 6 + i]? = some y := by
  have hi : i < 6 := by have := (List.getElem?_eq_some_iff.1 hy).1; simpa using this
  induction U generalizing T j with
  | nil => cases hu
  | cons a U ih =>
    cases T with
    | nil => cases hx
    | cons t T =>
      cases j with
      | zero =>
        simp only [List.getElem?_cons_zero] at hu hx
        injection hu with hu
        injection hx with hx
        subst hu
        subst hx
        rw [Nat.zero_mul, Nat.zero_add, cpc, List.getElem?_append_left (by simpa using hi)]
        exact hy
      | succ j =>
        rw [cpc, List.getElem?_append_right (by simp; omega)]
        have := ih (T := T) (j := j) (by simpa using hu) (by simpa using hx)
        rw [show (j + 1) * 6 + i - ([.bool t.leaf, a.1, a.2, .int .i64 t.po, .int .i64 t.lt, .int .i64 t.rt] : List Value).length = j * 6 + i from by simp; omega]
        exact this
/-- a node's lists, each in a row of the call's own -/
structure Own2 (lo : Nat) (W : World) (u : Value × Value) (x : Xm.Nd) : Prop where
  ids : W.ownsRow lo 3 1 u.1 x.ids.length (ci x.ids)
  pn : W.ownsRow lo 21 1 u.2 x.pn.length (x.pn.map (Value.int .i32))
  in_ : ∀ y ∈ x.pn, -2147483648 ≤ y ∧ y ≤ 2147483647
  l1 : x.ids.length ≤ 5001
  l2 : x.pn.length ≤ 5001
/-- nodes that were copied: no two share a list -/
structure Cpy (lo : Nat) (W : World) (U : List (Value × Value)) (T : List Xm.Nd) : Prop where
  len : U.length = T.length
  own : ∀ (j : Nat) (u : Value × Value) (x : Xm.Nd), U[j]? = some u → T[j]? = some x → Own2 lo W u x
  ap : ∀ (i j : Nat) (u v : Value × Value), i ≠ j → U[i]? = some u → U[j]? = some v → (∀ b, u.1.ownBlock = some b → v.1.ownBlock ≠ some b) ∧ (∀ b, u.2.ownBlock = some b → v.2.ownBlock ≠ some b)
theorem Own2.keep (h : Own2 lo W u x) (h1 : ∀ b, u.1.ownBlock = some b → W'.heap[b]? = W.heap[b]?) (h2 : ∀ b, u.2.ownBlock = some b → W'.heap[b]? = W.heap[b]?) : Own2 lo W' u x :=
  ⟨own_keep6 h.ids h1, own_keep6 h.pn h2, h.in_, h.l1, h.l2⟩
theorem Own2.below (h : Own2 lo W u x) (hb : Below W.heap.size W W') : Own2 lo W' u x :=
  h.keep (fun b e => hb.block b (own_lt6 h.ids b e).2.1) (fun b e => hb.block b (own_lt6 h.pn b e).2.1)
theorem Cpy.below (h : Cpy lo W U T) (hb : Below W.heap.size W W') : Cpy lo W' U T := ⟨h.len, fun j u x hu hx => (h.own j u x hu hx).below hb, h.ap⟩
/-- lists of ids, and of coordinates, are no rows of nodes -/
theorem Own2.kind (h : Own2 lo W u x) {vU : Value} {m : Nat} {xs : List Value} (hr : W.ownsRow lo 68 6 vU m xs) : ∀ b, vU.ownBlock = some b → u.1.ownBlock ≠ some b ∧ u.2.ownBlock ≠ some b := fun b e => by
  obtain ⟨-, -, cs, hc⟩ := own_lt6 hr b e
  refine ⟨fun e2 => ?_, fun e2 => ?_⟩
  · obtain ⟨-, -, cs', hc'⟩ := own_lt6 h.ids b e2
    rw [hc] at hc'
    injection hc' with hc'
    injection hc' with _ hc'
    exact absurd hc' (by decide)
  · obtain ⟨-, -, cs', hc'⟩ := own_lt6 h.pn b e2
    rw [hc] at hc'
    injection hc' with hc'
    injection hc' with _ hc'
    exact absurd hc' (by decide)
theorem Own2.unlike {u' : Value × Value} {x' : Xm.Nd} (h : Own2 lo W u x) (h' : Own2 lo W u' x') : ∀ b, u.1.ownBlock = some b → u'.2.ownBlock ≠ some b := fun b e e2 => by
  obtain ⟨-, -, cs, hc⟩ := own_lt6 h.ids b e
  obtain ⟨-, -, cs', hc'⟩ := own_lt6 h'.pn b e2
  rw [hc] at hc'
  injection hc' with hc'
  injection hc' with _ hc'
  exact absurd hc' (by decide)
/-- what grows is the row of nodes -/
theorem Cpy.grown (h : Cpy lo W U T) {vU : Value} {m : Nat} {xs : List Value} (hr : W.ownsRow lo 68 6 vU m xs) (hg : W.grownBy W' vU.ownBlock) : Cpy lo W' U T := by
  refine ⟨h.len, fun j u x hu hx => ?_, h.ap⟩
  have ho := h.own j u x hu hx
  exact ho.keep (fun b e => hg.block b (own_lt6 ho.ids b e).2.1 fun e2 => (ho.kind hr b e2.symm).1 e) (fun b e => hg.block b (own_lt6 ho.pn b e).2.1 fun e2 => (ho.kind hr b e2.symm).2 e)
theorem Cpy.snoc {B : Nat} (h : Cpy lo W U T) (ho : Own2 lo W u x) (h1 : ∀ b, u.1.ownBlock = some b → B ≤ b) (h2 : ∀ b, u.2.ownBlock = some b → B ≤ b) (hB : ∀ (j : Nat) (v : Value × Value), U[j]? = some v → (∀ b, v.1.ownBlock = some b → b < B) ∧ ∀ b, v.2.ownBlock = some b → b < B) : Cpy lo W (U ++ [u]) (T ++ [x]) := by
  have hl := h.len
  have last : ∀ {α : Type} {l : List α} {a b : α} {i : Nat}, (l ++ [a])[i]? = some b → (i < l.length ∧ l[i]? = some b) ∨ (i = l.length ∧ b = a) := by
    intro α l a b i hi
    rcases Nat.lt_or_ge i l.length with h | h
    · rw [List.getElem?_append_left h] at hi; exact .inl ⟨h, hi⟩
    · rw [List.getElem?_append_right h] at hi
      have h3 : i - l.length = 0 := by
        rcases Nat.eq_zero_or_pos (i - l.length) with h | h
        · exact h
        · rw [List.getElem?_eq_none (by simp; omega)] at hi; cases hi
      rw [h3] at hi
      simp at hi
      exact .inr ⟨by omega, hi.symm⟩
  refine ⟨by simp [hl], fun j u' x' hu hx => ?_, fun i j a b hij hi hj => ?_⟩
  · rcases last hu with ⟨g1, g2⟩ | ⟨g1, g2⟩
    · rcases last hx with ⟨g3, g4⟩ | ⟨g3, g4⟩
      · exact h.own j u' x' g2 g4
      · omega
    · rcases last hx with ⟨g3, g4⟩ | ⟨g3, g4⟩
      · omega
      · rw [g2, g4]; exact ho
  · rcases last hi with ⟨g1, g2⟩ | ⟨g1, g2⟩
    · rcases last hj with ⟨g3, g4⟩ | ⟨g3, g4⟩
      · exact h.ap i j a b hij g2 g4
      · subst g4
        have := hB i a g2
        exact ⟨fun k e e2 => by have := this.1 k e; have := h1 k e2; omega, fun k e e2 => by have := this.2 k e; have := h2 k e2; omega⟩
    · rcases last hj with ⟨g3, g4⟩ | ⟨g3, g4⟩
      · subst g2
        have := hB j b g4
        exact ⟨fun k e e2 => by have := this.1 k e2; have := h1 k e; omega, fun k e e2 => by have := this.2 k e2; have := h2 k e; omega⟩
      · omega
theorem own1_form {base : Nat} {e : TypeId} {v : Value} {m : Nat} {xs : List Value} (h : W.ownsRow base e 1 v m xs) : ∃ A c, v = .slice A m c ∧ (A = none → c = 0) ∧ m ≤ c := by
  rcases h.2 with ⟨rfl, rfl⟩ | ⟨g, cap, cur, rfl, _, _, h1, _⟩
  · exact ⟨none, 0, rfl, fun _ => rfl, Nat.le_refl _⟩
  · exact ⟨some ⟨g, 0, none⟩, cap, rfl, fun h => (by cases h), h1⟩
/-- nodes that were copied read as they were -/
theorem Cpy.xds (h : Cpy lo W U T) (hr : W.ownsRow lo 68 6 (.slice A n c) n (cpc U T)) (hn : T.length = n) : Xds W A n c T := by
  obtain ⟨A', c', e1, h1, h2⟩ := own6_form hr
  injection e1 with e1 _ e3
  subst e1
  subst e3
  refine ⟨hn, h2, h1, fun k x hx => ?_⟩
  have hk : k < T.length := (List.getElem?_eq_some_iff.1 hx).1
  obtain ⟨u, hu⟩ : ∃ u, U[k]? = some u := ⟨_, List.getElem?_eq_getElem (by rw [h.len]; exact hk)⟩
  have ho := h.own k u x hu hx
  obtain ⟨A1, c1, e1, p1, p2⟩ := own1_form ho.ids
  obtain ⟨A2, c2, e2, q1, q2⟩ := own1_form ho.pn
  rcases hr.2 with ⟨_, h0⟩ | ⟨g, cap, cur, hv', hbg, hg, _⟩
  · omega
  · have hA : A = some ⟨g, 0, none⟩ := by injection hv'
    subst hA
    have hc : ∀ (i : Nat) (y : Value), ([.bool x.leaf, u.1, u.2, .int .i64 x.po, .int .i64 x.lt, .int .i64 x.rt] : List Value)[i]? = some y → W.cell? ⟨g, 0 + k * 6 + i, none⟩ = some y := fun i y hy => by
      have := hr.cells (g := g) rfl (k * 6 + i) y (cpc_get hu hx i y hy)
      rw [Addr.add_lit] at this
      rwa [Nat.add_assoc]
    refine ⟨g, 0, rfl, lt_of_block hg, A1, x.ids.length, c1, A2, x.pn.length, c2, ⟨?_, ⟨?_, ho.in_⟩, by have := ho.l1; omega, by have := ho.l2; omega⟩, hc 0 _ rfl, by rw [← e1]; exact hc 1 _ rfl, by rw [← e2]; exact hc 2 _ rfl, hc 3 _ rfl, hc 4 _ rfl, hc 5 _ rfl⟩
    · have := ho.ids
      rw [e1] at this
      exact Sl.of_own this
    · have := ho.pn
      rw [e2] at this
      exact Lst.of_own this
theorem cpc_set (hu : U[j]? = some u) (hx : T[j]? = some x) (i : Nat) (y : Value) (hi : i < 6) (u' : Value × Value) (x' : Xm.Nd)
    (he : ([.bool x.leaf, u.1, u.2, .int .i64 x.po, .int .i64 x.lt, .int .i64 x.rt] : List Value).set i y = [.bool x'.leaf, u'.1, u'.2, .int .i64 x'.po, .int .i64 x'.lt, .int .i64 x'.rt]) : (cpc U T).set (j * 6 + i) y = cpc (U.set j u') (T.set j x') := by
  induction U generalizing T j with
  | nil => cases hu
  | cons a U ih =>
    cases T with
    | nil => cases hx
    | cons t T =>
      cases j with
      | zero =>
        simp only [List.getElem?_cons_zero] at hu hx
        injection hu with hu
        injection hx with hx
        subst hu
        subst hx
        rw [Nat.zero_mul, Nat.zero_add, cpc, List.set_append_left _ _ (by simpa using hi), he]
        rfl
      | succ j =>
        rw [cpc, List.set_append_right _ _ (by simp; omega)]
        have := ih (T := T) (j := j) (by simpa using hu) (by simpa using hx)
        rw [show (j + 1) * 6 + i - ([.bool t.leaf, a.1, a.2, .int .i64 t.po, .int .i64 t.lt, .int .i64 t.rt] : List Value).length = j * 6 + i from by simp; omega, this]
        rfl
/-- one node's lists are others: in rows that were its own, or are new -/
theorem Cpy.swap (h : Cpy lo W U T) (hu : U[j]? = some u) (u' : Value × Value) (x' : Xm.Nd) (ho : Own2 lo W' u' x') (hk : ∀ (i : Nat) (v : Value × Value) (y : Xm.Nd), i ≠ j → U[i]? = some v → T[i]? = some y → Own2 lo W' v y)
    (h1 : ∀ b, u'.1.ownBlock = some b → u.1.ownBlock = some b ∨ W.heap.size ≤ b) (h2 : ∀ b, u'.2.ownBlock = some b → u.2.ownBlock = some b ∨ W.heap.size ≤ b) : Cpy lo W' (U.set j u') (T.set j x') := by
  have lts : ∀ (i : Nat) (v : Value × Value), U[i]? = some v → (∀ b, v.1.ownBlock = some b → b < W.heap.size) ∧ ∀ b, v.2.ownBlock = some b → b < W.heap.size := fun i v hv => by
    obtain ⟨y, hy⟩ : ∃ y, T[i]? = some y := ⟨_, List.getElem?_eq_getElem (by rw [← h.len]; exact (List.getElem?_eq_some_iff.1 hv).1)⟩
    have := h.own i v y hv hy
    exact ⟨fun b e => (own_lt6 this.ids b e).2.1, fun b e => (own_lt6 this.pn b e).2.1⟩
  have getU : ∀ i v, (U.set j u')[i]? = some v → (i = j ∧ v = u') ∨ (i ≠ j ∧ U[i]? = some v) := fun i v hv => by
    rw [List.getElem?_set] at hv
    by_cases e : j = i
    · rw [if_pos e] at hv
      split at hv
      · injection hv with hv; exact .inl ⟨e.symm, hv.symm⟩
      · cases hv
    · rw [if_neg e] at hv; exact .inr ⟨fun e2 => e e2.symm, hv⟩
  refine ⟨by rw [List.length_set, List.length_set]; exact h.len, fun i v y hv hy => ?_, fun i k a b hik hi hk' => ?_⟩
  · have hy2 : (i = j ∧ y = x') ∨ (i ≠ j ∧ T[i]? = some y) := by
      rw [List.getElem?_set] at hy
      by_cases e : j = i
      · rw [if_pos e] at hy
        split at hy
        · injection hy with hy; exact .inl ⟨e.symm, hy.symm⟩
        · cases hy
      · rw [if_neg e] at hy; exact .inr ⟨fun e2 => e e2.symm, hy⟩
    rcases getU i v hv with ⟨e1, e2⟩ | ⟨e1, e2⟩
    · rcases hy2 with ⟨e3, e4⟩ | ⟨e3, e4⟩
      · rw [e2, e4]; exact ho
      · exact absurd e1 e3
    · rcases hy2 with ⟨e3, e4⟩ | ⟨e3, e4⟩
      · exact absurd e3 e1
      · exact hk i v y e1 e2 e4
  · rcases getU i a hi with ⟨e1, e2⟩ | ⟨e1, e2⟩
    · rcases getU k b hk' with ⟨e3, e4⟩ | ⟨e3, e4⟩
      · omega
      · subst e2
        have hap := h.ap j k u b (fun e => e3 e.symm) hu e4
        have hl := lts k b e4
        refine ⟨fun q e e' => ?_, fun q e e' => ?_⟩
        · rcases h1 q e with f | f
          · exact hap.1 q f e'
          · have := hl.1 q e'; omega
        · rcases h2 q e with f | f
          · exact hap.2 q f e'
          · have := hl.2 q e'; omega
    · rcases getU k b hk' with ⟨e3, e4⟩ | ⟨e3, e4⟩
      · subst e4
        have hap := h.ap i j a u e1 e2 hu
        have hl := lts i a e2
        refine ⟨fun q e e' => ?_, fun q e e' => ?_⟩
        · rcases h1 q e' with f | f
          · exact hap.1 q e f
          · have := hl.1 q e; omega
        · rcases h2 q e' with f | f
          · exact hap.2 q e f
          · have := hl.2 q e; omega
      · exact h.ap i k a b hik e2 e4
/-- a cell of the row of nodes is written -/
theorem Own2.cell {g i m c : Nat} {xs : List Value} {z : Value} (h : Own2 lo W u x) (hr : W.ownsRow lo 68 6 (.slice (some ⟨g, 0, none⟩) m c) m xs) : Own2 lo (W.setCell ⟨g, i, none⟩ z) u x :=
  h.keep (fun b e => Below.heap_setCell _ _ _ _ (show b ≠ g from fun e2 => (h.kind hr g rfl).1 (e2 ▸ e))) fun b e => Below.heap_setCell _ _ _ _ (show b ≠ g from fun e2 => (h.kind hr g rfl).2 (e2 ▸ e))
/-- a number of one node is written -/
theorem Cpy.put {g i m c : Nat} {z : Value} (h : Cpy lo W U T) (hr : W.ownsRow lo 68 6 (.slice (some ⟨g, 0, none⟩) m c) m (cpc U T)) (hu : U[j]? = some u) (hx : T[j]? = some x) (hi : i < 6) (x' : Xm.Nd) (h1 : x'.ids = x.ids) (h2 : x'.pn = x.pn)
    (he : ([.bool x.leaf, u.1, u.2, .int .i64 x.po, .int .i64 x.lt, .int .i64 x.rt] : List Value).set i z = [.bool x'.leaf, u.1, u.2, .int .i64 x'.po, .int .i64 x'.lt, .int .i64 x'.rt]) :
    (W.setCell ⟨g, j * 6 + i, none⟩ z).ownsRow lo 68 6 (.slice (some ⟨g, 0, none⟩) m c) m (cpc U (T.set j x')) ∧ Cpy lo (W.setCell ⟨g, j * 6 + i, none⟩ z) U (T.set j x') ∧ Below lo W (W.setCell ⟨g, j * 6 + i, none⟩ z) := by
  have hj : j < T.length := (List.getElem?_eq_some_iff.1 hx).1
  have hUs : U.set j u = U := by
    obtain ⟨h3, h4⟩ := List.getElem?_eq_some_iff.1 hu
    rw [← h4]
    exact List.set_getElem_self h3
  refine ⟨?_, ?_, (Below.refl lo W).setCell (p := ⟨g, j * 6 + i, none⟩) (own_lt6 hr g rfl).1 z⟩
  · have := own_set (u := z) (i := j * 6 + i) hr (by rw [cpc_length h.len]; omega)
    rwa [cpc_set hu hx i z hi u x' he, hUs] at this
  · have ho := h.own j u x hu hx
    have := h.swap (W' := W.setCell ⟨g, j * 6 + i, none⟩ z) hu u x' ⟨by rw [h1]; exact (ho.cell hr).ids, by rw [h2]; exact (ho.cell hr).pn, by rw [h2]; exact ho.in_, by rw [h1]; exact ho.l1, by rw [h2]; exact ho.l2⟩
      (fun i v y _ hv hy => (h.own i v y hv hy).cell hr) (fun b e => .inl e) (fun b e => .inl e)
    rwa [hUs] at this
/-- one more id in one node's list -/
theorem Cpy.more1 {g m c : Nat} {by_ : Int} {w1 w6 : World} {z : Value} (h : Cpy lo W U T) (hr : W.ownsRow lo 68 6 (.slice (some ⟨g, 0, none⟩) m c) m (cpc U T)) (hu : U[j]? = some u) (hx : T[j]? = some x) (hb : Below W.heap.size W w1)
    (r1 : w6.ownsRow lo 3 1 z (x.ids.length + 1) (ci x.ids ++ [.int .i64 by_])) (r2 : w1.grownBy w6 u.1.ownBlock) (r3 : ∀ b, z.ownBlock = some b → u.1.ownBlock = some b ∨ b = w1.heap.size) (hl : x.ids.length + 1 ≤ 5001) (hlo : lo ≤ W.heap.size) (x' : Xm.Nd) (hx' : x' = { x with ids := x.ids ++ [by_] }) :
    w6.ownsRow lo 68 6 (.slice (some ⟨g, 0, none⟩) m c) m (cpc U T) ∧ (w6.setCell ⟨g, j * 6 + 1, none⟩ z).ownsRow lo 68 6 (.slice (some ⟨g, 0, none⟩) m c) m (cpc (U.set j (z, u.2)) (T.set j x')) ∧
      Cpy lo (w6.setCell ⟨g, j * 6 + 1, none⟩ z) (U.set j (z, u.2)) (T.set j x') ∧ Below lo W (w6.setCell ⟨g, j * 6 + 1, none⟩ z) := by
  have hj : j < T.length := (List.getElem?_eq_some_iff.1 hx).1
  have ho := h.own j u x hu hx
  have old : ∀ q, q < W.heap.size → u.1.ownBlock ≠ some q → w6.heap[q]? = W.heap[q]? := fun q hq hn => (r2.block q (Nat.lt_of_lt_of_le hq hb.size) (fun e => hn e.symm)).trans (hb.block q hq)
  have row6 : w6.ownsRow lo 68 6 (.slice (some ⟨g, 0, none⟩) m c) m (cpc U T) := own_keep6 hr fun q e => old q (own_lt6 hr q e).2.1 (ho.kind hr q e).1
  have oth : ∀ (i : Nat) (v : Value × Value) (y : Xm.Nd), i ≠ j → U[i]? = some v → T[i]? = some y → Own2 lo w6 v y := fun i v y hi hv hy => by
    have hv2 := h.own i v y hv hy
    exact hv2.keep (fun b e => old b (own_lt6 hv2.ids b e).2.1 fun e2 => (h.ap j i u v (fun e => hi e.symm) hu hv).1 b e2 e) fun b e => old b (own_lt6 hv2.pn b e).2.1 fun e2 => ho.unlike hv2 b e2 e
  have hme : Own2 lo w6 (z, u.2) x' := by
    subst hx'
    refine ⟨?_, own_keep6 ho.pn fun b e => old b (own_lt6 ho.pn b e).2.1 fun e2 => ho.unlike ho b e2 e, ho.in_, by simpa using hl, ho.l2⟩
    have : ci (x.ids ++ [by_]) = ci x.ids ++ [.int .i64 by_] := by simp [ci]
    rw [this]
    simpa using r1
  refine ⟨row6, ?_, h.swap (W' := w6.setCell ⟨g, j * 6 + 1, none⟩ z) hu (z, u.2) x' (hme.cell row6) (fun i v y hi hv hy => (oth i v y hi hv hy).cell row6) (fun b e => ?_) (fun b e => .inl e), ?_⟩
  · have := own_set (u := z) (i := j * 6 + 1) row6 (by rw [cpc_length h.len]; omega)
    rwa [cpc_set hu hx 1 z (by omega) (z, u.2) x' (by subst hx'; rfl)] at this
  · rcases r3 b e with f | f
    · exact .inl f
    · exact .inr (by rw [f]; exact hb.size)
  · exact ((hb.mono hlo).grown r2 (Nat.le_trans hlo hb.size) (fun q e => (own_lt6 ho.ids q e).1)).setCell (p := ⟨g, j * 6 + 1, none⟩) (own_lt6 hr g rfl).1 z
/-- one more coordinate in one node's plane -/
theorem Cpy.more2 {g m c : Nat} {w1 w6 : World} {z : Value} (h : Cpy lo W U T) (hr : W.ownsRow lo 68 6 (.slice (some ⟨g, 0, none⟩) m c) m (cpc U T)) (hu : U[j]? = some u) (hx : T[j]? = some x) (hb : Below W.heap.size W w1)
    (r1 : w6.ownsRow lo 21 1 z (x.pn.length + 1) (x.pn.map (Value.int .i32) ++ [.int .i32 0])) (r2 : w1.grownBy w6 u.2.ownBlock) (r3 : ∀ b, z.ownBlock = some b → u.2.ownBlock = some b ∨ b = w1.heap.size) (hl : x.pn.length + 1 ≤ 5001) (hlo : lo ≤ W.heap.size) (x' : Xm.Nd) (hx' : x' = { x with pn := x.pn ++ [0] }) :
    w6.ownsRow lo 68 6 (.slice (some ⟨g, 0, none⟩) m c) m (cpc U T) ∧ (w6.setCell ⟨g, j * 6 + 2, none⟩ z).ownsRow lo 68 6 (.slice (some ⟨g, 0, none⟩) m c) m (cpc (U.set j (u.1, z)) (T.set j x')) ∧
      Cpy lo (w6.setCell ⟨g, j * 6 + 2, none⟩ z) (U.set j (u.1, z)) (T.set j x') ∧ Below lo W (w6.setCell ⟨g, j * 6 + 2, none⟩ z) := by
  have hj : j < T.length := (List.getElem?_eq_some_iff.1 hx).1
  have ho := h.own j u x hu hx
  have old : ∀ q, q < W.heap.size → u.2.ownBlock ≠ some q → w6.heap[q]? = W.heap[q]? := fun q hq hn => (r2.block q (Nat.lt_of_lt_of_le hq hb.size) (fun e => hn e.symm)).trans (hb.block q hq)
  have row6 : w6.ownsRow lo 68 6 (.slice (some ⟨g, 0, none⟩) m c) m (cpc U T) := own_keep6 hr fun q e => old q (own_lt6 hr q e).2.1 (ho.kind hr q e).2
  have oth : ∀ (i : Nat) (v : Value × Value) (y : Xm.Nd), i ≠ j → U[i]? = some v → T[i]? = some y → Own2 lo w6 v y := fun i v y hi hv hy => by
    have hv2 := h.own i v y hv hy
    exact hv2.keep (fun b e => old b (own_lt6 hv2.ids b e).2.1 fun e2 => hv2.unlike ho b e e2) fun b e => old b (own_lt6 hv2.pn b e).2.1 fun e2 => (h.ap j i u v (fun e => hi e.symm) hu hv).2 b e2 e
  have hme : Own2 lo w6 (u.1, z) x' := by
    subst hx'
    refine ⟨own_keep6 ho.ids fun b e => old b (own_lt6 ho.ids b e).2.1 fun e2 => ho.unlike ho b e e2, ?_, fun y hy => ?_, ho.l1, by simpa using hl⟩
    · simpa using r1
    · rcases List.mem_append.1 hy with hy | hy
      · exact ho.in_ y hy
      · simp at hy; subst hy; omega
  refine ⟨row6, ?_, h.swap (W' := w6.setCell ⟨g, j * 6 + 2, none⟩ z) hu (u.1, z) x' (hme.cell row6) (fun i v y hi hv hy => (oth i v y hi hv hy).cell row6) (fun b e => .inl e) (fun b e => ?_), ?_⟩
  · have := own_set (u := z) (i := j * 6 + 2) row6 (by rw [cpc_length h.len]; omega)
    rwa [cpc_set hu hx 2 z (by omega) (u.1, z) x' (by subst hx'; rfl)] at this
  · rcases r3 b e with f | f
    · exact .inl f
    · exact .inr (by rw [f]; exact hb.size)
  · exact ((hb.mono hlo).grown r2 (Nat.le_trans hlo hb.size) (fun q e => (own_lt6 ho.pn q e).1)).setCell (p := ⟨g, j * 6 + 2, none⟩) (own_lt6 hr g rfl).1 z
theorem Xds.take {b off : Nat} (h : Xds W (some ⟨b, off, none⟩) n c T) (hj : j ≤ n) : Xds W (some ⟨b, off, none⟩) j c (T.take j) :=
  ⟨by rw [List.length_take, h.len]; omega, Nat.le_trans hj h.cap, (fun e => by cases e), fun k x hx => h.at_ k x (by
    have hk : k < (T.take j).length := (List.getElem?_eq_some_iff.1 hx).1
    rw [List.length_take] at hk
    rwa [List.getElem?_take_of_lt (by omega)] at hx)⟩
end
end Go.Proofs.Ytecdgpacofojeaa
