/-
  Layer 9 (marks): own words for memory: a slice of numbers, rows of one's own, an append where a region draws its order.
-/
import Derived.Test.YtecdgpacofojeaaMH
import Derived.Test.YtecdgpacofojeaaNMath
import Derived.BigRegion
import Derived.StillTailTactics
import Derived.Deep.RegionHeld3
import Derived.Deep.RegionLaw
import Derived.BigQuiet
namespace Go.Proofs.Ytecdgpacofojeaa
open Go.RowKit

theorem Try.infoI : (Try.prog.info? 3).map (fun i => (i.zero, i.size, i.bytes)) = some (some (.int .i64 0), 1, 8) := by kernel_rfl
/-- the cells of a list of integers -/
def ci (l : List Int) : List Value := l.map (Value.int .i64)
theorem ci_at {l : List Int} {i : Nat} {x : Int} (h : l[i]? = some x) : (ci l)[i]? = some (.int .i64 x) := by simp [ci, h]
theorem ci_length (l : List Int) : (ci l).length = l.length := by simp [ci]
theorem ci_take (l : List Int) (k : Nat) : (ci l).take k = ci (l.take k) := by simp [ci, List.map_take]
theorem ci_app (a b : List Int) : ci a ++ ci b = ci (a ++ b) := by simp [ci]
theorem heap_new (w : World) (cs : Array Value) (t : TypeId) : (w.alloc (.cells cs t)).heap[w.heap.size]? = some (.cells cs t (0, 0)) := heap_alloc_new w _
theorem bdrew {B : Nat} {w w' : World} (h : Below B w w') (d : Nat) : Below B w (w'.drewN d) := by
  induction d with
  | zero => exact h
  | succ d ih => exact ih.drew
theorem heap_drewN (w : World) (d : Nat) : (w.drewN d).heap = w.heap := by
  induction d with
  | zero => rfl
  | succ d ih => exact ih
/-- append of a list that reads, nil too, at a step of a region that draws its order -/
theorem step_append_lst {P : Program} {w : World} {ops : Array Oper} {o : Oper} {a : Act} {K : Act → World → Prop} {Q : Exit → Act → World → Prop} {E : Prop} (hgd : o.guard = none) (s x : Operand) (t : TypeId)
    (ho : o.op = .call { callee := .builtin .append, args := #[s, x], argTypes := #[t, t] })
    (base : Nat) (e : TypeId) (i : TypeInfo) (z : Value) (bytes : Nat) (ht : P.underlying t = some (.slice e)) (hi : P.info? e = some i) (hz : i.zero = some z)
    (hsize : i.size = 1) (hby : i.bytes = bytes) (hzs : z.cells.size = 1)
    (v : Value) (n : Nat) (xs : List Value) (hs : a.eval s = v) (hown : w.ownsRow base e 1 v n xs)
    (B : Nat) (A : Option Addr) (m c : Nat) (news : List Value) (hx : a.eval x = .slice A m c) (hA : A = none → c = 0) (hL : Lst w B A m news) (h1 : ∀ u ∈ news, u.oneCell' = true)
    (h63 : n + m ≤ maxLen) (hbytes : (n + m) * bytes ≤ 140737488355328) (hbase : base ≤ w.heap.size)
    (h : ∀ v' w', w'.ownsRow base e 1 v' (n + m) (xs ++ news) → w.grownBy w' v.ownBlock → K (a.put o.dst v') w') :
    if Region.wanted o (yielded ops a.tmps) = true then Oper.wp P o a w K Q else E := by
  have hw : Region.wanted o (yielded ops a.tmps) = true := by simp [Region.wanted, hgd]
  rw [if_pos hw]
  cases A with
  | none =>
    obtain rfl : m = 0 := by
      rcases Nat.eq_zero_or_pos m with h0 | h0
      · exact h0
      · obtain ⟨_, _, hc, _⟩ := hL.2 h0; cases hc
    obtain rfl : news = [] := List.length_eq_zero_iff.1 hL.1
    obtain rfl := hA rfl
    have hrun := run_append_owned_none (P := P) (w := w) base t o.type e i 1 ht hi v n xs hown
    have hK := h v w (by simpa using hown) (World.grownBy.refl _ _)
    unfold Oper.wp
    simp [execOp, ho, resolve, invoke, builtin, hs, hx, hrun, Result.andThen]
    exact hK
  | some ad =>
    refine wp_append_own w s x t ho base e i z 1 bytes ht hi hz hsize hby hzs (by decide) v n xs hs hown ad m c news hx (by rw [hL.1]; omega) ?_ h1 h63 hbytes hbase fun v' w' h2 h3 _ => h v' w' h2 h3
    intro j u hu
    have hj : 0 < m := by have := (List.getElem?_eq_some_iff.1 hu).1; have := hL.1; omega
    obtain ⟨b, off, hc, _, hcell⟩ := hL.2 hj
    injection hc with hc
    subst hc
    rw [Addr.add_lit]
    exact hcell j u hu
theorem lst_take {w : World} {B n k : Nat} {A : Option Addr} {l : List Int} (h : Lst w B A n (ci l)) (hk : k ≤ n) : Lst w B A k (ci (l.take k)) := by
  have hl := h.1
  rw [ci_length] at hl
  refine ⟨by rw [ci_length]; simp; omega, fun h0 => ?_⟩
  obtain ⟨b, off, e, hb, hc⟩ := h.2 (by omega)
  refine ⟨b, off, e, hb, fun j u hu => hc j u ?_⟩
  rw [← ci_take, List.getElem?_take] at hu
  split at hu
  · exact hu
  · cases hu
theorem lst_cut {w : World} {B n k c b off : Nat} {l : List Int} (h : Lst w B (some ⟨b, off, none⟩) n (ci l)) (hk : k ≤ n) (hc : n ≤ c) : Lst w B (if c = k then some ⟨b, off, none⟩ else some ⟨b, off + k, none⟩) (n - k) (ci (l.drop k)) := by
  have hl := h.1
  rw [ci_length] at hl
  refine ⟨by rw [ci_length]; simp; omega, fun h0 => ?_⟩
  rw [if_neg (by omega)]
  obtain ⟨b', off', e, hb, hc⟩ := h.2 (by omega)
  injection e with e
  injection e with e1 e2
  subst e1
  subst e2
  refine ⟨b, off + k, rfl, hb, fun j u hu => ?_⟩
  rw [Nat.add_assoc]
  refine hc (k + j) u ?_
  simpa [ci, List.getElem?_drop] using hu
theorem own_heap {w w' : World} {base : Nat} {e : TypeId} {v : Value} {n : Nat} {xs : List Value} (h : w.ownsRow base e 1 v n xs) (hh : w'.heap = w.heap) : w'.ownsRow base e 1 v n xs := by
  refine ⟨h.1, ?_⟩
  rcases h.2 with h0 | ⟨g, cap, cur, h1, h2, h3, h4⟩
  · exact .inl h0
  · exact .inr ⟨g, cap, cur, h1, h2, by rw [hh]; exact h3, h4⟩
theorem own_below {w w' : World} {base : Nat} {e : TypeId} {v : Value} {n : Nat} {xs : List Value} (h : w.ownsRow base e 1 v n xs) (hb : Below w.heap.size w w') : w'.ownsRow base e 1 v n xs := by
  refine ⟨h.1, ?_⟩
  rcases h.2 with h0 | ⟨g, cap, cur, h1, h2, h3, h4⟩
  · exact .inl h0
  · exact .inr ⟨g, cap, cur, h1, h2, (hb.block g (lt_of_block h3)).trans h3, h4⟩
theorem own_form {w : World} {base : Nat} {e : TypeId} {v : Value} {n : Nat} {xs : List Value} (h : w.ownsRow base e 1 v n xs) : ∃ A c, v = .slice A n c ∧ (A = none → c = 0) ∧ n ≤ c := by
  rcases h.2 with ⟨rfl, rfl⟩ | ⟨g, cap, cur, rfl, _, _, h1, _⟩
  · exact ⟨none, 0, rfl, fun _ => rfl, Nat.le_refl _⟩
  · exact ⟨some ⟨g, 0, none⟩, cap, rfl, fun h => (by cases h), h1⟩
theorem own_block {w : World} {B0 : Nat} {e : TypeId} {v : Value} {n : Nat} {xs : List Value} (h : w.ownsRow B0 e 1 v n xs) : ∀ k, v.ownBlock = some k → B0 ≤ k := by
  intro k hk
  rcases h.2 with ⟨rfl, rfl⟩ | ⟨g, cap, cur, rfl, hb, _⟩
  · simp [Value.ownBlock] at hk
  · simp [Value.ownBlock] at hk; omega
theorem own_none {w : World} {t : TypeId} {g base : Nat} (h : w.heap[g]? = some (.cells #[] t (0, 0))) (hg : base ≤ g) : w.ownsRow base t 1 (.slice (some ⟨g, 0, none⟩) 0 0) 0 [] :=
  ⟨rfl, .inr ⟨g, 0, #[], rfl, hg, h, Nat.le_refl _, Nat.zero_le _, rfl, rfl⟩⟩
theorem heap_first (w : World) (cs cs' : Array Value) {t t' : TypeId} : ((w.alloc (.cells cs t)).alloc (.cells cs' t')).drew.heap[w.heap.size]? = some (.cells cs t (0, 0)) := by
  show ((w.alloc (.cells cs t)).alloc (.cells cs' t')).heap[w.heap.size]? = _
  rw [Below.heap_alloc _ _ _ (by simp)]
  exact heap_alloc_new w _
theorem heap_next (w : World) (cs cs' : Array Value) {t t' : TypeId} : ((w.alloc (.cells cs t)).alloc (.cells cs' t')).drew.heap[w.heap.size + 1]? = some (.cells cs' t' (0, 0)) := by
  have := heap_alloc_new (w.alloc (.cells cs t)) (.cells cs' t')
  rwa [show (w.alloc (.cells cs t)).heap.size = w.heap.size + 1 from by simp] at this
/-- one number in a block of its own -/
theorem lst_one {w : World} {t : TypeId} {g : Nat} {x : Int} (h : w.heap[g]? = some (.cells #[.int .i64 x] t (0, 0))) : Lst w w.heap.size (some ⟨g, 0, none⟩) 1 (ci [x]) :=
  ⟨rfl, fun _ => ⟨g, 0, rfl, lt_of_block h, fun j u hu => by rw [cell_of_row _ _ _ _ _ _ h, Nat.zero_add]; simpa [ci] using hu⟩⟩

/-- a slice of integers that reads as l -/
structure Sl (w : World) (A : Option Addr) (n c : Nat) (l : List Int) : Prop where
  lst : Lst w w.heap.size A n (ci l)
  cap : n ≤ c
  nil : A = none → c = 0
section
variable {w w' : World} {A : Option Addr} {n c : Nat} {l : List Int}
theorem Sl.length (h : Sl w A n c l) : l.length = n := by have := h.lst.1; rwa [ci_length] at this
theorem Sl.below (h : Sl w A n c l) (hb : Below w.heap.size w w') : Sl w' A n c l := ⟨(h.lst.below hb).more hb.size, h.cap, h.nil⟩
theorem Sl.drewN (h : Sl w A n c l) (d : Nat) : Sl (w.drewN d) A n c l := h.below (bdrew (Below.refl _ w) d)
theorem Sl.none_ (w : World) : Sl w none 0 0 [] := ⟨Lst.nil _ _ _, Nat.le_refl _, fun _ => rfl⟩
theorem Sl.of_own {base : Nat} {e : TypeId} (h : w.ownsRow base e 1 (.slice A n c) n (ci l)) : Sl w A n c l := by
  obtain ⟨A', c', e1, h1, h2⟩ := own_form h
  injection e1 with e1 _ e3
  subst e1
  subst e3
  exact ⟨Lst.of_own h, h2, h1⟩
theorem Sl.of_row {cap : Nat} {zs : List Int} (h : IsRow .i64 w A n cap zs) : Sl w A n cap (zs.take n) := by
  obtain ⟨h1, _, h2, _, h3⟩ := h.lst
  exact ⟨h1, h2, h3⟩
theorem Sl.at_ (h : Sl w A n c l) {k : Nat} {x : Int} (hx : l[k]? = some x) : ∃ b off, A = some ⟨b, off, none⟩ ∧ b < w.heap.size ∧ w.cell? ⟨b, off + k, none⟩ = some (.int .i64 x) := by
  have hk : k < n := by have := (List.getElem?_eq_some_iff.1 hx).1; have := h.length; omega
  obtain ⟨b, off, e, hb, hc⟩ := h.lst.at_ hk
  exact ⟨b, off, e, hb, by rw [hc, ci_at hx]⟩
theorem Sl.get (h : Sl w A n c l) {k : Nat} (hk : k < n) : ∃ x, l[k]? = some x := ⟨_, List.getElem?_eq_getElem (by rw [h.length]; exact hk)⟩
theorem Sl.zero (h : Sl w A 0 c l) : l = [] := List.length_eq_zero_iff.1 h.length
theorem Sl.isNone (h : Sl w none n c l) : n = 0 ∧ c = 0 ∧ l = [] := by
  have hc := h.nil rfl
  have hn := h.cap
  have h0 : n = 0 := by omega
  subst h0
  exact ⟨rfl, hc, h.zero⟩
end
end Go.Proofs.Ytecdgpacofojeaa
