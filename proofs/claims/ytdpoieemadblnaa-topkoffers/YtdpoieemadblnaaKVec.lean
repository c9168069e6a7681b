/-
  Layer 8 (topk): own words for memory: a slice of entries that reads as a list.
-/
import Derived.Test.YtdpoieemadblnaaKMem
import Derived.Test.YtdpoieemadblnaaOSlc
namespace Go.Proofs.Ytdpoieemadblnaa
open Go.RowKit

/-- a slice that reads as the list l -/
def VecK (w : World) (A : Option Addr) (n : Nat) (l : List Km.Ent) : Prop :=
  l.length = n ∧ (0 < n → ∃ b off, A = some ⟨b, off, none⟩ ∧ b < w.heap.size ∧ ∀ j u, (ce3 l)[j]? = some u → w.cell? ⟨b, off + j, none⟩ = some u)
section
variable {w w' : World} {A : Option Addr} {n : Nat} {l : List Km.Ent}
theorem VecK.length (h : VecK w A n l) : l.length = n := h.1
theorem VecK.nil_ (w : World) (A : Option Addr) : VecK w A 0 [] := ⟨rfl, fun h => absurd h (by omega)⟩
theorem VecK.below (h : VecK w A n l) (hb : Below w.heap.size w w') : VecK w' A n l :=
  ⟨h.1, fun hn => by
    obtain ⟨b, off, e, hlt, hc⟩ := h.2 hn
    exact ⟨b, off, e, Nat.lt_of_lt_of_le hlt hb.size, fun j u hu => (hb.cell (p := ⟨b, off + j, Option.none⟩) hlt).trans (hc j u hu)⟩⟩
theorem VecK.of_own {base : Nat} {e : TypeId} {c : Nat} (h : w.ownsRow base e 3 (.slice A n c) n (ce3 l)) : VecK w A n l := by
  have hl : l.length = n := by have := h.1; rw [ce3_length] at this; omega
  refine ⟨hl, fun hn => ?_⟩
  rcases h.2 with ⟨_, h0⟩ | ⟨g, cap, cur, hv, _, hg, _, _, hcs, ht⟩
  · omega
  · have hA : A = some ⟨g, 0, Option.none⟩ := by injection hv
    subst hA
    refine ⟨g, 0, rfl, lt_of_block hg, fun j u hu => ?_⟩
    rw [Nat.zero_add, cell_of_row _ _ _ _ _ _ hg, ← Array.getElem?_toList]
    rw [← ht, List.getElem?_take] at hu
    split at hu
    · exact hu
    · cases hu
end
/-- append of a list that reads, nil too, to a row of the call's own -/
theorem append_vec3 {P : Program} (w : World) {ops : Array Oper} {rest : List Oper} {o : Oper} {a : Act} {Q : Exit → Act → World → Prop} (hgd : o.guard = none) (s x : Operand) (t : TypeId)
    (ho : o.op = .call { callee := .builtin .append, args := #[s, x], argTypes := #[t, t] })
    (base : Nat) (e : TypeId) (i : TypeInfo) (z : Value) (bytes : Nat) (ht : P.underlying t = some (.slice e)) (hi : P.info? e = some i) (hz : i.zero = some z)
    (hsize : i.size = 3) (hby : i.bytes = bytes) (hzs : z.cells.size = 3)
    (v : Value) (n : Nat) (xs : List Km.Ent) (hs : a.eval s = v) (hown : w.ownsRow base e 3 v n (ce3 xs))
    (A : Option Addr) (m c : Nat) (news : List Km.Ent) (hx : a.eval x = .slice A m c) (hA : A = none → c = 0) (hL : VecK w A m news)
    (h63 : n + m ≤ maxLen) (hbytes : (n + m) * bytes ≤ 140737488355328) (hbase : base ≤ w.heap.size)
    (h : ∀ v' w', w'.ownsRow base e 3 v' (n + m) (ce3 (xs ++ news)) → w.grownBy w' v.ownBlock → wpList P ops Q rest (a.put o.dst v') w') : wpList P ops Q (o :: rest) a w := by
  cases A with
  | none =>
    obtain rfl : m = 0 := by
      rcases Nat.eq_zero_or_pos m with h0 | h0
      · exact h0
      · obtain ⟨_, _, hc, _⟩ := hL.2 h0; cases hc
    obtain rfl : news = [] := List.length_eq_zero_iff.1 hL.1
    obtain rfl := hA rfl
    exact wpList_append_own_none hgd s x t ho base e i 3 ht hi v n (ce3 xs) hs hown hx (h v w (by simpa using hown) (World.grownBy.refl _ _))
  | some ad =>
    refine wpList_append_own w hgd s x t ho base e i z 3 bytes ht hi hz hsize hby hzs (by decide) v n (ce3 xs) hs hown ad m c (ce3 news) hx (by rw [ce3_length, hL.1]) ?_ (ce3_one news) h63 hbytes hbase fun v' w' h2 h3 _ => h v' w' (by rw [ce3_append]; exact h2) h3
    intro j u hu
    have hj : 0 < m := by have := (List.getElem?_eq_some_iff.1 hu).1; rw [ce3_length] at this; have := hL.1; omega
    obtain ⟨b, off, hc, _, hcell⟩ := hL.2 hj
    injection hc with hc
    subst hc
    rw [Addr.add_lit]
    exact hcell j u hu
theorem own_none3 {w : World} {t : TypeId} {g base : Nat} (h : w.heap[g]? = some (.cells #[] t (0, 0))) (hg : base ≤ g) : w.ownsRow base t 3 (.slice (some ⟨g, 0, none⟩) 0 0) 0 (ce3 []) :=
  ⟨rfl, .inr ⟨g, 0, #[], rfl, hg, h, Nat.le_refl _, Nat.zero_le _, rfl, rfl⟩⟩
theorem own_below3 {w w' : World} {base : Nat} {e : TypeId} {v : Value} {n : Nat} {xs : List Value} (h : w.ownsRow base e 3 v n xs) (hb : Below w.heap.size w w') : w'.ownsRow base e 3 v n xs := by
  refine ⟨h.1, ?_⟩
  rcases h.2 with h0 | ⟨g, cap, cur, hv, hg, hh, hr⟩
  · exact .inl h0
  · exact .inr ⟨g, cap, cur, hv, hg, by rw [hb.block g (lt_of_block hh)]; exact hh, hr⟩
/-- what an append to a heap's list comes to, ahead of the store -/
theorem kpushed {T t : TypeId} {F : Value} {sz : Nat} {w W0 W2 : World} {S : Nat → Prop} {B n c g' cap' : Nat} {A : Option Addr} {cs : List Value}
    (h : Hd T F t sz w S B n cs) (hb : w.heap[B]? = some (.cells #[F, .slice A n c] T (0, 0))) (hS : ∀ k, (Value.slice A n c).ownBlock = some k → S k ∧ k ≠ B)
    (hW : Below w.heap.size w W0) (hg : W0.grownBy W2 (Value.slice A n c).ownBlock) (hl : (Value.slice A n c).ownBlock = some g' ∨ g' = W0.heap.size) {cs' : List Value} {n' : Nat} (ho : W2.ownsRow 0 t sz (.slice (some ⟨g', 0, none⟩) n' cap') n' cs') :
    W2.heap[B]? = some (.cells #[F, .slice A n c] T (0, 0)) ∧ Kept S w (W2.setCell ⟨B, 1, none⟩ (.slice (some ⟨g', 0, none⟩) n' cap')) ∧ (S g' ∨ w.heap.size ≤ g') ∧
    In T F t sz (W2.setCell ⟨B, 1, none⟩ (.slice (some ⟨g', 0, none⟩) n' cap')) B g' n' cap' cs' := by
  have hs0 := hW.size
  have hBlt := h.lt
  have hB0 : W0.heap[B]? = some (.cells #[F, .slice A n c] T (0, 0)) := (hW.block B hBlt).trans hb
  have hB2 : W2.heap[B]? = some (.cells #[F, .slice A n c] T (0, 0)) := by
    rw [hg.block B (by omega) (fun e => (hS B e.symm).2 rfl)]
    exact hB0
  have hg' : S g' ∨ w.heap.size ≤ g' := by
    rcases hl with e | e
    · exact .inl (hS g' e).1
    · exact .inr (by omega)
  have hne : B ≠ g' := by
    rcases hl with e | e
    · exact fun q => (hS g' e).2 q.symm
    · omega
  have k2 : Kept S w W2 := (Kept.of_below hW).grown hg fun i e => .inl (hS i e).1
  refine ⟨hB2, k2.setCell (.inl h.1), hg', In.of_own (base := 0) (by rw [heap_setCell_same _ _ _ _ _ _ hB2]; rfl) ?_ hne⟩
  refine ho.kept (row := some B) ⟨rfl, rfl, rfl, by simp [World.setCell], fun k _ hk => Below.heap_setCell _ _ _ _ (fun e => hk (by rw [e]))⟩ (.inr (by simp [Value.ownBlock]; exact fun e => hne e.symm))

theorem kept_box {S : Nat → Prop} {w : World} (o : Obj) : Kept S w (w.alloc o) := Kept.of_below ((Below.refl _ w).alloc (Nat.le_refl _) o)
theorem heap_drew_n (W : World) (d : Nat) : (W.drewN d).heap = W.heap := by
  induction d with
  | zero => rfl
  | succ d ih => exact ih
theorem own_heap3 {w w' : World} {base : Nat} {e : TypeId} {v : Value} {n : Nat} {xs : List Value} (h : w.ownsRow base e 3 v n xs) (hh : w'.heap = w.heap) : w'.ownsRow base e 3 v n xs := by
  unfold World.ownsRow at *
  rw [hh]
  exact h
end Go.Proofs.Ytdpoieemadblnaa
