/-
  Layer 10 (data): vectors that are told, gathered one by one in a row of one's own whose variable lies in a block.
-/
import Derived.Test.YtafkbagjjknhlaaDIter
namespace Go.Proofs.Ytafkbagjjknhlaa
open Go.RowKit Go.Shelf

/-- the first k of K are gathered in v, whose variable is block p; the loop begins in WD (its two blocks are the next ones) -/
structure GatD (WD : World) (p D : Nat) (K : List (List Int)) (k : Nat) (v : Value) (W : World) : Prop where
  var : W.heap[p]? = some (.cells #[v] 22 (0, 0))
  ex : ∃ gs, W.ownsRow (WD.heap.size + 2) 55 1 v k (gs.map (sl D)) ∧ Bks W gs (K.take k) ∧ ∀ g ∈ gs, WD.heap.size + 2 ≤ g
  sz : WD.heap.size + 2 ≤ W.heap.size
  kp : Kept (fun q => q = p) WD W
section
variable {WD W W' : World} {p D k : Nat} {K : List (List Int)} {v : Value}
theorem GatD.off (h : GatD WD p D K k v W) (hp : p < WD.heap.size) (ho : Off (WD.heap.size + 1) W W') : GatD WD p D K k v W' := by
  obtain ⟨gs, h1, h2, h3⟩ := h.ex
  refine ⟨(ho.block _ (by omega)).trans h.var, ⟨gs, own_keepS h1 fun q e => ho.block q (by have := own_block h1 q e; omega), h2.keep fun g hg => ho.block g (by have := h3 g hg; omega), h3⟩, by rw [ho.size]; exact h.sz,
    h.kp.trans (S' := fun q => q = WD.heap.size + 1) ⟨ho.os, ho.tape, ho.output, by rw [ho.size]; exact Nat.le_refl _, fun j _ hj => ho.block j hj⟩ fun j hj => .inr (by omega)⟩
theorem GatD.below (h : GatD WD p D K k v W) (hb : Below W.heap.size W W') : GatD WD p D K k v W' := by
  obtain ⟨gs, h1, h2, h3⟩ := h.ex
  exact ⟨(hb.block _ (lt_of_block h.var)).trans h.var, ⟨gs, own_below h1 hb, h2.below hb, h3⟩, Nat.le_trans h.sz hb.size, h.kp.below hb⟩
theorem GatD.cell (h : GatD WD p D K k v W) : W.cell? ⟨p, 0, none⟩ = some v := by rw [cell_of_row _ _ _ _ _ _ h.var]; rfl
/-- one more is gathered: what lies in block g -/
theorem GatD.push {gs : List Nat} {g g' cap : Nat} {x : List Int} {W2 : World} (h : GatD WD p D K k v W) (hp : p < WD.heap.size) (h1 : W.ownsRow (WD.heap.size + 2) 55 1 v k (gs.map (sl D))) (h2 : Bks W gs (K.take k)) (h3 : ∀ g ∈ gs, WD.heap.size + 2 ≤ g)
    (hx : K[k]? = some x) (hg : Blk W g x) (hge : WD.heap.size + 2 ≤ g)
    (r1 : W2.ownsRow (WD.heap.size + 2) 55 1 (.slice (some ⟨g', 0, none⟩) (k + 1) cap) (k + 1) (gs.map (sl D) ++ [sl D g])) (r2 : (W.alloc (.cells #[sl D g] 55)).grownBy W2 v.ownBlock) :
    W2.cell? ⟨p, 0, none⟩ = some v ∧ W2.frozen? ⟨p, 0, none⟩ = false ∧ GatD WD p D K (k + 1) (.slice (some ⟨g', 0, none⟩) (k + 1) cap) (W2.setCell ⟨p, 0, none⟩ (.slice (some ⟨g', 0, none⟩) (k + 1) cap)) ∧ KeepsFrom WD.heap.size W (W2.setCell ⟨p, 0, none⟩ (.slice (some ⟨g', 0, none⟩) (k + 1) cap)) := by
  have hpl := lt_of_block h.var
  have old : ∀ q, q < W.heap.size → v.ownBlock ≠ some q → W2.heap[q]? = W.heap[q]? := fun q hq hn => (r2.block q (by simp; omega) (fun e => hn e.symm)).trans (Below.heap_alloc _ _ _ hq)
  have hv2 : W2.heap[p]? = some (.cells #[v] 22 (0, 0)) := (old p hpl fun e => by have := own_block h1 p e; omega).trans h.var
  have hg' : WD.heap.size + 2 ≤ g' := own_block r1 g' rfl
  have hsz : WD.heap.size + 2 ≤ W2.heap.size := by have := r2.size; have := h.sz; simp at *; omega
  have blk2 : ∀ q y, Blk W q y → WD.heap.size + 2 ≤ q → Blk (W2.setCell ⟨p, 0, none⟩ (.slice (some ⟨g', 0, none⟩) (k + 1) cap)) q y := fun q y hq hl => by
    refine (Below.heap_setCell _ _ _ _ (show q ≠ p by omega)).trans ((old q (lt_of_block hq) fun e => ?_).trans hq)
    obtain ⟨cs, hcs⟩ := own_at h1 e
    exact blk_row hq hcs
  refine ⟨by rw [cell_of_row _ _ _ _ _ _ hv2]; rfl, frozen_of_row _ _ _ _ _ hv2, ⟨one_set hv2, ⟨gs ++ [g], ?_, ?_, fun q hq => ?_⟩, by simp [World.setCell]; exact hsz, ?_⟩, ?_⟩
  · rw [List.map_append]
    exact own_keepS r1 fun q e => by
      have e2 : g' = q := by simpa [Value.ownBlock] using e
      exact Below.heap_setCell _ _ _ _ (by show q ≠ p; omega)
  · rw [List.take_add_one, hx]
    refine Bks.snoc ⟨h2.1, fun j q y hq hy => blk2 q y (h2.2 j q y hq hy) (h3 q (List.mem_of_getElem? hq))⟩ (blk2 g x hg hge)
  · rcases List.mem_append.1 hq with hq | hq
    · exact h3 q hq
    · simp at hq; omega
  · have hk1 := h.kp.below ((Below.refl _ W).alloc (Nat.le_refl _) (.cells #[sl D g] 55))
    exact (hk1.grown r2 (fun j hj => by have := own_block h1 j hj; exact .inr (by omega))).setCell (.inl rfl)
  · refine kf_trans (b := W2) ?_ (kf_cell hv2)
    refine ⟨by have := r2.size; simp at this; omega, fun j o hj ho hc => ?_⟩
    have hjl := (Array.getElem?_eq_some_iff.1 ho).1
    refine (old j hjl fun e => ?_).trans ho
    obtain ⟨cs, hcs⟩ := own_at h1 e
    rw [ho] at hcs
    injection hcs with hcs
    subst hcs
    cases hc
end
end Go.Proofs.Ytafkbagjjknhlaa
