/-
  Layer 8 (topk): a selector's List, by contract.
-/
import Derived.Test.YtdpoieemadblnaaKOffR
import Derived.Test.YtdpoieemadblnaaKItrR
import Derived.Lib.SmallJoins
import Derived.Shelf.AbstractIn
import Derived.Stop.RegionWithIn
namespace Go.Proofs.Ytdpoieemadblnaa
open Go.RowKit Go.Shelf
attribute [local go_sem] Oper.semAt_some

theorem Try.sinfoR : (Try.prog.info? 42).map (fun i => (i.zero, i.size, i.bytes)) = some (some (.agg #[.int .i64 0, .int .i64 0]), 2, 16) := by kernel_rfl
theorem smadeR (n : Nat) (hn : n ≤ 100000) (W : World) : (Instr.makeSlice 39 (.int .i64 (n : Int)) (.int .i64 (n : Int))).run Try.prog W = .ok (.slice (some ⟨W.heap.size, 0, none⟩) n n) (W.alloc (.cells (cel (List.replicate n (0, 0))).toArray 42)) := by
  obtain ⟨i0, hi, hz0, hz1, hz2⟩ := info_parts Try.sinfoR
  have h := run_make (P := Try.prog) W 39 42 i0 (.agg #[.int .i64 0, .int .i64 0]) Try.underlying39 hi hz0 .i64 .i64 (n : Int) (n : Int) (by omega) (by omega) (by rw [hz2]; omega) (by omega)
  rw [hz1, made_zeros] at h
  simpa using h
theorem hmadeR (n : Nat) (hn : n ≤ 100000) : ∃ M : Array Value, M.size = n * 3 ∧ ∀ W : World, (Instr.makeSlice 88 (.int .i64 0) (.int .i64 (n : Int))).run Try.prog W = .ok (.slice (some ⟨W.heap.size, 0, none⟩) 0 n) (W.alloc (.cells M 80)) := by
  obtain ⟨i0, hi, hz0, hz1, hz2⟩ := info_parts Try.kinfoR
  obtain ⟨M, hM⟩ : ∃ M, M = madeCells (Value.agg #[.int .i64 0, .int .i64 0, .int .i64 0]).cells ((n : Int).toNat * i0.size) := ⟨_, rfl⟩
  refine ⟨M, by rw [hM, size_madeCells, hz1]; simp, fun W => ?_⟩
  have h := run_make (P := Try.prog) W 88 80 i0 (.agg #[.int .i64 0, .int .i64 0, .int .i64 0]) Try.underlying88 hi hz0 .i64 .i64 0 (n : Int) (by omega) (by omega) (by rw [hz2]; omega) (by omega)
  rw [← hM] at h
  simpa using h

/-- the heap (in the blocks of Sh), the row r that is filled from its end on (z places are left), and what was gathered (the variable in block r + 3), since W0; all else that was there is as it was -/
def DlR (W0 : World) (Sh : Nat → Prop) (r B cb z : Nat) (o L : List Km.Ent) (S : Nat → Prop) (W : World) : Prop :=
  ∃ v : Value, (∀ k, S k ↔ k < W0.heap.size ∨ v.ownBlock = some k) ∧ HpkR cb W Sh B L ∧ W.heap[r + 3]? = some (.cells #[v] 88 (0, 0)) ∧ W.ownsRow r 80 3 v o.length (ce3 o) ∧ (∀ k, v.ownBlock = some k → k = r + 2 ∨ W0.heap.size + 2 ≤ k) ∧
    BlkE 42 W r (List.replicate z (0, 0) ++ o.reverse.map Prod.fst) ∧ W0.heap.size + 2 ≤ W.heap.size ∧ Kept (fun k => Sh k ∨ k = r ∨ k = r + 2 ∨ k = r + 3) W0 W
section
variable {W0 W W' : World} {Sh S : Nat → Prop} {r B cb z : Nat} {o L L' : List Km.Ent}
theorem DlR.lt (h : DlR W0 Sh r B cb z o L S W) : ∀ k, S k → k < W.heap.size := by
  obtain ⟨v, h1, h2, h3, h4, h5, h6, h7, h8⟩ := h
  intro k hk
  rcases (h1 k).1 hk with q | q
  · omega
  · exact (h4.lt k q).2
theorem DlR.keep (h : DlR W0 Sh r B cb z o L S W) (hSh : ∀ k, Sh k → k < r) (h0 : W0.heap.size = r + 5) (hk : Kept (fun k => ¬ S k) W W') : DlR W0 Sh r B cb z o L S W' := by
  have hl := h.lt
  obtain ⟨v, h1, h2, h3, h4, h5, h6, h7, h8⟩ := h
  have hs : ∀ k, S k → W'.heap[k]? = W.heap[k]? := fun k q => hk.block k (hl k q) (fun q2 => q2 q)
  refine ⟨v, h1, h2.keep hk.size fun k q => hs k ((h1 k).2 (.inl (by have := hSh k q; omega))), (hs _ ((h1 _).2 (.inl (by omega)))).trans h3, own_keep h4 fun g q => hs g ((h1 g).2 (.inr q)), h5, (hs r ((h1 r).2 (.inl (by omega)))).trans h6, Nat.le_trans h7 hk.size, h8.trans hk fun k q => .inr ?_⟩
  rcases Nat.lt_or_ge k W0.heap.size with q2 | q2
  · exact absurd ((h1 k).2 (.inl q2)) q
  · exact q2
theorem DlR.off (h : DlR W0 Sh r B cb z o L S W) (hSh : ∀ k, Sh k → k < r) (h0 : W0.heap.size = r + 5) (ho : Off (W0.heap.size + 1) W W') : DlR W0 Sh r B cb z o L S W' := by
  refine h.keep hSh h0 ⟨ho.os, ho.tape, ho.output, by rw [ho.size]; exact Nat.le_refl _, fun k hk hn => ho.block k fun e => ?_⟩
  subst e
  have hS : S (W0.heap.size + 1) := Classical.not_not.1 hn
  obtain ⟨v, h1, h2, h3, h4, h5, h6, h7, h8⟩ := h
  rcases (h1 _).1 hS with q | q
  · omega
  · rcases h5 _ q with q2 | q2 <;> omega
theorem DlR.pop (h : DlR W0 Sh r B cb z o L S W) (hSh : ∀ k, Sh k → k < r) (h0 : W0.heap.size = r + 5) (hn : L.length ≤ 100000) :
    Calls Try.prog 57 #[.pointer (some ⟨B, 0, none⟩)] W fun e W' => ∃ x1 x2 x3 ok L', e = .returned (.tuple #[.agg #[.int .i64 x1, .int .i64 x2, .int .i64 x3], .bool ok]) ∧ Hm.Po (Km.lat Om.near) ((0, 0), 0) L ((x1, x2), x3) ok L' ∧ (∀ L2, L'.Perm L2 → DlR W0 Sh r B cb z o L2 S W') ∧ Kept Sh W W' := by
  obtain ⟨v, h1, h2, h3, h4, h5, h6, h7, h8⟩ := h
  refine (kpopR cb Sh B L W h2 hn).mono ?_
  rintro e W' ⟨x1, x2, x3, ok, L', he, po, h2', k⟩
  refine ⟨x1, x2, x3, ok, L', he, po, fun L2 hp => ⟨v, h1, h2'.perm hp, (k.block _ (lt_of_block h3) (fun q => by have := hSh _ q; omega)).trans h3, own_keep h4 fun g q => k.block g (h4.lt g q).2 (fun q2 => ?_), h5, (k.block r h6.lt (fun q => by have := hSh _ q; omega)).trans h6, Nat.le_trans h7 k.size, h8.trans k fun _ q => .inl (.inl q)⟩, k⟩
  have := hSh g q2
  rcases h5 g q with q3 | q3 <;> omega
theorem DlR.push (h : DlR W0 Sh r B cb (z + 1) o L S W) (hSh : ∀ k, Sh k → k < r) (h0 : W0.heap.size = r + 5) {x1 x2 x3 : Int} {v : Value} {g cap : Nat} {nw : Obj} {W2 : World} (hv : W.heap[r + 3]? = some (.cells #[v] 88 (0, 0)))
    (r1 : W2.ownsRow r 80 3 (.slice (some ⟨g, 0, none⟩) (o.length + 1) cap) (o.length + 1) (ce3 o ++ [.int .i64 x1, .int .i64 x2, .int .i64 x3])) (r2 : (W.alloc nw).grownBy W2 v.ownBlock) (r3 : v.ownBlock = some g ∨ g = (W.alloc nw).heap.size) :
    let V := ((W2.setCell ⟨r + 3, 0, none⟩ (.slice (some ⟨g, 0, none⟩) (o.length + 1) cap)).setCell ⟨r, z * 2, none⟩ (.int .i64 x1)).setCell ⟨r, z * 2 + 1, none⟩ (.int .i64 x2)
    (∃ S', DlR W0 Sh r B cb z (o ++ [((x1, x2), x3)]) L S' V ∧ KeepsFrom W0.heap.size W V ∧ ∀ b, ¬ S b → W0.heap.size ≤ b → b < W.heap.size → ¬ S' b ∧ V.heap[b]? = W.heap[b]?) := by
  intro V
  obtain ⟨v', h1, h2, h3, h4, h5, h6, h7, h8⟩ := h
  obtain rfl : v' = v := by rw [hv] at h3; injection h3 with h3; injection h3 with h3; simpa using h3.symm
  have hs0 : (W.alloc nw).heap.size = W.heap.size + 1 := by simp
  have hs2 := r2.size
  have hs3 : V.heap.size = W2.heap.size := by simp [V, World.setCell]
  have hold : ∀ j, j < W.heap.size → v'.ownBlock ≠ some j → j ≠ r + 3 → j ≠ r → V.heap[j]? = W.heap[j]? := fun j q1 q2 q3 q4 => by
    show (((W2.setCell ⟨r + 3, 0, none⟩ _).setCell ⟨r, z * 2, none⟩ _).setCell ⟨r, z * 2 + 1, none⟩ _).heap[j]? = _
    rw [Below.heap_setCell _ _ _ _ (show j ≠ r from q4), Below.heap_setCell _ _ _ _ (show j ≠ r from q4), Below.heap_setCell _ _ _ _ (show j ≠ r + 3 from q3), r2.block j (by omega) (fun e => q2 e.symm), Below.heap_alloc _ _ _ q1]
  have hown : ∀ k, v'.ownBlock = some k → k ≠ r ∧ k ≠ r + 3 ∧ r ≤ k := fun k q => by rcases h5 k q with e | e <;> omega
  have hg : g ≠ r ∧ g ≠ r + 3 ∧ (g = r + 2 ∨ W0.heap.size + 2 ≤ g) := by
    rcases r3 with q | q
    · have := hown g q; have := h5 g q; omega
    · omega
  have hp2 : W2.heap[r + 3]? = some (.cells #[v'] 88 (0, 0)) := by
    rw [r2.block _ (by omega) (fun e => (hown _ e.symm).2.1 rfl), Below.heap_alloc _ _ _ (by omega)]
    exact h3
  have hr2 : BlkE 42 (W2.setCell ⟨r + 3, 0, none⟩ (.slice (some ⟨g, 0, none⟩) (o.length + 1) cap)) r (List.replicate (z + 1) (0, 0) ++ o.reverse.map Prod.fst) := by
    unfold BlkE
    rw [Below.heap_setCell _ _ _ _ (show r ≠ r + 3 by omega), r2.block _ (by omega) (fun e => (hown _ e.symm).1 rfl), Below.heap_alloc _ _ _ (by omega)]
    exact h6
  refine ⟨fun k => k < W0.heap.size ∨ some g = some k, ⟨.slice (some ⟨g, 0, none⟩) (o.length + 1) cap, fun k => Iff.rfl, h2.keep (by omega) fun k q => hold k (h2.in_ k q) (fun e => by have := hSh k q; have := hown k e; omega) (by have := hSh k q; omega) (by have := hSh k q; omega), ?_, ?_, ?_, ?_, by omega, ?_⟩, ⟨by omega, fun k obj hk ho hc => (hold k (Array.getElem?_eq_some_iff.1 ho).1 (fun e => ?_) (by omega) (by omega)).trans ho⟩, fun b q1 q2 q3 => ⟨fun q => ?_, hold b q3 (fun e => q1 ((h1 b).2 (.inr e))) (by omega) (by omega)⟩⟩
  · show (((W2.setCell ⟨r + 3, 0, none⟩ _).setCell ⟨r, z * 2, none⟩ _).setCell ⟨r, z * 2 + 1, none⟩ _).heap[r + 3]? = _
    rw [Below.heap_setCell _ _ _ _ (show r + 3 ≠ r by omega), Below.heap_setCell _ _ _ _ (show r + 3 ≠ r by omega), heap_setCell_same _ _ _ _ _ _ hp2]
    rfl
  · have := own_keep (W' := V) r1 fun g' q => by
      have e : g = g' := by simpa [Value.ownBlock] using q
      show (((W2.setCell ⟨r + 3, 0, none⟩ _).setCell ⟨r, z * 2, none⟩ _).setCell ⟨r, z * 2 + 1, none⟩ _).heap[g']? = _
      rw [Below.heap_setCell _ _ _ _ (show g' ≠ r by omega), Below.heap_setCell _ _ _ _ (show g' ≠ r by omega), Below.heap_setCell _ _ _ _ (show g' ≠ r + 3 by omega)]
    rw [ce3_append, List.length_append]
    exact this
  · intro k q
    have e : g = k := by simpa [Value.ownBlock] using q
    omega
  · have := hr2.set z x1 x2
    have e : (List.replicate (z + 1) ((0 : Int), (0 : Int)) ++ o.reverse.map Prod.fst).set z (x1, x2) = List.replicate z (0, 0) ++ (o ++ [((x1, x2), x3)]).reverse.map Prod.fst := by
      rw [List.replicate_succ', List.append_assoc, List.set_append_right _ _ (by simp)]
      simp
    rw [e] at this
    exact this
  · refine ⟨(show _ = W.os from r2.os).trans h8.os, (show _ = W.tape from r2.tape).trans h8.tape, (show _ = W.output from r2.output).trans h8.output, by have := h8.size; omega, fun k q1 q2 => (hold k (by omega) (fun e => ?_) (fun e => q2 (.inr (.inr (.inr e)))) (fun e => q2 (.inr (.inl e)))).trans (h8.block k q1 q2)⟩
    rcases h5 k e with q3 | q3
    · exact q2 (.inr (.inr (.inl q3)))
    · omega
  · rcases h4.2 with ⟨hv', _⟩ | ⟨g', cap', cur, hv', _, hb', _⟩
    · rw [hv'] at e; cases e
    · rw [hv'] at e
      have e' : g' = k := by simpa [Value.ownBlock] using e
      subst e'
      rw [hb'] at ho
      injection ho with ho
      subst ho
      cases hc
  · rcases q with q | q
    · omega
    · injection q with q
      subst q
      rcases r3 with q4 | q4
      · exact q1 ((h1 g).2 (.inr q4))
      · omega
theorem DlR.lenC (h : DlR W0 Sh r B cb z o L S W) : lenC B W = L.length := by
  obtain ⟨v, h1, ⟨xs, q1, q2, q3⟩, _⟩ := h
  obtain ⟨A, c, -, cl, -⟩ := q1.d.list
  unfold Go.Proofs.Ytdpoieemadblnaa.lenC
  rw [cl]
  exact q3.length_eq
end
end Go.Proofs.Ytdpoieemadblnaa
