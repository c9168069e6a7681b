/-
  HeapDrains: all that is held is drained, in order, as far as it is asked for; the rest is held still. No condition.
-/
import Derived.Test.YtefdohjcgolhjaaHItrR
import Derived.Test.YtefdohjcgolhjaaHSrt
import Derived.Test.YtefdohjcgolhjaaHAwk
import Derived.Test.YtefdohjcgolhjaaORefR
import Derived.Test.YtefdohjcgolhjaaOArg
import Derived.Lib.SmallJoins
import Derived.Shelf.AbstractIn
import Derived.Stop.RegionWithIn
import Derived.Deep.RegionHeld3
import Derived.Deep.DeepCutAuto
import Derived.Deep.WholeRow
import Derived.OpenShut
namespace Go.Proofs.Ytefdohjcgolhjaa
open Go.RowKit Go.Joins Go.ChangeShapes Go.WideShapes Go.Deep Go.Shelf
namespace heapDrains
attribute [local go_sem] Oper.semAt_some

theorem lenR (S : Nat → Prop) (B : Nat) (l : List Om.E) (w : World) (h : HeapR w S B l) :
    Calls Try.prog 20 #[.pointer (some ⟨B, 0, none⟩)] w fun e w' => e = .returned (.int .i64 (l.length : Int)) ∧ w' = w := by
  obtain ⟨xs, h1, h2, h3⟩ := h
  obtain ⟨A, c, -, cl, -⟩ := h1.list
  have e := Lib.hid h3.length_eq
  clear h1 h2 h3
  go_enter Try.func20, Try.ntmps20
  go_wp2
  go_ret
  exact ⟨ret_int (by rw [e.out]), rfl⟩

/-- the heap (in the blocks of Sh) and what was gathered (the variable in block p), since W0; all else that was there is as it was -/
def Dn (W0 : World) (Sh : Nat → Prop) (p B : Nat) (o L : List Om.E) (S : Nat → Prop) (W : World) : Prop :=
  ∃ v : Value, (∀ k, S k ↔ k < W0.heap.size ∨ v.ownBlock = some k) ∧ HeapR W Sh B L ∧ W.heap[p]? = some (.cells #[v] 38 (0, 0)) ∧ W.ownsRow (W0.heap.size + 2) 42 2 v o.length (cel o) ∧ W0.heap.size + 2 ≤ W.heap.size ∧ Kept (fun k => Sh k ∨ k = p) W0 W
section
variable {W0 W W' : World} {Sh S : Nat → Prop} {p B : Nat} {o L L' : List Om.E}
theorem own_lt2 {W : World} {B : Nat} {e : TypeId} {sz : Nat} {v : Value} {n : Nat} {xs : List Value} (h : W.ownsRow B e sz v n xs) : ∀ g, v.ownBlock = some g → B ≤ g ∧ g < W.heap.size := h.lt
theorem Dn.lt (h : Dn W0 Sh p B o L S W) : ∀ k, S k → k < W.heap.size := by
  obtain ⟨v, h1, h2, h3, h4, h5, h6⟩ := h
  intro k hk
  rcases (h1 k).1 hk with q | q
  · omega
  · exact (own_lt2 h4 k q).2
theorem own_keep2 {W W' : World} {B : Nat} {e : TypeId} {sz : Nat} {v : Value} {n : Nat} {xs : List Value} (h : W.ownsRow B e sz v n xs) (hk : ∀ g, v.ownBlock = some g → W'.heap[g]? = W.heap[g]?) : W'.ownsRow B e sz v n xs := by
  refine ⟨h.1, ?_⟩
  rcases h.2 with h0 | ⟨g, cap, cur, hv, hg, hb, hr⟩
  · exact .inl h0
  · exact .inr ⟨g, cap, cur, hv, hg, (hk g (by rw [hv]; rfl)).trans hb, hr⟩
theorem Dn.keep (h : Dn W0 Sh p B o L S W) (hSh : ∀ k, Sh k → k < W0.heap.size) (hp : p < W0.heap.size) (hk : Kept (fun k => ¬ S k) W W') : Dn W0 Sh p B o L S W' := by
  have hl := h.lt
  obtain ⟨v, h1, h2, h3, h4, h5, h6⟩ := h
  have hs : ∀ k, S k → W'.heap[k]? = W.heap[k]? := fun k q => hk.block k (hl k q) (fun q2 => q2 q)
  refine ⟨v, h1, h2.keep hk.size fun k q => hs k ((h1 k).2 (.inl (hSh k q))), (hs p ((h1 p).2 (.inl hp))).trans h3, own_keep2 h4 fun g q => hs g ((h1 g).2 (.inr q)), Nat.le_trans h5 hk.size, h6.trans hk fun k q => .inr ?_⟩
  rcases Nat.lt_or_ge k W0.heap.size with q2 | q2
  · exact absurd ((h1 k).2 (.inl q2)) q
  · exact q2
theorem Dn.off (h : Dn W0 Sh p B o L S W) (hSh : ∀ k, Sh k → k < W0.heap.size) (hp : p < W0.heap.size) (ho : Off (W0.heap.size + 1) W W') : Dn W0 Sh p B o L S W' := by
  refine h.keep hSh hp ⟨ho.os, ho.tape, ho.output, by rw [ho.size]; exact Nat.le_refl _, fun k hk hn => ho.block k fun e => ?_⟩
  subst e
  have hS : S (W0.heap.size + 1) := Classical.not_not.1 hn
  obtain ⟨v, h1, h2, h3, h4, h5, h6⟩ := h
  rcases (h1 _).1 hS with q | q
  · omega
  · have := (own_lt2 h4 _ q).1; omega
theorem Dn.start (hh : HeapR W0 Sh B L) (hSh : ∀ k, Sh k → k < W0.heap.size) (hp : W0.heap[p]? = some (.cells #[.slice none 0 0] 38 (0, 0))) (hb : Below W0.heap.size W0 W) (hs : W.heap.size = W0.heap.size + 2) : ∃ S, Dn W0 Sh p B [] L S W :=
  ⟨fun k => k < W0.heap.size ∨ (Value.slice none 0 0).ownBlock = some k, _, fun _ => Iff.rfl, hh.below hb, (hb.block p (lt_of_block hp)).trans hp, World.ownsRow_nil _ _ _ _, by omega, Kept.of_below hb⟩
theorem Dn.pop (h : Dn W0 Sh p B o L S W) (hSh : ∀ k, Sh k → k < W0.heap.size) (hps : ¬ Sh p) (hp : p < W0.heap.size) (hn : L.length ≤ 100000) :
    Calls Try.prog 24 #[.pointer (some ⟨B, 0, none⟩)] W fun e W' => ∃ x1 x2 ok L', e = .returned (.tuple #[.agg #[.int .i64 x1, .int .i64 x2], .bool ok]) ∧ Hm.Po Om.near (0, 0) L (x1, x2) ok L' ∧ Dn W0 Sh p B o L' S W' ∧ Kept Sh W W' := by
  obtain ⟨v, h1, h2, h3, h4, h5, h6⟩ := h
  refine (popR Sh B L W h2 hn).mono ?_
  rintro e W' ⟨x1, x2, ok, L', he, po, h2', k⟩
  refine ⟨x1, x2, ok, L', he, po, ⟨v, h1, h2', (k.block p (lt_of_block h3) hps).trans h3, own_keep2 h4 fun g q => k.block g (own_lt2 h4 g q).2 (fun q2 => ?_), Nat.le_trans h5 k.size, h6.trans k fun _ q => .inl (.inl q)⟩, k⟩
  have := (own_lt2 h4 g q).1
  have := hSh g q2
  omega
theorem Dn.push (h : Dn W0 Sh p B o L S W) (hSh : ∀ k, Sh k → k < W0.heap.size) (hps : ¬ Sh p) (hp : p < W0.heap.size) {x1 x2 : Int} {v : Value} {g cap : Nat} {nw : Obj} {W2 : World} (hv : W.heap[p]? = some (.cells #[v] 38 (0, 0)))
    (r1 : W2.ownsRow (W0.heap.size + 2) 42 2 (.slice (some ⟨g, 0, none⟩) (o.length + 1) cap) (o.length + 1) (cel o ++ [.int .i64 x1, .int .i64 x2])) (r2 : (W.alloc nw).grownBy W2 v.ownBlock) (r3 : v.ownBlock = some g ∨ g = (W.alloc nw).heap.size) :
    ∃ S', Dn W0 Sh p B (o ++ [(x1, x2)]) L S' (W2.setCell ⟨p, 0, none⟩ (.slice (some ⟨g, 0, none⟩) (o.length + 1) cap)) ∧ KeepsFrom W0.heap.size W (W2.setCell ⟨p, 0, none⟩ (.slice (some ⟨g, 0, none⟩) (o.length + 1) cap)) ∧
      ∀ b, ¬ S b → W0.heap.size ≤ b → b < W.heap.size → ¬ S' b ∧ (W2.setCell ⟨p, 0, none⟩ (.slice (some ⟨g, 0, none⟩) (o.length + 1) cap)).heap[b]? = W.heap[b]? := by
  obtain ⟨v', h1, h2, h3, h4, h5, h6⟩ := h
  obtain rfl : v' = v := by rw [hv] at h3; injection h3 with h3; injection h3 with h3; simpa using h3.symm
  have hs0 : (W.alloc nw).heap.size = W.heap.size + 1 := by simp
  have hs2 := r2.size
  have hs3 : (W2.setCell ⟨p, 0, none⟩ (.slice (some ⟨g, 0, none⟩) (o.length + 1) cap)).heap.size = W2.heap.size := by simp [World.setCell]
  have hold : ∀ j, j < W.heap.size → v'.ownBlock ≠ some j → j ≠ p → (W2.setCell ⟨p, 0, none⟩ (.slice (some ⟨g, 0, none⟩) (o.length + 1) cap)).heap[j]? = W.heap[j]? := fun j q1 q2 q3 => by
    rw [Below.heap_setCell _ _ _ _ (show j ≠ p from q3), r2.block j (by omega) (fun e => q2 e.symm), Below.heap_alloc _ _ _ q1]
  have hgp : g ≠ p := by
    rcases r3 with q | q
    · have := (own_lt2 h4 g q).1; omega
    · omega
  have hp2 : W2.heap[p]? = some (.cells #[v'] 38 (0, 0)) := by
    rw [r2.block p (by omega) (fun e => by have := (own_lt2 h4 p e.symm).1; omega), Below.heap_alloc _ _ _ (by omega)]
    exact h3
  have hL0 : ∀ k, k < W0.heap.size → v'.ownBlock ≠ some k := fun k hk q => by have := (own_lt2 h4 k q).1; omega
  refine ⟨fun k => k < W0.heap.size ∨ some g = some k, ⟨.slice (some ⟨g, 0, none⟩) (o.length + 1) cap, fun k => Iff.rfl, h2.keep (by omega) fun k q => hold k (h2.in_ k q) (hL0 k (hSh k q)) (fun e => by subst e; exact hps q), by rw [heap_setCell_same _ _ _ _ _ _ hp2]; rfl, ?_, by omega, ?_⟩, ⟨by omega, fun k obj hk ho hc => (hold k (Array.getElem?_eq_some_iff.1 ho).1 (fun e => ?_) (by omega)).trans ho⟩, fun b q1 q2 q3 => ⟨fun q => ?_, hold b q3 (fun e => q1 ((h1 b).2 (.inr e))) (by omega)⟩⟩
  · have hgg : ∀ g', (Value.slice (some ⟨g, 0, none⟩) (o.length + 1) cap).ownBlock = some g' → g' ≠ p := fun g' q => by
      have e : g = g' := by simpa [Value.ownBlock] using q
      omega
    have := own_keep2 (W' := W2.setCell ⟨p, 0, none⟩ (.slice (some ⟨g, 0, none⟩) (o.length + 1) cap)) r1 fun g' q => Below.heap_setCell _ _ _ _ (hgg g' q)
    rw [cel_append, List.length_append]
    exact this
  · refine ⟨(show _ = W.os from r2.os).trans h6.os, (show _ = W.tape from r2.tape).trans h6.tape, (show _ = W.output from r2.output).trans h6.output, by have := h6.size; omega, fun k q1 q2 => (hold k (by omega) (hL0 k q1) (fun e => q2 (.inr e))).trans (h6.block k q1 q2)⟩
  · rcases h4.2 with ⟨hv', _⟩ | ⟨g', cap', cur, hv', _, hb', _⟩
    · rw [hv'] at e; cases e
    · rw [hv'] at e
      have e' : g' = k := by simpa [Value.ownBlock] using e
      subst e'
      rw [hb'] at ho
      injection ho with ho
      subst ho
      cases hc
  · rcases q with q | q
    · omega
    · injection q with q
      subst q
      rcases r3 with q4 | q4
      · exact q1 ((h1 g).2 (.inr q4))
      · omega
theorem Dn.lenC (h : Dn W0 Sh p B o L S W) : lenC B W = L.length := by
  obtain ⟨v, h1, ⟨xs, q1, q2, q3⟩, _⟩ := h
  obtain ⟨A, c, -, cl, -⟩ := q1.list
  unfold Go.Proofs.Ytefdohjcgolhjaa.lenC
  rw [cl]
  exact q3.length_eq
end

theorem below_put {B : Nat} {W : World} {l : Nat} (h : B ≤ l) (o : Obj) : Below B W (W.putObj l o) := ⟨rfl, rfl, rfl, by simp, fun k hk => World.putObj_heap_other (by omega)⟩
/-- what stands ahead of a pop; one that was popped; none is left -/
def DI (W0 : World) (Sh : Nat → Prop) (p B : Nat) (l : List Om.E) (stop : Int) (o L : List Om.E) (S : Nat → Prop) (W : World) : Prop :=
  Dn W0 Sh p B o L S W ∧ Om.isort Om.near l = o ++ Om.isort Om.near L ∧ ¬ (1 ≤ stop ∧ stop ≤ (o.length : Int))
def DM (W0 : World) (Sh : Nat → Prop) (p B : Nat) (l : List Om.E) (stop : Int) (o : List Om.E) (x : Om.E) (L : List Om.E) (S : Nat → Prop) (W : World) : Prop :=
  Dn W0 Sh p B o L S W ∧ Om.isort Om.near l = o ++ x :: Om.isort Om.near L ∧ ¬ (1 ≤ stop ∧ stop ≤ (o.length : Int))
def DZ (W0 : World) (Sh : Nat → Prop) (p B : Nat) (l : List Om.E) (stop : Int) (o : List Om.E) (S : Nat → Prop) (W : World) : Prop :=
  Dn W0 Sh p B o [] S W ∧ Om.isort Om.near l = o ∧ ¬ (1 ≤ stop ∧ stop ≤ (o.length : Int))
/-- a block of the iterator's own, or of a round's: one struct -/
def Own2 (W0 : World) (x1 x2 : Int) (b : Nat) (S : Nat → Prop) (W : World) : Prop := ¬ S b ∧ W0.heap.size + 2 ≤ b ∧ W.heap[b]? = some (.cells #[.int .i64 x1, .int .i64 x2] 42 (0, 0))
theorem Own2.off {W0 W W' : World} {x1 x2 : Int} {b : Nat} {S : Nat → Prop} (h : Own2 W0 x1 x2 b S W) (ho : Off (W0.heap.size + 1) W W') : Own2 W0 x1 x2 b S W' := ⟨h.1, h.2.1, (ho.block b (by have := h.2.1; omega)).trans h.2.2⟩

set_option maxHeartbeats 6400000 in
set_option maxRecDepth 100000 in
theorem walk (a0 : Option Addr) (len0 cap0 : Nat) (l : List Om.E) (stop : Int) (w : World) (w0 : VecE w a0 len0 l ∧ len0 ≤ cap0 ∧ (a0 = none → cap0 = 0)) (w1 : (Lit.int .i64 stop).wf = true) :
    Calls Try.prog 4 #[.slice a0 len0 cap0, .int .i64 stop] w fun e w' => e = .returned (.bool true) ∧ Below w.heap.size w w' := by
  have HV := Lib.hid w0.1
  have HVL := Lib.hid w0.1.length
  have HA := Lib.hid w0.2.2
  have bs := bounds_i64 w1
  clear w0 w1
  have B0 : Hid (Below w.heap.size w (w.alloc (.cells #[.int .i64 stop] 3))) := (Below.refl _ _).alloc (Nat.le_refl _) _
  refine (callsIn_wide (n := 6)).1 ?_
  refine callsIn_of_wp_marks Try.func4 rfl trivial ?_ rfl
  simp only [Try.ntmps4, List.size_toArray, List.length_cons, List.length_nil, Nat.reduceAdd, Nat.reduceSub, Array.replicate_succ, Array.replicate_zero, List.push_toArray, List.append_toArray, List.nil_append, List.cons_append]
  gi_wp2_with fail
  refine ⟨trivial, ?_⟩
  refine (callsIn_wide.2 (awake_any _)).mono ?_
  rintro _ W1 ⟨rfl, b1⟩
  have B1 := Lib.hid (B0.out.trans (b1.mono B0.out.size))
  have HR1 := Lib.hid (show W1.heap[w.heap.size]? = some (.cells #[.int .i64 stop] 3 (0, 0)) from (b1.block _ (by simp)).trans (heap_new _ _ _))
  have s1 : w.heap.size + 1 ≤ W1.heap.size := by have := b1.size; simpa using this
  clear b1 B0
  by_cases g1 : 100 < len0
  · gi_wp2
    exact ⟨_, results_tmp rfl _ _ _, rfl, B1.out⟩
  have d1 : decide (100 < (len0 : Int)) = false := by simp; omega
  have n100 : len0 ≤ 100 := by omega
  clear g1
  have HN := Lib.hid (newR a0 len0 cap0 l W1 (HV.out.below B1.out) HA.out (by omega))
  gi_wp2_with fail
  refine ⟨trivial, ?_⟩
  refine (callsIn_wide.2 HN.out).mono ?_
  rintro _ W2 ⟨Sh, B, rfl, h2, b2, hS⟩
  have B2 := Lib.hid (B1.out.trans (b2.mono B1.out.size))
  have H2 := Lib.hid h2
  have HS := Lib.hid hS
  have HR2 := Lib.hid ((b2.block w.heap.size (by omega)).trans HR1.out)
  have s2 : W1.heap.size ≤ W2.heap.size := b2.size
  clear HN h2 b2 hS HR1
  gi_wp2_with fail
  refine ⟨trivial, ?_⟩
  refine (callsIn_wide.2 (lenR Sh B l W2 H2.out)).mono ?_
  rintro _ W3 ⟨rfl, hw3⟩
  subst hw3
  rw [HVL.out]
  gi_wp2_with fail
  refine ⟨trivial, ?_⟩
  refine (callsIn_wide.2 (drainR B _)).mono ?_
  rintro _ W4 ⟨rfl, hw4⟩
  have s3 : (W3.alloc (.cells #[.slice none 0 0] 38)).heap.size = W3.heap.size + 1 := by simp
  have s4 : W4.heap.size = W3.heap.size + 2 := by rw [hw4]; simp
  have b34 : Below W3.heap.size W3 W4 := by rw [hw4]; exact ((Below.refl _ W3).alloc (Nat.le_refl _) _).alloc (by simp) _
  have HP4 : Hid (W4.heap[W3.heap.size]? = some (.cells #[.slice none 0 0] 38 (0, 0))) := by rw [hw4]; exact heap_alloc2_old W3 _ _
  have HQ4 : Hid (W4.heap[W3.heap.size + 1]? = some (.cells #[.pointer (some ⟨B, 0, none⟩)] 39 (0, 0))) := by rw [hw4]; exact heap_alloc2_new W3 _ _
  have B4 := Lib.hid (B2.out.trans (b34.mono B2.out.size))
  have H4 := Lib.hid (H2.out.below b34)
  have HSh := Lib.hid (show ∀ k, Sh k → k < W4.heap.size from fun k hk => by have := H2.out.in_ k hk; omega)
  have HNp := Lib.hid (show ¬ Sh W3.heap.size from fun hk => by have := H2.out.in_ _ hk; omega)
  have HR4 := Lib.hid ((b34.block w.heap.size (by omega)).trans HR2.out)
  have HShl := Lib.hid (show ∀ k, Sh k → k < W3.heap.size from fun k hk => H2.out.in_ k hk)
  have HShw := Lib.hid (show ∀ k, Sh k → w.heap.size < k from fun k hk => by have := HS.out k hk; omega)
  rw [s3]
  clear hw4 b34 s3 H2 B2 B1 HR2 HS
  gi_wp2
  obtain ⟨i0, hi, hz0, hz1, hz2⟩ := info_parts Try.infoR
  refine range_boxes (n := 6) (ι := List Om.E × Int × Int × List Om.E × Nat) rfl (by omega) (gf := 35) (lb := #[.pointer (some ⟨W3.heap.size + 1, 0, none⟩)]) rfl trivial (enters_of Try.func35 (by kernel_rfl) rfl)
    (fun W => ∃ S, DI W4 Sh W3.heap.size B l stop [] l S W)
    (fun i vs W => vs = #[.agg #[.int .i64 i.2.1, .int .i64 i.2.2.1]] ∧ ∃ S, DM W4 Sh W3.heap.size B l stop i.1 (i.2.1, i.2.2.1) i.2.2.2.1 S W ∧ Own2 W4 i.2.1 i.2.2.1 i.2.2.2.2 S W)
    (fun i vs c W => vs = #[.agg #[.int .i64 i.2.1, .int .i64 i.2.2.1]] ∧ ∃ S, DM W4 Sh W3.heap.size B l stop i.1 (i.2.1, i.2.2.1) i.2.2.2.1 S W ∧ Own2 W4 i.2.1 i.2.2.1 i.2.2.2.2 S W ∧ Own2 W4 i.2.1 i.2.2.1 c S W)
    (fun i W => ∃ S, DI W4 Sh W3.heap.size B l stop (i.1 ++ [(i.2.1, i.2.2.1)]) i.2.2.2.1 S W ∧ Own2 W4 i.2.1 i.2.2.1 i.2.2.2.2 S W)
    (fun W => ∃ o S, DZ W4 Sh W3.heap.size B l stop o S W)
    (fun c W => c = .exit 0 ∧ ∃ o L S, Dn W4 Sh W3.heap.size B o L S W ∧ Om.isort Om.near l = o ++ Om.isort Om.near L ∧ 1 ≤ stop ∧ (o.length : Int) = stop)
    (fun c vs t => (t.setIfInBounds 33 (vs.getD 0 undef)).setIfInBounds 7 (.pointer (some ⟨c, 0, none⟩)))
    ?hJ ?hA ?hE ?hX ?hps ?h0 ?iter ?assign ?body ?done ?stop
  case hJ => rintro i W W' ⟨S, ⟨h1, h2⟩, h3⟩ ho; exact ⟨S, ⟨h1.off HSh.out (by omega) ho, h2⟩, h3.off ho⟩
  case hA => rintro i vs c W W' ⟨hv, S, ⟨h1, h2⟩, h3, h4⟩ ho; exact ⟨hv, S, ⟨h1.off HSh.out (by omega) ho, h2⟩, h3.off ho, h4.off ho⟩
  case hE => rintro W W' ⟨o, S, h1, h2⟩ ho; exact ⟨o, S, h1.off HSh.out (by omega) ho, h2⟩
  case hX => rintro c W W' ⟨hc, o, L, S, h1, h2⟩ ho; exact ⟨hc, o, L, S, h1.off HSh.out (by omega) ho, h2⟩
  case hps => rintro i vs W ⟨rfl, _⟩; rfl
  case h0 =>
    intro W hb hs
    obtain ⟨S, h⟩ := Dn.start H4.out HSh.out HP4.out hb hs
    exact ⟨S, h, rfl, fun q => by simp at q; omega⟩
  case iter =>
    intro l' K Y hK hY W hI hKW
    have hp : W3.heap.size < W4.heap.size := by omega
    refine iterR (m := 5) (D := W4.heap.size) (B := B) Sh HSh.out (DI W4 Sh W3.heap.size B l stop) (DM W4 Sh W3.heap.size B l stop) (DZ W4 Sh W3.heap.size B l stop) K Y ?_ ?_ ?_ hK ?_ ?_ ?_ ?_ ?_ l W hI hKW
    · exact fun o L => ⟨fun S W h => h.1.lt, fun S W W' h hk => ⟨h.1.keep HSh.out hp hk, h.2⟩⟩
    · exact fun o x L => ⟨fun S W h => h.1.lt, fun S W W' h hk => ⟨h.1.keep HSh.out hp hk, h.2⟩⟩
    · exact fun o => ⟨fun S W h => h.1.lt, fun S W W' h hk => ⟨h.1.keep HSh.out hp hk, h.2⟩⟩
    · rintro o L S W ⟨⟨v, h1, h2, h3, h4, h5, h6⟩, _⟩; exact h5
    · rintro o x L S W ⟨h, _⟩; exact h.lenC
    · rintro o L S W ⟨⟨v, h1, h2, h3, h4, h5, h6⟩, _⟩
      have := (h6.block (W3.heap.size + 1) (by omega) (fun q => by
        rcases q with q | q
        · have := HShl.out _ q; omega
        · omega)).trans HQ4.out
      rw [cell_of_row _ _ _ _ _ _ this]; rfl
    · rintro o L S W ⟨h, h1, h2⟩
      have hL : L.length ≤ 100000 := by
        have e := congrArg List.length h1
        rw [Om.isort_length, List.length_append, Om.isort_length, HVL.out] at e
        omega
      refine (h.pop HSh.out HNp.out hp hL).mono ?_
      rintro e W' ⟨x1, x2, ok, L', he, po, h', k⟩
      refine ⟨x1, x2, ok, he, ?_, k⟩
      cases ok with
      | true =>
        refine .inl ⟨rfl, L', ?_, h', by rw [h1, Om.isort_pop Om.near_ord near_heq po], h2⟩
        rcases po with ⟨_, _, q, _⟩ | ⟨_, q, _⟩
        · cases q
        · have := q.length_eq; simp at this; omega
      | false =>
        rcases po with ⟨rfl, _, _, rfl⟩ | ⟨q, _⟩
        · exact .inr ⟨rfl, h', by rw [h1]; simp [Om.isort_nil], h2⟩
        · cases q
    · rintro o x1 x2 L' b W ⟨S, hM, hO⟩ hKW
      exact hY (o, x1, x2, L', b) _ W ⟨rfl, S, hM, hO⟩ hKW
  case assign =>
    rintro l' ⟨o, x1, x2, L', b⟩ vs W K ⟨rfl, S, hM, hO⟩ hK
    have hn : Kept (fun k => ¬ S k) W (W.alloc (.cells #[.int .i64 x1, .int .i64 x2] 42)) := kept_new _
    have hlt := hM.1.lt
    have h5 : W4.heap.size + 2 ≤ W.heap.size := by obtain ⟨v, h1, h2, h3, h4, h5, h6⟩ := hM.1; exact h5
    have HC := Lib.hid (hK W.heap.size (W.alloc (.cells #[.int .i64 x1, .int .i64 x2] 42)) ⟨rfl, S, ⟨hM.1.keep HSh.out (by omega) hn, hM.2⟩, ⟨hO.1, hO.2.1, (Below.heap_alloc _ _ _ (lt_of_block hO.2.2)).trans hO.2.2⟩, fun q => by have := hlt _ q; omega, h5, heap_new _ _ _⟩ (kf_kept (S := fun k => k < W4.heap.size) (kept_new _) fun k h => h))
    clear hK hM hO hn
    gi_wp2
    exact HC.out
  case body =>
    rintro l' ⟨o, x1, x2, L', b⟩ vs c W ⟨rfl, S, hM, hO, hC⟩
    have hst : W.cell? ⟨w.heap.size, 0, none⟩ = some (.int .i64 stop) ∧ ∃ v, W.heap[W3.heap.size]? = some (.cells #[v] 38 (0, 0)) ∧ W.ownsRow (W4.heap.size + 2) 42 2 v o.length (cel o) ∧ W4.heap.size + 2 ≤ W.heap.size ∧ ∀ k, S k ↔ k < W4.heap.size ∨ v.ownBlock = some k := by
      obtain ⟨v, h1, h2, h3, h4, h5, h6⟩ := hM.1
      have := (h6.block w.heap.size (by omega) (fun q => by
        rcases q with q | q
        · have := HShw.out _ q; omega
        · omega)).trans HR4.out
      exact ⟨by rw [cell_of_row _ _ _ _ _ _ this]; rfl, v, h3, h4, h5, h1⟩
    obtain ⟨hsc, v, hv, hov, h5, hS1⟩ := hst
    obtain ⟨A, cp, rfl⟩ : ∃ A cp, v = .slice A o.length cp := by
      rcases hov.2 with ⟨e, e2⟩ | ⟨g, cap, cur, e, _⟩
      · exact ⟨none, 0, by rw [e, e2]⟩
      · exact ⟨_, cap, e⟩
    have ho100 : o.length ≤ 100 := by
      have e := congrArg List.length hM.2.1
      rw [Om.isort_length, List.length_append, HVL.out] at e
      simp at e
      omega
    have hpc : W.cell? ⟨W3.heap.size, 0, none⟩ = some (.slice A o.length cp) := by rw [cell_of_row _ _ _ _ _ _ hv]; rfl
    obtain ⟨cc1, cc2, -, -⟩ := two_cellsR hC.2.2
    have HPU := Lib.hid (fun (W2 : World) (g cap : Nat) => Dn.push (W2 := W2) (g := g) (cap := cap) (x1 := x1) (x2 := x2) (nw := .cells #[.int .i64 x1, .int .i64 x2] 42) hM.1 HSh.out HNp.out (by omega) hv)
    have HOV := Lib.hid (hov.alloc (.cells #[.int .i64 x1, .int .i64 x2] 42))
    have HO := Lib.hid hO
    have HM := Lib.hid hM.2
    have HVV := Lib.hid hv
    have hpl : W3.heap.size < W.heap.size := by omega
    have hwl : w.heap.size < W4.heap.size := by omega
    have HWS := Lib.hid (show W.heap[w.heap.size]? = some (.cells #[.int .i64 stop] 3 (0, 0)) from by
      obtain ⟨v, h1, h2, h3, h4, h5, h6⟩ := hM.1
      exact (h6.block w.heap.size (by omega) (fun q => by
        rcases q with q | q
        · have := HShw.out _ q; omega
        · omega)).trans HR4.out)
    have HWN := Lib.hid (show ∀ k, k < W4.heap.size → (Value.slice A o.length cp).ownBlock ≠ some k from fun k hk q => by have := (own_lt2 hov k q).1; omega)
    clear hM hO hC hv hov hS1
    generalize hP : leftBy W4.heap.size _ _ W = Pst
    have HP := Lib.hid hP
    clear hP
    by_cases hst : (o.length : Int) + 1 = stop
    · have g1 : ((o.length : Int) + 1 == stop) = true := by simpa using hst
      have HST := Lib.hid hst
      clear hst
      gi_wp2_with (gi_at_builtin; refine push_in2 _ rfl (.tmp 34) (.tmp 36) 38 rfl (W4.heap.size + 2) 42 i0 (.agg #[.int .i64 0, .int .i64 0]) 16 Try.underlying38 hi hz0 hz1 hz2 rfl (.slice A o.length cp) o.length (cel o) rfl HOV.out W.heap.size (.int .i64 x1) (.int .i64 x2) rfl (heap_new _ _ _) rfl rfl (by omega) (by omega) (by simp; omega) ?_; intro g cap' V2 r1 r2 r3; have hp2 := (r2.block W3.heap.size (by simp; omega) (fun e => HWN.out _ (by omega) e.symm)).trans ((Below.heap_alloc _ _ _ hpl).trans HVV.out); have hw2 := (r2.block w.heap.size (by simp; omega) (fun e => HWN.out _ (by omega) e.symm)).trans ((Below.heap_alloc _ _ _ (by omega)).trans HWS.out); have m3 : V2.cell? ⟨W3.heap.size, 0, none⟩ = some (.slice A o.length cp) := cell_of_row _ _ 0 _ _ _ hp2; have f3 := frozen_of_row V2 W3.heap.size 0 _ _ hp2; have m4 : V2.cell? ⟨w.heap.size, 0, none⟩ = some (.int .i64 stop) := cell_of_row _ _ 0 _ _ _ hw2; have HPP := Lib.hid (HPU.out V2 g cap' r1 r2 r3); clear r1 r2 r3 hp2 hw2)
      obtain ⟨S', q1, q2, q3⟩ := HPP.out
      rw [← HP.out]
      have hst := HST.out
      exact ⟨q2, rfl, o ++ [(x1, x2)], L', S', q1, by rw [HM.out.1]; simp, by omega, by simp; omega⟩
    · have g1 : ((o.length : Int) + 1 == stop) = false := by simpa using hst
      have HST := Lib.hid hst
      clear hst
      gi_wp2_with (gi_at_builtin; refine push_in2 _ rfl (.tmp 34) (.tmp 36) 38 rfl (W4.heap.size + 2) 42 i0 (.agg #[.int .i64 0, .int .i64 0]) 16 Try.underlying38 hi hz0 hz1 hz2 rfl (.slice A o.length cp) o.length (cel o) rfl HOV.out W.heap.size (.int .i64 x1) (.int .i64 x2) rfl (heap_new _ _ _) rfl rfl (by omega) (by omega) (by simp; omega) ?_; intro g cap' V2 r1 r2 r3; have hp2 := (r2.block W3.heap.size (by simp; omega) (fun e => HWN.out _ (by omega) e.symm)).trans ((Below.heap_alloc _ _ _ hpl).trans HVV.out); have hw2 := (r2.block w.heap.size (by simp; omega) (fun e => HWN.out _ (by omega) e.symm)).trans ((Below.heap_alloc _ _ _ (by omega)).trans HWS.out); have m3 : V2.cell? ⟨W3.heap.size, 0, none⟩ = some (.slice A o.length cp) := cell_of_row _ _ 0 _ _ _ hp2; have f3 := frozen_of_row V2 W3.heap.size 0 _ _ hp2; have m4 : V2.cell? ⟨w.heap.size, 0, none⟩ = some (.int .i64 stop) := cell_of_row _ _ 0 _ _ _ hw2; have HPP := Lib.hid (HPU.out V2 g cap' r1 r2 r3); clear r1 r2 r3 hp2 hw2)
      obtain ⟨S', q1, q2, q3⟩ := HPP.out
      rw [← HP.out]
      have q4 := q3 b HO.out.1 (by have := HO.out.2.1; omega) (lt_of_block HO.out.2.2)
      exact ⟨q2, S', ⟨q1, by rw [HM.out.1]; simp, by have := HM.out.2; have := HST.out; simp only [List.length_append, List.length_cons, List.length_nil]; omega⟩, q4.1, HO.out.2.1, q4.2.trans HO.out.2.2⟩
  case' done =>
    rintro D W rfl ⟨o, S, hdn, hso, hns⟩ hK
    have HE : Hid (∃ o L S, Dn W4 Sh W3.heap.size B o L S W ∧ Om.isort Om.near l = o ++ Om.isort Om.near L ∧ (o.length : Int) = if 0 < stop ∧ stop < (len0 : Int) then stop else (len0 : Int)) := by
      have e := congrArg List.length hso
      rw [Om.isort_length, HVL.out] at e
      exact ⟨o, [], S, hdn, by rw [hso]; simp [Om.isort_nil], by split <;> omega⟩
    clear hdn hso hns
  case' stop =>
    rintro D c W rfl ⟨rfl, o, L, S, hdn, hso, hs1, hs2⟩ hK
    have HE : Hid (∃ o L S, Dn W4 Sh W3.heap.size B o L S W ∧ Om.isort Om.near l = o ++ Om.isort Om.near L ∧ (o.length : Int) = if 0 < stop ∧ stop < (len0 : Int) then stop else (len0 : Int)) := by
      have e := congrArg List.length hso
      rw [Om.isort_length, List.length_append, HVL.out] at e
      exact ⟨o, L, S, hdn, hso, by split <;> omega⟩
    clear hdn hso hs1 hs2
  all_goals
    obtain ⟨o, L, S, ⟨v, h1, h2, h3, h4, h5, h6⟩, hso, hnn⟩ := HE.out
    have HH := Lib.hid h2
    have HSO := Lib.hid hso
    have hLen : len0 = o.length + L.length := by
      have e := congrArg List.length hso
      rwa [Om.isort_length, List.length_append, Om.isort_length, HVL.out] at e
    obtain ⟨A, cp, rfl⟩ : ∃ A cp, v = .slice A o.length cp := by
      rcases h4.2 with ⟨e, e2⟩ | ⟨g, cap, cur, e, _⟩
      · exact ⟨none, 0, by rw [e, e2]⟩
      · exact ⟨_, cap, e⟩
    have HOV := Lib.hid (VecE.of_own h4)
    have HP := Lib.hid h3
    have HKD := Lib.hid hK
    have HWS := Lib.hid ((h6.block w.heap.size (by omega) (fun q => by
      rcases q with q | q
      · have := HShw.out _ q; omega
      · omega)).trans HR4.out)
    have BW : Hid (Below w.heap.size w W) := B4.out.trans (h6.old B4.out.size fun k q => by
      rcases q with q | q
      · have := HShw.out _ q; omega
      · omega)
    have s5 : W4.heap.size + 2 ≤ W.heap.size := h5
    have HSORT := Lib.hid (refR_at a0 len0 cap0 l W (HV.out.below BW.out) (by omega))
    have HLN := Lib.hid hLen
    have HNN := Lib.hid hnn
    have ho1 : o.length ≤ len0 := by omega
    clear hK HE h1 h2 h3 h4 h5 h6 hso HR4 H4 B4 HP4 HQ4 hi hz0 hz1 hz2 hLen hnn
    gi_wp2_with fail
    refine ⟨trivial, ?_⟩
    refine (callsIn_wide.2 HSORT.out).mono ?_
    rintro _ W5 ⟨A5, c5, rfl, hv5, hb5, hg5, hc5⟩
    have B5 := Lib.hid (BW.out.trans (hb5.mono BW.out.size))
    have HV5 := Lib.hid hv5
    have HG5 := Lib.hid hg5
    have H5 := Lib.hid (HH.out.below hb5)
    have HO5 := Lib.hid (HOV.out.below hb5)
    have cp5 : W5.cell? ⟨W3.heap.size, 0, none⟩ = some (.slice A o.length cp) := by rw [cell_of_row _ _ _ _ _ _ ((hb5.block _ (by omega)).trans HP.out)]; rfl
    have cs5 : W5.cell? ⟨w.heap.size, 0, none⟩ = some (.int .i64 stop) := by rw [cell_of_row _ _ _ _ _ _ ((hb5.block _ (by omega)).trans HWS.out)]; rfl
    have HD5 : Hid (W5.heap[W3.heap.size + 2]? = some (.deferred (some []))) := by rw [← s4]; exact (hb5.block W4.heap.size (by omega)).trans HKD.out
    have s6 := hb5.size
    clear hv5 hb5 hg5 HSORT HH HOV HP HKD HWS BW
    by_cases hc : 0 < stop ∧ stop < (len0 : Int)
    · have hso : stop = (o.length : Int) := by have := HNN.out; rw [if_pos hc] at this; exact this.symm
      have g1 : decide (0 < stop) = true := by simpa using hc.1
      have g2 : decide (stop < (len0 : Int)) = true := by simpa using hc.2
      clear hc HNN
      subst hso
      have g3 : 0 < o.length := by simpa using g1
      have g4 : o.length < len0 := by simpa using g2
      have g5 : decide (0 < o.length) = true := by simpa using g3
      have g6 : decide (o.length < len0) = true := by simpa using g4
      have oc : o.length ≤ c5 := by omega
      have e1 : (len0 : Int) - (o.length : Int) = (L.length : Int) := by have := HLN.out; omega
      have e2 : IntKind.i64.wrap ((len0 : Int) - (o.length : Int)) = (L.length : Int) := by rw [e1]; exact IntWalk.i64_in _ (by have := HLN.out; omega)
      have e3 : IntKind.i64.wrap (L.length : Int) = (L.length : Int) := IntWalk.i64_in _ (by have := HLN.out; omega)
      have HTK := Lib.hid (show (Om.isort Om.near l).take o.length = o from by rw [HSO.out, List.take_left' (rfl)])
      have HDR := Lib.hid (show (Om.isort Om.near l).drop o.length = Om.isort Om.near L from by rw [HSO.out, List.drop_left' (rfl)])
      have HSM := sameR A A5 o.length o.length cp c5 o ((Om.isort Om.near l).take o.length) W5.drew HO5.out.drew (HV5.out.take (by omega)).drew (by omega) (by omega)
      rw [HTK.out, decide_eq_true rfl] at HSM
      have HSM' := Lib.hid HSM
      clear HSM
      gi_wp2
      refine wpIn_mono (?_ : Code.wpIn _ _ _ _ (NoPanic _) _ _) NoPanic.imp
      gi_region_with (first
        | (refine ⟨trivial, ?_⟩; gi_at_call 23; refine (callsIn_wide.2 HSM'.out).mono ?_; rintro _ U1 ⟨rfl, ub⟩; have HUB := Lib.hid (show Below W5.heap.size W5 U1 from ((Below.refl _ W5).drew).trans ub); clear ub)
        | (refine ⟨trivial, ?_⟩; gi_at_call 20; refine (callsIn_wide.2 (lenR Sh B L U1 (H5.out.below HUB.out))).mono ?_; rintro _ U2 ⟨rfl, rfl⟩))
      all_goals
        refine NoPanic.normal ?_
        go_simp
        have H6 := Lib.hid (H5.out.below HUB.out)
        have B6 := Lib.hid (B5.out.trans (HUB.out.mono B5.out.size))
        have HD6 := Lib.hid ((HUB.out.block (W3.heap.size + 2) (by omega)).trans HD5.out)
        have HV6 := Lib.hid (HV5.out.below HUB.out)
        have s7 := HUB.out.size
        have HDK := Lib.hid HDR.out
        clear HUB HSM' H5 HD5 HV5 HO5 B5 cp5 cs5 HTK HDR
        gi_wp2
        gi_loopw [10] (fun I wr => ∃ (i : Nat) (Li : List Om.E), I = .int .i64 (i : Int) ∧ i ≤ len0 ∧ HeapR wr Sh B Li ∧ Om.isort Om.near Li = (Om.isort Om.near l).drop i ∧ Kept Sh U2 wr) (fun I _ => len0 - (intOf I).toNat)
        case atStart => exact ⟨o.length, L, rfl, by omega, H6.out, HDK.out.symm, Kept.refl _ _⟩
        case round =>
          obtain ⟨i, Li, rfl, il, hh, hs, hk⟩ := hrel
          have HHi := Lib.hid hh
          have HSi := Lib.hid hs
          have HKi := Lib.hid hk
          have hLi : Li.length = len0 - i := by
            have e := congrArg List.length hs
            rwa [Om.isort_length, List.length_drop, Om.isort_length, HVL.out] at e
          have HLi := Lib.hid hLi
          clear hh hs hk hLi
          by_cases hlt : i < len0
          · gi_wp2_with fail
            refine ⟨trivial, ?_⟩
            refine (callsIn_wide.2 (popR Sh B Li wr HHi.out (by rw [HLi.out]; omega))).mono ?_
            rintro _ X1 ⟨x1, x2, ok, L', rfl, po, hh', hk'⟩
            have hok := Om.po_some po (by rw [HLi.out]; omega)
            subst hok
            have hpp := Om.isort_pop Om.near_ord near_heq po
            rw [HSi.out] at hpp
            have hx : (Om.isort Om.near l)[i]? = some (x1, x2) := by
              have := congrArg (fun t : List Om.E => t[0]?) hpp
              simpa [List.getElem?_drop] using this
            have HNX := Lib.hid (show Om.isort Om.near L' = (Om.isort Om.near l).drop (i + 1) from by
              have := congrArg (fun t : List Om.E => t.drop 1) hpp
              simpa [List.drop_drop, Nat.add_comm] using this.symm)
            have HH' := Lib.hid (hh'.below ((Below.refl _ X1).alloc (Nat.le_refl _) (.cells #[.int .i64 x1, .int .i64 x2] 42)))
            have hk2 := HKi.out.trans hk' fun k h => .inl h
            have HK' := Lib.hid (hk2.below ((Below.refl _ X1).alloc (Nat.le_refl _) (.cells #[.int .i64 x1, .int .i64 x2] 42)))
            obtain ⟨b5, off5, rfl, hb5, e5, e6⟩ := HV6.out.at_ hx
            have hn5 : ¬ Sh b5 := fun q => by have := HSh.out _ q; have := HG5.out _ _ rfl; omega
            have y1 := (World.cell?_of_block (a := ⟨b5, off5 + i * 2, none⟩) (HK'.out.block b5 hb5 hn5)).trans e5
            have y2 := (World.cell?_of_block (a := ⟨b5, off5 + i * 2 + 1, none⟩) (HK'.out.block b5 hb5 hn5)).trans e6
            have u1 := fun W => neqR x1 x2 x1 x2 W
            have u2 := fun op x y W => guardR op x y x1 x2 x1 x2 W
            clear po hh' hk' hpp hx hk2 hb5 e5 e6 hn5
            gi_wp2
            refine wpIn_mono (?_ : Code.wpIn _ _ _ _ (NoPanic _) _ _) NoPanic.imp
            gi_region_with (fail)
            all_goals
              refine NoPanic.normal ?_
              clear y1 y2 u1 u2
              have HK9 := Lib.hid HK'.out.drew
              have HH9 := Lib.hid HH'.out.drew
              go_simp
              gi_wp2
              go_roundw
              case rel => exact ⟨i + 1, L', congrArg (Value.int .i64) (by omega), by omega, HH9.out, HNX.out, HK9.out⟩
              case measure => simp [intOf]; omega
          · obtain rfl : i = len0 := by omega
            gi_wp2_with fail
            refine ⟨trivial, ?_⟩
            refine (callsIn_wide.2 (popR Sh B Li wr HHi.out (by rw [HLi.out]; omega))).mono ?_
            rintro _ X1 ⟨x1, x2, ok, L', rfl, po, hh', hk'⟩
            have hok := Om.po_nil po (by rw [HLi.out]; omega)
            subst hok
            have hk2 := (HKi.out.trans hk' fun k h => .inl h).below ((Below.refl _ X1).alloc (Nat.le_refl _) (.cells #[.int .i64 x1, .int .i64 x2] 42))
            have HK' := Lib.hid hk2
            have HDE := Lib.hid ((hk2.block (W3.heap.size + 2) (by omega) (fun q => by have := HSh.out _ q; omega)).trans HD6.out)
            have HU := Lib.hid (B6.out.trans (hk2.old B6.out.size fun k q => by have := HShw.out _ q; omega))
            clear po hh' hk' hk2
            gi_wp2
            refine ⟨by simp, .inl ⟨_, _, rfl, run_takeDeferred HDE.out, ?_⟩⟩
            exact ⟨_, results_tmp rfl _ _ _, rfl, HU.out.trans (below_put (by omega) _)⟩
    · have ho2 : len0 = o.length := by have := HNN.out; rw [if_neg hc] at this; omega
      obtain rfl : L = [] := List.length_eq_zero_iff.1 (by have := HLN.out; omega)
      have HO2 := Lib.hid ho2
      have oc : len0 ≤ c5 := by omega
      by_cases g1 : 0 < stop
      · have g2 : decide (stop < (len0 : Int)) = false := by simp; omega
        have g3 : decide (0 < stop) = true := by simpa using g1
        have e2 : IntKind.i64.wrap ((len0 : Int) - (len0 : Int)) = 0 := by rw [Int.sub_self]; exact IntWalk.i64_in _ (by omega)
        have e3 : IntKind.i64.wrap 0 = 0 := IntWalk.i64_in _ (by omega)
        clear ho2 hc HNN
        have HTK := Lib.hid (show (Om.isort Om.near l).take len0 = o from by rw [HSO.out, List.take_left' HO2.out.symm])
        have HDR := Lib.hid (show (Om.isort Om.near l).drop len0 = Om.isort Om.near [] from by rw [HSO.out, List.drop_left' HO2.out.symm])
        have HSM := sameR A A5 o.length len0 cp c5 o ((Om.isort Om.near l).take len0) W5.drew HO5.out.drew (HV5.out.take (by omega)).drew (by omega) (by omega)
        rw [HTK.out, decide_eq_true rfl] at HSM
        have HSM' := Lib.hid HSM
        clear HSM
        gi_wp2
        refine wpIn_mono (?_ : Code.wpIn _ _ _ _ (NoPanic _) _ _) NoPanic.imp
        gi_region_with (first
          | (refine ⟨trivial, ?_⟩; gi_at_call 23; refine (callsIn_wide.2 HSM'.out).mono ?_; rintro _ U1 ⟨rfl, ub⟩; have HUB := Lib.hid (show Below W5.heap.size W5 U1 from ((Below.refl _ W5).drew).trans ub); clear ub)
          | (refine ⟨trivial, ?_⟩; gi_at_call 20; refine (callsIn_wide.2 (lenR Sh B [] U1 (H5.out.below HUB.out))).mono ?_; rintro _ U2 ⟨rfl, rfl⟩))
        all_goals
          refine NoPanic.normal ?_
          go_simp
          have H6 := Lib.hid (H5.out.below HUB.out)
          have B6 := Lib.hid (B5.out.trans (HUB.out.mono B5.out.size))
          have HD6 := Lib.hid ((HUB.out.block (W3.heap.size + 2) (by omega)).trans HD5.out)
          have HV6 := Lib.hid (HV5.out.below HUB.out)
          have s7 := HUB.out.size
          have HDK := Lib.hid HDR.out
          clear HUB HSM' H5 HD5 HV5 HO5 B5 cp5 cs5 HTK HDR
          gi_wp2
          gi_loopw [10] (fun I wr => I = .int .i64 (len0 : Int) ∧ wr = U2) (fun _ _ => 0)
          case atStart => exact ⟨rfl, rfl⟩
          case round =>
            obtain ⟨rfl, hw⟩ := hrel
            subst hw
            gi_wp2_with fail
            refine ⟨trivial, ?_⟩
            refine (callsIn_wide.2 (popR Sh B [] wr H6.out (by simp))).mono ?_
            rintro _ X1 ⟨x1, x2, ok, L', rfl, po, hh', hk'⟩
            have hok := Om.po_nil po rfl
            subst hok
            have hk2 := hk'.below ((Below.refl _ X1).alloc (Nat.le_refl _) (.cells #[.int .i64 x1, .int .i64 x2] 42))
            have HDE := Lib.hid ((hk2.block (W3.heap.size + 2) (by omega) (fun q => by have := HSh.out _ q; omega)).trans HD6.out)
            have HU := Lib.hid (B6.out.trans (hk2.old B6.out.size fun k q => by have := HShw.out _ q; omega))
            clear po hh' hk' hk2
            gi_wp2
            refine ⟨by simp, .inl ⟨_, _, rfl, run_takeDeferred HDE.out, ?_⟩⟩
            exact ⟨_, results_tmp rfl _ _ _, rfl, HU.out.trans (below_put (by omega) _)⟩
      · have g3 : decide (0 < stop) = false := by simpa using g1
        have e2 : IntKind.i64.wrap ((len0 : Int) - (len0 : Int)) = 0 := by rw [Int.sub_self]; exact IntWalk.i64_in _ (by omega)
        have e3 : IntKind.i64.wrap 0 = 0 := IntWalk.i64_in _ (by omega)
        clear ho2 hc HNN
        have HTK := Lib.hid (show (Om.isort Om.near l).take len0 = o from by rw [HSO.out, List.take_left' HO2.out.symm])
        have HDR := Lib.hid (show (Om.isort Om.near l).drop len0 = Om.isort Om.near [] from by rw [HSO.out, List.drop_left' HO2.out.symm])
        have HSM := sameR A A5 o.length len0 cp c5 o ((Om.isort Om.near l).take len0) W5.drew HO5.out.drew (HV5.out.take (by omega)).drew (by omega) (by omega)
        rw [HTK.out, decide_eq_true rfl] at HSM
        have HSM' := Lib.hid HSM
        clear HSM
        gi_wp2
        refine wpIn_mono (?_ : Code.wpIn _ _ _ _ (NoPanic _) _ _) NoPanic.imp
        gi_region_with (first
          | (refine ⟨trivial, ?_⟩; gi_at_call 23; refine (callsIn_wide.2 HSM'.out).mono ?_; rintro _ U1 ⟨rfl, ub⟩; have HUB := Lib.hid (show Below W5.heap.size W5 U1 from ((Below.refl _ W5).drew).trans ub); clear ub)
          | (refine ⟨trivial, ?_⟩; gi_at_call 20; refine (callsIn_wide.2 (lenR Sh B [] U1 (H5.out.below HUB.out))).mono ?_; rintro _ U2 ⟨rfl, rfl⟩))
        all_goals
          refine NoPanic.normal ?_
          go_simp
          have H6 := Lib.hid (H5.out.below HUB.out)
          have B6 := Lib.hid (B5.out.trans (HUB.out.mono B5.out.size))
          have HD6 := Lib.hid ((HUB.out.block (W3.heap.size + 2) (by omega)).trans HD5.out)
          have HV6 := Lib.hid (HV5.out.below HUB.out)
          have s7 := HUB.out.size
          have HDK := Lib.hid HDR.out
          clear HUB HSM' H5 HD5 HV5 HO5 B5 cp5 cs5 HTK HDR
          gi_wp2
          gi_loopw [10] (fun I wr => I = .int .i64 (len0 : Int) ∧ wr = U2) (fun _ _ => 0)
          case atStart => exact ⟨rfl, rfl⟩
          case round =>
            obtain ⟨rfl, hw⟩ := hrel
            subst hw
            gi_wp2_with fail
            refine ⟨trivial, ?_⟩
            refine (callsIn_wide.2 (popR Sh B [] wr H6.out (by simp))).mono ?_
            rintro _ X1 ⟨x1, x2, ok, L', rfl, po, hh', hk'⟩
            have hok := Om.po_nil po rfl
            subst hok
            have hk2 := hk'.below ((Below.refl _ X1).alloc (Nat.le_refl _) (.cells #[.int .i64 x1, .int .i64 x2] 42))
            have HDE := Lib.hid ((hk2.block (W3.heap.size + 2) (by omega) (fun q => by have := HSh.out _ q; omega)).trans HD6.out)
            have HU := Lib.hid (B6.out.trans (hk2.old B6.out.size fun k q => by have := HShw.out _ q; omega))
            clear po hh' hk' hk2
            gi_wp2
            refine ⟨by simp, .inl ⟨_, _, rfl, run_takeDeferred HDE.out, ?_⟩⟩
            exact ⟨_, results_tmp rfl _ _ _, rfl, HU.out.trans (below_put (by omega) _)⟩
theorem own : ownKnob Try.prog.godebug = none := by kernel_rfl
theorem laidOut : laidOutB Try.prog = true := by kernel_rfl
set_option maxRecDepth 100000 in
theorem lifted (os : Os) (started : os.Started) (H : Type) (enc : TypeId × Value → H) :
    ReturnsInHanded {} Try.checked os 4 .any (Rows.heapDrainsSpec.pre6 enc Try.prog Try.f4 Rows.heapDrainsRow.domain false) (Rows.heapDrainsSpec.post enc Try.prog Try.f4 false true false false) := by
  refine returnsInHanded_of_change (C := Try.checked) own started (by kernel_rfl) Try.func4
    (ChangeSpec.witness6 (enc := enc) (C := Try.checked) false ⟨#[], #[.slice none 0 0, .int .i64 0], []⟩ 8 (by kernel_rfl) (by kernel_rfl) (by kernel_rfl) (by kernel_rfl)) ?_
  intro W base args ds gs before hval0 hW hcnd _
  have hval : ∀ (j : Nat) t v, Try.f4.params[j]? = some t → args[j]? = some v → Value.okWide Try.prog W .any base t v := hval0
  have hW' := hW
  obtain ⟨p, q, hA0, hV, rfl, hfz, hnd⟩ := hW
  have hA : DataW.TrodAll enc Try.prog W 0 (fun _ => true) true Try.f4.params.toList args.toList ds p := hA0
  rw [Try.params4] at hA hval
  obtain ⟨v0, vs0, d0, ds0, p0, q0, hargs, rfl, rfl, h0, r0⟩ := trodAll_cons hA
  obtain ⟨v1, vs1, d1, ds1, p1, q1, rfl, rfl, rfl, h1, r1⟩ := trodAll_cons r0
  obtain ⟨rfl, rfl, rfl⟩ := trodAll_nil r1
  obtain rfl : args = #[v0, v1] := by cases args; simp_all
  obtain ⟨rfl, rfl⟩ := trodVars_none hV
  obtain ⟨a0, len0, cap0, rfl⟩ := okWide_slice Try.underlying38 (hval 0 38 v0 rfl rfl)
  have k0 := h0
  have lt0 : ∀ x ∈ p0, x.block < W.heap.size := by obtain ⟨m, hm⟩ := k0; exact DataW.trod_lt m _ _ _ hm
  obtain ⟨z0, w0⟩ : ∃ l, VecE W a0 len0 l ∧ len0 ≤ cap0 ∧ (a0 = none → cap0 = 0) := by
    obtain ⟨fuel, hf⟩ := h0
    rcases Go.Deep.open_slice_pairs Try.underlying38 Try.underlying42 (by kernel_rfl) rfl rfl (by kernel_rfl) (by kernel_rfl) hf with ⟨hcs, _⟩ | ⟨x, len, cap, m, n, V0, V1, D0, D1, P0, P1, hcs, _, hl, _, hmm, _, hcell⟩
    · simp [Value.cells] at hcs
      obtain ⟨rfl, rfl, rfl⟩ := hcs
      exact ⟨[], VecE.nil_ _ _, Nat.le_refl _, fun _ => rfl⟩
    · simp [Value.cells] at hcs
      obtain ⟨rfl, rfl, rfl⟩ := hcs
      obtain ⟨l, hv⟩ := VecE.of_each (w := W) (x := x) len0 (fun j hj => by
        obtain ⟨h1, h2, h3, h4⟩ := hcell j (by simp at hmm; omega)
        obtain ⟨p, hp, -⟩ := DataW.trod_int Try.underlying3 h3
        obtain ⟨q, hq, -⟩ := DataW.trod_int Try.underlying2 h4
        simp at hp hq
        exact ⟨(p, q), by rw [h1, hp], by rw [h2, hq]⟩)
      exact ⟨l, hv, hl, fun h => by cases h⟩
  obtain ⟨a1, rfl, rfl, rfl, w1⟩ := open_int Try.underlying3 (hval 1 3 v1 rfl rfl) h1
  clear hA0 hval0
  refine (walk a0 len0 cap0 z0 a1 W w0 w1).mono fun e W' ⟨he, bel⟩ => ?_
  subst he
  exact ⟨_, rfl, _, _, _, [], _, [], hW', trodAll_mk1 (shut_bool Try.underlying4 _), (trodAll_cons_mk (Below.trod laidOut (by kernel_rfl) (of_decide_eq_true (by kernel_rfl)) k0 bel lt0) (trodAll_cons_mk (shut_int Try.underlying3 w1) trodAll_mk0)), rfl, bel.frame _, fun h => by cases h⟩
theorem over : Rows.heapDrainsRow.holds Try.pinned (OpenSpec.ofChange Rows.heapDrainsSpec) :=
  OpenClaim.holds_of_wide 4 Try.f4 rfl rfl rfl rfl rfl rfl rfl ⟨rfl, rfl, rfl, rfl, rfl⟩ rfl rfl rfl rfl rfl (by kernel_rfl) Try.func4 (by kernel_rfl)
    (of_decide_eq_true (by kernel_rfl)) (by unfold Func.isWrapper; first | (rw [if_pos (by decide +kernel)]; kernel_rfl) | (rw [if_neg (by decide +kernel)]; exact ⟨rfl, rfl⟩))
    (fun os started H enc _ => lifted os started H enc)
/-- the statement -/
theorem proved : Rows.HeapDrainsSaid := over
#print axioms proved
end heapDrains
end Go.Proofs.Ytefdohjcgolhjaa
