/-
  HeapTasks: tasks come by the greatest margin, and of like ones as they came. No condition.
-/
import Derived.Test.YtefdohjcgolhjaaHItrT
import Derived.Test.YtefdohjcgolhjaaHPshT
import Derived.Test.YtefdohjcgolhjaaHSrt
import Derived.Test.YtefdohjcgolhjaaHAwk
import Derived.Test.YtefdohjcgolhjaaOTag
import Derived.Lib.SmallJoins
import Derived.Shelf.AbstractIn
import Derived.Stop.RegionWithIn
import Derived.Test.YtefdohjcgolhjaaHQui
import Derived.Deep.RegionHeld3
import Derived.Deep.DeepCutAuto
import Derived.Deep.WholeRow
import Derived.OpenShut
namespace Go.Proofs.Ytefdohjcgolhjaa
open Go.RowKit Go.Joins Go.ChangeShapes Go.WideShapes Go.Deep Go.Shelf
namespace heapTasks
attribute [local go_sem] Oper.semAt_some

theorem ahead_oord : Om.Ord Om.ahead := ⟨ahead_hord.asym, ahead_hord.go⟩
/-- the last one, and zero if there is none -/
def lst (o : List Om.E) : Om.E := o.getLast?.getD (0, 0)
theorem lst_snoc (o : List Om.E) (x : Om.E) : lst (o ++ [x]) = x := by simp [lst]
theorem tag_mem {z : List Int} {x : Om.E} (h : x ∈ Om.tag z 0) : ∃ i : Nat, x.2 = (i : Int) ∧ z[i]? = some x.1 := by
  obtain ⟨i, hi, e⟩ := List.mem_iff_getElem.1 h
  have h2 : (Om.tag z 0)[i]? = some x := by rw [List.getElem?_eq_getElem hi, e]
  rw [Om.tag_at] at h2
  cases hz : z[i]? with
  | none => rw [hz] at h2; cases h2
  | some v =>
    rw [hz] at h2
    simp at h2
    subst h2
    exact ⟨i, by simp, hz⟩
theorem tag_nodup (z : List Int) : (Om.tag z 0).Nodup := by
  rw [List.nodup_iff_pairwise_ne, List.pairwise_iff_getElem]
  intro i j hi hj hij e
  have h1 : (Om.tag z 0)[i]? = some (Om.tag z 0)[i] := List.getElem?_eq_getElem hi
  have h2 : (Om.tag z 0)[j]? = some (Om.tag z 0)[j] := List.getElem?_eq_getElem hj
  rw [Om.tag_at] at h1 h2
  rw [Om.tag_length] at hi hj
  rw [List.getElem?_eq_getElem hi] at h1
  rw [List.getElem?_eq_getElem hj] at h2
  simp at h1 h2
  rw [← h1, ← h2] at e
  simp at e
  omega
/-- one that comes behind another: as the law asks it -/
theorem behind {z : List Int} {o L : List Om.E} {x : Om.E} (h : Om.isort Om.ahead (Om.tag z 0) = o ++ x :: L) (ho : 0 < o.length) : ¬ (lst o).1 < x.1 ∧ (x.1 = (lst o).1 → (lst o).2 < x.2) := by
  have hs := Om.isort_srt ahead_oord (Om.tag z 0)
  have hn : (Om.isort Om.ahead (Om.tag z 0)).Nodup := (Om.isort_perm (f := Om.ahead) (Om.tag z 0)).symm.nodup (tag_nodup z)
  rw [h] at hs hn
  have hm : lst o ∈ o := by
    unfold lst
    cases hl : o.getLast? with
    | none => rw [List.getLast?_eq_none_iff] at hl; rw [hl] at ho; simp at ho
    | some y => exact List.mem_of_getLast? hl
  have h1 : Om.ahead x (lst o) = false := (List.pairwise_append.1 hs).2.2 _ hm x (by simp)
  have h2 : lst o ≠ x := fun e => (List.nodup_append.1 hn).2.2 _ hm x (by simp) e
  generalize lst o = y at h1 h2
  obtain ⟨y1, y2⟩ := y
  obtain ⟨x1, x2⟩ := x
  simp only [Om.ahead] at h1
  have h3 : y1 = x1 → y2 ≠ x2 := fun e1 e2 => h2 (by rw [e1, e2])
  split at h1 <;> simp at h1 ⊢ <;> omega

/-- the heap (in the blocks of Sh), the last one told (block p) and how many (block r), since W0; all else that was there is as it was -/
def Tn (W0 : World) (Sh : Nat → Prop) (p r B : Nat) (o L : List Om.E) (S : Nat → Prop) (W : World) : Prop :=
  (∀ k, S k ↔ k < W0.heap.size) ∧ HeapT W Sh B L ∧ W.heap[p]? = some (.cells #[.int .i64 (lst o).1, .int .i64 (lst o).2] 56 (0, 0)) ∧ W.heap[r]? = some (.cells #[.int .i64 (o.length : Int)] 3 (0, 0)) ∧ W0.heap.size + 2 ≤ W.heap.size ∧ Kept (fun k => Sh k ∨ k = p ∨ k = r) W0 W
section
variable {W0 W W' : World} {Sh S : Nat → Prop} {p r B : Nat} {o L L' : List Om.E}
theorem Tn.lt (h : Tn W0 Sh p r B o L S W) : ∀ k, S k → k < W.heap.size := fun k hk => by have := (h.1 k).1 hk; have := h.2.2.2.2.1; omega
theorem Tn.keep (h : Tn W0 Sh p r B o L S W) (hSh : ∀ k, Sh k → k < W0.heap.size) (hp : p < W0.heap.size) (hr : r < W0.heap.size) (hk : Kept (fun k => ¬ S k) W W') : Tn W0 Sh p r B o L S W' := by
  have hl := h.lt
  obtain ⟨h1, h2, h3, h4, h5, h6⟩ := h
  have hs : ∀ k, S k → W'.heap[k]? = W.heap[k]? := fun k q => hk.block k (hl k q) (fun q2 => q2 q)
  refine ⟨h1, h2.keep hk.size fun k q => hs k ((h1 k).2 (hSh k q)), (hs p ((h1 p).2 hp)).trans h3, (hs r ((h1 r).2 hr)).trans h4, Nat.le_trans h5 hk.size, h6.trans hk fun k q => .inr ?_⟩
  rcases Nat.lt_or_ge k W0.heap.size with q2 | q2
  · exact absurd ((h1 k).2 q2) q
  · exact q2
theorem Tn.off (h : Tn W0 Sh p r B o L S W) (hSh : ∀ k, Sh k → k < W0.heap.size) (hp : p < W0.heap.size) (hr : r < W0.heap.size) (ho : Off (W0.heap.size + 1) W W') : Tn W0 Sh p r B o L S W' := by
  refine h.keep hSh hp hr ⟨ho.os, ho.tape, ho.output, by rw [ho.size]; exact Nat.le_refl _, fun k hk hn => ho.block k fun e => ?_⟩
  subst e
  have hS : S (W0.heap.size + 1) := Classical.not_not.1 hn
  have := (h.1 _).1 hS
  omega
theorem Tn.start (hh : HeapT W0 Sh B L) (hp : W0.heap[p]? = some (.cells #[.int .i64 0, .int .i64 0] 56 (0, 0))) (hr : W0.heap[r]? = some (.cells #[.int .i64 0] 3 (0, 0))) (hb : Below W0.heap.size W0 W) (hs : W.heap.size = W0.heap.size + 2) : ∃ S, Tn W0 Sh p r B [] L S W :=
  ⟨fun k => k < W0.heap.size, fun _ => Iff.rfl, hh.below hb, (hb.block p (lt_of_block hp)).trans hp, (hb.block r (lt_of_block hr)).trans hr, by omega, Kept.of_below hb⟩
theorem Tn.pop (h : Tn W0 Sh p r B o L S W) (hps : ¬ Sh p) (hrs : ¬ Sh r) (hn : L.length ≤ 100000) :
    Calls Try.prog 42 #[.pointer (some ⟨B, 0, none⟩)] W fun e W' => ∃ x1 x2 ok L', e = .returned (.tuple #[.agg #[.int .i64 x1, .int .i64 x2], .bool ok]) ∧ Hm.Po Om.ahead (0, 0) L (x1, x2) ok L' ∧ Tn W0 Sh p r B o L' S W' ∧ Kept Sh W W' := by
  obtain ⟨h1, h2, h3, h4, h5, h6⟩ := h
  refine (popT Sh B L W h2 hn).mono ?_
  rintro e W' ⟨x1, x2, ok, L', he, po, h2', k⟩
  exact ⟨x1, x2, ok, L', he, po, ⟨h1, h2', (k.block p (lt_of_block h3) hps).trans h3, (k.block r (lt_of_block h4) hrs).trans h4, Nat.le_trans h5 k.size, h6.trans k fun _ q => .inl (.inl q)⟩, k⟩
theorem one_set {W : World} {g : Nat} {a u : Value} {t : TypeId} (h : W.heap[g]? = some (.cells #[a] t (0, 0))) : (W.setCell ⟨g, 0, none⟩ u).heap[g]? = some (.cells #[u] t (0, 0)) := by
  rw [heap_setCell_same _ _ _ _ _ _ h]; rfl
/-- a round's end: the last one, and one more -/
theorem Tn.next (h : Tn W0 Sh p r B o L S W) (hSh : ∀ k, Sh k → k < W0.heap.size) (hps : ¬ Sh p) (hrs : ¬ Sh r) (hp : p < W0.heap.size) (hr : r < W0.heap.size) (hpr : p ≠ r) (x1 x2 : Int) :
    Tn W0 Sh p r B (o ++ [(x1, x2)]) L S (((W.setCell ⟨p, 0, none⟩ (.int .i64 x1)).setCell ⟨p, 1, none⟩ (.int .i64 x2)).setCell ⟨r, 0, none⟩ (.int .i64 ((o.length : Int) + 1))) ∧
    KeepsFrom W0.heap.size W (((W.setCell ⟨p, 0, none⟩ (.int .i64 x1)).setCell ⟨p, 1, none⟩ (.int .i64 x2)).setCell ⟨r, 0, none⟩ (.int .i64 ((o.length : Int) + 1))) ∧
    ∀ b, W0.heap.size ≤ b → (((W.setCell ⟨p, 0, none⟩ (.int .i64 x1)).setCell ⟨p, 1, none⟩ (.int .i64 x2)).setCell ⟨r, 0, none⟩ (.int .i64 ((o.length : Int) + 1))).heap[b]? = W.heap[b]? := by
  obtain ⟨h1, h2, h3, h4, h5, h6⟩ := h
  have hold : ∀ j, j ≠ p → j ≠ r → (((W.setCell ⟨p, 0, none⟩ (.int .i64 x1)).setCell ⟨p, 1, none⟩ (.int .i64 x2)).setCell ⟨r, 0, none⟩ (.int .i64 ((o.length : Int) + 1))).heap[j]? = W.heap[j]? := fun j q1 q2 => by
    rw [Below.heap_setCell _ _ _ _ (show j ≠ r from q2), Below.heap_setCell _ _ _ _ (show j ≠ p from q1), Below.heap_setCell _ _ _ _ (show j ≠ p from q1)]
  have hk : Kept (fun k => k = p ∨ k = r) W (((W.setCell ⟨p, 0, none⟩ (.int .i64 x1)).setCell ⟨p, 1, none⟩ (.int .i64 x2)).setCell ⟨r, 0, none⟩ (.int .i64 ((o.length : Int) + 1))) := (((Kept.refl (fun k => k = p ∨ k = r) W).setCell (.inl (.inl rfl))).setCell (.inl (.inl rfl))).setCell (.inl (.inr rfl))
  refine ⟨⟨h1, h2.keep hk.size fun k q => hold k (fun e => by subst e; exact hps q) (fun e => by subst e; exact hrs q), ?_, ?_, Nat.le_trans h5 hk.size, h6.trans hk fun k q => .inl (.inr q)⟩, kf_kept hk (fun k q => by omega), fun b hb => hold b (by omega) (by omega)⟩
  · rw [Below.heap_setCell _ _ _ _ (show p ≠ r from hpr), lst_snoc]
    exact two_setT _ _ h3
  · have e : ((W.setCell ⟨p, 0, none⟩ (.int .i64 x1)).setCell ⟨p, 1, none⟩ (.int .i64 x2)).heap[r]? = some (.cells #[.int .i64 (o.length : Int)] 3 (0, 0)) := by
      rw [Below.heap_setCell _ _ _ _ (show r ≠ p from fun e => hpr e.symm), Below.heap_setCell _ _ _ _ (show r ≠ p from fun e => hpr e.symm)]
      exact h4
    rw [one_set e, List.length_append]
    simp
theorem Tn.lenC (h : Tn W0 Sh p r B o L S W) : lenC B W = L.length := by
  obtain ⟨h1, ⟨xs, q1, q2, q3⟩, _⟩ := h
  obtain ⟨A, c, -, cl, -⟩ := q1.list
  unfold Go.Proofs.Ytefdohjcgolhjaa.lenC
  rw [cl]
  exact q3.length_eq
end
theorem heap_drewN (W : World) (d : Nat) : (W.drewN d).heap = W.heap := by
  induction d with
  | zero => rfl
  | succ d ih => exact ih
/-- what stands ahead of a pop; one that was popped -/
def TI (W0 : World) (Sh : Nat → Prop) (p r B : Nat) (z : List Int) (o L : List Om.E) (S : Nat → Prop) (W : World) : Prop :=
  Tn W0 Sh p r B o L S W ∧ Om.isort Om.ahead (Om.tag z 0) = o ++ Om.isort Om.ahead L
def TM (W0 : World) (Sh : Nat → Prop) (p r B : Nat) (z : List Int) (o : List Om.E) (x : Om.E) (L : List Om.E) (S : Nat → Prop) (W : World) : Prop :=
  Tn W0 Sh p r B o L S W ∧ Om.isort Om.ahead (Om.tag z 0) = o ++ x :: Om.isort Om.ahead L
def TZ (W0 : World) (Sh : Nat → Prop) (p r B : Nat) (z : List Int) (o : List Om.E) (S : Nat → Prop) (W : World) : Prop :=
  Tn W0 Sh p r B o [] S W ∧ Om.isort Om.ahead (Om.tag z 0) = o
/-- a block of the iterator's own, or of a round's: one struct -/
def Own2 (W0 : World) (x1 x2 : Int) (b : Nat) (S : Nat → Prop) (W : World) : Prop := ¬ S b ∧ W0.heap.size + 2 ≤ b ∧ W.heap[b]? = some (.cells #[.int .i64 x1, .int .i64 x2] 56 (0, 0))
theorem Own2.off {W0 W W' : World} {x1 x2 : Int} {b : Nat} {S : Nat → Prop} (h : Own2 W0 x1 x2 b S W) (ho : Off (W0.heap.size + 1) W W') : Own2 W0 x1 x2 b S W' := ⟨h.1, h.2.1, (ho.block b (by have := h.2.1; omega)).trans h.2.2⟩
theorem below_put {B : Nat} {W : World} {l : Nat} (h : B ≤ l) (o : Obj) : Below B W (W.putObj l o) := ⟨rfl, rfl, rfl, by simp, fun k hk => World.putObj_heap_other (by omega)⟩
theorem result_bool {fn : Func} {p : Tmp} (h : fn.results = #[.cell p 4]) (tmps : Array Value) (w : World) (g : Nat) (x : Bool) (hp : tmps[p]?.getD undef = .pointer (some ⟨g, 0, none⟩)) (hg : w.cell? ⟨g, 0, none⟩ = some (.bool x)) :
    (results fn tmps).run Try.prog w = .ok (.bool x) w := by
  simp [results, h, hp, asAddr, loadVar, hg]

set_option maxHeartbeats 3200000 in
set_option maxRecDepth 100000 in
theorem walk (a0 : Option Addr) (len0 cap0 : Nat) (z0 : List Int) (w : World) (w0 : IsRow .i8 w a0 len0 cap0 z0) :
    Calls Try.prog 5 #[.slice a0 len0 cap0] w fun e w' => e = .returned (.bool true) ∧ Below w.heap.size w w' := by
  obtain ⟨hL, hl, hlc, hwf, hA⟩ := w0.lst
  have hll : (z0.take len0).length = len0 := by simp; omega
  obtain ⟨z, hz⟩ : ∃ z, z = z0.take len0 := ⟨_, rfl⟩
  rw [← hz] at hL hll hwf
  have HL := Lib.hid hL
  have HLL := Lib.hid hll
  have HWF := Lib.hid hwf
  clear w0 hl hlc hA hL hz hll hwf
  have hb0 : Below w.heap.size w ((w.alloc (.cells #[.slice a0 len0 cap0] 52)).alloc (.cells #[.bool false] 4)) := below_two w _ _
  have HN0 := Lib.hid (heap_alloc2_old w (.cells #[.slice a0 len0 cap0] 52) (.cells #[.bool false] 4))
  have HN1 := Lib.hid (heap_alloc2_new w (.cells #[.slice a0 len0 cap0] 52) (.cells #[.bool false] 4))
  have B0 := Lib.hid hb0
  have z0s : ((w.alloc (.cells #[.slice a0 len0 cap0] 52)).alloc (.cells #[.bool false] 4)).heap.size = w.heap.size + 2 := by simp
  clear hb0
  refine (callsIn_wide (n := 6)).1 ?_
  refine callsIn_of_wp_marks Try.func5 rfl trivial ?_ rfl
  simp only [Try.ntmps5, List.size_toArray, List.length_cons, List.length_nil, Nat.reduceAdd, Nat.reduceSub, Array.replicate_succ, Array.replicate_zero, List.push_toArray, List.append_toArray, List.nil_append, List.cons_append]
  gi_wp2_with fail
  refine ⟨trivial, ?_⟩
  refine (callsIn_wide.2 (awake_any _)).mono ?_
  rintro _ W1 ⟨rfl, b1⟩
  rw [z0s] at b1
  have B1 := Lib.hid (B0.out.trans (b1.mono (by omega)))
  have HR0 := Lib.hid ((b1.block w.heap.size (by omega)).trans HN0.out)
  have HR1 := Lib.hid ((b1.block (w.heap.size + 1) (by omega)).trans HN1.out)
  have s1 : w.heap.size + 2 ≤ W1.heap.size := by have := b1.size; omega
  have c1 : W1.cell? ⟨w.heap.size, 0, none⟩ = some (.slice a0 len0 cap0) := by rw [cell_of_row _ _ _ _ _ _ HR0.out]; rfl
  have c2 : W1.cell? ⟨w.heap.size + 1, 0, none⟩ = some (.bool false) := by rw [cell_of_row _ _ _ _ _ _ HR1.out]; rfl
  have f2 := frozen_of_row W1 (w.heap.size + 1) 0 _ _ HR1.out
  clear b1 B0 HN0 HN1 z0s
  by_cases g1 : 100 < len0
  · gi_wp2
    refine ⟨_, result_bool rfl _ _ (w.heap.size + 1) true rfl ?_, rfl, B1.out.setCell (by show w.heap.size ≤ w.heap.size + 1; omega) _⟩
    rw [cell_of_row _ _ _ _ _ _ (one_set HR1.out)]; rfl
  have d1 : decide (100 < (len0 : Int)) = false := by simp; omega
  have n100 : len0 ≤ 100 := by omega
  clear g1
  have HN := Lib.hid (newT none 0 0 [] W1 (VecE.nil_ _ _) (fun _ => rfl) (by omega))
  gi_wp2_with fail
  refine ⟨trivial, ?_⟩
  refine (callsIn_wide.2 HN.out).mono ?_
  rintro _ W2 ⟨Sh0, B, rfl, h2, b2, hS⟩
  have hst : ∃ S, HeapT W2 S B [] ∧ (∀ k, S k → w.heap.size + 1 < k) ∧ Below w.heap.size w W2 ∧ W2.heap[w.heap.size]? = some (.cells #[.slice a0 len0 cap0] 52 (0, 0)) ∧ W2.heap[w.heap.size + 1]? = some (.cells #[.bool false] 4 (0, 0)) :=
    ⟨Sh0, h2, fun k hk => by have := hS k hk; omega, B1.out.trans (b2.mono B1.out.size), (b2.block _ (by omega)).trans HR0.out, (b2.block _ (by omega)).trans HR1.out⟩
  have HST := Lib.hid hst
  clear HN h2 b2 hS hst c1 c2 f2 HR0 HR1 B1
  gi_wp2
  gi_loopw [4] (fun I wr => ∃ i : Nat, I = .int .i64 (i : Int) ∧ i ≤ len0 ∧ ∃ S, HeapT wr S B (Om.tag (z.take i) 0) ∧ (∀ k, S k → w.heap.size + 1 < k) ∧ Below w.heap.size w wr ∧ wr.heap[w.heap.size]? = some (.cells #[.slice a0 len0 cap0] 52 (0, 0)) ∧ wr.heap[w.heap.size + 1]? = some (.cells #[.bool false] 4 (0, 0))) (fun I _ => len0 - (intOf I).toNat)
  case atStart => exact ⟨0, rfl, Nat.zero_le _, by simpa [Om.tag] using HST.out⟩
  case round =>
    obtain ⟨i, rfl, il, S, hh, hS, hb, hr0, hr1⟩ := hrel
    have HH := Lib.hid hh
    have HS := Lib.hid hS
    have HB := Lib.hid hb
    have HR0 := Lib.hid hr0
    have HR1 := Lib.hid hr1
    have cl : wr.cell? ⟨w.heap.size, 0, none⟩ = some (.slice a0 len0 cap0) := by rw [cell_of_row _ _ _ _ _ _ hr0]; rfl
    clear hh hS hb hr0 hr1
    by_cases hlt : i < len0
    · obtain ⟨v, hv⟩ : ∃ v, z[i]? = some v := ⟨_, List.getElem?_eq_getElem (by rw [HLL.out]; exact hlt)⟩
      obtain ⟨b, off, rfl, hbb, hc⟩ := HL.out.at_ hlt
      rw [List.getElem?_map, hv] at hc
      have cv := (HB.out.cell (p := ⟨b, off + i, none⟩) hbb).trans hc
      have bv := bounds_i8 (HWF.out v (List.mem_of_getElem? hv))
      have HV := Lib.hid hv
      clear hv hc hbb
      gi_wp2_with fail
      refine ⟨trivial, ?_⟩
      refine (callsIn_wide.2 (pushT S B _ v (i : Int) wr HH.out (by rw [Om.tag_length]; simp; omega))).mono ?_
      rintro _ W5 ⟨rfl, S5, h5, k5, hS5⟩
      have hsz := HB.out.size
      have HNX : Hid (∃ S, HeapT W5 S B (Om.tag (z.take (i + 1)) 0) ∧ (∀ k, S k → w.heap.size + 1 < k) ∧ Below w.heap.size w W5 ∧ W5.heap[w.heap.size]? = some (.cells #[.slice (some ⟨b, off, none⟩) len0 cap0] 52 (0, 0)) ∧ W5.heap[w.heap.size + 1]? = some (.cells #[.bool false] 4 (0, 0))) := by
        have hlt1 := lt_of_block HR1.out
        refine ⟨S5, h5.perm ?_, fun k hk => ?_, HB.out.trans (k5.old HB.out.size fun k hk => by have := HS.out k hk; omega), (k5.block _ (by omega) (fun q => by have := HS.out _ q; omega)).trans HR0.out, (k5.block _ hlt1 (fun q => by have := HS.out _ q; omega)).trans HR1.out⟩
        · rw [Om.tag_snoc HV.out, Int.zero_add]
          exact (List.perm_append_singleton _ _).symm
        · rcases hS5 k hk with q | q
          · exact HS.out k q
          · omega
      clear h5 k5 hS5 cl cv bv
      gi_wp2
      go_roundw
      case rel => exact ⟨i + 1, congrArg (Value.int .i64) (by omega), by omega, HNX.out⟩
      case measure => simp [intOf]; omega
    · obtain rfl : i = len0 := by omega
      have hz : z.take i = z := List.take_of_length_le (by rw [HLL.out]; omega)
      have hh := HH.out
      rw [hz] at hh
      have HH2 := Lib.hid hh
      have hsz := HB.out.size
      have hlt1 : w.heap.size + 1 < wr.heap.size := lt_of_block HR1.out
      clear hh hz HH HST
      gi_wp2_with fail
      refine ⟨trivial, ?_⟩
      refine (callsIn_wide.2 (drainT B _)).mono ?_
      rintro _ W4 ⟨rfl, hw4⟩
      have s3 : ((wr.alloc (.cells #[.int .i64 0, .int .i64 0] 56)).alloc (.cells #[.int .i64 0] 3)).heap.size = wr.heap.size + 2 := by simp
      have s4 : W4.heap.size = wr.heap.size + 3 := by rw [hw4]; simp
      have b34 : Below wr.heap.size wr W4 := by rw [hw4]; exact (below_two wr _ _).alloc (by simp; omega) _
      have HP4 : Hid (W4.heap[wr.heap.size]? = some (.cells #[.int .i64 0, .int .i64 0] 56 (0, 0))) := by rw [hw4]; exact (Below.heap_alloc _ _ _ (by simp; omega)).trans (heap_alloc2_old wr _ _)
      have HG4 : Hid (W4.heap[wr.heap.size + 1]? = some (.cells #[.int .i64 0] 3 (0, 0))) := by rw [hw4]; exact (Below.heap_alloc _ _ _ (by simp)).trans (heap_alloc2_new wr _ _)
      have HQ4 : Hid (W4.heap[wr.heap.size + 2]? = some (.cells #[.pointer (some ⟨B, 0, none⟩)] 53 (0, 0))) := by rw [hw4, ← s3]; exact heap_alloc_new _ _
      have B4 := Lib.hid (HB.out.trans (b34.mono HB.out.size))
      have H4 := Lib.hid (HH2.out.below b34)
      have HShl := Lib.hid (show ∀ k, S k → k < wr.heap.size from HH2.out.in_)
      have HSh := Lib.hid (show ∀ k, S k → k < W4.heap.size from fun k hk => by have := HH2.out.in_ k hk; omega)
      have HNp := Lib.hid (show ¬ S wr.heap.size from fun hk => by have := HH2.out.in_ _ hk; omega)
      have HNr := Lib.hid (show ¬ S (wr.heap.size + 1) from fun hk => by have := HH2.out.in_ _ hk; omega)
      have HR40 := Lib.hid ((b34.block w.heap.size (by omega)).trans HR0.out)
      have HR41 := Lib.hid ((b34.block (w.heap.size + 1) (by omega)).trans HR1.out)
      rw [s3]
      clear hw4 b34 s3 HH2 HB HR0 HR1 cl
      gi_wp2
      refine range_boxes (n := 6) (ι := List Om.E × Int × Int × List Om.E × Nat) rfl (by omega) (gf := 41) (lb := #[.pointer (some ⟨wr.heap.size + 2, 0, none⟩)]) rfl trivial (enters_of Try.func41 (by kernel_rfl) rfl)
        (fun W => ∃ S', TI W4 S wr.heap.size (wr.heap.size + 1) B z [] (Om.tag z 0) S' W)
        (fun i vs W => vs = #[.agg #[.int .i64 i.2.1, .int .i64 i.2.2.1]] ∧ ∃ S', TM W4 S wr.heap.size (wr.heap.size + 1) B z i.1 (i.2.1, i.2.2.1) i.2.2.2.1 S' W ∧ Own2 W4 i.2.1 i.2.2.1 i.2.2.2.2 S' W)
        (fun i vs c W => vs = #[.agg #[.int .i64 i.2.1, .int .i64 i.2.2.1]] ∧ ∃ S', TM W4 S wr.heap.size (wr.heap.size + 1) B z i.1 (i.2.1, i.2.2.1) i.2.2.2.1 S' W ∧ Own2 W4 i.2.1 i.2.2.1 i.2.2.2.2 S' W ∧ Own2 W4 i.2.1 i.2.2.1 c S' W)
        (fun i W => ∃ S', TI W4 S wr.heap.size (wr.heap.size + 1) B z (i.1 ++ [(i.2.1, i.2.2.1)]) i.2.2.2.1 S' W ∧ Own2 W4 i.2.1 i.2.2.1 i.2.2.2.2 S' W)
        (fun W => ∃ o S', TZ W4 S wr.heap.size (wr.heap.size + 1) B z o S' W)
        (fun c W => False)
        (fun c vs t => (t.setIfInBounds 34 (vs.getD 0 undef)).setIfInBounds 7 (.pointer (some ⟨c, 0, none⟩)))
        ?hJ ?hA ?hE ?hX ?hps ?h0 ?iter ?assign ?body ?done ?stop
      case hJ => rintro i W W' ⟨S', ⟨h1, h2⟩, h3⟩ ho; exact ⟨S', ⟨h1.off HSh.out (by omega) (by omega) ho, h2⟩, h3.off ho⟩
      case hA => rintro i vs c W W' ⟨hv, S', ⟨h1, h2⟩, h3, h4⟩ ho; exact ⟨hv, S', ⟨h1.off HSh.out (by omega) (by omega) ho, h2⟩, h3.off ho, h4.off ho⟩
      case hE => rintro W W' ⟨o, S', h1, h2⟩ ho; exact ⟨o, S', h1.off HSh.out (by omega) (by omega) ho, h2⟩
      case hX => rintro c W W' h ho; exact h
      case hps => rintro i vs W ⟨rfl, _⟩; rfl
      case h0 =>
        intro W hb hs
        obtain ⟨S', h⟩ := Tn.start (p := wr.heap.size) (r := wr.heap.size + 1) H4.out HP4.out HG4.out hb hs
        exact ⟨S', h, rfl⟩
      case iter =>
        intro l' K Y hK hY W hI hKW
        have hp : wr.heap.size < W4.heap.size := by omega
        have hr : wr.heap.size + 1 < W4.heap.size := by omega
        refine iterT (m := 5) (D := W4.heap.size) (B := B) S HSh.out (TI W4 S wr.heap.size (wr.heap.size + 1) B z) (TM W4 S wr.heap.size (wr.heap.size + 1) B z) (TZ W4 S wr.heap.size (wr.heap.size + 1) B z) K Y ?_ ?_ ?_ hK ?_ ?_ ?_ ?_ ?_ (Om.tag z 0) W hI hKW
        · exact fun o L => ⟨fun S' W h => h.1.lt, fun S' W W' h hk => ⟨h.1.keep HSh.out hp hr hk, h.2⟩⟩
        · exact fun o x L => ⟨fun S' W h => h.1.lt, fun S' W W' h hk => ⟨h.1.keep HSh.out hp hr hk, h.2⟩⟩
        · exact fun o => ⟨fun S' W h => h.1.lt, fun S' W W' h hk => ⟨h.1.keep HSh.out hp hr hk, h.2⟩⟩
        · rintro o L S' W ⟨⟨h1, h2, h3, h4, h5, h6⟩, _⟩; exact h5
        · rintro o x L S' W ⟨h, _⟩; exact h.lenC
        · rintro o L S' W ⟨⟨h1, h2, h3, h4, h5, h6⟩, _⟩
          have := (h6.block (wr.heap.size + 2) (by omega) (fun q => by
            rcases q with q | q | q
            · have := HShl.out _ q; omega
            · omega
            · omega)).trans HQ4.out
          rw [cell_of_row _ _ _ _ _ _ this]; rfl
        · rintro o L S' W ⟨h, h1⟩
          have hL : L.length ≤ 100000 := by
            have e := congrArg List.length h1
            rw [Om.isort_length, List.length_append, Om.isort_length, Om.tag_length, HLL.out] at e
            omega
          refine (h.pop HNp.out HNr.out hL).mono ?_
          rintro e W' ⟨x1, x2, ok, L', he, po, h', k⟩
          refine ⟨x1, x2, ok, he, ?_, k⟩
          cases ok with
          | true =>
            refine .inl ⟨rfl, L', ?_, h', by rw [h1, Om.isort_pop ahead_oord ahead_heq po]⟩
            rcases po with ⟨_, _, q, _⟩ | ⟨_, q, _⟩
            · cases q
            · have := q.length_eq; simp at this; omega
          | false =>
            rcases po with ⟨rfl, _, _, rfl⟩ | ⟨q, _⟩
            · exact .inr ⟨rfl, h', by rw [h1]; simp [Om.isort_nil]⟩
            · cases q
        · rintro o x1 x2 L' b W ⟨S', hM, hO⟩ hKW
          exact hY (o, x1, x2, L', b) _ W ⟨rfl, S', hM, hO⟩ hKW
      case assign =>
        rintro l' ⟨o, x1, x2, L', b⟩ vs W K ⟨rfl, S', hM, hO⟩ hK
        have hn : Kept (fun k => ¬ S' k) W (W.alloc (.cells #[.int .i64 x1, .int .i64 x2] 56)) := kept_new _
        have hlt := hM.1.lt
        have h5 : W4.heap.size + 2 ≤ W.heap.size := hM.1.2.2.2.2.1
        have HC := Lib.hid (hK W.heap.size (W.alloc (.cells #[.int .i64 x1, .int .i64 x2] 56)) ⟨rfl, S', ⟨hM.1.keep HSh.out (by omega) (by omega) hn, hM.2⟩, ⟨hO.1, hO.2.1, (Below.heap_alloc _ _ _ (lt_of_block hO.2.2)).trans hO.2.2⟩, fun q => by have := hlt _ q; omega, h5, heap_new _ _ _⟩ (kf_kept (S := fun k => k < W4.heap.size) (kept_new _) fun k h => h))
        clear hK hM hO hn
        gi_wp2
        exact HC.out
      case body =>
        rintro l' ⟨o, x1, x2, L', b⟩ vs c W ⟨rfl, S', hM, hO, hC⟩
        have hmem : (x1, x2) ∈ Om.tag z 0 := (Om.isort_perm (f := Om.ahead) (Om.tag z 0)).subset (by rw [hM.2]; simp)
        obtain ⟨k, hk2, hkz⟩ := tag_mem hmem
        simp only at hk2 hkz
        subst hk2
        have hki : k < i := by have := (List.getElem?_eq_some_iff.1 hkz).1; rw [HLL.out] at this; exact this
        have bv := bounds_i8 (HWF.out x1 (List.mem_of_getElem? hkz))
        obtain ⟨bb, off, rfl, hbb, hc⟩ := HL.out.at_ hki
        rw [List.getElem?_map, hkz] at hc
        have hBW : Below w.heap.size w W := B4.out.trans (hM.1.2.2.2.2.2.old B4.out.size fun j q => by
          rcases q with q | q | q
          · have := HS.out _ q; omega
          · omega
          · omega)
        have cv := (hBW.cell (p := ⟨bb, off + k, none⟩) hbb).trans hc
        have cl : W.cell? ⟨w.heap.size, 0, none⟩ = some (.slice (some ⟨bb, off, none⟩) i cap0) := by
          rw [cell_of_row _ _ _ _ _ _ ((hM.1.2.2.2.2.2.block w.heap.size (by omega) (fun q => by
            rcases q with q | q | q
            · have := HS.out _ q; omega
            · omega
            · omega)).trans HR40.out)]; rfl
        obtain ⟨cc1, cc2, -, -⟩ := two_cellsT hC.2.2
        obtain ⟨cp1, cp2, fp1, fp2⟩ := two_cellsT hM.1.2.2.1
        have hrr := hM.1.2.2.2.1
        have cr : W.cell? ⟨wr.heap.size + 1, 0, none⟩ = some (.int .i64 (o.length : Int)) := by rw [cell_of_row _ _ _ _ _ _ hrr]; rfl
        have fr := frozen_of_row W (wr.heap.size + 1) 0 _ _ hrr
        have ho100 : o.length ≤ 100 := by
          have e := congrArg List.length hM.2
          rw [Om.isort_length, List.length_append, Om.tag_length, HLL.out] at e
          simp at e
          omega
        have HMT := Lib.hid hM.1
        have HO := Lib.hid hO
        have HM := Lib.hid hM.2
        have h5 : W4.heap.size + 2 ≤ W.heap.size := hM.1.2.2.2.2.1
        have g1 : decide ((k : Int) < 0) = false := by simp
        have g2 : decide ((i : Int) ≤ (k : Int)) = false := by simp; omega
        have g2' : decide (i ≤ k) = false := by simp; omega
        have hBH := Lib.hid (fun ho => behind hM.2 ho)
        obtain ⟨y1, hy1⟩ : ∃ y1, y1 = (lst o).1 := ⟨_, rfl⟩
        obtain ⟨y2, hy2⟩ : ∃ y2, y2 = (lst o).2 := ⟨_, rfl⟩
        rw [← hy1, ← hy2] at hBH
        rw [← hy1] at cp1
        rw [← hy2] at cp2
        clear hM hO hC hrr hmem hkz hc hbb hBW hy1 hy2
        generalize hP : leftBy W4.heap.size _ _ W = Pst
        have HP := Lib.hid hP
        clear hP
        gi_wp2
        refine quiet_round (by kernel_rfl) (by kernel_rfl) (by kernel_rfl) ?_
        repeat (gi_big_quiet_step (fail))
        refine wpQuietIn_nil ?_
        intro _ hw'
        obtain ⟨nq, hw''⟩ := hw'
        subst hw''
        obtain ⟨V, hV⟩ : ∃ V, V = W.drewN nq := ⟨_, rfl⟩
        rw [← hV]
        have hVE : V.heap = W.heap := by rw [hV]; exact heap_drewN W nq
        have hTV : Tn W4 S wr.heap.size (wr.heap.size + 1) B o L' S' V := by rw [hV]; exact HMT.out.keep HSh.out (by omega) (by omega) ((Kept.refl _ W).drewN nq)
        have HNX := Lib.hid (hTV.next HSh.out HNp.out HNr.out (by omega) (by omega) (by omega) x1 (k : Int))
        have HVE := Lib.hid hVE
        rw [← cell_heap hVE] at cc1 cc2 cp1 cp2 cr
        rw [← World.frozen?_of_block (w := W) (w' := V) (by rw [hVE])] at fp1 fp2 fr
        clear hV hVE hTV cl cv g1 g2 g2' HMT bv
        by_cases ho : 0 < o.length
        · obtain ⟨t1, t2⟩ := hBH.out ho
          have k1 : decide (0 < o.length) = true := by simpa using ho
          have k2 : decide (y1 < x1) = false := by simpa using t1
          by_cases e : x1 = y1
          · have k3 : decide ((k : Int) ≤ y2) = false := by have := t2 e; simp; omega
            subst e
            clear t1 t2 hBH
            gi_wp2
            rw [← HP.out]
            obtain ⟨q1, q2, q3⟩ := HNX.out
            exact ⟨⟨by have := q2.1; rw [HVE.out] at this; exact this, fun j ob hj ho hc => q2.2 j ob hj (by rw [HVE.out]; exact ho) hc⟩, S', ⟨q1, by rw [HM.out]; simp⟩, HO.out.1, HO.out.2.1, (q3 b (by have := HO.out.2.1; omega)).trans ((by rw [HVE.out] : V.heap[b]? = W.heap[b]?).trans HO.out.2.2)⟩
          · have k3 : (x1 == y1) = false := by simpa using e
            clear t1 t2 hBH e
            gi_wp2
            rw [← HP.out]
            obtain ⟨q1, q2, q3⟩ := HNX.out
            exact ⟨⟨by have := q2.1; rw [HVE.out] at this; exact this, fun j ob hj ho hc => q2.2 j ob hj (by rw [HVE.out]; exact ho) hc⟩, S', ⟨q1, by rw [HM.out]; simp⟩, HO.out.1, HO.out.2.1, (q3 b (by have := HO.out.2.1; omega)).trans ((by rw [HVE.out] : V.heap[b]? = W.heap[b]?).trans HO.out.2.2)⟩
        · have o0 : o.length = 0 := by omega
          have HO0 := Lib.hid o0
          have k1 : decide (0 < o.length) = false := by simpa using ho
          clear hBH o0 ho
          gi_wp2
          rw [← HP.out]
          obtain ⟨q1, q2, q3⟩ := HNX.out
          exact ⟨⟨by have := q2.1; rw [HVE.out] at this; exact this, fun j ob hj ho hc => q2.2 j ob hj (by rw [HVE.out]; exact ho) hc⟩, S', ⟨q1, by rw [HM.out]; simp⟩, HO.out.1, HO.out.2.1, (q3 b (by have := HO.out.2.1; omega)).trans ((by rw [HVE.out] : V.heap[b]? = W.heap[b]?).trans HO.out.2.2)⟩
      case done =>
        rintro D W rfl ⟨o, S', hT, hso⟩ hK
        have hkp := hT.2.2.2.2.2
        have h5 : W4.heap.size + 2 ≤ W.heap.size := hT.2.2.2.2.1
        have hno : ∀ j, j ≤ w.heap.size + 1 → ¬ (S j ∨ j = wr.heap.size ∨ j = wr.heap.size + 1) := fun j hj q => by
          rcases q with q | q | q
          · have := HS.out _ q; omega
          · omega
          · omega
        have hr0 := (hkp.block w.heap.size (by omega) (hno _ (by omega))).trans HR40.out
        have hr1 := (hkp.block (w.heap.size + 1) (by omega) (hno _ (by omega))).trans HR41.out
        have cl : W.cell? ⟨w.heap.size, 0, none⟩ = some (.slice a0 i cap0) := by rw [cell_of_row _ _ _ _ _ _ hr0]; rfl
        have c1 : W.cell? ⟨w.heap.size + 1, 0, none⟩ = some (.bool false) := by rw [cell_of_row _ _ _ _ _ _ hr1]; rfl
        have f1 := frozen_of_row W (w.heap.size + 1) 0 _ _ hr1
        have hol : o.length = i := by
          have e := congrArg List.length hso
          rw [Om.isort_length, Om.tag_length, HLL.out] at e
          exact e.symm
        have cr : W.cell? ⟨wr.heap.size + 1, 0, none⟩ = some (.int .i64 (i : Int)) := by rw [cell_of_row _ _ _ _ _ _ hT.2.2.2.1, hol]; rfl
        have hBW : Below w.heap.size w W := B4.out.trans (hkp.old B4.out.size fun j q => by
          rcases q with q | q | q
          · have := HS.out _ q; omega
          · omega
          · omega)
        have HR3 := Lib.hid (one_set (u := .bool true) hr1)
        have HK3 : Hid ((W.setCell ⟨w.heap.size + 1, 0, none⟩ (.bool true)).heap[W4.heap.size]? = some (.deferred (some []))) := by
          rw [Below.heap_setCell _ _ _ _ (show W4.heap.size ≠ w.heap.size + 1 by omega)]
          exact hK
        have HU := Lib.hid (hBW.setCell (p := ⟨w.heap.size + 1, 0, none⟩) (by show w.heap.size ≤ w.heap.size + 1; omega) (.bool true))
        clear hT hso hK hkp hno hr0 hr1 hol hBW
        gi_wp2
        refine ⟨by simp, .inl ⟨_, _, rfl, run_takeDeferred HK3.out, ?_⟩⟩
        refine ⟨_, result_bool rfl _ _ (w.heap.size + 1) true rfl ?_, rfl, HU.out.trans (below_put (by omega) _)⟩
        rw [cell_of_row _ _ _ _ _ _ ((World.putObj_heap_other (by omega)).trans HR3.out)]
        rfl
      case stop => rintro D c W hD h; exact h.elim
theorem own : ownKnob Try.prog.godebug = none := by kernel_rfl
theorem laidOut : laidOutB Try.prog = true := by kernel_rfl
set_option maxRecDepth 100000 in
theorem lifted (os : Os) (started : os.Started) (H : Type) (enc : TypeId × Value → H) :
    ReturnsInHanded {} Try.checked os 5 .any (Rows.heapTasksSpec.pre6 enc Try.prog Try.f5 Rows.heapTasksRow.domain false) (Rows.heapTasksSpec.post enc Try.prog Try.f5 false true false false) := by
  refine returnsInHanded_of_change (C := Try.checked) own started (by kernel_rfl) Try.func5
    (ChangeSpec.witness6 (enc := enc) (C := Try.checked) false ⟨#[], #[.slice none 0 0], []⟩ 8 (by kernel_rfl) (by kernel_rfl) (by kernel_rfl) (by kernel_rfl)) ?_
  intro W base args ds gs before hval0 hW hcnd _
  have hval : ∀ (j : Nat) t v, Try.f5.params[j]? = some t → args[j]? = some v → Value.okWide Try.prog W .any base t v := hval0
  have hW' := hW
  obtain ⟨p, q, hA0, hV, rfl, hfz, hnd⟩ := hW
  have hA : DataW.TrodAll enc Try.prog W 0 (fun _ => true) true Try.f5.params.toList args.toList ds p := hA0
  rw [Try.params5] at hA hval
  obtain ⟨v0, vs0, d0, ds0, p0, q0, hargs, rfl, rfl, h0, r0⟩ := trodAll_cons hA
  obtain ⟨rfl, rfl, rfl⟩ := trodAll_nil r0
  obtain rfl : args = #[v0] := by cases args; simp_all
  obtain ⟨rfl, rfl⟩ := trodVars_none hV
  obtain ⟨a0, len0, cap0, rfl⟩ := okWide_slice Try.underlying52 (hval 0 52 v0 rfl rfl)
  have k0 := h0
  have lt0 : ∀ x ∈ p0, x.block < W.heap.size := by obtain ⟨m, hm⟩ := k0; exact DataW.trod_lt m _ _ _ hm
  obtain ⟨z0, w0⟩ : ∃ zs, IsRow .i8 W a0 len0 cap0 zs := by
    obtain ⟨fuel, hf⟩ := h0
    rcases open_ints Try.underlying52 Try.underlying59 (by kernel_rfl) hf with ⟨hcs, _⟩ | ⟨x, l, c, zs, hcs, _, hl, hm, hz, _, hcell, hwz⟩
    · simp [Value.cells] at hcs
      obtain ⟨rfl, rfl, rfl⟩ := hcs
      exact ⟨[], .inl ⟨rfl, rfl, rfl, rfl⟩⟩
    · simp [Value.cells] at hcs
      obtain ⟨rfl, rfl, rfl⟩ := hcs
      exact ⟨zs, .inr ⟨_, rfl, hl, hm, by simpa using hz, hcell, hwz⟩⟩
  clear hA0 hval0
  refine (walk a0 len0 cap0 z0 W w0).mono fun e W' ⟨he, bel⟩ => ?_
  subst he
  exact ⟨_, rfl, _, _, _, [], _, [], hW', trodAll_mk1 (shut_bool Try.underlying4 _), (trodAll_cons_mk (Below.trod laidOut (by kernel_rfl) (of_decide_eq_true (by kernel_rfl)) k0 bel lt0) trodAll_mk0), rfl, bel.frame _, fun h => by cases h⟩
theorem over : Rows.heapTasksRow.holds Try.pinned (OpenSpec.ofChange Rows.heapTasksSpec) :=
  OpenClaim.holds_of_wide 5 Try.f5 rfl rfl rfl rfl rfl rfl rfl ⟨rfl, rfl, rfl, rfl, rfl⟩ rfl rfl rfl rfl rfl (by kernel_rfl) Try.func5 (by kernel_rfl)
    (of_decide_eq_true (by kernel_rfl)) (by unfold Func.isWrapper; first | (rw [if_pos (by decide +kernel)]; kernel_rfl) | (rw [if_neg (by decide +kernel)]; exact ⟨rfl, rfl⟩))
    (fun os started H enc _ => lifted os started H enc)
/-- the statement -/
theorem proved : Rows.HeapTasksSaid := over
#print axioms proved
end heapTasks
end Go.Proofs.Ytefdohjcgolhjaa
