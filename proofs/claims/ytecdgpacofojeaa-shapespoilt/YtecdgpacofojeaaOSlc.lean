/-
  Layer 4 (order): own words for memory: a slice of structs of two numbers that reads as a list; copy of such.
-/
import Derived.Test.YtecdgpacofojeaaMH
import Derived.Laws.CopyRow
import Derived.Laws.CopyOwn
namespace Go.Proofs.Ytecdgpacofojeaa
open Go.RowKit

theorem below_drewN {B : Nat} {w w' : World} (h : Below B w w') (d : Nat) : Below B w (w'.drewN d) := by
  induction d with
  | zero => exact h
  | succ d ih => exact ih.drew

/-- how many a slice has: for a loop's measure -/
def lenV : Value → Nat | .slice _ n _ => n | _ => 0

/-- a slice that reads as the list l -/
def VecE (w : World) (A : Option Addr) (n : Nat) (l : List Om.E) : Prop :=
  l.length = n ∧ (0 < n → ∃ b off, A = some ⟨b, off, none⟩ ∧ b < w.heap.size ∧ ∀ j u, (cel l)[j]? = some u → w.cell? ⟨b, off + j, none⟩ = some u)
section
variable {w w' : World} {A : Option Addr} {n : Nat} {l : List Om.E}
theorem VecE.length (h : VecE w A n l) : l.length = n := h.1
theorem VecE.nil_ (w : World) (A : Option Addr) : VecE w A 0 [] := ⟨rfl, fun h => absurd h (by omega)⟩
theorem VecE.at_ {k : Nat} {x : Om.E} (h : VecE w A n l) (hx : l[k]? = some x) :
    ∃ b off, A = some ⟨b, off, Option.none⟩ ∧ b < w.heap.size ∧ w.cell? ⟨b, off + k * 2, Option.none⟩ = some (.int .i64 x.1) ∧ w.cell? ⟨b, off + k * 2 + 1, Option.none⟩ = some (.int .i64 x.2) := by
  obtain ⟨b, off, e, hb, hc⟩ := h.2 (by have := (List.getElem?_eq_some_iff.1 hx).1; have := h.1; omega)
  refine ⟨b, off, e, hb, ?_, ?_⟩
  · rw [Nat.mul_comm k 2]; exact hc _ _ (cel_fst l k x hx)
  · rw [Nat.mul_comm k 2, Nat.add_assoc]; exact hc _ _ (cel_snd l k x hx)
theorem VecE.keep (h : VecE w A n l) (hs : w.heap.size ≤ w'.heap.size) (hk : ∀ p : Addr, p.block < w.heap.size → w'.cell? p = w.cell? p) : VecE w' A n l :=
  ⟨h.1, fun hn => by
    obtain ⟨b, off, e, hb, hc⟩ := h.2 hn
    exact ⟨b, off, e, by omega, fun j u hu => (hk ⟨b, off + j, Option.none⟩ hb).trans (hc j u hu)⟩⟩
theorem VecE.below (h : VecE w A n l) (hb : Below w.heap.size w w') : VecE w' A n l := h.keep hb.size fun _ hp => hb.cell hp
theorem VecE.drew (h : VecE w A n l) : VecE w.drew A n l := h
theorem VecE.drewN (h : VecE w A n l) (d : Nat) : VecE (w.drewN d) A n l := by
  induction d with
  | zero => exact h
  | succ d ih => exact ih.drew
theorem BlkE.vec {t : TypeId} {g : Nat} (h : BlkE t w g l) (hn : l.length = n) : VecE w (some ⟨g, 0, Option.none⟩) n l := by
  refine ⟨hn, fun _ => ⟨g, 0, rfl, h.lt, fun j u hu => ?_⟩⟩
  rw [Nat.zero_add, cell_of_row _ _ _ _ _ _ h]
  simpa using hu
theorem VecE.of_own {base : Nat} {e : TypeId} {c : Nat} (h : w.ownsRow base e 2 (.slice A n c) n (cel l)) : VecE w A n l := by
  have hl : l.length = n := by have := h.1; rw [cel_length] at this; omega
  refine ⟨hl, fun hn => ?_⟩
  rcases h.2 with ⟨_, h0⟩ | ⟨g, cap, cur, hv, _, hg, _, _, hcs, ht⟩
  · omega
  · have hA : A = some ⟨g, 0, Option.none⟩ := by injection hv
    subst hA
    refine ⟨g, 0, rfl, lt_of_block hg, fun j u hu => ?_⟩
    rw [Nat.zero_add, cell_of_row _ _ _ _ _ _ hg, ← Array.getElem?_toList]
    rw [← ht, List.getElem?_take] at hu
    split at hu
    · exact hu
    · cases hu
/-- its first k -/
theorem VecE.take (h : VecE w A n l) {k : Nat} (hk : k ≤ n) : VecE w A k (l.take k) := by
  refine ⟨by have := h.1; simp; omega, fun h0 => ?_⟩
  obtain ⟨b, off, e, hb, hc⟩ := h.2 (by omega)
  refine ⟨b, off, e, hb, fun j u hu => hc j u ?_⟩
  have e2 : cel l = cel (l.take k) ++ cel (l.drop k) := by rw [← cel_append, List.take_append_drop]
  rw [e2, List.getElem?_append_left (List.getElem?_eq_some_iff.1 hu).1]
  exact hu
/-- from the k-th on -/
theorem VecE.drop (h : VecE w A n l) {k : Nat} (hk : k < n) : ∃ b off, A = some ⟨b, off, Option.none⟩ ∧ b < w.heap.size ∧ VecE w (some ⟨b, off + k * 2, Option.none⟩) (n - k) (l.drop k) := by
  obtain ⟨b, off, e, hb, hc⟩ := h.2 (by omega)
  refine ⟨b, off, e, hb, by have := h.1; simp; omega, fun _ => ⟨b, off + k * 2, rfl, hb, fun j u hu => ?_⟩⟩
  have e2 : cel l = cel (l.take k) ++ cel (l.drop k) := by rw [← cel_append, List.take_append_drop]
  have e3 : (cel (l.take k)).length = k * 2 := by rw [cel_length]; have := h.1; simp; omega
  rw [Nat.add_assoc]
  refine hc _ u ?_
  rw [e2, List.getElem?_append_right (by omega), e3, Nat.add_sub_cancel_left]
  exact hu
theorem cel_one (l : List Om.E) : ∀ u ∈ cel l, u.oneCell' = true := by
  induction l with
  | nil => intro u hu; cases hu
  | cons p l ih =>
    intro u hu
    rw [cel_cons] at hu
    rcases List.mem_cons.1 hu with rfl | hu
    · rfl
    rcases List.mem_cons.1 hu with rfl | hu
    · rfl
    · exact ih u hu
end

/-- copy into a row, of elements of two cells -/
theorem copy_two {P : Program} (w : World) (dT sT ty elem : TypeId) (g n c c2 : Nat) (A : Option Addr) (cur : Array Value) (t : TypeId) (l : List Om.E)
    (hu : P.underlying dT = some (.slice elem)) (hs : (P.info? elem).map (·.size) = some 2) (hg : w.heap[g]? = some (.cells cur t (0, 0))) (hcur : cur.size = n * 2) (h : VecE w A n l) (hA : A = none → c2 = 0) :
    ∃ w2, (Builtin.copy_ #[dT, sT] ty #[.slice (some ⟨g, 0, none⟩) n c, .slice A n c2]).run P w = .ok (.int .i64 (n : Int)) w2 ∧ BlkE t w2 g l ∧ But g w w2 := by
  have hl := h.length
  cases hq : P.info? elem with
  | none => simp [hq] at hs
  | some i =>
    have hi : i.size = 2 := by simpa [hq] using hs
    by_cases h0 : n = 0
    · subst h0
      obtain rfl : l = [] := List.length_eq_zero_iff.1 hl
      obtain rfl : cur = #[] := Array.size_eq_zero_iff.1 (by omega)
      have hl0 : ∀ (x : Addr), (loadCells x 0).run P w = .ok #[] w := fun x => by simpa using run_loadCells_list (P := P) w x [] (by simp)
      refine ⟨w, ?_, hg, But.refl _ _⟩
      cases A <;> simp [Builtin.copy_, run_underlying hu, Builtin.lenOf, Builtin.firstCells, sizeOf, typeInfo, hq, hi, storeCells, hl0, goInt]
    · obtain ⟨b, off, rfl, hb, hc⟩ := h.2 (by omega)
      have hcl : (cel l).length = n * 2 := by rw [cel_length]; omega
      have hld := run_loadCells_list (P := P) w ⟨b, off, none⟩ (cel l) (fun j v hv => by rw [Addr.add_lit]; exact hc j v hv)
      have hst := run_storeCells_at P g 0 t (cel l) 0 cur w hg (by omega) (cel_one l)
      rw [hcl] at hld
      refine ⟨_, by simp [Builtin.copy_, run_underlying hu, Builtin.lenOf, Builtin.firstCells, sizeOf, typeInfo, hq, hi, hld, hst, goInt]; rfl, ?_, ?_⟩
      · unfold BlkE
        rw [setRow_heap w g cur _ t (0, 0) hg]
        congr 2
        refine Array.ext' ?_
        simp [hcl]
        omega
      · exact ⟨rfl, rfl, rfl, by simp [World.setRow], fun k _ hk => setRow_other w g k _ hk⟩

theorem own_heap2 {w w' : World} {base : Nat} {e : TypeId} {v : Value} {n : Nat} {xs : List Value} (h : w.ownsRow base e 2 v n xs) (hh : w'.heap = w.heap) : w'.ownsRow base e 2 v n xs := by
  unfold World.ownsRow at *
  rw [hh]
  exact h
theorem own_below2 {w w' : World} {base : Nat} {e : TypeId} {v : Value} {n : Nat} {xs : List Value} (h : w.ownsRow base e 2 v n xs) (hb : Below w.heap.size w w') : w'.ownsRow base e 2 v n xs := by
  refine ⟨h.1, ?_⟩
  rcases h.2 with h0 | ⟨g, cap, cur, hv, hg, hh, hr⟩
  · exact .inl h0
  · exact .inr ⟨g, cap, cur, hv, hg, by rw [hb.block g (lt_of_block hh)]; exact hh, hr⟩
theorem cell_heap {w w' : World} (hh : w'.heap = w.heap) (p : Addr) : w'.cell? p = w.cell? p := by
  unfold World.cell?
  rw [hh]
theorem own_form2 {w : World} {base : Nat} {e : TypeId} {v : Value} {n : Nat} {xs : List Value} (h : w.ownsRow base e 2 v n xs) : ∃ A c, v = .slice A n c ∧ (A = none → c = 0) ∧ n ≤ c := by
  rcases h.2 with ⟨rfl, rfl⟩ | ⟨g, cap, cur, rfl, _, _, hc, _⟩
  · exact ⟨none, 0, rfl, fun _ => rfl, Nat.le_refl _⟩
  · exact ⟨_, cap, rfl, (fun h => by cases h), hc⟩
theorem own_block2 {w : World} {B0 : Nat} {e : TypeId} {v : Value} {n : Nat} {xs : List Value} (hown : w.ownsRow B0 e 2 v n xs) : ∀ k, v.ownBlock = some k → B0 ≤ k := by
  rcases hown.2 with ⟨rfl, _⟩ | ⟨g, cap, cur, rfl, hg, _⟩
  · simp [Value.ownBlock]
  · intro k hk
    have e : g = k := by simpa [Value.ownBlock] using hk
    omega
theorem cell_two_new (w : World) (t : TypeId) (u v : Value) : ∀ j x, ([u, v] : List Value)[j]? = some x → (w.alloc (.cells #[u, v] t)).cell? ((⟨w.heap.size, 0, none⟩ : Addr).add j) = some x := by
  intro j x hx
  rw [Addr.add_lit]
  match j with
  | 0 => simp at hx; subst hx; simp
  | 1 => simp at hx; subst hx; simp
  | j + 2 => simp at hx
/-- a slice of which the first is left out -/
theorem VecE.tail {w : World} {b off n : Nat} {x : Om.E} {l : List Om.E} (h : VecE w (some ⟨b, off, none⟩) n (x :: l)) : VecE w (some ⟨b, off + 2, none⟩) (n - 1) l ∧ ∀ A, n = 1 → VecE w A (n - 1) l := by
  have hl := h.1
  simp at hl
  refine ⟨?_, fun A hn => ?_⟩
  · rcases Nat.lt_or_ge 1 n with h1 | h1
    · obtain ⟨b', off', e, hb, hv⟩ := h.drop h1
      obtain ⟨rfl, rfl⟩ : b = b' ∧ off = off' := by simpa using e
      simpa using hv
    · obtain rfl : n = 1 := by omega
      obtain rfl : l = [] := List.length_eq_zero_iff.1 (by omega)
      exact VecE.nil_ w _
  · subst hn
    obtain rfl : l = [] := List.length_eq_zero_iff.1 (by omega)
    exact VecE.nil_ w _

/-- append of a list that reads, nil too, to a row of the call's own -/
theorem append_vec {P : Program} (w : World) {ops : Array Oper} {rest : List Oper} {o : Oper} {a : Act} {Q : Exit → Act → World → Prop} (hgd : o.guard = none) (s x : Operand) (t : TypeId)
    (ho : o.op = .call { callee := .builtin .append, args := #[s, x], argTypes := #[t, t] })
    (base : Nat) (e : TypeId) (i : TypeInfo) (z : Value) (bytes : Nat) (ht : P.underlying t = some (.slice e)) (hi : P.info? e = some i) (hz : i.zero = some z)
    (hsize : i.size = 2) (hby : i.bytes = bytes) (hzs : z.cells.size = 2)
    (v : Value) (n : Nat) (xs : List Om.E) (hs : a.eval s = v) (hown : w.ownsRow base e 2 v n (cel xs))
    (A : Option Addr) (m c : Nat) (news : List Om.E) (hx : a.eval x = .slice A m c) (hA : A = none → c = 0) (hL : VecE w A m news)
    (h63 : n + m ≤ maxLen) (hbytes : (n + m) * bytes ≤ 140737488355328) (hbase : base ≤ w.heap.size)
    (h : ∀ v' w', w'.ownsRow base e 2 v' (n + m) (cel (xs ++ news)) → w.grownBy w' v.ownBlock → wpList P ops Q rest (a.put o.dst v') w') : wpList P ops Q (o :: rest) a w := by
  cases A with
  | none =>
    obtain rfl : m = 0 := by
      rcases Nat.eq_zero_or_pos m with h0 | h0
      · exact h0
      · obtain ⟨_, _, hc, _⟩ := hL.2 h0; cases hc
    obtain rfl : news = [] := List.length_eq_zero_iff.1 hL.1
    obtain rfl := hA rfl
    exact wpList_append_own_none hgd s x t ho base e i 2 ht hi v n (cel xs) hs hown hx (h v w (by simpa using hown) (World.grownBy.refl _ _))
  | some ad =>
    refine wpList_append_own w hgd s x t ho base e i z 2 bytes ht hi hz hsize hby hzs (by decide) v n (cel xs) hs hown ad m c (cel news) hx (by rw [cel_length, hL.1]; omega) ?_ (cel_one news) h63 hbytes hbase fun v' w' h2 h3 _ => h v' w' (by rw [cel_append]; exact h2) h3
    intro j u hu
    have hj : 0 < m := by have := (List.getElem?_eq_some_iff.1 hu).1; rw [cel_length] at this; have := hL.1; omega
    obtain ⟨b, off, hc, _, hcell⟩ := hL.2 hj
    injection hc with hc
    subst hc
    rw [Addr.add_lit]
    exact hcell j u hu

/-- the same at a step of a region that draws its order -/
theorem step_append_vec {P : Program} {w : World} {ops : Array Oper} {o : Oper} {a : Act} {K : Act → World → Prop} {Q : Exit → Act → World → Prop} {E : Prop} (hgd : o.guard = none) (s x : Operand) (t : TypeId)
    (ho : o.op = .call { callee := .builtin .append, args := #[s, x], argTypes := #[t, t] })
    (base : Nat) (e : TypeId) (i : TypeInfo) (z : Value) (bytes : Nat) (ht : P.underlying t = some (.slice e)) (hi : P.info? e = some i) (hz : i.zero = some z)
    (hsize : i.size = 2) (hby : i.bytes = bytes) (hzs : z.cells.size = 2)
    (v : Value) (n : Nat) (xs : List Om.E) (hs : a.eval s = v) (hown : w.ownsRow base e 2 v n (cel xs))
    (A : Option Addr) (m c : Nat) (news : List Om.E) (hx : a.eval x = .slice A m c) (hA : A = none → c = 0) (hL : VecE w A m news)
    (h63 : n + m ≤ maxLen) (hbytes : (n + m) * bytes ≤ 140737488355328) (hbase : base ≤ w.heap.size)
    (h : ∀ v' w', w'.ownsRow base e 2 v' (n + m) (cel (xs ++ news)) → w.grownBy w' v.ownBlock → K (a.put o.dst v') w') :
    if Region.wanted o (yielded ops a.tmps) = true then Oper.wp P o a w K Q else E := by
  have hw : Region.wanted o (yielded ops a.tmps) = true := by simp [Region.wanted, hgd]
  rw [if_pos hw]
  cases A with
  | none =>
    obtain rfl : m = 0 := by
      rcases Nat.eq_zero_or_pos m with h0 | h0
      · exact h0
      · obtain ⟨_, _, hc, _⟩ := hL.2 h0; cases hc
    obtain rfl : news = [] := List.length_eq_zero_iff.1 hL.1
    obtain rfl := hA rfl
    have hrun := run_append_owned_none (P := P) (w := w) base t o.type e i 2 ht hi v n (cel xs) hown
    have hK := h v w (by simpa using hown) (World.grownBy.refl _ _)
    unfold Oper.wp
    simp [execOp, ho, resolve, invoke, builtin, hs, hx, hrun, Result.andThen]
    exact hK
  | some ad =>
    refine wp_append_own w s x t ho base e i z 2 bytes ht hi hz hsize hby hzs (by decide) v n (cel xs) hs hown ad m c (cel news) hx (by rw [cel_length, hL.1]; omega) ?_ (cel_one news) h63 hbytes hbase fun v' w' h2 h3 _ => h v' w' (by rw [cel_append]; exact h2) h3
    intro j u hu
    have hj : 0 < m := by have := (List.getElem?_eq_some_iff.1 hu).1; rw [cel_length] at this; have := hL.1; omega
    obtain ⟨b, off, hc, _, hcell⟩ := hL.2 hj
    injection hc with hc
    subst hc
    rw [Addr.add_lit]
    exact hcell j u hu
/-- a block of one struct -/
theorem VecE.one {w : World} {t : TypeId} {g : Nat} {x1 x2 : Int} (h : w.heap[g]? = some (.cells #[.int .i64 x1, .int .i64 x2] t (0, 0))) : VecE w (some ⟨g, 0, none⟩) 1 [(x1, x2)] :=
  BlkE.vec (t := t) (show BlkE t w g [(x1, x2)] from h) rfl
theorem own_none2 {w : World} {t : TypeId} {g base : Nat} (h : w.heap[g]? = some (.cells #[] t (0, 0))) (hg : base ≤ g) : w.ownsRow base t 2 (.slice (some ⟨g, 0, none⟩) 0 0) 0 (cel []) :=
  ⟨rfl, .inr ⟨g, 0, #[], rfl, hg, h, Nat.le_refl _, Nat.zero_le _, rfl, rfl⟩⟩

theorem heap_first (w : World) (cs cs' : Array Value) {t t' : TypeId} : ((w.alloc (.cells cs t)).alloc (.cells cs' t')).drew.heap[w.heap.size]? = some (.cells cs t (0, 0)) := by
  show ((w.alloc (.cells cs t)).alloc (.cells cs' t')).heap[w.heap.size]? = _
  rw [Below.heap_alloc _ _ _ (by simp)]
  exact heap_alloc_new w _
theorem heap_next (w : World) (cs cs' : Array Value) {t t' : TypeId} : ((w.alloc (.cells cs t)).alloc (.cells cs' t')).drew.heap[w.heap.size + 1]? = some (.cells cs' t' (0, 0)) := by
  have := heap_alloc_new (w.alloc (.cells cs t)) (.cells cs' t')
  rwa [show (w.alloc (.cells cs t)).heap.size = w.heap.size + 1 from by simp] at this
/-- from the k-th on, as the language cuts it -/
theorem VecE.cut {w : World} {b off n k c : Nat} {l : List Om.E} (h : VecE w (some ⟨b, off, none⟩) n l) (hk : k ≤ n) (hc : n ≤ c) : VecE w (if c = k then some ⟨b, off, none⟩ else some ⟨b, off + k * 2, none⟩) (n - k) (l.drop k) := by
  rcases Nat.lt_or_ge k n with h1 | h1
  · rw [if_neg (by omega)]
    obtain ⟨b', off', e, hb, hv⟩ := h.drop h1
    obtain ⟨rfl, rfl⟩ : b = b' ∧ off = off' := by simpa using e
    exact hv
  · obtain rfl : k = n := by omega
    rw [List.drop_of_length_le (by rw [h.1]; omega), Nat.sub_self]
    exact VecE.nil_ w _
end Go.Proofs.Ytecdgpacofojeaa
