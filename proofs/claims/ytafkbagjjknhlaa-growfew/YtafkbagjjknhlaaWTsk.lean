/-
  Layer 13 (grow): own words for memory: a stack of what is left to be grown, and the nodes so far, both in rows of the call's own.
-/
import Derived.Test.YtafkbagjjknhlaaWStk
import Derived.Test.YtafkbagjjknhlaaWGrw
namespace Go.Proofs.Ytafkbagjjknhlaa
open Go.RowKit

/-- whose right child: below 0 nobody's -/
def whI : Option Nat → Int
  | none => -1
  | some q => (q : Int)
/-- cells that are those of what is left -/
def TkV (Pr : Nat → Prop) (w : World) : List Value → List Wm.Tk → Prop
  | vs, [] => vs = []
  | vs, t :: T => ∃ A n c vs', vs = [.slice A n c, .int .i64 (t.dep : Int), .int .i64 (whI t.wh)] ++ vs' ∧ Sl w A n c t.ids ∧ Inn Pr n A ∧ TkV Pr w vs' T
section
variable {Pr Pr' : Nat → Prop} {w w' : World} {t : Wm.Tk} {T T' : List Wm.Tk} {vs vs' : List Value} {A : Option Addr} {n c : Nat}
theorem TkV.keep (h : TkV Pr w vs T) (hs : w.heap.size ≤ w'.heap.size) (hk : ∀ k, k < w.heap.size → Pr k → w'.heap[k]? = w.heap[k]?) : TkV Pr w' vs T := by
  induction T generalizing vs with
  | nil => exact h
  | cons t T ih =>
    obtain ⟨A, n, c, vs1, e, h1, h2, h3⟩ := h
    exact ⟨A, n, c, vs1, e, h1.keepIn h2 hs hk, h2, ih h3⟩
theorem TkV.mono (h : TkV Pr w vs T) (hp : ∀ k, k < w.heap.size → Pr k → Pr' k) : TkV Pr' w vs T := by
  induction T generalizing vs with
  | nil => exact h
  | cons t T ih =>
    obtain ⟨A, n, c, vs1, e, h1, h2, h3⟩ := h
    refine ⟨A, n, c, vs1, e, h1, fun hn b off s e => ?_, ih h3⟩
    obtain ⟨b', off', e', hlt, _⟩ := h1.lst.2 hn
    have hb : b' = b := by rw [e'] at e; injection e with e; injection e
    exact hp _ (by omega) (h2 hn b off s e)
theorem TkV.len (h : TkV Pr w vs T) : vs.length = T.length * 3 := by
  induction T generalizing vs with
  | nil => rw [show vs = [] from h]; rfl
  | cons t T ih =>
    obtain ⟨A, n, c, vs1, rfl, h1, h2, h3⟩ := h
    have := ih h3
    simp; omega
theorem TkV.append (h : TkV Pr w vs T) (h' : TkV Pr w vs' T') : TkV Pr w (vs ++ vs') (T ++ T') := by
  induction T generalizing vs with
  | nil => rw [show vs = [] from h]; exact h'
  | cons t T ih =>
    obtain ⟨A, n, c, vs1, rfl, h1, h2, h3⟩ := h
    exact ⟨A, n, c, vs1 ++ vs', by rw [List.append_assoc], h1, h2, ih h3⟩
theorem TkV.one (h : Sl w A n c t.ids) (hi : Inn Pr n A) : TkV Pr w [.slice A n c, .int .i64 (t.dep : Int), .int .i64 (whI t.wh)] [t] := ⟨A, n, c, [], by simp, h, hi, rfl⟩
theorem TkV.last (h : TkV Pr w vs (T ++ [t])) : ∃ vs0 A n c, vs = vs0 ++ [.slice A n c, .int .i64 (t.dep : Int), .int .i64 (whI t.wh)] ∧ TkV Pr w vs0 T ∧ Sl w A n c t.ids ∧ Inn Pr n A := by
  induction T generalizing vs with
  | nil =>
    obtain ⟨A, n, c, vs1, rfl, h1, h2, h3⟩ := h
    rw [show vs1 = [] from h3]
    exact ⟨[], A, n, c, by simp, rfl, h1, h2⟩
  | cons a T ih =>
    obtain ⟨A, n, c, vs1, rfl, h1, h2, h3⟩ := h
    obtain ⟨vs0, A', n', c', rfl, g1, g2, g3⟩ := ih h3
    exact ⟨[.slice A n c, .int .i64 (a.dep : Int), .int .i64 (whI a.wh)] ++ vs0, A', n', c', by rw [List.append_assoc], ⟨A, n, c, vs0, rfl, h1, h2, g1⟩, g2, g3⟩
theorem NdV.monoLt {ns : List Value} {N : List Wm.Nd} (h : NdV Pr w ns N) (hp : ∀ k, k < w.heap.size → Pr k → Pr' k) : NdV Pr' w ns N := by
  induction N generalizing ns with
  | nil => exact h
  | cons t T ih =>
    obtain ⟨A1, n1, c1, A2, n2, c2, vs1, e, h1, h2⟩ := h
    refine ⟨A1, n1, c1, A2, n2, c2, vs1, e, ⟨h1.ids, fun hn b off s e => ?_, h1.pn, fun hn b off s e => ?_, h1.le⟩, ih h2⟩
    · obtain ⟨b', off', e', hlt, _⟩ := h1.ids.lst.2 hn
      have hb : b' = b := by rw [e'] at e; injection e with e; injection e
      exact hp _ (by omega) (h1.in1 hn b off s e)
    · obtain ⟨b', off', e', hlt, _⟩ := h1.pn.1.2 hn
      have hb : b' = b := by rw [e'] at e; injection e with e; injection e
      exact hp _ (by omega) (h1.in2 hn b off s e)
/-- the first of a row's elements, still in a row of the call's own -/
theorem own_take {base sz g m : Nat} {e : TypeId} {xs : List Value} (h : w.ownsRow base e sz (.slice (some ⟨g, 0, none⟩) n c) n xs) (hm : m ≤ n) : w.ownsRow base e sz (.slice (some ⟨g, 0, none⟩) m c) m (xs.take (m * sz)) := by
  have hlen := h.1
  have hms : m * sz ≤ n * sz := Nat.mul_le_mul_right _ hm
  refine ⟨by rw [List.length_take]; omega, ?_⟩
  rcases h.2 with ⟨hv, _⟩ | ⟨g', cap, cur, hv, hbg, hg, hnc, hcm, hcs, htake⟩
  · cases hv
  · injection hv with h1 _ h3
    injection h1 with h1
    injection h1 with h1
    subst h1
    subst h3
    refine .inr ⟨g, c, cur, rfl, hbg, hg, by omega, hcm, hcs, ?_⟩
    rw [← htake, List.take_take, Nat.min_eq_left hms]
/-- an element's cell in a row of the call's own is written -/
theorem own_set {base sz g i : Nat} {e : TypeId} {xs : List Value} {u : Value} (h : w.ownsRow base e sz (.slice (some ⟨g, 0, none⟩) n c) n xs) (hi : i < xs.length) : (w.setCell ⟨g, i, none⟩ u).ownsRow base e sz (.slice (some ⟨g, 0, none⟩) n c) n (xs.set i u) := by
  have hlen := h.1
  refine ⟨by rw [List.length_set]; exact hlen, ?_⟩
  rcases h.2 with ⟨hv, _⟩ | ⟨g', cap, cur, hv, hbg, hg, hnc, hcm, hcs, htake⟩
  · cases hv
  · injection hv with h1 _ h3
    injection h1 with h1
    injection h1 with h1
    subst h1
    subst h3
    refine .inr ⟨g, c, _, rfl, hbg, heap_setCell_same _ _ _ _ _ _ hg, hnc, hcm, by simpa using hcs, ?_⟩
    rw [← htake]
    simp [List.take_set]
theorem own_lt6 {base sz : Nat} {e : TypeId} {v : Value} {xs : List Value} (h : w.ownsRow base e sz v n xs) : ∀ k, v.ownBlock = some k → base ≤ k ∧ k < w.heap.size ∧ ∃ cs, w.heap[k]? = some (.cells cs e (0, 0)) := by
  rcases h.2 with ⟨rfl, _⟩ | ⟨g, cap, cur, rfl, hb, hg, _⟩
  · simp [Value.ownBlock]
  · intro k hk
    have e : g = k := by simpa [Value.ownBlock] using hk
    subst e
    exact ⟨hb, lt_of_block hg, _, hg⟩
theorem own_keep6 {base sz : Nat} {e : TypeId} {v : Value} {xs : List Value} (h : w.ownsRow base e sz v n xs) (hk : ∀ k, v.ownBlock = some k → w'.heap[k]? = w.heap[k]?) : w'.ownsRow base e sz v n xs := by
  refine ⟨h.1, ?_⟩
  rcases h.2 with h2 | ⟨g, cap, cur, hv, hb, hg, hr⟩
  · exact .inl h2
  · exact .inr ⟨g, cap, cur, hv, hb, (hk g (by rw [hv]; rfl)).trans hg, hr⟩
/-- where ids and normals may stand: in blocks of the call's own, but in none that is written to -/
def Pz (w0 : World) (q : Nat) (vS vN : Value) (k : Nat) : Prop := w0.heap.size ≤ k ∧ k ≠ q ∧ vS.ownBlock ≠ some k ∧ vN.ownBlock ≠ some k
/-- a stack of what is left, in a captured variable, and the nodes so far -/
structure Gr (w0 W : World) (q : Nat) (vS vN : Value) (S : List Wm.Tk) (N : List Wm.Nd) : Prop where
  var : W.heap[q]? = some (.cells #[vS] 91 (0, 0))
  qn : w0.heap.size ≤ q
  st : ∃ vs, W.ownsRow w0.heap.size 93 3 vS S.length vs ∧ TkV (Pz w0 q vS vN) W vs S
  nd : ∃ ns, W.ownsRow w0.heap.size 59 6 vN N.length ns ∧ NdV (Pz w0 q vS vN) W ns N
end
section
variable {w0 W W1 W2 : World} {q : Nat} {vS vN v' : Value} {S : List Wm.Tk} {N : List Wm.Nd} {t : Wm.Tk} {A : Option Addr} {n c : Nat}
theorem Gr.keep (h : Gr w0 W q vS vN S N) (hs : W.heap.size ≤ W1.heap.size) (hk : ∀ k, w0.heap.size ≤ k → k < W.heap.size → W1.heap[k]? = W.heap[k]?) : Gr w0 W1 q vS vN S N := by
  obtain ⟨vs, h1, h2⟩ := h.st
  obtain ⟨ns, h3, h4⟩ := h.nd
  exact ⟨(hk q h.qn (lt_of_block h.var)).trans h.var, h.qn, ⟨vs, own_keep6 h1 fun k e => hk k (own_lt6 h1 k e).1 (own_lt6 h1 k e).2.1, h2.keep hs fun k hl hp => hk k hp.1 hl⟩, ⟨ns, own_keep6 h3 fun k e => hk k (own_lt6 h3 k e).1 (own_lt6 h3 k e).2.1, h4.keep hs fun k hl hp => hk k hp.1 hl⟩⟩
theorem Gr.below (h : Gr w0 W q vS vN S N) (hb : Below W.heap.size W W1) : Gr w0 W1 q vS vN S N := h.keep hb.size fun k _ hl => hb.block k hl
theorem Gr.btw {lo hi : Nat} (h : Gr w0 W q vS vN S N) (hi' : hi ≤ w0.heap.size) (hb : Btw lo hi W W1) : Gr w0 W1 q vS vN S N := h.keep hb.size fun k h0 hl => hb.block k hl (.inr (by omega))
/-- the stack's row, the nodes' row and the variable stand apart, as their kinds are unlike -/
theorem Gr.apart (h : Gr w0 W q vS vN S N) : (∀ k, vS.ownBlock = some k → k ≠ q ∧ vN.ownBlock ≠ some k) ∧ (∀ k, vN.ownBlock = some k → k ≠ q) := by
  obtain ⟨vs, h1, -⟩ := h.st
  obtain ⟨ns, h3, -⟩ := h.nd
  refine ⟨fun k e => ⟨fun e2 => ?_, fun e2 => ?_⟩, fun k e e2 => ?_⟩
  · obtain ⟨-, -, cs, hc⟩ := own_lt6 h1 k e
    rw [e2, h.var] at hc
    injection hc with hc
    injection hc with _ hc
    exact absurd hc (by decide)
  · obtain ⟨-, -, cs, hc⟩ := own_lt6 h1 k e
    obtain ⟨-, -, cs', hc'⟩ := own_lt6 h3 k e2
    rw [hc] at hc'
    injection hc' with hc'
    injection hc' with _ hc'
    exact absurd hc' (by decide)
  · obtain ⟨-, -, cs, hc⟩ := own_lt6 h3 k e
    rw [e2, h.var] at hc
    injection hc with hc
    injection hc with _ hc
    exact absurd hc (by decide)
/-- one more is pushed: the row, then the variable -/
theorem Gr.push {vs : List Value} (h : Gr w0 W q vS vN S N) (hT : TkV (Pz w0 q vS vN) W vs S) (hs : Sl W A n c t.ids) (hi : Inn (Pz w0 q vS vN) n A)
    (ho : W1.ownsRow w0.heap.size 93 3 v' (S.length + 1) (vs ++ [.slice A n c, .int .i64 (t.dep : Int), .int .i64 (whI t.wh)])) (hg : W.grownBy W1 vS.ownBlock) (hat : v'.ownBlock = vS.ownBlock ∨ v'.ownBlock = some W.heap.size) :
    Gr w0 (W1.setCell ⟨q, 0, none⟩ v') q v' vN (S ++ [t]) N := by
  obtain ⟨ap1, ap2⟩ := h.apart
  obtain ⟨ns, h3, h4⟩ := h.nd
  have hq := lt_of_block h.var
  have hsz := hg.size
  have hqv : some q ≠ vS.ownBlock := fun e => (ap1 q e.symm).1 rfl
  have hq1 : W1.heap[q]? = some (.cells #[vS] 91 (0, 0)) := (hg.block q hq hqv).trans h.var
  have hbl : ∀ k, k < W.heap.size → k ≠ q → vS.ownBlock ≠ some k → (W1.setCell ⟨q, 0, none⟩ v').heap[k]? = W.heap[k]? := fun k hk hn he =>
    (Below.heap_setCell _ _ _ _ (show k ≠ q from hn)).trans (hg.block k hk (fun e => he e.symm))
  have hs2 : W.heap.size ≤ (W1.setCell ⟨q, 0, none⟩ v').heap.size := by simp [World.setCell]; exact hsz
  have hpz : ∀ k, k < W.heap.size → Pz w0 q vS vN k → Pz w0 q v' vN k := fun k hk hp => ⟨hp.1, hp.2.1, fun e => by
    rcases hat with ha | ha
    · exact hp.2.2.1 (ha ▸ e)
    · rw [ha] at e; injection e with e; omega, hp.2.2.2⟩
  have hvq : v'.ownBlock ≠ some q := fun e => by
    rcases hat with ha | ha
    · exact (ap1 q (ha ▸ e)).1 rfl
    · rw [ha] at e; injection e with e; omega
  refine ⟨by rw [heap_setCell_same _ _ _ _ _ _ hq1]; simp, h.qn, ⟨_, by rw [List.length_append]; exact own_keep6 ho fun k e => Below.heap_setCell _ _ _ _ (show k ≠ q from fun e2 => hvq (e2 ▸ e)), ?_⟩, ⟨ns, own_keep6 h3 fun k e => hbl k (own_lt6 h3 k e).2.1 (ap2 k e) (fun e2 => (ap1 k e2).2 e), ?_⟩⟩
  · have h6 := ((hT.append (TkV.one (t := t) hs hi)).mono (Pr' := fun k => Pz w0 q vS vN k ∧ Pz w0 q v' vN k) fun k hk hp => ⟨hp, hpz k hk hp⟩).keep hs2 fun k hk hp => hbl k hk hp.1.2.1 hp.1.2.2.1
    exact h6.mono fun k _ hp => hp.2
  · have h6 := (h4.monoLt (Pr' := fun k => Pz w0 q vS vN k ∧ Pz w0 q v' vN k) fun k hk hp => ⟨hp, hpz k hk hp⟩).keep hs2 fun k hk hp => hbl k hk hp.1.2.1 hp.1.2.2.1
    exact h6.monoLt fun k _ hp => hp.2
/-- one node more -/
theorem Gr.node {ns : List Value} {x : Wm.Nd} {A1 A2 : Option Addr} {n1 c1 n2 c2 : Nat} (h : Gr w0 W q vS vN S N) (hN : NdV (Pz w0 q vS vN) W ns N) (hx : NdA (Pz w0 q vS vN) W x A1 n1 c1 A2 n2 c2)
    (ho : W1.ownsRow w0.heap.size 59 6 v' (N.length + 1) (ns ++ ndc x A1 n1 c1 A2 n2 c2)) (hg : W.grownBy W1 vN.ownBlock) (hat : v'.ownBlock = vN.ownBlock ∨ v'.ownBlock = some W.heap.size) :
    Gr w0 W1 q vS v' S (N ++ [x]) := by
  obtain ⟨ap1, ap2⟩ := h.apart
  obtain ⟨vs, h1, h2⟩ := h.st
  have hq := lt_of_block h.var
  have hsz := hg.size
  have hbl : ∀ k, k < W.heap.size → vN.ownBlock ≠ some k → W1.heap[k]? = W.heap[k]? := fun k hk he => hg.block k hk (fun e => he e.symm)
  have hpz : ∀ k, k < W.heap.size → Pz w0 q vS vN k → Pz w0 q vS v' k := fun k hk hp => ⟨hp.1, hp.2.1, hp.2.2.1, fun e => by
    rcases hat with ha | ha
    · exact hp.2.2.2 (ha ▸ e)
    · rw [ha] at e; injection e with e; omega⟩
  refine ⟨(hbl q hq fun e => ap2 q e rfl).trans h.var, h.qn, ⟨vs, own_keep6 h1 fun k e => hbl k (own_lt6 h1 k e).2.1 (ap1 k e).2, ?_⟩, ⟨_, by rw [List.length_append]; exact ho, ?_⟩⟩
  · have h6 := (h2.mono (Pr' := fun k => Pz w0 q vS vN k ∧ Pz w0 q vS v' k) fun k hk hp => ⟨hp, hpz k hk hp⟩).keep hsz fun k hk hp => hbl k hk hp.1.2.2.2
    exact h6.mono fun k _ hp => hp.2
  · have h6 := ((hN.append (NdV.one hx)).monoLt (Pr' := fun k => Pz w0 q vS vN k ∧ Pz w0 q vS v' k) fun k hk hp => ⟨hp, hpz k hk hp⟩).keep hsz fun k hk hp => hbl k hk hp.1.2.2.2
    exact h6.monoLt fun k _ hp => hp.2
/-- the last one is taken off: what it was, and what is left -/
theorem Gr.pop {g : Nat} (h : Gr w0 W q (.slice (some ⟨g, 0, none⟩) (S.length + 1) c) vN (S ++ [t]) N) :
    Gr w0 (W.setCell ⟨q, 0, none⟩ (.slice (some ⟨g, 0, none⟩) S.length c)) q (.slice (some ⟨g, 0, none⟩) S.length c) vN S N ∧
      ∃ A n c', W.cell? ⟨g, S.length * 3, none⟩ = some (.slice A n c') ∧ W.cell? ⟨g, S.length * 3 + 1, none⟩ = some (.int .i64 (t.dep : Int)) ∧ W.cell? ⟨g, S.length * 3 + 2, none⟩ = some (.int .i64 (whI t.wh)) ∧
        Sl W A n c' t.ids ∧ Inn (Pz w0 q (.slice (some ⟨g, 0, none⟩) S.length c) vN) n A := by
  obtain ⟨ap1, ap2⟩ := h.apart
  obtain ⟨vs, h1, h2⟩ := h.st
  obtain ⟨ns, h3, h4⟩ := h.nd
  rw [List.length_append] at h1
  obtain ⟨vs0, A, n, c', rfl, k1, k2, k3⟩ := h2.last
  have hl0 := k1.len
  have hbl : ∀ k, k ≠ q → (W.setCell ⟨q, 0, none⟩ (.slice (some ⟨g, 0, none⟩) S.length c)).heap[k]? = W.heap[k]? := fun k hn => Below.heap_setCell _ _ _ _ (show k ≠ q from hn)
  have hs2 : W.heap.size ≤ (W.setCell ⟨q, 0, none⟩ (.slice (some ⟨g, 0, none⟩) S.length c)).heap.size := by simp [World.setCell]
  have hpz : ∀ k, Pz w0 q (.slice (some ⟨g, 0, none⟩) (S.length + 1) c) vN k → Pz w0 q (.slice (some ⟨g, 0, none⟩) S.length c) vN k := fun k hp => hp
  have hcut := own_take (m := S.length) h1 (by simp)
  rw [List.take_append_of_le_length (by omega), List.take_of_length_le (by omega)] at hcut
  have hcell : ∀ j u, (vs0 ++ [.slice A n c', .int .i64 (t.dep : Int), .int .i64 (whI t.wh)])[j]? = some u → W.cell? ⟨g, j, none⟩ = some u := fun j u hu => by
    have := h1.cells (g := g) rfl j u hu
    rwa [Addr.add_lit, Nat.zero_add] at this
  refine ⟨⟨by rw [heap_setCell_same _ _ _ _ _ _ h.var]; simp, h.qn, ⟨vs0, own_keep6 hcut fun k e => hbl k (ap1 k e).1, (k1.keep hs2 fun k hk hp => hbl k hp.2.1)⟩, ⟨ns, own_keep6 h3 fun k e => hbl k (ap2 k e), h4.keep hs2 fun k hk hp => hbl k hp.2.1⟩⟩, A, n, c', ?_, ?_, ?_, k2, k3⟩
  · exact hcell _ _ (by rw [List.getElem?_append_right (by omega), hl0, Nat.sub_self]; rfl)
  · exact hcell _ _ (by rw [List.getElem?_append_right (by omega), hl0, Nat.add_sub_cancel_left]; rfl)
  · exact hcell _ _ (by rw [List.getElem?_append_right (by omega), hl0, Nat.add_sub_cancel_left]; rfl)
/-- whose right child is told -/
theorem NdV.right {Pr : Nat → Prop} {ns : List Value} {j m : Nat} (h : NdV Pr W ns N) (hj : j < N.length) : NdV Pr W (ns.set (j * 6 + 5) (.int .i64 (m : Int))) (N.modify j fun t => { t with rt := m }) := by
  induction N generalizing ns j with
  | nil => exact absurd hj (by simp)
  | cons x T ih =>
    obtain ⟨A1, n1, c1, A2, n2, c2, vs1, rfl, h1, h2⟩ := h
    cases j with
    | zero => exact ⟨A1, n1, c1, A2, n2, c2, vs1, rfl, ⟨h1.ids, h1.in1, h1.pn, h1.in2, h1.le⟩, h2⟩
    | succ j =>
      refine ⟨A1, n1, c1, A2, n2, c2, _, ?_, h1, ih h2 (by simpa using hj)⟩
      rw [List.set_append_right _ _ (by simp; omega)]
      congr 2
      simp; omega
theorem Gr.rt {g j : Nat} (h : Gr w0 W q vS (.slice (some ⟨g, 0, none⟩) N.length c) S N) (hj : j < N.length) :
    Gr w0 (W.setCell ⟨g, j * 6 + 5, none⟩ (.int .i64 (N.length : Int))) q vS (.slice (some ⟨g, 0, none⟩) N.length c) S (Wm.right N (some j)) := by
  obtain ⟨ap1, ap2⟩ := h.apart
  obtain ⟨vs, h1, h2⟩ := h.st
  obtain ⟨ns, h3, h4⟩ := h.nd
  have hl := h4.len
  have hgo : (Value.slice (some ⟨g, 0, none⟩) N.length c).ownBlock = some g := rfl
  have hbl : ∀ k, k ≠ g → (W.setCell ⟨g, j * 6 + 5, none⟩ (.int .i64 (N.length : Int))).heap[k]? = W.heap[k]? := fun k hn => Below.heap_setCell _ _ _ _ (show k ≠ g from hn)
  have hs2 : W.heap.size ≤ (W.setCell ⟨g, j * 6 + 5, none⟩ (.int .i64 (N.length : Int))).heap.size := by simp [World.setCell]
  have hlen : (Wm.right N (some j)).length = N.length := Wm.right_length _ _
  refine ⟨(hbl q fun e => ap2 g hgo e.symm).trans h.var, h.qn, ⟨vs, own_keep6 h1 fun k e => hbl k (fun e2 => (ap1 k e).2 (e2 ▸ hgo)), h2.keep hs2 fun k hk hp => hbl k (fun e => hp.2.2.2 (e ▸ hgo))⟩, ⟨_, by rw [hlen]; exact own_set h3 (by omega), ?_⟩⟩
  exact (h4.right hj).keep hs2 fun k hk hp => hbl k (fun e => hp.2.2.2 (e ▸ hgo))
end
end Go.Proofs.Ytafkbagjjknhlaa
