/-
  A range over a function whose iterator, and whose rounds, make memory that lasts: the statement's law, for whatever states; and an append of one value inside a fence, with the row's place told. Nothing of the program stands here.
-/
import Derived.RangeFuncNested
import Derived.RangeFuncBound
import Derived.RangeFuncCalls
import Derived.RangeFuncLeaves
import Derived.Shelf.Abstract
import Derived.Shelf.RegionOpen
import Derived.WalkKit
import Derived.OwnWalkIn
import Derived.TacticsInMore
import Derived.LoopNIn
import Derived.LoopIn
import Derived.Below
import Derived.Deep.AppendLies
namespace Go.Proofs.Ytafkbagjjknhlaa
open Go.RowKit Go.Shelf

/-- all but block k is as it was -/
structure Off (k : Nat) (W W' : World) : Prop where
  os : W'.os = W.os
  tape : W'.tape = W.tape
  output : W'.output = W.output
  size : W'.heap.size = W.heap.size
  block : ∀ j, j ≠ k → W'.heap[j]? = W.heap[j]?
theorem off_put (W : World) (l : Nat) (o : Obj) : Off l W (W.putObj l o) := ⟨rfl, rfl, rfl, by simp, fun _ hj => World.putObj_heap_other hj⟩

/-- how a round's body may be left: what lies from B on and is no cells is as it was; behind its end I holds of the next number, behind a jump c X c -/
def leftBy (B : Nat) (I : World → Prop) (X : Code → World → Prop) (W : World) : Exit → Act → World → Prop
  | .normal, _, W' => KeepsFrom B W W' ∧ I W'
  | .ret, _, W' => KeepsFrom B W W' ∧ X .ret W'
  | .exit id, _, W' => KeepsFrom B W W' ∧ X (.exit id) W'
  | .goto t, _, W' => KeepsFrom B W W' ∧ X (.goto t) W'
  | .panic _, _, _ => False
  | .outgrown, _, _ => False

/-- a loop's two blocks: what its rounds defer (nothing), and behind it the record R -/
structure Book (R : Loop) (D : Nat) (W : World) : Prop where
  dfr : W.heap[D]? = some (.deferred (some []))
  rec_ : W.heap[D + 1]? = some (.loop R)
section
variable {R : Loop} {D B : Nat} {W W' : World}
theorem Book.new (w : World) (R : Loop) : Book R w.heap.size ((w.alloc (.deferred (some []))).alloc (.loop R)) := by
  have h := World.alloc_heap_new (w.alloc (.deferred (some []))) (.loop R)
  rw [World.size_alloc] at h
  exact ⟨(Below.heap_alloc _ _ _ (by simp)).trans (World.alloc_heap_new w _), h⟩
theorem Book.keep (b : Book R D W) (h : KeepsFrom B W W') (hB : B ≤ D) : Book R D W' := ⟨h.same _ _ hB b.dfr rfl, h.same _ _ (by omega) b.rec_ rfl⟩
theorem Book.put (b : Book R D W) (R' : Loop) : Book R' D (W.putObj (D + 1) (.loop R')) :=
  ⟨(World.putObj_heap_other (by omega)).trans b.dfr, World.putObj_heap_same (Array.getElem?_eq_some_iff.1 b.rec_).1⟩
/-- the round's end, by whichever way the body was left -/
theorem Book.leave {P : Program} {I : World → Prop} {X : Code → World → Prop} (b : Book R D W) (hB : B ≤ D) (hI : ∀ U U', I U → Off (D + 1) U U' → I U') (hX : ∀ c U U', X c U → Off (D + 1) U U' → X c U') :
    ∀ (e : Exit) (a : Act) (V : World), leftBy B I X W e a V → roundPost P (D + 1) (fun e U => (e = .returned (.bool true) ∧ I U ∧ Book { R with state := .ready, pending := none } D U) ∨ (e = .returned (.bool false) ∧ ∃ c, X c U ∧ Book { R with state := .done, pending := some c } D U)) e a V
  | .normal, _, _, ⟨k, i⟩ => ⟨_, _, run_endRound none (b.keep k hB).rec_, .inl ⟨rfl, hI _ _ i (off_put _ _ _), (b.keep k hB).put _⟩⟩
  | .ret, _, _, ⟨k, x⟩ => ⟨_, _, run_endRound (some .ret) (b.keep k hB).rec_, .inr ⟨rfl, .ret, hX _ _ _ x (off_put _ _ _), (b.keep k hB).put _⟩⟩
  | .exit id, _, _, ⟨k, x⟩ => ⟨_, _, run_endRound (some (.exit id)) (b.keep k hB).rec_, .inr ⟨rfl, .exit id, hX _ _ _ x (off_put _ _ _), (b.keep k hB).put _⟩⟩
  | .goto t, _, _, ⟨k, x⟩ => ⟨_, _, run_endRound (some (.goto t)) (b.keep k hB).rec_, .inr ⟨rfl, .goto t, hX _ _ _ x (off_put _ _ _), (b.keep k hB).put _⟩⟩
  | .panic _, _, _, h => h.elim
  | .outgrown, _, _, h => h.elim
end

theorem range_lasts {F : Fence} {n : Nat} {P : Program} {g : Operand} {ps : Array Tmp} {assign body : Code} {Q : Exit → Act → World → Prop} {a : Act} {w : World}
    (hro : F.round = none) (h1 : 1 ≤ n) {gf : Nat} {lb : Array Value} (hg : a.eval g = .func (.func gf) #[] lb) (hFg : F.fn gf) (eg : ∀ args w, (callFunc gf args).run P w = .ok (.enter gf args) w)
    (I : Nat → World → Prop) (M : Nat → Array Value → World → Prop) (A : Nat → Array Value → Act → World → Prop) (E : World → Prop) (X : Code → World → Prop)
    (hI : ∀ k W W', I k W → Off (w.heap.size + 1) W W' → I k W') (hA : ∀ k vs a' W W', A k vs a' W → Off (w.heap.size + 1) W W' → A k vs a' W')
    (hE : ∀ W W', E W → Off (w.heap.size + 1) W W' → E W') (hX : ∀ c W W', X c W → Off (w.heap.size + 1) W W' → X c W') (hps : ∀ k vs W, M k vs W → vs.size = ps.size) (h0 : ∀ W, Below w.heap.size w W → W.heap.size = w.heap.size + 2 → I 0 W)
    (hiter : ∀ (l : Nat) (B : World → Prop) (Y : World → Prop), (∀ W W', B W → KeepsFrom w.heap.size W W' → B W') →
      (∀ k vs W, M k vs W → B W → YieldAt F (n - 1 - 1) P l vs W fun e W' => (e = .returned (.bool true) ∧ I (k + 1) W' ∧ B W') ∨ (e = .returned (.bool false) ∧ Y W')) →
      ∀ W, I 0 W → B W → CallsIn F (n - 1) P gf (#[.func (.yield l) #[] #[]] ++ lb) W fun e W' => (∃ v, e = .returned v) ∧ ((E W' ∧ B W') ∨ Y W'))
    (hassign : ∀ (l k : Nat) (vs : Array Value) (W : World) (K : Act → World → Prop), M k vs W → (∀ a' W', A k vs a' W' → KeepsFrom w.heap.size W W' → K a' W') →
      assign.wpIn (F.inRound l) (n - 1 - 1) P (Exit.then K (fun _ _ _ => False)) { tmps := (ps.zip vs).foldl (fun t (p, v) => t.setIfInBounds p v) a.tmps, defers := [] } W)
    (hbody : ∀ (l k : Nat) (vs : Array Value) (a' : Act) (W : World), A k vs a' W → body.wpIn (F.inRound l) (n - 1 - 1) P (leftBy w.heap.size (I (k + 1)) X W) a' W)
    (hdone : ∀ (D : Nat) (W : World), D = w.heap.size → E W → W.heap[D]? = some (.deferred (some [])) → Q .normal { a with defers := { target := .collected D, args := #[] } :: a.defers } W)
    (hstop : ∀ (D : Nat) (c : Code) (W : World), D = w.heap.size → X c W → W.heap[D]? = some (.deferred (some [])) → c.wpIn F n P Q { a with defers := { target := .collected D, args := #[] } :: a.defers } W) :
    (Code.rangeFunc g ps assign body).wpIn F n P Q a w := by
  refine wpIn_rangeFunc fun fn hfn => ?_
  rw [hro]
  let R : Loop := { state := .ready, pending := none, fn := fn, tmps := a.tmps, params := ps, assign := assign, body := body, defers := w.heap.size }
  have b0 : Book R w.heap.size _ := Book.new w R
  have i0 : I 0 ((w.alloc (.deferred (some []))).alloc (.loop R)) := h0 _ (((Below.refl _ w).alloc (Nat.le_refl _) _).alloc (by simp) _) (by simp)
  refine ⟨_, _, _, { target := .fn (.func gf) lb, args := #[.func (.yield (w.heap.size + 1)) #[] #[]] }, (w.alloc (.deferred (some []))).alloc (.loop R), gf, _, _, run_enterLoop_outer fn a.tmps ps assign body, ?_, ?_, ?_, fun _ => h1,
    (hiter (w.heap.size + 1) (Book R w.heap.size) (fun U => ∃ c, X c U ∧ Book { R with state := .done, pending := some c } w.heap.size U) (fun _ _ b k => b.keep k (Nat.le_refl _)) ?_ _ i0 b0).mono ?_⟩
  · show _ = Result.ok _ ((w.alloc (.deferred (some []))).alloc (.loop R))
    simp only [resolve, hg]
    simp [go_sem, R]
  · intro f' hf'
    simp [Target.leads] at hf'
    exact hf' ▸ hFg
  · simp [invoke, go_sem, eg]
  · intro k vs W hm b
    refine ⟨fn, _, assign, body, run_yield (args := vs) b.rec_ (hps k vs W hm), roundIn_of_wpIn hfn (hassign _ k vs W _ hm fun a' V ha kv => ?_)⟩
    have bV := b.keep kv (Nat.le_refl _)
    exact ⟨_, run_beginRound bV.rec_ rfl, wpIn_mono (hbody _ k vs a' _ (hA k vs a' _ _ ha (off_put _ _ _))) ((bV.put _).leave (Nat.le_refl _) (hI (k + 1)) hX)⟩
  · rintro _ V ⟨⟨v, rfl⟩, ⟨e, b⟩ | ⟨c, x, b⟩⟩
    · exact ⟨none, _, run_endLoop b.rec_ (fun h => by cases h), hdone _ _ rfl (hE _ _ e (off_put _ _ _)) (b.put _).dfr⟩
    · exact ⟨some c, _, run_endLoop b.rec_ (fun h => by cases h), hstop _ c _ rfl (hX _ _ _ x (off_put _ _ _)) (b.put _).dfr⟩
/-- the same, where what is told to a round is put into slots alone -/
theorem range_keeps {F : Fence} {n : Nat} {P : Program} {g : Operand} {ps : Array Tmp} {assign body : Code} {Q : Exit → Act → World → Prop} {a : Act} {w : World}
    (hro : F.round = none) (h1 : 1 ≤ n) {gf : Nat} {lb : Array Value} (hg : a.eval g = .func (.func gf) #[] lb) (hFg : F.fn gf) (eg : ∀ args w, (callFunc gf args).run P w = .ok (.enter gf args) w)
    (I : Nat → World → Prop) (M : Nat → Array Value → World → Prop) (E : World → Prop) (X : Code → World → Prop) (upd : Array Value → Array Value → Array Value)
    (hI : ∀ k W W', I k W → Off (w.heap.size + 1) W W' → I k W') (hM : ∀ k vs W W', M k vs W → Off (w.heap.size + 1) W W' → M k vs W')
    (hE : ∀ W W', E W → Off (w.heap.size + 1) W W' → E W') (hX : ∀ c W W', X c W → Off (w.heap.size + 1) W W' → X c W') (hps : ∀ k vs W, M k vs W → vs.size = ps.size) (h0 : ∀ W, Below w.heap.size w W → W.heap.size = w.heap.size + 2 → I 0 W)
    (hiter : ∀ (l : Nat) (B : World → Prop) (Y : World → Prop), (∀ W W', B W → KeepsFrom w.heap.size W W' → B W') →
      (∀ k vs W, M k vs W → B W → YieldAt F (n - 1 - 1) P l vs W fun e W' => (e = .returned (.bool true) ∧ I (k + 1) W' ∧ B W') ∨ (e = .returned (.bool false) ∧ Y W')) →
      ∀ W, I 0 W → B W → CallsIn F (n - 1) P gf (#[.func (.yield l) #[] #[]] ++ lb) W fun e W' => (∃ v, e = .returned v) ∧ ((E W' ∧ B W') ∨ Y W'))
    (hassign : ∀ (l k : Nat) (vs : Array Value) (W : World) (K : Act → World → Prop), M k vs W → K { tmps := upd vs a.tmps, defers := [] } W →
      assign.wpIn (F.inRound l) (n - 1 - 1) P (Exit.then K (fun _ _ _ => False)) { tmps := (ps.zip vs).foldl (fun t (p, v) => t.setIfInBounds p v) a.tmps, defers := [] } W)
    (hbody : ∀ (l k : Nat) (vs : Array Value) (W : World), M k vs W → body.wpIn (F.inRound l) (n - 1 - 1) P (leftBy w.heap.size (I (k + 1)) X W) { tmps := upd vs a.tmps, defers := [] } W)
    (hdone : ∀ (D : Nat) (W : World), D = w.heap.size → E W → W.heap[D]? = some (.deferred (some [])) → Q .normal { a with defers := { target := .collected D, args := #[] } :: a.defers } W)
    (hstop : ∀ (D : Nat) (c : Code) (W : World), D = w.heap.size → X c W → W.heap[D]? = some (.deferred (some [])) → c.wpIn F n P Q { a with defers := { target := .collected D, args := #[] } :: a.defers } W) :
    (Code.rangeFunc g ps assign body).wpIn F n P Q a w :=
  range_lasts hro h1 hg hFg eg I M (fun k vs a' W => a' = { tmps := upd vs a.tmps, defers := [] } ∧ M k vs W) E X hI (fun k vs _ W W' h hb => ⟨h.1, hM k vs W W' h.2 hb⟩) hE hX hps h0 hiter
    (fun l k vs W K hm hK => hassign l k vs W K hm (hK _ _ ⟨rfl, hm⟩ (KeepsFrom.refl _ _))) (fun l k vs a' W h => by rw [h.1]; exact hbody l k vs W h.2) hdone hstop
/-- one value, in a block of its own, appended to a row of the call's own: where the row lies behind it -/
theorem push_in {F : Fence} {n : Nat} {P : Program} (w : World) {ops : Array Oper} {rest : List Oper} {o : Oper} {a : Act} {Q : Exit → Act → World → Prop} (hgd : o.guard = none) (s x : Operand) (t : TypeId)
    (hop : o.op = .call { callee := .builtin .append, args := #[s, x], argTypes := #[t, t] }) (base : Nat) (e : TypeId) (i : TypeInfo) (z : Value) (bytes : Nat) (ht : P.underlying t = some (.slice e)) (hi : P.info? e = some i) (hz : i.zero = some z) (h1 : i.size = 1) (hb : i.bytes = bytes) (hzs : z.cells.size = 1)
    (v : Value) (k : Nat) (xs : List Value) (hs : a.eval s = v) (hown : w.ownsRow base e 1 v k xs) (b : Nat) (u : Value) (hx : a.eval x = .slice (some ⟨b, 0, none⟩) 1 1) (hu : w.heap[b]? = some (.cells #[u] e (0, 0))) (ho : u.oneCell' = true) (hk : k ≤ 1000000) (hby : bytes ≤ 64) (hbase : base ≤ w.heap.size)
    (h : ∀ g cap w', w'.ownsRow base e 1 (.slice (some ⟨g, 0, none⟩) (k + 1) cap) (k + 1) (xs ++ [u]) → w.grownBy w' v.ownBlock → (v.ownBlock = some g ∨ g = w.heap.size) → wpListIn F n P ops Q rest (a.put o.dst (.slice (some ⟨g, 0, none⟩) (k + 1) cap)) w') :
    wpListIn F n P ops Q (o :: rest) a w := by
  have hcell : ∀ (j : Nat) (y : Value), [u][j]? = some y → w.cell? ((⟨b, 0, none⟩ : Addr).add j) = some y := fun j y hy => by
    rw [Addr.add_lit, Nat.zero_add, cell_of_row _ _ _ _ _ _ hu]; simpa using hy
  have hby' : (k + 1) * bytes ≤ (k + 1) * 64 := Nat.mul_le_mul_left _ hby
  obtain ⟨g, cap, w', hr, r1, r2, r3, -⟩ := run_append_lies (P := P) w t o.type base e i z 1 bytes ht hi hz h1 hb hzs (by decide) v k xs hown ⟨b, 0, none⟩ 1 1 [u] rfl hcell (by simpa using ho) (by decide) (by unfold maxLen; omega) (by omega) hbase _ rfl
  refine wpListIn_plain hgd fun K hK => ?_
  have hno : ∀ c, o.op ≠ .defer c := fun c hc => by rw [hop] at hc; cases hc
  refine ⟨by simp [Oper.about, hop, resolve, Target.leads, Sem.run_pure], ?_⟩
  rw [Oper.semAt_plain F _ _ hno]
  simp only [execOp, hop, resolve, invoke, builtin, Sem.run_bind, Sem.run_pure, Result.andThen_ok, List.map_toArray, List.map_cons, List.map_nil, hs, hx, hr]
  exact hK _ _ (h g cap w' r1 r2 r3)
end Go.Proofs.Ytafkbagjjknhlaa
