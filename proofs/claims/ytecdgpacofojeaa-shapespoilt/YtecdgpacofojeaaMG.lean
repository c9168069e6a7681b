/-
  A range over a function whose iterator, and whose rounds, make memory that lasts: the statement's law, for whatever states; and an append of one value inside a fence, with the row's place told. Nothing of the program stands here.
  Words that texts of several layers share, for ranges over functions: what a loop's blocks need of a step.
  A range over a function, whatever its iterator keeps for itself: what stands at a yield may hang on anything (ι), and the same is told behind it. Nothing of the program stands here.
  A range over a function that keeps memory of its own between two yields: what lies from a block on is as it was behind each round. Nothing of the program stands here.
-/
import Derived.RangeFuncNested
import Derived.RangeFuncBound
import Derived.RangeFuncCalls
import Derived.RangeFuncLeaves
import Derived.Shelf.Abstract
import Derived.Shelf.RegionOpen
import Derived.WalkKit
import Derived.OwnWalkIn
import Derived.TacticsInMore
import Derived.LoopNIn
import Derived.LoopIn
import Derived.Below
import Derived.Deep.AppendLies
import Derived.Test.YtecdgpacofojeaaRows
import Derived.Test.YtecdgpacofojeaaMH
import Derived.Laws.Rows
namespace Go.Proofs.Ytecdgpacofojeaa
open Go.RowKit Go.Shelf

/-- all but block k is as it was -/
structure Off (k : Nat) (W W' : World) : Prop where
  os : W'.os = W.os
  tape : W'.tape = W.tape
  output : W'.output = W.output
  size : W'.heap.size = W.heap.size
  block : ∀ j, j ≠ k → W'.heap[j]? = W.heap[j]?
theorem off_put (W : World) (l : Nat) (o : Obj) : Off l W (W.putObj l o) := ⟨rfl, rfl, rfl, by simp, fun _ hj => World.putObj_heap_other hj⟩

/-- how a round's body may be left: what lies from B on and is no cells is as it was; behind its end I holds of the next number, behind a jump c X c -/
def leftBy (B : Nat) (I : World → Prop) (X : Code → World → Prop) (W : World) : Exit → Act → World → Prop
  | .normal, _, W' => KeepsFrom B W W' ∧ I W'
  | .ret, _, W' => KeepsFrom B W W' ∧ X .ret W'
  | .exit id, _, W' => KeepsFrom B W W' ∧ X (.exit id) W'
  | .goto t, _, W' => KeepsFrom B W W' ∧ X (.goto t) W'
  | .panic _, _, _ => False
  | .outgrown, _, _ => False

/-- a loop's two blocks: what its rounds defer (nothing), and behind it the record R -/
structure Book (R : Loop) (D : Nat) (W : World) : Prop where
  dfr : W.heap[D]? = some (.deferred (some []))
  rec_ : W.heap[D + 1]? = some (.loop R)
section
variable {R : Loop} {D B : Nat} {W W' : World}
theorem Book.new (w : World) (R : Loop) : Book R w.heap.size ((w.alloc (.deferred (some []))).alloc (.loop R)) := by
  have h := World.alloc_heap_new (w.alloc (.deferred (some []))) (.loop R)
  rw [World.size_alloc] at h
  exact ⟨(Below.heap_alloc _ _ _ (by simp)).trans (World.alloc_heap_new w _), h⟩
theorem Book.keep (b : Book R D W) (h : KeepsFrom B W W') (hB : B ≤ D) : Book R D W' := ⟨h.same _ _ hB b.dfr rfl, h.same _ _ (by omega) b.rec_ rfl⟩
theorem Book.put (b : Book R D W) (R' : Loop) : Book R' D (W.putObj (D + 1) (.loop R')) :=
  ⟨(World.putObj_heap_other (by omega)).trans b.dfr, World.putObj_heap_same (Array.getElem?_eq_some_iff.1 b.rec_).1⟩
/-- the round's end, by whichever way the body was left -/
theorem Book.leave {P : Program} {I : World → Prop} {X : Code → World → Prop} (b : Book R D W) (hB : B ≤ D) (hI : ∀ U U', I U → Off (D + 1) U U' → I U') (hX : ∀ c U U', X c U → Off (D + 1) U U' → X c U') :
    ∀ (e : Exit) (a : Act) (V : World), leftBy B I X W e a V → roundPost P (D + 1) (fun e U => (e = .returned (.bool true) ∧ I U ∧ Book { R with state := .ready, pending := none } D U) ∨ (e = .returned (.bool false) ∧ ∃ c, X c U ∧ Book { R with state := .done, pending := some c } D U)) e a V
  | .normal, _, _, ⟨k, i⟩ => ⟨_, _, run_endRound none (b.keep k hB).rec_, .inl ⟨rfl, hI _ _ i (off_put _ _ _), (b.keep k hB).put _⟩⟩
  | .ret, _, _, ⟨k, x⟩ => ⟨_, _, run_endRound (some .ret) (b.keep k hB).rec_, .inr ⟨rfl, .ret, hX _ _ _ x (off_put _ _ _), (b.keep k hB).put _⟩⟩
  | .exit id, _, _, ⟨k, x⟩ => ⟨_, _, run_endRound (some (.exit id)) (b.keep k hB).rec_, .inr ⟨rfl, .exit id, hX _ _ _ x (off_put _ _ _), (b.keep k hB).put _⟩⟩
  | .goto t, _, _, ⟨k, x⟩ => ⟨_, _, run_endRound (some (.goto t)) (b.keep k hB).rec_, .inr ⟨rfl, .goto t, hX _ _ _ x (off_put _ _ _), (b.keep k hB).put _⟩⟩
  | .panic _, _, _, h => h.elim
  | .outgrown, _, _, h => h.elim
end

theorem range_lasts {F : Fence} {n : Nat} {P : Program} {g : Operand} {ps : Array Tmp} {assign body : Code} {Q : Exit → Act → World → Prop} {a : Act} {w : World}
    (hro : F.round = none) (h1 : 1 ≤ n) {gf : Nat} {lb : Array Value} (hg : a.eval g = .func (.func gf) #[] lb) (hFg : F.fn gf) (eg : ∀ args w, (callFunc gf args).run P w = .ok (.enter gf args) w)
    (I : Nat → World → Prop) (M : Nat → Array Value → World → Prop) (A : Nat → Array Value → Act → World → Prop) (E : World → Prop) (X : Code → World → Prop)
    (hI : ∀ k W W', I k W → Off (w.heap.size + 1) W W' → I k W') (hA : ∀ k vs a' W W', A k vs a' W → Off (w.heap.size + 1) W W' → A k vs a' W')
    (hE : ∀ W W', E W → Off (w.heap.size + 1) W W' → E W') (hX : ∀ c W W', X c W → Off (w.heap.size + 1) W W' → X c W') (hps : ∀ k vs W, M k vs W → vs.size = ps.size) (h0 : ∀ W, Below w.heap.size w W → W.heap.size = w.heap.size + 2 → I 0 W)
    (hiter : ∀ (l : Nat) (B : World → Prop) (Y : World → Prop), (∀ W W', B W → KeepsFrom w.heap.size W W' → B W') →
      (∀ k vs W, M k vs W → B W → YieldAt F (n - 1 - 1) P l vs W fun e W' => (e = .returned (.bool true) ∧ I (k + 1) W' ∧ B W') ∨ (e = .returned (.bool false) ∧ Y W')) →
      ∀ W, I 0 W → B W → CallsIn F (n - 1) P gf (#[.func (.yield l) #[] #[]] ++ lb) W fun e W' => (∃ v, e = .returned v) ∧ ((E W' ∧ B W') ∨ Y W'))
    (hassign : ∀ (l k : Nat) (vs : Array Value) (W : World) (K : Act → World → Prop), M k vs W → (∀ a' W', A k vs a' W' → KeepsFrom w.heap.size W W' → K a' W') →
      assign.wpIn (F.inRound l) (n - 1 - 1) P (Exit.then K (fun _ _ _ => False)) { tmps := (ps.zip vs).foldl (fun t (p, v) => t.setIfInBounds p v) a.tmps, defers := [] } W)
    (hbody : ∀ (l k : Nat) (vs : Array Value) (a' : Act) (W : World), A k vs a' W → body.wpIn (F.inRound l) (n - 1 - 1) P (leftBy w.heap.size (I (k + 1)) X W) a' W)
    (hdone : ∀ (D : Nat) (W : World), D = w.heap.size → E W → W.heap[D]? = some (.deferred (some [])) → Q .normal { a with defers := { target := .collected D, args := #[] } :: a.defers } W)
    (hstop : ∀ (D : Nat) (c : Code) (W : World), D = w.heap.size → X c W → W.heap[D]? = some (.deferred (some [])) → c.wpIn F n P Q { a with defers := { target := .collected D, args := #[] } :: a.defers } W) :
    (Code.rangeFunc g ps assign body).wpIn F n P Q a w := by
  refine wpIn_rangeFunc fun fn hfn => ?_
  rw [hro]
  let R : Loop := { state := .ready, pending := none, fn := fn, tmps := a.tmps, params := ps, assign := assign, body := body, defers := w.heap.size }
  have b0 : Book R w.heap.size _ := Book.new w R
  have i0 : I 0 ((w.alloc (.deferred (some []))).alloc (.loop R)) := h0 _ (((Below.refl _ w).alloc (Nat.le_refl _) _).alloc (by simp) _) (by simp)
  refine ⟨_, _, _, { target := .fn (.func gf) lb, args := #[.func (.yield (w.heap.size + 1)) #[] #[]] }, (w.alloc (.deferred (some []))).alloc (.loop R), gf, _, _, run_enterLoop_outer fn a.tmps ps assign body, ?_, ?_, ?_, fun _ => h1,
    (hiter (w.heap.size + 1) (Book R w.heap.size) (fun U => ∃ c, X c U ∧ Book { R with state := .done, pending := some c } w.heap.size U) (fun _ _ b k => b.keep k (Nat.le_refl _)) ?_ _ i0 b0).mono ?_⟩
  · show _ = Result.ok _ ((w.alloc (.deferred (some []))).alloc (.loop R))
    simp only [resolve, hg]
    simp [go_sem, R]
  · intro f' hf'
    simp [Target.leads] at hf'
    exact hf' ▸ hFg
  · simp [invoke, go_sem, eg]
  · intro k vs W hm b
    refine ⟨fn, _, assign, body, run_yield (args := vs) b.rec_ (hps k vs W hm), roundIn_of_wpIn hfn (hassign _ k vs W _ hm fun a' V ha kv => ?_)⟩
    have bV := b.keep kv (Nat.le_refl _)
    exact ⟨_, run_beginRound bV.rec_ rfl, wpIn_mono (hbody _ k vs a' _ (hA k vs a' _ _ ha (off_put _ _ _))) ((bV.put _).leave (Nat.le_refl _) (hI (k + 1)) hX)⟩
  · rintro _ V ⟨⟨v, rfl⟩, ⟨e, b⟩ | ⟨c, x, b⟩⟩
    · exact ⟨none, _, run_endLoop b.rec_ (fun h => by cases h), hdone _ _ rfl (hE _ _ e (off_put _ _ _)) (b.put _).dfr⟩
    · exact ⟨some c, _, run_endLoop b.rec_ (fun h => by cases h), hstop _ c _ rfl (hX _ _ _ x (off_put _ _ _)) (b.put _).dfr⟩
/-- the same, where what is told to a round is put into slots alone -/
theorem range_keeps {F : Fence} {n : Nat} {P : Program} {g : Operand} {ps : Array Tmp} {assign body : Code} {Q : Exit → Act → World → Prop} {a : Act} {w : World}
    (hro : F.round = none) (h1 : 1 ≤ n) {gf : Nat} {lb : Array Value} (hg : a.eval g = .func (.func gf) #[] lb) (hFg : F.fn gf) (eg : ∀ args w, (callFunc gf args).run P w = .ok (.enter gf args) w)
    (I : Nat → World → Prop) (M : Nat → Array Value → World → Prop) (E : World → Prop) (X : Code → World → Prop) (upd : Array Value → Array Value → Array Value)
    (hI : ∀ k W W', I k W → Off (w.heap.size + 1) W W' → I k W') (hM : ∀ k vs W W', M k vs W → Off (w.heap.size + 1) W W' → M k vs W')
    (hE : ∀ W W', E W → Off (w.heap.size + 1) W W' → E W') (hX : ∀ c W W', X c W → Off (w.heap.size + 1) W W' → X c W') (hps : ∀ k vs W, M k vs W → vs.size = ps.size) (h0 : ∀ W, Below w.heap.size w W → W.heap.size = w.heap.size + 2 → I 0 W)
    (hiter : ∀ (l : Nat) (B : World → Prop) (Y : World → Prop), (∀ W W', B W → KeepsFrom w.heap.size W W' → B W') →
      (∀ k vs W, M k vs W → B W → YieldAt F (n - 1 - 1) P l vs W fun e W' => (e = .returned (.bool true) ∧ I (k + 1) W' ∧ B W') ∨ (e = .returned (.bool false) ∧ Y W')) →
      ∀ W, I 0 W → B W → CallsIn F (n - 1) P gf (#[.func (.yield l) #[] #[]] ++ lb) W fun e W' => (∃ v, e = .returned v) ∧ ((E W' ∧ B W') ∨ Y W'))
    (hassign : ∀ (l k : Nat) (vs : Array Value) (W : World) (K : Act → World → Prop), M k vs W → K { tmps := upd vs a.tmps, defers := [] } W →
      assign.wpIn (F.inRound l) (n - 1 - 1) P (Exit.then K (fun _ _ _ => False)) { tmps := (ps.zip vs).foldl (fun t (p, v) => t.setIfInBounds p v) a.tmps, defers := [] } W)
    (hbody : ∀ (l k : Nat) (vs : Array Value) (W : World), M k vs W → body.wpIn (F.inRound l) (n - 1 - 1) P (leftBy w.heap.size (I (k + 1)) X W) { tmps := upd vs a.tmps, defers := [] } W)
    (hdone : ∀ (D : Nat) (W : World), D = w.heap.size → E W → W.heap[D]? = some (.deferred (some [])) → Q .normal { a with defers := { target := .collected D, args := #[] } :: a.defers } W)
    (hstop : ∀ (D : Nat) (c : Code) (W : World), D = w.heap.size → X c W → W.heap[D]? = some (.deferred (some [])) → c.wpIn F n P Q { a with defers := { target := .collected D, args := #[] } :: a.defers } W) :
    (Code.rangeFunc g ps assign body).wpIn F n P Q a w :=
  range_lasts hro h1 hg hFg eg I M (fun k vs a' W => a' = { tmps := upd vs a.tmps, defers := [] } ∧ M k vs W) E X hI (fun k vs _ W W' h hb => ⟨h.1, hM k vs W W' h.2 hb⟩) hE hX hps h0 hiter
    (fun l k vs W K hm hK => hassign l k vs W K hm (hK _ _ ⟨rfl, hm⟩ (KeepsFrom.refl _ _))) (fun l k vs a' W h => by rw [h.1]; exact hbody l k vs W h.2) hdone hstop
/-- one value, in a block of its own, appended to a row of the call's own: where the row lies behind it -/
theorem push_in {F : Fence} {n : Nat} {P : Program} (w : World) {ops : Array Oper} {rest : List Oper} {o : Oper} {a : Act} {Q : Exit → Act → World → Prop} (hgd : o.guard = none) (s x : Operand) (t : TypeId)
    (hop : o.op = .call { callee := .builtin .append, args := #[s, x], argTypes := #[t, t] }) (base : Nat) (e : TypeId) (i : TypeInfo) (z : Value) (bytes : Nat) (ht : P.underlying t = some (.slice e)) (hi : P.info? e = some i) (hz : i.zero = some z) (h1 : i.size = 1) (hb : i.bytes = bytes) (hzs : z.cells.size = 1)
    (v : Value) (k : Nat) (xs : List Value) (hs : a.eval s = v) (hown : w.ownsRow base e 1 v k xs) (b : Nat) (u : Value) (hx : a.eval x = .slice (some ⟨b, 0, none⟩) 1 1) (hu : w.heap[b]? = some (.cells #[u] e (0, 0))) (ho : u.oneCell' = true) (hk : k ≤ 1000000) (hby : bytes ≤ 64) (hbase : base ≤ w.heap.size)
    (h : ∀ g cap w', w'.ownsRow base e 1 (.slice (some ⟨g, 0, none⟩) (k + 1) cap) (k + 1) (xs ++ [u]) → w.grownBy w' v.ownBlock → (v.ownBlock = some g ∨ g = w.heap.size) → wpListIn F n P ops Q rest (a.put o.dst (.slice (some ⟨g, 0, none⟩) (k + 1) cap)) w') :
    wpListIn F n P ops Q (o :: rest) a w := by
  have hcell : ∀ (j : Nat) (y : Value), [u][j]? = some y → w.cell? ((⟨b, 0, none⟩ : Addr).add j) = some y := fun j y hy => by
    rw [Addr.add_lit, Nat.zero_add, cell_of_row _ _ _ _ _ _ hu]; simpa using hy
  have hby' : (k + 1) * bytes ≤ (k + 1) * 64 := Nat.mul_le_mul_left _ hby
  obtain ⟨g, cap, w', hr, r1, r2, r3, -⟩ := run_append_lies (P := P) w t o.type base e i z 1 bytes ht hi hz h1 hb hzs (by decide) v k xs hown ⟨b, 0, none⟩ 1 1 [u] rfl hcell (by simpa using ho) (by decide) (by unfold maxLen; omega) (by omega) hbase _ rfl
  refine wpListIn_plain hgd fun K hK => ?_
  have hno : ∀ c, o.op ≠ .defer c := fun c hc => by rw [hop] at hc; cases hc
  refine ⟨by simp [Oper.about, hop, resolve, Target.leads, Sem.run_pure], ?_⟩
  rw [Oper.semAt_plain F _ _ hno]
  simp only [execOp, hop, resolve, invoke, builtin, Sem.run_bind, Sem.run_pure, Result.andThen_ok, List.map_toArray, List.map_cons, List.map_nil, hs, hx, hr]
  exact hK _ _ (h g cap w' r1 r2 r3)
end Go.Proofs.Ytecdgpacofojeaa
namespace Go.Proofs.Ytecdgpacofojeaa
open Go.RowKit Go.Shelf

theorem kf_kept {S : Nat → Prop} {D : Nat} {W W' : World} (h : Kept S W W') (hS : ∀ k, S k → k < D) : KeepsFrom D W W' :=
  ⟨h.size, fun j o hj ho _ => (h.block j (Array.getElem?_eq_some_iff.1 ho).1 (fun q => by have := hS j q; omega)).trans ho⟩
theorem kf_cell {D b : Nat} {W : World} {cs : Array Value} {t : TypeId} {u : Value} {o : Nat} (hb : W.heap[b]? = some (.cells cs t (0, 0))) : KeepsFrom D W (W.setCell ⟨b, o, none⟩ u) :=
  ⟨by simp [World.setCell], fun k obj _ ho hc => (Below.heap_setCell _ _ _ _ (fun e => by
    subst e
    have e2 : some obj = some _ := ho.symm.trans hb
    injection e2 with e2
    subst e2
    cases hc)).trans ho⟩
theorem kf_trans {D : Nat} {a b c : World} (h : KeepsFrom D a b) (k : KeepsFrom D b c) : KeepsFrom D a c := ⟨Nat.le_trans h.1 k.1, fun i o hi ho hc => k.2 i o hi (h.2 i o hi ho hc) hc⟩
theorem one_set {w : World} {b : Nat} {t : TypeId} {v u : Value} (h : w.heap[b]? = some (.cells #[v] t (0, 0))) : (w.setCell ⟨b, 0, none⟩ u).heap[b]? = some (.cells #[u] t (0, 0)) := by rw [heap_setCell_same _ _ _ _ _ _ h]; simp
theorem result_bool {fn : Func} {p : Tmp} (h : fn.results = #[.cell p 4]) (tmps : Array Value) (w : World) (g : Nat) (x : Bool) (hp : tmps[p]?.getD undef = .pointer (some ⟨g, 0, none⟩)) (hg : w.cell? ⟨g, 0, none⟩ = some (.bool x)) :
    (results fn tmps).run Try.prog w = .ok (.bool x) w := by
  simp [results, h, hp, asAddr, loadVar, hg]
theorem below_put {B : Nat} {W : World} {l : Nat} (h : B ≤ l) (o : Obj) : Below B W (W.putObj l o) := ⟨rfl, rfl, rfl, by simp, fun k hk => World.putObj_heap_other (by omega)⟩
end Go.Proofs.Ytecdgpacofojeaa
namespace Go.Proofs.Ytecdgpacofojeaa
open Go.RowKit Go.Shelf

theorem range_any {ι : Type} {F : Fence} {n : Nat} {P : Program} {g : Operand} {ps : Array Tmp} {assign body : Code} {Q : Exit → Act → World → Prop} {a : Act} {w : World}
    (hro : F.round = none) (h1 : 1 ≤ n) {gf : Nat} {lb : Array Value} (hg : a.eval g = .func (.func gf) #[] lb) (hFg : F.fn gf) (eg : ∀ args w, (callFunc gf args).run P w = .ok (.enter gf args) w)
    (I : World → Prop) (M : ι → Array Value → World → Prop) (A : ι → Array Value → Act → World → Prop) (J : ι → World → Prop) (E : World → Prop) (X : Code → World → Prop)
    (hJ : ∀ k W W', J k W → Off (w.heap.size + 1) W W' → J k W') (hA : ∀ k vs a' W W', A k vs a' W → Off (w.heap.size + 1) W W' → A k vs a' W')
    (hE : ∀ W W', E W → Off (w.heap.size + 1) W W' → E W') (hX : ∀ c W W', X c W → Off (w.heap.size + 1) W W' → X c W') (hps : ∀ k vs W, M k vs W → vs.size = ps.size) (h0 : ∀ W, Below w.heap.size w W → W.heap.size = w.heap.size + 2 → I W)
    (hiter : ∀ (l : Nat) (B : World → Prop) (Y : World → Prop), (∀ W W', B W → KeepsFrom w.heap.size W W' → B W') →
      (∀ k vs W, M k vs W → B W → YieldAt F (n - 1 - 1) P l vs W fun e W' => (e = .returned (.bool true) ∧ J k W' ∧ B W') ∨ (e = .returned (.bool false) ∧ Y W')) →
      ∀ W, I W → B W → CallsIn F (n - 1) P gf (#[.func (.yield l) #[] #[]] ++ lb) W fun e W' => (∃ v, e = .returned v) ∧ ((E W' ∧ B W') ∨ Y W'))
    (hassign : ∀ (l : Nat) (k : ι) (vs : Array Value) (W : World) (K : Act → World → Prop), M k vs W → (∀ a' W', A k vs a' W' → KeepsFrom w.heap.size W W' → K a' W') →
      assign.wpIn (F.inRound l) (n - 1 - 1) P (Exit.then K (fun _ _ _ => False)) { tmps := (ps.zip vs).foldl (fun t (p, v) => t.setIfInBounds p v) a.tmps, defers := [] } W)
    (hbody : ∀ (l : Nat) (k : ι) (vs : Array Value) (a' : Act) (W : World), A k vs a' W → body.wpIn (F.inRound l) (n - 1 - 1) P (leftBy w.heap.size (J k) X W) a' W)
    (hdone : ∀ (D : Nat) (W : World), D = w.heap.size → E W → W.heap[D]? = some (.deferred (some [])) → Q .normal { a with defers := { target := .collected D, args := #[] } :: a.defers } W)
    (hstop : ∀ (D : Nat) (c : Code) (W : World), D = w.heap.size → X c W → W.heap[D]? = some (.deferred (some [])) → c.wpIn F n P Q { a with defers := { target := .collected D, args := #[] } :: a.defers } W) :
    (Code.rangeFunc g ps assign body).wpIn F n P Q a w := by
  refine wpIn_rangeFunc fun fn hfn => ?_
  rw [hro]
  let R : Loop := { state := .ready, pending := none, fn := fn, tmps := a.tmps, params := ps, assign := assign, body := body, defers := w.heap.size }
  have b0 : Book R w.heap.size _ := Book.new w R
  have i0 : I ((w.alloc (.deferred (some []))).alloc (.loop R)) := h0 _ (((Below.refl _ w).alloc (Nat.le_refl _) _).alloc (by simp) _) (by simp)
  refine ⟨_, _, _, { target := .fn (.func gf) lb, args := #[.func (.yield (w.heap.size + 1)) #[] #[]] }, (w.alloc (.deferred (some []))).alloc (.loop R), gf, _, _, run_enterLoop_outer fn a.tmps ps assign body, ?_, ?_, ?_, fun _ => h1,
    (hiter (w.heap.size + 1) (Book R w.heap.size) (fun U => ∃ c, X c U ∧ Book { R with state := .done, pending := some c } w.heap.size U) (fun _ _ b k => b.keep k (Nat.le_refl _)) ?_ _ i0 b0).mono ?_⟩
  · show _ = Result.ok _ ((w.alloc (.deferred (some []))).alloc (.loop R))
    simp only [resolve, hg]
    simp [go_sem, R]
  · intro f' hf'
    simp [Target.leads] at hf'
    exact hf' ▸ hFg
  · simp [invoke, go_sem, eg]
  · intro k vs W hm b
    refine ⟨fn, _, assign, body, run_yield (args := vs) b.rec_ (hps k vs W hm), roundIn_of_wpIn hfn (hassign _ k vs W _ hm fun a' V ha kv => ?_)⟩
    have bV := b.keep kv (Nat.le_refl _)
    exact ⟨_, run_beginRound bV.rec_ rfl, wpIn_mono (hbody _ k vs a' _ (hA k vs a' _ _ ha (off_put _ _ _))) ((bV.put _).leave (Nat.le_refl _) (hJ k) hX)⟩
  · rintro _ V ⟨⟨v, rfl⟩, ⟨e, b⟩ | ⟨c, x, b⟩⟩
    · exact ⟨none, _, run_endLoop b.rec_ (fun h => by cases h), hdone _ _ rfl (hE _ _ e (off_put _ _ _)) (b.put _).dfr⟩
    · exact ⟨some c, _, run_endLoop b.rec_ (fun h => by cases h), hstop _ c _ rfl (hX _ _ _ x (off_put _ _ _)) (b.put _).dfr⟩

/-- the same, where a round's variable lies in a block of its own, whose number c is put into slots -/
theorem range_boxes {ι : Type} {F : Fence} {n : Nat} {P : Program} {g : Operand} {ps : Array Tmp} {assign body : Code} {Q : Exit → Act → World → Prop} {a : Act} {w : World}
    (hro : F.round = none) (h1 : 1 ≤ n) {gf : Nat} {lb : Array Value} (hg : a.eval g = .func (.func gf) #[] lb) (hFg : F.fn gf) (eg : ∀ args w, (callFunc gf args).run P w = .ok (.enter gf args) w)
    (I : World → Prop) (M : ι → Array Value → World → Prop) (A : ι → Array Value → Nat → World → Prop) (J : ι → World → Prop) (E : World → Prop) (X : Code → World → Prop) (upd : Nat → Array Value → Array Value → Array Value)
    (hJ : ∀ k W W', J k W → Off (w.heap.size + 1) W W' → J k W') (hA : ∀ k vs c W W', A k vs c W → Off (w.heap.size + 1) W W' → A k vs c W')
    (hE : ∀ W W', E W → Off (w.heap.size + 1) W W' → E W') (hX : ∀ c W W', X c W → Off (w.heap.size + 1) W W' → X c W') (hps : ∀ k vs W, M k vs W → vs.size = ps.size) (h0 : ∀ W, Below w.heap.size w W → W.heap.size = w.heap.size + 2 → I W)
    (hiter : ∀ (l : Nat) (B : World → Prop) (Y : World → Prop), (∀ W W', B W → KeepsFrom w.heap.size W W' → B W') →
      (∀ k vs W, M k vs W → B W → YieldAt F (n - 1 - 1) P l vs W fun e W' => (e = .returned (.bool true) ∧ J k W' ∧ B W') ∨ (e = .returned (.bool false) ∧ Y W')) →
      ∀ W, I W → B W → CallsIn F (n - 1) P gf (#[.func (.yield l) #[] #[]] ++ lb) W fun e W' => (∃ v, e = .returned v) ∧ ((E W' ∧ B W') ∨ Y W'))
    (hassign : ∀ (l : Nat) (k : ι) (vs : Array Value) (W : World) (K : Act → World → Prop), M k vs W → (∀ c W', A k vs c W' → KeepsFrom w.heap.size W W' → K { tmps := upd c vs a.tmps, defers := [] } W') →
      assign.wpIn (F.inRound l) (n - 1 - 1) P (Exit.then K (fun _ _ _ => False)) { tmps := (ps.zip vs).foldl (fun t (p, v) => t.setIfInBounds p v) a.tmps, defers := [] } W)
    (hbody : ∀ (l : Nat) (k : ι) (vs : Array Value) (c : Nat) (W : World), A k vs c W → body.wpIn (F.inRound l) (n - 1 - 1) P (leftBy w.heap.size (J k) X W) { tmps := upd c vs a.tmps, defers := [] } W)
    (hdone : ∀ (D : Nat) (W : World), D = w.heap.size → E W → W.heap[D]? = some (.deferred (some [])) → Q .normal { a with defers := { target := .collected D, args := #[] } :: a.defers } W)
    (hstop : ∀ (D : Nat) (c : Code) (W : World), D = w.heap.size → X c W → W.heap[D]? = some (.deferred (some [])) → c.wpIn F n P Q { a with defers := { target := .collected D, args := #[] } :: a.defers } W) :
    (Code.rangeFunc g ps assign body).wpIn F n P Q a w :=
  range_any hro h1 hg hFg eg I M (fun k vs a' W => ∃ c, a' = { tmps := upd c vs a.tmps, defers := [] } ∧ A k vs c W) J E X hJ (fun k vs a' W W' h ho => by obtain ⟨c, h1, h2⟩ := h; exact ⟨c, h1, hA k vs c W W' h2 ho⟩) hE hX hps h0 hiter
    (fun l k vs W K hm hK => hassign l k vs W K hm fun c W' ha kv => hK _ _ ⟨c, rfl, ha⟩ kv) (fun l k vs a' W h => by obtain ⟨c, h1, h2⟩ := h; rw [h1]; exact hbody l k vs c W h2) hdone hstop
/-- one struct of two cells, in a block of its own, appended to a row of the call's own, in a fence: where the row lies behind it -/
theorem push_in2 {F : Fence} {n : Nat} {P : Program} (w : World) {ops : Array Oper} {rest : List Oper} {o : Oper} {a : Act} {Q : Exit → Act → World → Prop} (hgd : o.guard = none) (s x : Operand) (t : TypeId)
    (hop : o.op = .call { callee := .builtin .append, args := #[s, x], argTypes := #[t, t] }) (base : Nat) (e : TypeId) (i : TypeInfo) (z : Value) (bytes : Nat) (ht : P.underlying t = some (.slice e)) (hi : P.info? e = some i) (hz : i.zero = some z) (h1 : i.size = 2) (hb : i.bytes = bytes) (hzs : z.cells.size = 2)
    (v : Value) (k : Nat) (xs : List Value) (hs : a.eval s = v) (hown : w.ownsRow base e 2 v k xs) (b : Nat) (u1 u2 : Value) (hx : a.eval x = .slice (some ⟨b, 0, none⟩) 1 1) (hu : w.heap[b]? = some (.cells #[u1, u2] e (0, 0))) (ho1 : u1.oneCell' = true) (ho2 : u2.oneCell' = true) (hk : k ≤ 1000000) (hby : bytes ≤ 64) (hbase : base ≤ w.heap.size)
    (h : ∀ g cap w', w'.ownsRow base e 2 (.slice (some ⟨g, 0, none⟩) (k + 1) cap) (k + 1) (xs ++ [u1, u2]) → w.grownBy w' v.ownBlock → (v.ownBlock = some g ∨ g = w.heap.size) → wpListIn F n P ops Q rest (a.put o.dst (.slice (some ⟨g, 0, none⟩) (k + 1) cap)) w') :
    wpListIn F n P ops Q (o :: rest) a w := by
  have hby' : (k + 1) * bytes ≤ (k + 1) * 64 := Nat.mul_le_mul_left _ hby
  obtain ⟨g, cap, w', hr, r1, r2, r3, -⟩ := run_append_lies (P := P) w t o.type base e i z 2 bytes ht hi hz h1 hb hzs (by decide) v k xs hown ⟨b, 0, none⟩ 1 1 [u1, u2] rfl (World.news_of_block hu) (by intro y hy; simp at hy; rcases hy with rfl | rfl <;> assumption) (by decide) (by unfold maxLen; omega) (by omega) hbase _ rfl
  refine wpListIn_plain hgd fun K hK => ?_
  have hno : ∀ c, o.op ≠ .defer c := fun c hc => by rw [hop] at hc; cases hc
  refine ⟨by simp [Oper.about, hop, resolve, Target.leads, Sem.run_pure], ?_⟩
  rw [Oper.semAt_plain F _ _ hno]
  simp only [execOp, hop, resolve, invoke, builtin, Sem.run_bind, Sem.run_pure, Result.andThen_ok, List.map_toArray, List.map_cons, List.map_nil, hs, hx, hr]
  exact hK _ _ (h g cap w' r1 r2 r3)
end Go.Proofs.Ytecdgpacofojeaa
namespace Go.Proofs.Ytecdgpacofojeaa
open Go.RowKit Go.Shelf

/-- what stood from block D on is as it was -/
structure Later (D : Nat) (V V' : World) : Prop where
  size : V.heap.size ≤ V'.heap.size
  block : ∀ q, D ≤ q → q < V.heap.size → V'.heap[q]? = V.heap[q]?
theorem Later.refl (D : Nat) (V : World) : Later D V V := ⟨Nat.le_refl _, fun _ _ _ => rfl⟩
theorem Later.trans {D : Nat} {V V1 V2 : World} (h : Later D V V1) (h' : Later D V1 V2) : Later D V V2 := ⟨Nat.le_trans h.size h'.size, fun q h1 h2 => (h'.block q h1 (Nat.lt_of_lt_of_le h2 h.size)).trans (h.block q h1 h2)⟩
theorem Later.below {D : Nat} {V V' : World} (h : Below V.heap.size V V') : Later D V V' := ⟨h.size, fun q _ h2 => h.block q h2⟩
theorem Later.cell {D q o : Nat} {V : World} {u : Value} (hq : q < D) : Later D V (V.setCell ⟨q, o, none⟩ u) := ⟨by simp [World.setCell], fun p h1 _ => Below.heap_setCell _ _ _ _ (show p ≠ q by omega)⟩
theorem Later.off {D : Nat} {V V' : World} (h : Off D V V') : Later (D + 1) V V' := ⟨by rw [h.size]; exact Nat.le_refl _, fun q h1 _ => h.block q (by omega)⟩
theorem range_tells {F : Fence} {n : Nat} {P : Program} {g : Operand} {ps : Array Tmp} {assign body : Code} {Q : Exit → Act → World → Prop} {a : Act} {w : World}
    (hro : F.round = none) (h1 : 1 ≤ n) {gf : Nat} {lb : Array Value} (hg : a.eval g = .func (.func gf) #[] lb) (hFg : F.fn gf) (eg : ∀ args w, (callFunc gf args).run P w = .ok (.enter gf args) w)
    (I : Nat → World → Prop) (M : Nat → Array Value → World → Prop) (E : World → Prop) (X : Code → World → Prop) (upd : Array Value → Array Value → Array Value)
    (hI : ∀ k W W', I k W → Off (w.heap.size + 1) W W' → I k W') (hM : ∀ k vs W W', M k vs W → Off (w.heap.size + 1) W W' → M k vs W')
    (hE : ∀ W W', E W → Off (w.heap.size + 1) W W' → E W') (hX : ∀ c W W', X c W → Off (w.heap.size + 1) W W' → X c W') (hps : ∀ k vs W, M k vs W → vs.size = ps.size) (h0 : ∀ W, Below w.heap.size w W → W.heap.size = w.heap.size + 2 → I 0 W)
    (hiter : ∀ (l : Nat) (B : World → Prop) (Y : World → Prop), (∀ W W', B W → KeepsFrom w.heap.size W W' → B W') →
      (∀ k vs W (S : World → Prop), (∀ V V', S V → Later (w.heap.size + 2) V V' → S V') → M k vs W → S W → B W → YieldAt F (n - 1 - 1) P l vs W fun e W' => (e = .returned (.bool true) ∧ I (k + 1) W' ∧ S W' ∧ B W') ∨ (e = .returned (.bool false) ∧ Y W')) →
      ∀ W, I 0 W → B W → CallsIn F (n - 1) P gf (#[.func (.yield l) #[] #[]] ++ lb) W fun e W' => (∃ v, e = .returned v) ∧ ((E W' ∧ B W') ∨ Y W'))
    (hassign : ∀ (l k : Nat) (vs : Array Value) (W : World) (K : Act → World → Prop), M k vs W → K { tmps := upd vs a.tmps, defers := [] } W →
      assign.wpIn (F.inRound l) (n - 1 - 1) P (Exit.then K (fun _ _ _ => False)) { tmps := (ps.zip vs).foldl (fun t (p, v) => t.setIfInBounds p v) a.tmps, defers := [] } W)
    (hbody : ∀ (l k : Nat) (vs : Array Value) (W : World), M k vs W → body.wpIn (F.inRound l) (n - 1 - 1) P (leftBy w.heap.size (fun W' => I (k + 1) W' ∧ Later (w.heap.size + 2) W W') X W) { tmps := upd vs a.tmps, defers := [] } W)
    (hdone : ∀ (D : Nat) (W : World), D = w.heap.size → E W → W.heap[D]? = some (.deferred (some [])) → Q .normal { a with defers := { target := .collected D, args := #[] } :: a.defers } W)
    (hstop : ∀ (D : Nat) (c : Code) (W : World), D = w.heap.size → X c W → W.heap[D]? = some (.deferred (some [])) → c.wpIn F n P Q { a with defers := { target := .collected D, args := #[] } :: a.defers } W) :
    (Code.rangeFunc g ps assign body).wpIn F n P Q a w := by
  refine range_any (ι := Nat × (World → Prop)) hro h1 hg hFg eg (I 0)
    (fun i vs W => M i.1 vs W ∧ i.2 W ∧ ∀ V V', i.2 V → Later (w.heap.size + 2) V V' → i.2 V')
    (fun i vs a' W => a' = { tmps := upd vs a.tmps, defers := [] } ∧ M i.1 vs W ∧ i.2 W ∧ ∀ V V', i.2 V → Later (w.heap.size + 2) V V' → i.2 V')
    (fun i W => I (i.1 + 1) W ∧ i.2 W ∧ ∀ V V', i.2 V → Later (w.heap.size + 2) V V' → i.2 V') E X
    (fun i W W' h ho => ⟨hI _ _ _ h.1 ho, h.2.2 _ _ h.2.1 (Later.off ho), h.2.2⟩)
    (fun i vs a' W W' h ho => ⟨h.1, hM _ _ _ _ h.2.1 ho, h.2.2.2 _ _ h.2.2.1 (Later.off ho), h.2.2.2⟩)
    hE hX (fun i vs W h => hps _ _ _ h.1) h0 ?_ ?_ ?_ hdone hstop
  · intro l B Y hB hY W hW hBW
    refine hiter l B Y hB (fun k vs W S hS hm hs hb => ?_) W hW hBW
    obtain ⟨fn, tmps, asg, bdy, hy, hR⟩ := hY (k, S) vs W ⟨hm, hs, hS⟩ hb
    refine ⟨fn, tmps, asg, bdy, hy, hR.mono ?_⟩
    rintro e W' (⟨he, ⟨h1, h2, -⟩, h3⟩ | h)
    · exact .inl ⟨he, h1, h2, h3⟩
    · exact .inr h
  · intro l i vs W K hm hK
    exact hassign l i.1 vs W _ hm.1 (hK _ _ ⟨rfl, hm⟩ (KeepsFrom.refl _ _))
  · intro l i vs a' W h
    rw [h.1]
    refine wpIn_mono (hbody l i.1 vs W h.2.1) ?_
    intro e a'' V hv
    cases e with
    | normal => exact ⟨hv.1, hv.2.1, h.2.2.2 _ _ h.2.2.1 hv.2.2, h.2.2.2⟩
    | ret => exact hv
    | exit id => exact hv
    | «goto» t => exact hv
    | panic c => exact hv
    | outgrown => exact hv
end Go.Proofs.Ytecdgpacofojeaa
