/-
  A range over a function, whatever its iterator keeps for itself: what stands at a yield may hang on anything (ι), and the same is told behind it. Nothing of the program stands here.
-/
import Derived.Test.YtdpoieemadblnaaMRange
namespace Go.Proofs.Ytdpoieemadblnaa
open Go.RowKit Go.Shelf

theorem range_any {ι : Type} {F : Fence} {n : Nat} {P : Program} {g : Operand} {ps : Array Tmp} {assign body : Code} {Q : Exit → Act → World → Prop} {a : Act} {w : World}
    (hro : F.round = none) (h1 : 1 ≤ n) {gf : Nat} {lb : Array Value} (hg : a.eval g = .func (.func gf) #[] lb) (hFg : F.fn gf) (eg : ∀ args w, (callFunc gf args).run P w = .ok (.enter gf args) w)
    (I : World → Prop) (M : ι → Array Value → World → Prop) (A : ι → Array Value → Act → World → Prop) (J : ι → World → Prop) (E : World → Prop) (X : Code → World → Prop)
    (hJ : ∀ k W W', J k W → Off (w.heap.size + 1) W W' → J k W') (hA : ∀ k vs a' W W', A k vs a' W → Off (w.heap.size + 1) W W' → A k vs a' W')
    (hE : ∀ W W', E W → Off (w.heap.size + 1) W W' → E W') (hX : ∀ c W W', X c W → Off (w.heap.size + 1) W W' → X c W') (hps : ∀ k vs W, M k vs W → vs.size = ps.size) (h0 : ∀ W, Below w.heap.size w W → W.heap.size = w.heap.size + 2 → I W)
    (hiter : ∀ (l : Nat) (B : World → Prop) (Y : World → Prop), (∀ W W', B W → KeepsFrom w.heap.size W W' → B W') →
      (∀ k vs W, M k vs W → B W → YieldAt F (n - 1 - 1) P l vs W fun e W' => (e = .returned (.bool true) ∧ J k W' ∧ B W') ∨ (e = .returned (.bool false) ∧ Y W')) →
      ∀ W, I W → B W → CallsIn F (n - 1) P gf (#[.func (.yield l) #[] #[]] ++ lb) W fun e W' => (∃ v, e = .returned v) ∧ ((E W' ∧ B W') ∨ Y W'))
    (hassign : ∀ (l : Nat) (k : ι) (vs : Array Value) (W : World) (K : Act → World → Prop), M k vs W → (∀ a' W', A k vs a' W' → KeepsFrom w.heap.size W W' → K a' W') →
      assign.wpIn (F.inRound l) (n - 1 - 1) P (Exit.then K (fun _ _ _ => False)) { tmps := (ps.zip vs).foldl (fun t (p, v) => t.setIfInBounds p v) a.tmps, defers := [] } W)
    (hbody : ∀ (l : Nat) (k : ι) (vs : Array Value) (a' : Act) (W : World), A k vs a' W → body.wpIn (F.inRound l) (n - 1 - 1) P (leftBy w.heap.size (J k) X W) a' W)
    (hdone : ∀ (D : Nat) (W : World), D = w.heap.size → E W → W.heap[D]? = some (.deferred (some [])) → Q .normal { a with defers := { target := .collected D, args := #[] } :: a.defers } W)
    (hstop : ∀ (D : Nat) (c : Code) (W : World), D = w.heap.size → X c W → W.heap[D]? = some (.deferred (some [])) → c.wpIn F n P Q { a with defers := { target := .collected D, args := #[] } :: a.defers } W) :
    (Code.rangeFunc g ps assign body).wpIn F n P Q a w := by
  refine wpIn_rangeFunc fun fn hfn => ?_
  rw [hro]
  let R : Loop := { state := .ready, pending := none, fn := fn, tmps := a.tmps, params := ps, assign := assign, body := body, defers := w.heap.size }
  have b0 : Book R w.heap.size _ := Book.new w R
  have i0 : I ((w.alloc (.deferred (some []))).alloc (.loop R)) := h0 _ (((Below.refl _ w).alloc (Nat.le_refl _) _).alloc (by simp) _) (by simp)
  refine ⟨_, _, _, { target := .fn (.func gf) lb, args := #[.func (.yield (w.heap.size + 1)) #[] #[]] }, (w.alloc (.deferred (some []))).alloc (.loop R), gf, _, _, run_enterLoop_outer fn a.tmps ps assign body, ?_, ?_, ?_, fun _ => h1,
    (hiter (w.heap.size + 1) (Book R w.heap.size) (fun U => ∃ c, X c U ∧ Book { R with state := .done, pending := some c } w.heap.size U) (fun _ _ b k => b.keep k (Nat.le_refl _)) ?_ _ i0 b0).mono ?_⟩
  · show _ = Result.ok _ ((w.alloc (.deferred (some []))).alloc (.loop R))
    simp only [resolve, hg]
    simp [go_sem, R]
  · intro f' hf'
    simp [Target.leads] at hf'
    exact hf' ▸ hFg
  · simp [invoke, go_sem, eg]
  · intro k vs W hm b
    refine ⟨fn, _, assign, body, run_yield (args := vs) b.rec_ (hps k vs W hm), roundIn_of_wpIn hfn (hassign _ k vs W _ hm fun a' V ha kv => ?_)⟩
    have bV := b.keep kv (Nat.le_refl _)
    exact ⟨_, run_beginRound bV.rec_ rfl, wpIn_mono (hbody _ k vs a' _ (hA k vs a' _ _ ha (off_put _ _ _))) ((bV.put _).leave (Nat.le_refl _) (hJ k) hX)⟩
  · rintro _ V ⟨⟨v, rfl⟩, ⟨e, b⟩ | ⟨c, x, b⟩⟩
    · exact ⟨none, _, run_endLoop b.rec_ (fun h => by cases h), hdone _ _ rfl (hE _ _ e (off_put _ _ _)) (b.put _).dfr⟩
    · exact ⟨some c, _, run_endLoop b.rec_ (fun h => by cases h), hstop _ c _ rfl (hX _ _ _ x (off_put _ _ _)) (b.put _).dfr⟩

/-- the same, where a round's variable lies in a block of its own, whose number c is put into slots -/
theorem range_boxes {ι : Type} {F : Fence} {n : Nat} {P : Program} {g : Operand} {ps : Array Tmp} {assign body : Code} {Q : Exit → Act → World → Prop} {a : Act} {w : World}
    (hro : F.round = none) (h1 : 1 ≤ n) {gf : Nat} {lb : Array Value} (hg : a.eval g = .func (.func gf) #[] lb) (hFg : F.fn gf) (eg : ∀ args w, (callFunc gf args).run P w = .ok (.enter gf args) w)
    (I : World → Prop) (M : ι → Array Value → World → Prop) (A : ι → Array Value → Nat → World → Prop) (J : ι → World → Prop) (E : World → Prop) (X : Code → World → Prop) (upd : Nat → Array Value → Array Value → Array Value)
    (hJ : ∀ k W W', J k W → Off (w.heap.size + 1) W W' → J k W') (hA : ∀ k vs c W W', A k vs c W → Off (w.heap.size + 1) W W' → A k vs c W')
    (hE : ∀ W W', E W → Off (w.heap.size + 1) W W' → E W') (hX : ∀ c W W', X c W → Off (w.heap.size + 1) W W' → X c W') (hps : ∀ k vs W, M k vs W → vs.size = ps.size) (h0 : ∀ W, Below w.heap.size w W → W.heap.size = w.heap.size + 2 → I W)
    (hiter : ∀ (l : Nat) (B : World → Prop) (Y : World → Prop), (∀ W W', B W → KeepsFrom w.heap.size W W' → B W') →
      (∀ k vs W, M k vs W → B W → YieldAt F (n - 1 - 1) P l vs W fun e W' => (e = .returned (.bool true) ∧ J k W' ∧ B W') ∨ (e = .returned (.bool false) ∧ Y W')) →
      ∀ W, I W → B W → CallsIn F (n - 1) P gf (#[.func (.yield l) #[] #[]] ++ lb) W fun e W' => (∃ v, e = .returned v) ∧ ((E W' ∧ B W') ∨ Y W'))
    (hassign : ∀ (l : Nat) (k : ι) (vs : Array Value) (W : World) (K : Act → World → Prop), M k vs W → (∀ c W', A k vs c W' → KeepsFrom w.heap.size W W' → K { tmps := upd c vs a.tmps, defers := [] } W') →
      assign.wpIn (F.inRound l) (n - 1 - 1) P (Exit.then K (fun _ _ _ => False)) { tmps := (ps.zip vs).foldl (fun t (p, v) => t.setIfInBounds p v) a.tmps, defers := [] } W)
    (hbody : ∀ (l : Nat) (k : ι) (vs : Array Value) (c : Nat) (W : World), A k vs c W → body.wpIn (F.inRound l) (n - 1 - 1) P (leftBy w.heap.size (J k) X W) { tmps := upd c vs a.tmps, defers := [] } W)
    (hdone : ∀ (D : Nat) (W : World), D = w.heap.size → E W → W.heap[D]? = some (.deferred (some [])) → Q .normal { a with defers := { target := .collected D, args := #[] } :: a.defers } W)
    (hstop : ∀ (D : Nat) (c : Code) (W : World), D = w.heap.size → X c W → W.heap[D]? = some (.deferred (some [])) → c.wpIn F n P Q { a with defers := { target := .collected D, args := #[] } :: a.defers } W) :
    (Code.rangeFunc g ps assign body).wpIn F n P Q a w :=
  range_any hro h1 hg hFg eg I M (fun k vs a' W => ∃ c, a' = { tmps := upd c vs a.tmps, defers := [] } ∧ A k vs c W) J E X hJ (fun k vs a' W W' h ho => by obtain ⟨c, h1, h2⟩ := h; exact ⟨c, h1, hA k vs c W W' h2 ho⟩) hE hX hps h0 hiter
    (fun l k vs W K hm hK => hassign l k vs W K hm fun c W' ha kv => hK _ _ ⟨c, rfl, ha⟩ kv) (fun l k vs a' W h => by obtain ⟨c, h1, h2⟩ := h; rw [h1]; exact hbody l k vs c W h2) hdone hstop
/-- one struct of two cells, in a block of its own, appended to a row of the call's own, in a fence: where the row lies behind it -/
theorem push_in2 {F : Fence} {n : Nat} {P : Program} (w : World) {ops : Array Oper} {rest : List Oper} {o : Oper} {a : Act} {Q : Exit → Act → World → Prop} (hgd : o.guard = none) (s x : Operand) (t : TypeId)
    (hop : o.op = .call { callee := .builtin .append, args := #[s, x], argTypes := #[t, t] }) (base : Nat) (e : TypeId) (i : TypeInfo) (z : Value) (bytes : Nat) (ht : P.underlying t = some (.slice e)) (hi : P.info? e = some i) (hz : i.zero = some z) (h1 : i.size = 2) (hb : i.bytes = bytes) (hzs : z.cells.size = 2)
    (v : Value) (k : Nat) (xs : List Value) (hs : a.eval s = v) (hown : w.ownsRow base e 2 v k xs) (b : Nat) (u1 u2 : Value) (hx : a.eval x = .slice (some ⟨b, 0, none⟩) 1 1) (hu : w.heap[b]? = some (.cells #[u1, u2] e (0, 0))) (ho1 : u1.oneCell' = true) (ho2 : u2.oneCell' = true) (hk : k ≤ 1000000) (hby : bytes ≤ 64) (hbase : base ≤ w.heap.size)
    (h : ∀ g cap w', w'.ownsRow base e 2 (.slice (some ⟨g, 0, none⟩) (k + 1) cap) (k + 1) (xs ++ [u1, u2]) → w.grownBy w' v.ownBlock → (v.ownBlock = some g ∨ g = w.heap.size) → wpListIn F n P ops Q rest (a.put o.dst (.slice (some ⟨g, 0, none⟩) (k + 1) cap)) w') :
    wpListIn F n P ops Q (o :: rest) a w := by
  have hby' : (k + 1) * bytes ≤ (k + 1) * 64 := Nat.mul_le_mul_left _ hby
  obtain ⟨g, cap, w', hr, r1, r2, r3, -⟩ := run_append_lies (P := P) w t o.type base e i z 2 bytes ht hi hz h1 hb hzs (by decide) v k xs hown ⟨b, 0, none⟩ 1 1 [u1, u2] rfl (World.news_of_block hu) (by intro y hy; simp at hy; rcases hy with rfl | rfl <;> assumption) (by decide) (by unfold maxLen; omega) (by omega) hbase _ rfl
  refine wpListIn_plain hgd fun K hK => ?_
  have hno : ∀ c, o.op ≠ .defer c := fun c hc => by rw [hop] at hc; cases hc
  refine ⟨by simp [Oper.about, hop, resolve, Target.leads, Sem.run_pure], ?_⟩
  rw [Oper.semAt_plain F _ _ hno]
  simp only [execOp, hop, resolve, invoke, builtin, Sem.run_bind, Sem.run_pure, Result.andThen_ok, List.map_toArray, List.map_cons, List.map_nil, hs, hx, hr]
  exact hK _ _ (h g cap w' r1 r2 r3)
end Go.Proofs.Ytdpoieemadblnaa
