/-
  A region that draws its order, only reads and defers nothing, in a round's body: one walk in the order of the text serves. Nothing of the program stands here.
-/
import Derived.Sort.QuietIn
import Derived.RangeFuncCalls
namespace Go.Proofs.Ytefdohjcgolhjaa

/-- none defers -/
def calm (ops : List Oper) : Bool := ops.all fun o => match o.op with | .defer _ => false | _ => true
theorem calm_at {ops : List Oper} (h : calm ops = true) {i : Nat} {o : Oper} (ho : ops[i]? = some o) : ∀ c, o.op ≠ .defer c := by
  intro c hc
  have := List.all_eq_true.1 h o (List.mem_of_getElem? ho)
  rw [hc] at this
  cases this
theorem upon_round {n : Nat} {P : Program} {o : Oper} {a : Act} {K K' : Act → World → Prop} {Q : Exit → Act → World → Prop} (l : Nat) (hK : ∀ a w, K a w → K' a w) (r : Result Next) (h : o.uponIn Fence.wide n P a K Q r) : o.uponIn (Fence.wide.inRound l) n P a K' Q r := by
  cases r with
  | ok x w =>
    cases x with
    | value v => exact hK _ _ h
    | skip => exact hK _ _ h
    | defer d => exact hK _ _ h
    | enter f args => exact ⟨h.1, CallsIn.inRound l (h.2.mono fun e w' q => by cases e <;> first | exact hK _ _ q | exact q)⟩
    | row r args => exact ⟨h.1, (show RowsIn Fence.wide _ _ _ _ _ _ from h.2.mono fun v w' q => hK _ _ q)⟩
    | round l' f t s b => exact ⟨h.1, (show RoundIn Fence.wide _ _ _ _ _ _ _ _ _ from h.2.mono fun e w' q => by cases e <;> first | exact hK _ _ q | exact q)⟩
    | _ => exact h
  | halt x w => cases x <;> exact h
theorem oper_round {n : Nat} {P : Program} {o : Oper} {a : Act} {w : World} {K K' : Act → World → Prop} {Q : Exit → Act → World → Prop} (l : Nat) (hd : ∀ c, o.op ≠ .defer c) (hK : ∀ a w, K a w → K' a w) (h : o.wpIn Fence.wide n P a w K Q) : o.wpIn (Fence.wide.inRound l) n P a w K' Q := by
  refine ⟨h.1, ?_⟩
  have h2 := upon_round l hK _ h.2
  rw [show (Fence.wide.inRound l).round = some l from rfl, Oper.semAt_eq _ _ _ hd]
  rwa [show Fence.wide.round = none from rfl, Oper.semAt_eq _ _ _ hd] at h2
theorem any_round {n : Nat} {P : Program} {md : Region.Mode} {ops : List Oper} {Q : Exit → Act → World → Prop} (l : Nat) (hd : calm ops = true) : ∀ (fuel : Nat) (listed : Array Bool) (a : Act) (w : World), wpAnyIn Fence.wide n P md ops.toArray Q fuel listed a w → wpAnyIn (Fence.wide.inRound l) n P md ops.toArray Q fuel listed a w := by
  intro fuel
  induction fuel with
  | zero => intro listed a w h; exact h
  | succ fuel ih =>
    intro listed a w h
    refine ⟨h.1, fun i hi => ?_⟩
    have hq := h.2 i hi
    unfold wpOpIn at hq ⊢
    cases ho : ops.toArray[i]? with
    | none => rw [ho] at hq; exact ih _ _ _ hq
    | some o =>
      rw [ho] at hq
      simp only at hq ⊢
      split
      · rename_i hw
        rw [if_pos hw] at hq
        exact oper_round l (calm_at hd (by simpa using ho)) (fun a w => ih _ a w) hq
      · rename_i hw
        rw [if_neg hw] at hq
        exact ⟨hq.1, ih _ _ _ hq.2⟩
theorem quiet_round {id l n : Nat} {P : Program} {Q : Exit → Act → World → Prop} {a : Act} {w : World} {ops : List Oper} (hd : calm ops = true) (hm : P.follows .mixedOrders = true) (hB : Region.lexB .any ops.toArray = true)
    (h : wpQuietIn Fence.wide n P ops.toArray (fun w' => ∃ n, w' = w.drewN n) (fun a' => ∀ w', (∃ n, w' = w.drewN n) → Q .normal a' w') ops a) : (Code.region id ops.toArray true).wpIn (Fence.wide.inRound l) n P Q a w := by
  simp only [Region.lexB, Bool.and_eq_true] at hB
  refine wpIn_region_any hm (any_round l hd _ _ _ _ (wpAnyIn_of_quiet (C := fun w' => ∃ n, w' = w.drewN n) (Q := fun a' => ∀ w', (∃ n, w' = w.drewN n) → Q .normal a' w') rfl (fun _ w' hw' h => h w' hw') _ _ _ _ ⟨1, rfl⟩ ?_))
  have := wpAnyQIn_lex (F := Fence.wide) (n := n) (P := P) (C := fun w' => ∃ n, w' = w.drewN n) (md := .any) hB.1 ops.toArray.toList 0 (Array.replicate ops.toArray.size false) a (by simp) (by simpa using hB.2) (by simpa using h)
  simpa using this
end Go.Proofs.Ytefdohjcgolhjaa
