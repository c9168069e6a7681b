/-
  Own words for ranges over a function that pops a heap: what is held within some blocks. Nothing of the program stands here.
-/
import Derived.Test.YtdpoieemadblnaaKVec
import Derived.Test.YtdpoieemadblnaaHRng
import Derived.Laws.MakeOwn
namespace Go.Proofs.Ytdpoieemadblnaa
open Go.RowKit Go.Shelf

/-- a state that lies within the blocks of S -/
structure Held (P : (Nat → Prop) → World → Prop) : Prop where
  lt : ∀ S W, P S W → ∀ k, S k → k < W.heap.size
  keep : ∀ S W W', P S W → Kept (fun k => ¬ S k) W W' → P S W'
theorem kf_kept {S : Nat → Prop} {D : Nat} {W W' : World} (h : Kept S W W') (hS : ∀ k, S k → k < D) : KeepsFrom D W W' :=
  ⟨h.size, fun k _ hk ho _ => (h.block k (Array.getElem?_eq_some_iff.1 ho).1 (fun q => by have := hS k q; omega)).trans ho⟩
theorem kf_cell {D b : Nat} {W : World} {cs : Array Value} {t : TypeId} {u : Value} {o : Nat} (hb : W.heap[b]? = some (.cells cs t (0, 0))) : KeepsFrom D W (W.setCell ⟨b, o, none⟩ u) :=
  ⟨by simp [World.setCell], fun k obj _ ho hc => (Below.heap_setCell _ _ _ _ (fun e => by
    subst e
    have e2 : some obj = some _ := ho.symm.trans hb
    injection e2 with e2
    subst e2
    cases hc)).trans ho⟩
theorem kf_trans {D : Nat} {a b c : World} (h : KeepsFrom D a b) (k : KeepsFrom D b c) : KeepsFrom D a c := ⟨Nat.le_trans h.1 k.1, fun i o hi ho hc => k.2 i o hi (h.2 i o hi ho hc) hc⟩
/-- how many a heap holds, as its cell tells -/
def lenC (B : Nat) (W : World) : Nat := match W.cell? ⟨B, 1, none⟩ with | some (.slice _ n _) => n | _ => 0
def okM : Value → Nat → Nat
  | .bool true, n => n + 1
  | _, _ => 0
theorem own_keep {W W' : World} {B : Nat} {e : TypeId} {sz : Nat} {v : Value} {n : Nat} {xs : List Value} (h : W.ownsRow B e sz v n xs) (hk : ∀ g, v.ownBlock = some g → W'.heap[g]? = W.heap[g]?) : W'.ownsRow B e sz v n xs := by
  refine ⟨h.1, ?_⟩
  rcases h.2 with h0 | ⟨g, cap, cur, hv, hg, hb, hr⟩
  · exact .inl h0
  · exact .inr ⟨g, cap, cur, hv, hg, (hk g (by rw [hv]; rfl)).trans hb, hr⟩
theorem below_put {B : Nat} {W : World} {l : Nat} (h : B ≤ l) (o : Obj) : Below B W (W.putObj l o) := ⟨rfl, rfl, rfl, by simp, fun k hk => World.putObj_heap_other (by omega)⟩
theorem made_zeros (n : Nat) : madeCells (Value.agg #[.int .i64 0, .int .i64 0]).cells (n * 2) = (cel (List.replicate n (0, 0))).toArray := by
  have hall : ∀ (n j : Nat), j < n * 2 → (cel (List.replicate n (0, 0)))[j]? = some (.int .i64 0) := by
    intro n
    induction n with
    | zero => intro j hj; omega
    | succ n ih =>
      intro j hj
      rw [List.replicate_succ, cel_cons]
      match j with
      | 0 => rfl
      | 1 => rfl
      | j + 2 => simpa using ih j (by omega)
  refine Array.ext_getElem? fun j => ?_
  rcases Nat.lt_or_ge j (n * 2) with hj | hj
  · have h2 : j % 2 = 0 ∨ j % 2 = 1 := by omega
    have e2 : (cel (List.replicate n (0, 0))).toArray[j]? = some (.int .i64 0) := by simpa using hall n j hj
    rw [e2]
    unfold madeCells
    rcases h2 with e | e <;> simp [hj, Value.cells, e]
  · rw [Array.getElem?_eq_none (by rw [size_madeCells]; exact hj), Array.getElem?_eq_none (by simp [cel_length]; omega)]
/-- one struct of three cells, in a block of its own, appended to a row, in a fence: where the row lies behind it -/
theorem push_in3 {F : Fence} {n : Nat} {P : Program} (w : World) {ops : Array Oper} {rest : List Oper} {o : Oper} {a : Act} {Q : Exit → Act → World → Prop} (hgd : o.guard = none) (s x : Operand) (t : TypeId)
    (hop : o.op = .call { callee := .builtin .append, args := #[s, x], argTypes := #[t, t] }) (base : Nat) (e : TypeId) (i : TypeInfo) (z : Value) (bytes : Nat) (ht : P.underlying t = some (.slice e)) (hi : P.info? e = some i) (hz : i.zero = some z) (h1 : i.size = 3) (hb : i.bytes = bytes) (hzs : z.cells.size = 3)
    (v : Value) (k : Nat) (xs : List Value) (hs : a.eval s = v) (hown : w.ownsRow base e 3 v k xs) (b : Nat) (u1 u2 u3 : Value) (hx : a.eval x = .slice (some ⟨b, 0, none⟩) 1 1) (hu : w.heap[b]? = some (.cells #[u1, u2, u3] e (0, 0))) (ho1 : u1.oneCell' = true) (ho2 : u2.oneCell' = true) (ho3 : u3.oneCell' = true) (hk : k ≤ 1000000) (hby : bytes ≤ 64) (hbase : base ≤ w.heap.size)
    (h : ∀ g cap w', w'.ownsRow base e 3 (.slice (some ⟨g, 0, none⟩) (k + 1) cap) (k + 1) (xs ++ [u1, u2, u3]) → w.grownBy w' v.ownBlock → (v.ownBlock = some g ∨ g = w.heap.size) → wpListIn F n P ops Q rest (a.put o.dst (.slice (some ⟨g, 0, none⟩) (k + 1) cap)) w') :
    wpListIn F n P ops Q (o :: rest) a w := by
  have hby' : (k + 1) * bytes ≤ (k + 1) * 64 := Nat.mul_le_mul_left _ hby
  obtain ⟨g, cap, w', hr, r1, r2, r3, -⟩ := run_append_lies (P := P) w t o.type base e i z 3 bytes ht hi hz h1 hb hzs (by decide) v k xs hown ⟨b, 0, none⟩ 1 1 [u1, u2, u3] rfl (World.news_of_block hu) (by intro y hy; simp at hy; rcases hy with rfl | rfl | rfl <;> assumption) (by decide) (by unfold maxLen; omega) (by omega) hbase _ rfl
  refine wpListIn_plain hgd fun K hK => ?_
  have hno : ∀ c, o.op ≠ .defer c := fun c hc => by rw [hop] at hc; cases hc
  refine ⟨by simp [Oper.about, hop, resolve, Target.leads, Sem.run_pure], ?_⟩
  rw [Oper.semAt_plain F _ _ hno]
  simp only [execOp, hop, resolve, invoke, builtin, Sem.run_bind, Sem.run_pure, Result.andThen_ok, List.map_toArray, List.map_cons, List.map_nil, hs, hx, hr]
  exact hK _ _ (h g cap w' r1 r2 r3)
end Go.Proofs.Ytdpoieemadblnaa
