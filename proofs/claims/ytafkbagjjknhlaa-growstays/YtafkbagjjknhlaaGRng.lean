/-
  Words that texts of several layers share, for ranges over functions: what a loop's blocks need of a step.
-/
import Derived.Test.YtafkbagjjknhlaaRows
import Derived.Test.YtafkbagjjknhlaaHMem
import Derived.Test.YtafkbagjjknhlaaMRange
import Derived.Laws.Rows
namespace Go.Proofs.Ytafkbagjjknhlaa
open Go.RowKit Go.Shelf

theorem kf_kept {S : Nat → Prop} {D : Nat} {W W' : World} (h : Kept S W W') (hS : ∀ k, S k → k < D) : KeepsFrom D W W' :=
  ⟨h.size, fun j o hj ho _ => (h.block j (Array.getElem?_eq_some_iff.1 ho).1 (fun q => by have := hS j q; omega)).trans ho⟩
theorem kf_cell {D b : Nat} {W : World} {cs : Array Value} {t : TypeId} {u : Value} {o : Nat} (hb : W.heap[b]? = some (.cells cs t (0, 0))) : KeepsFrom D W (W.setCell ⟨b, o, none⟩ u) :=
  ⟨by simp [World.setCell], fun k obj _ ho hc => (Below.heap_setCell _ _ _ _ (fun e => by
    subst e
    have e2 : some obj = some _ := ho.symm.trans hb
    injection e2 with e2
    subst e2
    cases hc)).trans ho⟩
theorem kf_trans {D : Nat} {a b c : World} (h : KeepsFrom D a b) (k : KeepsFrom D b c) : KeepsFrom D a c := ⟨Nat.le_trans h.1 k.1, fun i o hi ho hc => k.2 i o hi (h.2 i o hi ho hc) hc⟩
theorem one_set {w : World} {b : Nat} {t : TypeId} {v u : Value} (h : w.heap[b]? = some (.cells #[v] t (0, 0))) : (w.setCell ⟨b, 0, none⟩ u).heap[b]? = some (.cells #[u] t (0, 0)) := by rw [heap_setCell_same _ _ _ _ _ _ h]; simp
theorem result_bool {fn : Func} {p : Tmp} (h : fn.results = #[.cell p 4]) (tmps : Array Value) (w : World) (g : Nat) (x : Bool) (hp : tmps[p]?.getD undef = .pointer (some ⟨g, 0, none⟩)) (hg : w.cell? ⟨g, 0, none⟩ = some (.bool x)) :
    (results fn tmps).run Try.prog w = .ok (.bool x) w := by
  simp [results, h, hp, asAddr, loadVar, hg]
theorem below_put {B : Nat} {W : World} {l : Nat} (h : B ≤ l) (o : Obj) : Below B W (W.putObj l o) := ⟨rfl, rfl, rfl, by simp, fun k hk => World.putObj_heap_other (by omega)⟩
end Go.Proofs.Ytafkbagjjknhlaa
