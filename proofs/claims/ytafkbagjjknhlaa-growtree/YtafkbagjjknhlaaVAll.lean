/-
  Layer 3 (vec): the calls' contracts once more, as links of a chain: what was there when the law began is still there behind each of them.
-/
import Derived.Test.YtafkbagjjknhlaaVMem
import Derived.OpenShut
namespace Go.Proofs.Ytafkbagjjknhlaa
open Go.RowKit

theorem IsRow.vec {w : World} {a : Option Addr} {len cap : Nat} {zs : List Int} (h : IsRow .i32 w a len cap zs) :
    ∃ l, Vec w a len l ∧ len ≤ maxLen ∧ (a = none → cap = 0) := by
  obtain ⟨h1, h2, h3, h4, h5⟩ := h.lst
  refine ⟨zs.take len, ⟨h1, fun c hc => bounds_i32 (h4 c hc)⟩, ?_, h5⟩
  rcases h with ⟨rfl, rfl, rfl, rfl⟩ | ⟨x, rfl, hl, hm, hz, hcell, hwf⟩
  · exact Nat.zero_le _
  · omega

section
variable {w0 W : World} {A B : Option Addr} {n m : Nat} {l r : List Int}
theorem check_c {c : Nat} {dim : Int} (V : Vec w0 A n l) (hb : Below w0.heap.size w0 W) (hn : n ≤ maxLen) :
    Calls Try.prog 40 #[.slice A n c, .int .i64 dim] W fun e w' => e = .returned (.int .i64 (Vm.chk l dim)) ∧ W = w' := check_any A n c l dim W (V.below hb) hn
theorem dot_c {c d : Nat} (V : Vec w0 A n l) (V' : Vec w0 B m r) (hb : Below w0.heap.size w0 W) (hn : n ≤ 10000) (hm : m ≤ 10000) :
    Calls Try.prog 67 #[.slice A n c, .slice B m d] W fun e w' => e = .returned (.int .i64 (Vm.dot l r)) ∧ Below w0.heap.size w0 w' :=
  (dot_any A B n m c d l r W (V.below hb) (V'.below hb) hn hm).mono fun _ _ h => ⟨h.1, hb.trans (h.2.mono hb.size)⟩
theorem refDot_c {c d : Nat} (V : Vec w0 A n l) (V' : Vec w0 B m r) (hb : Below w0.heap.size w0 W) (hn : n ≤ 10000) (hm : m ≤ 10000) :
    Calls Try.prog 62 #[.slice A n c, .slice B m d] W fun e w' => e = .returned (.int .i64 (Vm.dot l r)) ∧ Below w0.heap.size w0 w' :=
  (refDot_any A B n m c d l r W (V.below hb) (V'.below hb) hn hm).mono fun _ _ h => ⟨h.1, hb.trans (h.2.mono hb.size)⟩
theorem refSame_c {c d : Nat} (V : Vec w0 A n l) (V' : Vec w0 B m r) (hb : Below w0.heap.size w0 W) (hn : n ≤ 10000) (hm : m ≤ 10000) :
    Calls Try.prog 35 #[.slice A n c, .slice B m d] W fun e w' => e = .returned (.bool (decide (l = r))) ∧ Below w0.heap.size w0 w' :=
  (refSame_any A B n m c d l r W (V.below hb) (V'.below hb) hn hm).mono fun _ _ h => ⟨h.1, hb.trans (h.2.mono hb.size)⟩
theorem less_c {c d : Nat} (V : Vec w0 A n l) (V' : Vec w0 B m r) (hb : Below w0.heap.size w0 W) (hn : n ≤ 10000) (hm : m ≤ 10000) :
    Calls Try.prog 66 #[.slice A n c, .slice B m d] W fun e w' => ∃ g, e = .returned (.slice (some ⟨g, 0, none⟩) (min n m) (min n m)) ∧ w0.heap.size ≤ g ∧ W.heap.size ≤ g ∧ Blk w' g (Vm.less l r) ∧ Vec w' (some ⟨g, 0, none⟩) (min n m) (Vm.less l r) ∧ Below w0.heap.size w0 w' ∧ Below W.heap.size W w' :=
  (vless_any A B n m c d l r W (V.below hb) (V'.below hb) hn hm).mono fun _ _ ⟨g, h1, h2, h3, h4⟩ =>
    ⟨g, h1, Nat.le_trans hb.size h2, h2, h3, h3.vec (by rw [Vm.less_length]; unfold Vm.both; rw [V.length, V'.length]) (Vm.less_in l r), hb.trans (h4.mono hb.size), h4⟩
theorem refLess_c {c d : Nat} (V : Vec w0 A n l) (V' : Vec w0 B m r) (hb : Below w0.heap.size w0 W) (hn : n ≤ 10000) (hm : m ≤ 10000) :
    Calls Try.prog 61 #[.slice A n c, .slice B m d] W fun e w' => ∃ A' c', e = .returned (.slice A' (min n m) c') ∧ Vec w' A' (min n m) (Vm.less l r) ∧ Below w0.heap.size w0 w' ∧ Below W.heap.size W w' :=
  (refLess_any A B n m c d l r W (V.below hb) (V'.below hb) hn hm).mono fun _ _ ⟨A', c', h1, h2, h3⟩ => ⟨A', c', h1, h2, hb.trans (h3.mono hb.size), h3⟩
theorem clone_c {c : Nat} (V : Vec w0 A n l) (hb : Below w0.heap.size w0 W) (hn : n ≤ 10000) :
    Calls Try.prog 34 #[.slice A n c] W fun e w' => ∃ g, e = .returned (.slice (some ⟨g, 0, none⟩) n n) ∧ w0.heap.size ≤ g ∧ W.heap.size ≤ g ∧ Blk w' g l ∧ Vec w' (some ⟨g, 0, none⟩) n l ∧ Below w0.heap.size w0 w' ∧ Below W.heap.size W w' :=
  (clone_any A n c l W (V.below hb) hn).mono fun _ _ ⟨g, h1, h2, h3, h4⟩ => ⟨g, h1, Nat.le_trans hb.size h2, h2, h3, h3.vec V.length V.2, hb.trans (h4.mono hb.size), h4⟩
end
end Go.Proofs.Ytafkbagjjknhlaa
