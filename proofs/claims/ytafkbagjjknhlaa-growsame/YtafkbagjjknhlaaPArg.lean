/-
  Layer 11 (plane): the contracts once more, as links of a chain: what was there when the law began is still there behind each of them.
-/
import Derived.Test.YtafkbagjjknhlaaPFlt
namespace Go.Proofs.Ytafkbagjjknhlaa
open Go.RowKit

section
variable {w0 W : World} {A B : Option Addr} {n m : Nat} {l r : List Int} {o p : Int}
theorem marg_c {c d : Nat} (V : Vec w0 A n l) (V' : Vec w0 B m r) (hb : Below w0.heap.size w0 W) (hn : n ≤ 10000) (hm : m ≤ 10000) :
    Calls Try.prog 68 #[.agg #[.slice A n c, .int .i64 o], .slice B m d] W fun e w' => e = .returned (.int .i64 (Pm.mar l o r)) ∧ Below w0.heap.size w0 w' :=
  (marg_any A B n m c d o l r W (V.below hb) (V'.below hb) hn hm).mono fun _ _ h => ⟨h.1, hb.trans (h.2.mono hb.size)⟩
theorem refMarg_c {c d : Nat} (V : Vec w0 A n l) (V' : Vec w0 B m r) (hb : Below w0.heap.size w0 W) (hn : n ≤ 10000) (hm : m ≤ 10000) :
    Calls Try.prog 63 #[.agg #[.slice A n c, .int .i64 o], .slice B m d] W fun e w' => e = .returned (.int .i64 (Pm.mar l o r)) ∧ Below w0.heap.size w0 w' :=
  (refMarg_any A B n m c d o l r W (V.below hb) (V'.below hb) hn hm).mono fun _ _ h => ⟨h.1, hb.trans (h.2.mono hb.size)⟩
theorem side_c {c d : Nat} (V : Vec w0 A n l) (V' : Vec w0 B m r) (hb : Below w0.heap.size w0 W) (hn : n ≤ 10000) (hm : m ≤ 10000) :
    Calls Try.prog 58 #[.agg #[.slice A n c, .int .i64 o], .slice B m d] W fun e w' => e = .returned (.bool (decide (0 ≤ Pm.mar l o r))) ∧ Below w0.heap.size w0 w' :=
  (side_any A B n m c d o l r W (V.below hb) (V'.below hb) hn hm).mono fun _ _ h => ⟨h.1, hb.trans (h.2.mono hb.size)⟩
theorem refSameP_c {c d : Nat} (V : Vec w0 A n l) (V' : Vec w0 B m r) (hb : Below w0.heap.size w0 W) (hn : n ≤ 10000) (hm : m ≤ 10000) :
    Calls Try.prog 29 #[.agg #[.slice A n c, .int .i64 o], .agg #[.slice B m d, .int .i64 p]] W fun e w' => e = .returned (.bool (decide (o = p ∧ l = r))) ∧ Below w0.heap.size w0 w' :=
  (refSameP_any A B n m c d o p l r W (V.below hb) (V'.below hb) hn hm).mono fun _ _ h => ⟨h.1, hb.trans (h.2.mono hb.size)⟩
theorem betw_c {c d : Nat} (V : Vec w0 A n l) (V' : Vec w0 B m r) (hb : Below w0.heap.size w0 W) (hn : n ≤ 10000) (hm : m ≤ 10000) :
    Calls Try.prog 55 #[.slice A n c, .slice B m d] W fun e w' => ∃ g, e = .returned (.agg #[.slice (some ⟨g, 0, none⟩) (min n m) (min n m), .int .i64 (Pm.off l r)]) ∧ W.heap.size ≤ g ∧ Blk w' g (Vm.less l r) ∧ Vec w' (some ⟨g, 0, none⟩) (min n m) (Vm.less l r) ∧ Below w0.heap.size w0 w' ∧ Below W.heap.size W w' :=
  (betw_any A B n m c d l r W (V.below hb) (V'.below hb) hn hm).mono fun _ _ ⟨g, h1, h2, h3, h4⟩ =>
    ⟨g, h1, h2, h3, h3.vec (less_len V.length V'.length) (Vm.less_in l r), hb.trans (h4.mono hb.size), h4⟩
theorem refBetw_c {c d : Nat} (V : Vec w0 A n l) (V' : Vec w0 B m r) (hb : Below w0.heap.size w0 W) (hn : n ≤ 10000) (hm : m ≤ 10000) :
    Calls Try.prog 48 #[.slice A n c, .slice B m d] W fun e w' => ∃ A' c', e = .returned (.agg #[.slice A' (min n m) c', .int .i64 (Pm.off l r)]) ∧ Vec w' A' (min n m) (Vm.less l r) ∧ Below w0.heap.size w0 w' ∧ Below W.heap.size W w' :=
  (refBetw_any A B n m c d l r W (V.below hb) (V'.below hb) hn hm).mono fun _ _ ⟨A', c', h1, h2, h3⟩ => ⟨A', c', h1, h2, hb.trans (h3.mono hb.size), h3⟩
theorem flat_c {dim : Int} (hb : Below w0.heap.size w0 W) (hn : n ≤ 1024) (hd : (n : Int) = if dim < 0 ∨ 1024 < dim then 0 else dim) :
    Calls Try.prog 45 #[.int .i64 dim] W fun e w' => ∃ g, e = .returned (.agg #[.slice (some ⟨g, 0, none⟩) n n, .int .i64 0]) ∧ Vec w' (some ⟨g, 0, none⟩) n (Pm.flat n) ∧ Below w0.heap.size w0 w' ∧ Below W.heap.size W w' :=
  (flat_any n dim W hn hd).mono fun _ _ ⟨g, h1, _, h3, h4⟩ => ⟨g, h1, h3.vec (Pm.flat_length n) (Pm.flat_in n), hb.trans (h4.mono hb.size), h4⟩
theorem refFlat_c (hb : Below w0.heap.size w0 W) (hn : n ≤ 1024) :
    Calls Try.prog 52 #[.int .i64 (n : Int)] W fun e w' => ∃ A c, e = .returned (.agg #[.slice A n c, .int .i64 0]) ∧ Vec w' A n (Pm.flat n) ∧ Below w0.heap.size w0 w' ∧ Below W.heap.size W w' :=
  (refFlat_any n W hn).mono fun _ _ ⟨A, c, h1, h2, h3⟩ => ⟨A, c, h1, h2, hb.trans (h3.mono hb.size), h3⟩
end
theorem ne_bool {x : Int} (h : ¬ x = 0) : (x != 0) = true := by simpa using h
end Go.Proofs.Ytafkbagjjknhlaa
