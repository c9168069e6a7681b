/-
  Layer 13 (grow): params as a row's argument.
-/
import Derived.Test.YtecdgpacofojeaaDArg
import Derived.ProofKit
import Derived.Lib.SmallJoins
import Derived.OpenShut
namespace Go.Proofs.Ytecdgpacofojeaa
open Go.RowKit Go.Joins Go.ChangeShapes Go.WideShapes Go.ChangeAt

theorem array6 {α : Type} {cs : Array α} (h : cs.size = 6) : ∃ c0 c1 c2 c3 c4 c5, cs = #[c0, c1, c2, c3, c4, c5] := by
  obtain ⟨l⟩ := cs
  match l, h with
  | [c0, c1, c2, c3, c4, c5], _ => exact ⟨c0, c1, c2, c3, c4, c5, rfl⟩
theorem cells1 : Try.prog.cellsOf 3 = 1 := by kernel_rfl
theorem cells1b : Try.prog.cellsOf 4 = 1 := by kernel_rfl
theorem cells1u : Try.prog.cellsOf 49 = 1 := by kernel_rfl
theorem cells1s : Try.prog.cellsOf 50 = 1 := by kernel_rfl
theorem cells3 : Try.prog.cellsOf 52 = 3 := by kernel_rfl
theorem cells6 : Try.prog.cellsOf 54 = 6 := by kernel_rfl
set_option maxRecDepth 100000 in
/-- params by value, opened -/
theorem params_open {H : Type} {enc : TypeId × Value → H} {W : World} {base : Nat} {v : Value} {d : DataW H} {p : List MemPlace} (hv : Value.okWide Try.prog W .any base 54 v) (h : DataW.Trod enc Try.prog W 0 (fun _ => true) true 54 v d p) :
    ∃ (tr lf dp : Int) (sc : Bool) (sd : Int) (a : Option Addr) (len cap : Nat), v = .agg #[.int .i64 tr, .int .i64 lf, .int .i64 dp, .bool sc, .int .u64 sd, .slice a len cap] := by
  obtain ⟨cs, rfl, hsz⟩ := okWide_struct Try.underlying54 hv
  obtain ⟨c0, c1, c2, c3, c4, c5, rfl⟩ := array6 (hsz.trans cells6)
  obtain ⟨fuel, hf⟩ := h
  obtain ⟨y0, y1, y2, y3, n, hx, -, h0, h1, h2, h3⟩ := trod_struct4 Try.underlying54 hf
  simp only [cells1, cells3] at h0 h1 h2 h3
  have t0 : DataW.trod enc Try.prog W 0 (fun _ => true) true n 3 [c0] = some y0 := h0
  have t1 : DataW.trod enc Try.prog W 0 (fun _ => true) true n 3 [c1] = some y1 := h1
  have t2 : DataW.trod enc Try.prog W 0 (fun _ => true) true n 3 [c2] = some y2 := h2
  have t3 : DataW.trod enc Try.prog W 0 (fun _ => true) true n 52 [c3, c4, c5] = some y3 := h3
  obtain ⟨z0, z1, z2, m, hz, -, g0, g1, g2⟩ := Go.Deep.trod_struct3 Try.underlying52 t3
  simp only [cells1b, cells1u, cells1s] at g0 g1 g2
  have s0 : DataW.trod enc Try.prog W 0 (fun _ => true) true m 4 [c3] = some z0 := g0
  have s1 : DataW.trod enc Try.prog W 0 (fun _ => true) true m 49 [c4] = some z1 := g1
  have s2 : DataW.trod enc Try.prog W 0 (fun _ => true) true m 50 [c5] = some z2 := g2
  obtain ⟨tr, ht, -⟩ := DataW.trod_int Try.underlying3 t0
  obtain ⟨lf, hl, -⟩ := DataW.trod_int Try.underlying3 t1
  obtain ⟨dp, hd, -⟩ := DataW.trod_int Try.underlying3 t2
  obtain ⟨sc, hs, -⟩ := DataW.trod_bool Try.underlying4 s0
  obtain ⟨sd, hu, -⟩ := DataW.trod_int Try.underlying49 s1
  simp at ht hl hd hs hu
  subst ht
  subst hl
  subst hd
  subst hs
  subst hu
  rcases open_ints Try.underlying50 Try.underlying49 (by kernel_rfl) s2 with ⟨hcs, _⟩ | ⟨x, l, c, zs, hcs, _⟩
  · simp at hcs
    subst hcs
    exact ⟨_, _, _, _, _, none, 0, 0, rfl⟩
  · simp at hcs
    subst hcs
    exact ⟨_, _, _, _, _, some x, l, c, rfl⟩
end Go.Proofs.Ytecdgpacofojeaa
