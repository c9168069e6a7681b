/-
  ShapeChecks: whether any list of nodes is a tree of any ids, of any dimension, is just the document's. No condition.
-/
import Derived.Test.YtecdgpacofojeaaXAwk
import Derived.ProofKit
import Derived.Lib.SmallJoins
import Derived.OpenShut
import Derived.ChangeOld
import Derived.WalkSmall
import Derived.SizedLaws
namespace Go.Proofs.Ytecdgpacofojeaa.shapeChecks
open Go.ChangeShapes Go.WideShapes Go.ChangeAt Go.RowKit Go.Joins
set_option linter.unusedVariables false

set_option maxRecDepth 100000 in
theorem walk (A : Option Addr) (n c : Nat) (T : List Xm.Nd) (k d : Int) (w : World) (h : Xds w A n c T ∧ Xdc w A T ∧ n ≤ 2000000000000) (_hk : (Lit.int .i64 k).wf = true) (_hd : (Lit.int .i64 d).wf = true) :
    Calls Try.prog 3 #[.slice A n c, .int .i64 k, .int .i64 d] w fun e w' => e = .returned (.bool true) ∧ Below w.heap.size w w' := by
  obtain ⟨hx, -, hn⟩ := h
  have HX := Lib.hid hx
  clear hx _hk _hd
  go_enter Try.func3, Try.ntmps3
  go_wp2_with fail
  refine (awakeX w).mono ?_
  rintro _ w1 ⟨rfl, hb1⟩
  have HX1 := Lib.hid (HX.out.below hb1)
  have B1 := Lib.hid hb1
  clear hb1
  go_wp2_with fail
  refine (refFewX HX1.out hn).mono ?_
  rintro _ w2 (⟨rfl, hb2⟩ | ⟨rfl, hn4, ht, hb2⟩)
  · have B2 := Lib.hid (B1.out.trans (hb2.mono B1.out.size))
    clear hb2
    go_wp2
    go_ret
    exact ⟨rfl, B2.out⟩
  · have B2 := Lib.hid (B1.out.trans (hb2.mono B1.out.size))
    have HX2 := Lib.hid (HX1.out.below hb2)
    clear hb2
    by_cases g1 : 5000 < k ∧ k ≤ 1048576
    · obtain ⟨g2, g3⟩ := g1
      go_wp2
      go_ret
      exact ⟨rfl, B2.out⟩
    · have F1 := Lib.hid (checkX HX2.out (by omega) (by omega) k d)
      obtain ⟨ck, hck⟩ : ∃ ck, ck = Xm.chk T k d := ⟨_, rfl⟩
      have HCK := Lib.hid hck
      rw [← hck] at F1
      clear hck
      rcases (show k ≤ 5000 ∨ (5000 < k ∧ 1048576 < k) from by omega) with g2 | ⟨g2, g3⟩
      all_goals
        clear g1
        go_wp2_with fail
        refine F1.out.mono ?_
        rintro _ w3 ⟨rfl, hb3⟩
        have B3 := Lib.hid (B2.out.trans (hb3.mono B2.out.size))
        have F2 := refChkX (HX2.out.below hb3) hn4 ht k d
        rw [← HCK.out] at F2
        have FF2 := Lib.hid F2
        clear hb3 F2 F1
        go_wp2_with fail
        refine FF2.out.mono ?_
        rintro _ w4 ⟨rfl, hb4⟩
        have B4 := Lib.hid (B3.out.trans (hb4.mono B3.out.size))
        clear hb4
        go_wp2
        go_ret
        exact ⟨by simp, B4.out⟩
theorem own : ownKnob Try.prog.godebug = none := by kernel_rfl
theorem laidOut : laidOutB Try.prog = true := by kernel_rfl
set_option maxRecDepth 100000 in
theorem lifted (os : Os) (started : os.Started) (H : Type) (enc : TypeId × Value → H) :
    ReturnsInHanded {} Try.checked os 3 .any (Rows.shapeChecksSpec.pre6 enc Try.prog Try.f3 Rows.shapeChecksRow.domain false) (Rows.shapeChecksSpec.post enc Try.prog Try.f3 false true false false) := by
  refine returnsInHanded_of_change_sized (C := Try.checked) own started (by kernel_rfl) Try.func3
    (ChangeSpec.witness6 (enc := enc) (C := Try.checked) false ⟨#[], #[.slice none 0 0, .int .i64 0, .int .i64 0], []⟩ 8 (by kernel_rfl) (by kernel_rfl) (by kernel_rfl) (by kernel_rfl)) ?_
  intro W base args ds gs before hval0 hW hcnd hsz0 _
  have hwt : ∀ (j : Nat) (t : TypeId) (d : DataW H), (Try.f3.params.toList ++ Rows.shapeChecksSpec.plain.varTypes Try.prog)[j]? = some t → (ds ++ gs)[j]? = some d → ∀ k ∈ d.weights Try.prog t, k ≤ reachBytes := fun j t d ht hd k hk => by
    have := List.all_eq_true.1 hsz0 k (DataW.weights_mem_each ht hd k hk)
    simpa using this
  have hval : ∀ (j : Nat) t v, Try.f3.params[j]? = some t → args[j]? = some v → Value.okWide Try.prog W .any base t v := hval0
  have hW' := hW
  obtain ⟨p, q, hA0, hV, rfl, hfz, hnd⟩ := hW
  have hA : DataW.TrodAll enc Try.prog W 0 (fun _ => true) true Try.f3.params.toList args.toList ds p := hA0
  rw [Try.params3] at hA hval
  obtain ⟨v0, vs0, d0, ds0, p0, q0, hargs, rfl, rfl, h0, r0⟩ := trodAll_cons hA
  obtain ⟨v1, vs1, d1, ds1, p1, q1, rfl, rfl, rfl, h1, r1⟩ := trodAll_cons r0
  obtain ⟨v2, vs2, d2, ds2, p2, q2, rfl, rfl, rfl, h2, r2⟩ := trodAll_cons r1
  obtain ⟨rfl, rfl, rfl⟩ := trodAll_nil r2
  obtain rfl : args = #[v0, v1, v2] := by cases args; simp_all
  obtain ⟨rfl, rfl⟩ := trodVars_none hV
  obtain ⟨a0, len0, cap0, rfl⟩ := okWide_slice Try.underlying22 (hval 0 22 v0 rfl rfl)
  have k0 := h0
  have lt0 : ∀ x ∈ p0, x.block < W.heap.size := by obtain ⟨m, hm⟩ := k0; exact DataW.trod_lt m _ _ _ hm
  obtain ⟨z0, w0⟩ : ∃ T, Xds W a0 len0 cap0 T ∧ Xdc W a0 T ∧ len0 ≤ 2000000000000 := by
    obtain ⟨fuel, hf⟩ := h0
    exact nodes_open (by simpa [Value.cells] using hf) (fun k hk => hwt 0 22 _ (by kernel_rfl) rfl k hk)
  obtain ⟨a1, rfl, rfl, rfl, w1⟩ := open_int Try.underlying3 (hval 1 3 v1 rfl rfl) h1
  obtain ⟨a2, rfl, rfl, rfl, w2⟩ := open_int Try.underlying3 (hval 2 3 v2 rfl rfl) h2
  clear hA0 hval0
  refine (walk a0 len0 cap0 z0 a1 a2 W w0 w1 w2).mono fun e W' ⟨he, bel⟩ => ?_
  subst he
  exact ⟨_, rfl, _, _, _, [], _, [], hW', trodAll_mk1 (shut_bool Try.underlying4 _), (trodAll_cons_mk (Below.trod laidOut (by kernel_rfl) (of_decide_eq_true (by kernel_rfl)) k0 bel lt0) (trodAll_cons_mk (shut_int Try.underlying3 w1) (trodAll_cons_mk (shut_int Try.underlying3 w2) trodAll_mk0))), rfl, bel.frame _, fun h => by cases h⟩
theorem over : Rows.shapeChecksRow.holds Try.pinned (OpenSpec.ofChange Rows.shapeChecksSpec) :=
  OpenClaim.holds_of_wide 3 Try.f3 rfl rfl rfl rfl rfl rfl rfl ⟨rfl, rfl, rfl, rfl, rfl⟩ rfl rfl rfl rfl rfl (by kernel_rfl) Try.func3 (by kernel_rfl)
    (of_decide_eq_true (by kernel_rfl)) (by unfold Func.isWrapper; first | (rw [if_pos (by decide +kernel)]; kernel_rfl) | (rw [if_neg (by decide +kernel)]; exact ⟨rfl, rfl⟩))
    (fun os started H enc _ => lifted os started H enc)
/-- the statement -/
theorem proved : Rows.ShapeChecksSaid := over
#print axioms proved
end Go.Proofs.Ytecdgpacofojeaa.shapeChecks
