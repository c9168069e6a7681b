/-
  RngEach: each pair of unlike numbers below n comes up by a script. No condition.
-/
import Derived.Test.YtnhlicfjdnmjcaaRAwk
import Derived.Lib.SmallJoins
namespace Go.Proofs.Ytnhlicfjdnmjcaa
open Go.RowKit Go.Joins Go.ChangeShapes Go.WideShapes Go.Deep
namespace rngEach

theorem each (n a b : Int) (h1 : 0 ≤ a) (h2 : a < n) (h3 : 0 ≤ b) (h4 : b < n) (h5 : a ≠ b) (c : Int) (hc : c = if a < b then b - 1 else b) :
    Rm.fst (lstF [a, c]) n = a ∧ Rm.snd (lstF [a, c]) n = b := by
  have n2 : 2 ≤ n := by omega
  have f : ¬ n < 2 := by omega
  unfold Rm.fst Rm.snd
  rw [if_neg f, if_neg f]
  have e0 : lstF [a, c] 0 = a := rfl
  have e1 : lstF [a, c] 1 = c := rfl
  rw [e0, e1]
  have q0 : Rm.below a n = a := by unfold Rm.below; rw [if_neg (by omega)]; exact Int.emod_eq_of_lt h1 h2
  rw [q0]
  refine ⟨rfl, ?_⟩
  have q1 : Rm.below c (n - 1) = c := by
    unfold Rm.below
    rw [if_neg (by omega)]
    refine Int.emod_eq_of_lt ?_ ?_ <;> (split at hc <;> omega)
  rw [q1]
  unfold Rm.second
  split at hc
  · rw [if_neg (by omega)]; omega
  · rw [if_pos (by omega)]; omega

set_option maxHeartbeats 800000 in
theorem walk (n a b : Int) (w : World) (w0 : (Lit.int .i64 n).wf = true) (w1 : (Lit.int .i64 a).wf = true) (w2 : (Lit.int .i64 b).wf = true) :
    Calls Try.prog 5 #[.int .i64 n, .int .i64 a, .int .i64 b] w fun e w' => e = .returned (.bool true) ∧ Below w.heap.size w w' := by
  have bn := bounds_i64 w0
  have ba := bounds_i64 w1
  have bb := bounds_i64 w2
  clear w0 w1 w2
  go_enter Try.func5, Try.ntmps5
  go_wp2_with fail
  refine (awake_any _).mono ?_
  rintro _ w1 ⟨rfl, b1⟩
  have HB1 := Lib.hid b1
  clear b1
  by_cases c1 : 0 ≤ a ∧ a < n ∧ 0 ≤ b ∧ b < n ∧ a ≠ b
  · obtain ⟨h1, h2, h3, h4, h5⟩ := c1
    have g5 : (a == b) = false := by simpa using h5
    by_cases c : a < b
    · obtain ⟨E1, E2⟩ := each n a b h1 h2 h3 h4 h5 (b - 1) (by rw [if_pos c])
      clear h5
      have HB2 := Lib.hid (HB1.out.alloc HB1.out.size (.cells #[.int .u64 a, .int .u64 (b - 1)] 22))
      have hS := Lib.hid (script_new _ 2 2 [a, (b - 1)] _ (lst_two w1 a (b - 1)) (fun h => by cases h) (by omega) (by intro x hx; simp at hx; omega))
      go_wp2_with fail
      refine hS.out.mono ?_
      rintro _ w2 ⟨g, rfl, h2, b2⟩
      have HB3 := Lib.hid (HB2.out.trans (b2.mono HB2.out.size))
      have s2 := HB2.out.size
      have hP := pair_any (d := 0) (.inl h2) n (by omega) bn.2
      rw [E1, E2] at hP
      have HP := Lib.hid hP
      clear hP h2 b2 E1 E2 HB2 HB1 hS
      go_wp2_with fail
      refine HP.out.mono ?_
      rintro _ w3 ⟨rfl, -, b3⟩
      have HB4 := Lib.hid (HB3.out.trans (b3.old HB3.out.size (by omega)))
      clear b3 HB3 HP
      go_wp2
      go_ret
      exact ⟨rfl, HB4.out⟩
    · obtain ⟨E1, E2⟩ := each n a b h1 h2 h3 h4 h5 b (by rw [if_neg c])
      clear h5
      have HB2 := Lib.hid (HB1.out.alloc HB1.out.size (.cells #[.int .u64 a, .int .u64 b] 22))
      have hS := Lib.hid (script_new _ 2 2 [a, b] _ (lst_two w1 a b) (fun h => by cases h) (by omega) (by intro x hx; simp at hx; omega))
      go_wp2_with fail
      refine hS.out.mono ?_
      rintro _ w2 ⟨g, rfl, h2, b2⟩
      have HB3 := Lib.hid (HB2.out.trans (b2.mono HB2.out.size))
      have s2 := HB2.out.size
      have hP := pair_any (d := 0) (.inl h2) n (by omega) bn.2
      rw [E1, E2] at hP
      have HP := Lib.hid hP
      clear hP h2 b2 E1 E2 HB2 HB1 hS
      go_wp2_with fail
      refine HP.out.mono ?_
      rintro _ w3 ⟨rfl, -, b3⟩
      have HB4 := Lib.hid (HB3.out.trans (b3.old HB3.out.size (by omega)))
      clear b3 HB3 HP
      go_wp2
      go_ret
      exact ⟨rfl, HB4.out⟩
  · by_cases d1 : a < 0
    · clear c1
      go_wp2
      go_ret
      exact ⟨rfl, HB1.out⟩
    · by_cases d2 : n ≤ a
      · clear c1
        go_wp2
        go_ret
        exact ⟨rfl, HB1.out⟩
      · by_cases d3 : b < 0
        · clear c1
          go_wp2
          go_ret
          exact ⟨rfl, HB1.out⟩
        · by_cases d4 : n ≤ b
          · clear c1
            go_wp2
            go_ret
            exact ⟨rfl, HB1.out⟩
          · obtain rfl : a = b := Classical.byContradiction fun e => c1 ⟨by omega, by omega, by omega, by omega, e⟩
            clear c1
            go_wp2
            go_ret
            exact ⟨rfl, HB1.out⟩

theorem own : ownKnob Try.prog.godebug = none := by kernel_rfl
theorem laidOut : laidOutB Try.prog = true := by kernel_rfl
set_option maxRecDepth 100000 in
theorem lifted (os : Os) (started : os.Started) (H : Type) (enc : TypeId × Value → H) :
    ReturnsInHanded {} Try.checked os 5 .any (Rows.rngEachSpec.pre6 enc Try.prog Try.f5 Rows.rngEachRow.domain false) (Rows.rngEachSpec.post enc Try.prog Try.f5 false true false false) := by
  refine returnsInHanded_of_change (C := Try.checked) own started (by kernel_rfl) Try.func5
    (ChangeSpec.witness6 (enc := enc) (C := Try.checked) false ⟨#[], #[.int .i64 0, .int .i64 0, .int .i64 0], []⟩ 8 (by kernel_rfl) (by kernel_rfl) (by kernel_rfl) (by kernel_rfl)) ?_
  intro W base args ds gs before hval0 hW hcnd _
  have hval : ∀ (j : Nat) t v, Try.f5.params[j]? = some t → args[j]? = some v → Value.okWide Try.prog W .any base t v := hval0
  have hW' := hW
  obtain ⟨p, q, hA0, hV, rfl, hfz, hnd⟩ := hW
  have hA : DataW.TrodAll enc Try.prog W 0 (fun _ => true) true Try.f5.params.toList args.toList ds p := hA0
  rw [Try.params5] at hA hval
  obtain ⟨v0, vs0, d0, ds0, p0, q0, hargs, rfl, rfl, h0, r0⟩ := trodAll_cons hA
  obtain ⟨v1, vs1, d1, ds1, p1, q1, rfl, rfl, rfl, h1, r1⟩ := trodAll_cons r0
  obtain ⟨v2, vs2, d2, ds2, p2, q2, rfl, rfl, rfl, h2, r2⟩ := trodAll_cons r1
  obtain ⟨rfl, rfl, rfl⟩ := trodAll_nil r2
  obtain rfl : args = #[v0, v1, v2] := by cases args; simp_all
  obtain ⟨rfl, rfl⟩ := trodVars_none hV
  obtain ⟨a0, rfl, rfl, rfl, w0⟩ := open_int Try.underlying3 (hval 0 3 v0 rfl rfl) h0
  obtain ⟨a1, rfl, rfl, rfl, w1⟩ := open_int Try.underlying3 (hval 1 3 v1 rfl rfl) h1
  obtain ⟨a2, rfl, rfl, rfl, w2⟩ := open_int Try.underlying3 (hval 2 3 v2 rfl rfl) h2
  clear hA0 hval0
  refine (walk a0 a1 a2 W w0 w1 w2).mono fun e W' ⟨he, bel⟩ => ?_
  subst he
  exact ⟨_, rfl, _, _, _, [], _, [], hW', trodAll_mk1 (shut_bool Try.underlying4 _), (trodAll_cons_mk (shut_int Try.underlying3 w0) (trodAll_cons_mk (shut_int Try.underlying3 w1) (trodAll_cons_mk (shut_int Try.underlying3 w2) trodAll_mk0))), rfl, bel.frame _, fun h => by cases h⟩
theorem over : Rows.rngEachRow.holds Try.pinned (OpenSpec.ofChange Rows.rngEachSpec) :=
  OpenClaim.holds_of_wide 5 Try.f5 rfl rfl rfl rfl rfl rfl rfl ⟨rfl, rfl, rfl, rfl, rfl⟩ rfl rfl rfl rfl rfl (by kernel_rfl) Try.func5 (by kernel_rfl)
    (of_decide_eq_true (by kernel_rfl)) (by unfold Func.isWrapper; first | (rw [if_pos (by decide +kernel)]; kernel_rfl) | (rw [if_neg (by decide +kernel)]; exact ⟨rfl, rfl⟩))
    (fun os started H enc _ => lifted os started H enc)
/-- the statement -/
theorem proved : Rows.RngEachSaid := over
#print axioms proved
end rngEach
end Go.Proofs.Ytnhlicfjdnmjcaa
