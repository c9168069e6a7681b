/-
  SealJoins holds for every input: the sum of three texts behind one another is reached by any parting. No condition.
-/
import Derived.Test.YtabfjlokemkpjaaSAwake
import Derived.ProofKit
import Derived.OpenShut
import Derived.ShutString
import Derived.ChangeOld
import Derived.WalkSmall
namespace Go.Proofs.Ytabfjlokemkpjaa.sealJoins
open Go.ChangeShapes Go.WideShapes Go.ChangeAt Go.RowKit
open Go.ChangeMaps (open_string shut_string)
set_option linter.unusedVariables false

theorem walk (a0 a1 a2 : ByteArray) (w : World) (w0 : a0.size ≤ maxLen) (w1 : a1.size ≤ maxLen) (w2 : a2.size ≤ maxLen) :
    Calls Try.prog 7 #[.string a0, .string a1, .string a2] w fun e w' => e = .returned (.bool true) ∧ Below w.heap.size w w' := by
  unfold maxLen at w0 w1 w2
  by_cases hg : 1000 < a0.size ∨ 1000 < a1.size ∨ 1000 < a2.size
  · rcases (show 1000 < a0.size ∨ (a0.size ≤ 1000 ∧ 1000 < a1.size) ∨ (a0.size ≤ 1000 ∧ a1.size ≤ 1000 ∧ 1000 < a2.size) from by omega) with g | ⟨g1, g2⟩ | ⟨g1, g2, g3⟩
    all_goals
      clear hg
      go_enter Try.func7, Try.ntmps7
      go_wp2_with fail
      refine (awake_any _).mono ?_
      rintro e w1 ⟨rfl, hb1⟩
      have HB1 := Lib.hid hb1
      have hs1 := hb1.size
      clear hb1
      go_wp2
      go_ret
      exact ⟨rfl, HB1.out⟩
  have l0 : a0.size ≤ 1000 := by omega
  have l1 : a1.size ≤ 1000 := by omega
  have l2 : a2.size ≤ 1000 := by omega
  clear hg
  obtain ⟨A, hA⟩ : ∃ A, A = Sm.sum a0.data.toList := ⟨_, rfl⟩
  obtain ⟨B, hB⟩ : ∃ B, B = Sm.sum (a0.data.toList ++ a1.data.toList) := ⟨_, rfl⟩
  obtain ⟨D, hD⟩ : ∃ D, D = Sm.sum (a0.data.toList ++ a1.data.toList ++ a2.data.toList) := ⟨_, rfl⟩
  have k1 : Sm.sum (a0 ++ a1 ++ a2).data.toList = D := by rw [hD, list_app, list_app]
  have k2 : Sm.join A a1.data.toList = B := by rw [hA, hB, Sm.join_sum]
  have k3 : Sm.join B a2.data.toList = D := by rw [hB, hD, Sm.join_sum]
  have k4 : Sm.join A (a1 ++ a2).data.toList = D := by rw [hA, hD, Sm.join_sum, list_app, List.append_assoc]
  have k5 : Sm.sum (a0 ++ a1).data.toList = B := by rw [hB, list_app]
  have k6 : Sm.join 0#32 a0.data.toList = A := by rw [hA]; rfl
  have k7 : Sm.join D [] = D := Sm.join_none D
  have K1 := Lib.hid k1
  have K2 := Lib.hid k2
  have K3 := Lib.hid k3
  have K4 := Lib.hid k4
  have K5 := Lib.hid k5
  have K6 := Lib.hid k6
  have K7 := Lib.hid k7
  have K0 := Lib.hid hA.symm
  clear k1 k2 k3 k4 k5 k6 k7 hA hB hD
  go_enter Try.func7, Try.ntmps7
  go_wp2_with fail
  refine (awake_any _).mono ?_
  rintro e w1 ⟨rfl, hb1⟩
  have HB1 := Lib.hid hb1
  have hs1 := hb1.size
  clear hb1
  go_wp2_with fail
  refine (sum_any (a0 ++ a1 ++ a2) _ (by unfold maxLen; simp [ByteArray.size_append]; omega)).mono ?_
  rintro e w2 ⟨rfl, hb2⟩
  have HB2 := Lib.hid (HB1.out.trans (hb2.mono hs1))
  have hs2 := HB2.out.size
  clear hb2 HB1
  rw [K1.out]
  go_wp2_with fail
  refine (sum_any a0 _ (by unfold maxLen; omega)).mono ?_
  rintro e w3 ⟨rfl, hb3⟩
  have HB3 := Lib.hid (HB2.out.trans (hb3.mono hs2))
  have hs3 := HB3.out.size
  clear hb3 HB2
  rw [K0.out]
  go_wp2_with fail
  refine (join_any A a1 _ (by unfold maxLen; omega)).mono ?_
  rintro e w4 ⟨rfl, hb4⟩
  have HB4 := Lib.hid (HB3.out.trans (hb4.mono hs3))
  have hs4 := HB4.out.size
  clear hb4 HB3
  rw [K2.out]
  go_wp2_with fail
  refine (join_any B a2 _ (by unfold maxLen; omega)).mono ?_
  rintro e w5 ⟨rfl, hb5⟩
  have HB5 := Lib.hid (HB4.out.trans (hb5.mono hs4))
  have hs5 := HB5.out.size
  clear hb5 HB4
  rw [K3.out]
  go_wp2_with fail
  refine (sum_any a0 _ (by unfold maxLen; omega)).mono ?_
  rintro e w6 ⟨rfl, hb6⟩
  have HB6 := Lib.hid (HB5.out.trans (hb6.mono hs5))
  have hs6 := HB6.out.size
  clear hb6 HB5
  rw [K0.out]
  go_wp2_with fail
  refine (join_any A (a1 ++ a2) _ (by unfold maxLen; simp [ByteArray.size_append]; omega)).mono ?_
  rintro e w7 ⟨rfl, hb7⟩
  have HB7 := Lib.hid (HB6.out.trans (hb7.mono hs6))
  have hs7 := HB7.out.size
  clear hb7 HB6
  rw [K4.out]
  go_wp2_with fail
  refine (sum_any (a0 ++ a1) _ (by unfold maxLen; simp [ByteArray.size_append]; omega)).mono ?_
  rintro e w8 ⟨rfl, hb8⟩
  have HB8 := Lib.hid (HB7.out.trans (hb8.mono hs7))
  have hs8 := HB8.out.size
  clear hb8 HB7
  rw [K5.out]
  go_wp2_with fail
  refine (join_any B a2 _ (by unfold maxLen; omega)).mono ?_
  rintro e w9 ⟨rfl, hb9⟩
  have HB9 := Lib.hid (HB8.out.trans (hb9.mono hs8))
  have hs9 := HB9.out.size
  clear hb9 HB8
  rw [K3.out]
  go_wp2_with fail
  refine (join_any 0#32 a0 _ (by unfold maxLen; omega)).mono ?_
  rintro e w10 ⟨rfl, hb10⟩
  have HB10 := Lib.hid (HB9.out.trans (hb10.mono hs9))
  have hs10 := HB10.out.size
  clear hb10 HB9
  rw [K6.out]
  go_wp2_with fail
  refine (sum_any a0 _ (by unfold maxLen; omega)).mono ?_
  rintro e w11 ⟨rfl, hb11⟩
  have HB11 := Lib.hid (HB10.out.trans (hb11.mono hs10))
  have hs11 := HB11.out.size
  clear hb11 HB10
  rw [K0.out]
  go_wp2_with fail
  refine (join_any D ⟨#[]⟩ _ (by unfold maxLen; decide)).mono ?_
  rintro e w12 ⟨rfl, hb12⟩
  have HB12 := Lib.hid (HB11.out.trans (hb12.mono hs11))
  have hs12 := HB12.out.size
  clear hb12 HB11
  rw [K7.out]
  go_wp2
  go_ret
  exact ⟨rfl, HB12.out⟩
theorem own : ownKnob Try.prog.godebug = none := by kernel_rfl
theorem laidOut : laidOutB Try.prog = true := by kernel_rfl
set_option maxRecDepth 100000 in
theorem lifted (os : Os) (started : os.Started) (H : Type) (enc : TypeId × Value → H) :
    ReturnsInHanded {} Try.checked os 7 .any (Rows.sealJoinsSpec.pre6 enc Try.prog Try.f7 Rows.sealJoinsRow.domain false) (Rows.sealJoinsSpec.post enc Try.prog Try.f7 false true false false) := by
  refine returnsInHanded_of_change (C := Try.checked) own started (by kernel_rfl) Try.func7
    (ChangeSpec.witness6 (enc := enc) (C := Try.checked) false ⟨#[], #[.string ByteArray.empty, .string ByteArray.empty, .string ByteArray.empty], []⟩ 8 (by kernel_rfl) (by kernel_rfl) (by kernel_rfl) (by kernel_rfl)) ?_
  intro W base args ds gs before hval0 hW hcnd _
  have hval : ∀ (j : Nat) t v, Try.f7.params[j]? = some t → args[j]? = some v → Value.okWide Try.prog W .any base t v := hval0
  have hW' := hW
  obtain ⟨p, q, hA0, hV, rfl, hfz, hnd⟩ := hW
  have hA : DataW.TrodAll enc Try.prog W 0 (fun _ => true) true Try.f7.params.toList args.toList ds p := hA0
  rw [Try.params7] at hA hval
  obtain ⟨v0, vs0, d0, ds0, p0, q0, hargs, rfl, rfl, h0, r0⟩ := trodAll_cons hA
  obtain ⟨v1, vs1, d1, ds1, p1, q1, rfl, rfl, rfl, h1, r1⟩ := trodAll_cons r0
  obtain ⟨v2, vs2, d2, ds2, p2, q2, rfl, rfl, rfl, h2, r2⟩ := trodAll_cons r1
  obtain ⟨rfl, rfl, rfl⟩ := trodAll_nil r2
  obtain rfl : args = #[v0, v1, v2] := by cases args; simp_all
  obtain ⟨rfl, rfl⟩ := trodVars_none hV
  obtain ⟨a0, rfl, rfl, rfl, w0⟩ := open_string Try.underlying9 (hval 0 9 v0 rfl rfl) h0
  obtain ⟨a1, rfl, rfl, rfl, w1⟩ := open_string Try.underlying9 (hval 1 9 v1 rfl rfl) h1
  obtain ⟨a2, rfl, rfl, rfl, w2⟩ := open_string Try.underlying9 (hval 2 9 v2 rfl rfl) h2
  clear hA0 hval0
  refine (walk a0 a1 a2 W w0 w1 w2).mono fun e W' ⟨he, bel⟩ => ?_
  subst he
  exact ⟨_, rfl, _, _, _, [], _, [], hW', trodAll_mk1 (shut_bool Try.underlying4 _), (trodAll_cons_mk (shut_string Try.underlying9 w0) (trodAll_cons_mk (shut_string Try.underlying9 w1) (trodAll_cons_mk (shut_string Try.underlying9 w2) trodAll_mk0))), rfl, bel.frame _, fun h => by cases h⟩
theorem over : Rows.sealJoinsRow.holds Try.pinned (OpenSpec.ofChange Rows.sealJoinsSpec) :=
  OpenClaim.holds_of_wide 7 Try.f7 rfl rfl rfl rfl rfl rfl rfl ⟨rfl, rfl, rfl, rfl, rfl⟩ rfl rfl rfl rfl rfl (by kernel_rfl) Try.func7 (by kernel_rfl)
    (of_decide_eq_true (by kernel_rfl)) (by unfold Func.isWrapper; first | (rw [if_pos (by decide +kernel)]; kernel_rfl) | (rw [if_neg (by decide +kernel)]; exact ⟨rfl, rfl⟩))
    (fun os started H enc _ => lifted os started H enc)
/-- the statement -/
theorem proved : Rows.SealJoinsSaid := over
#print axioms proved
end Go.Proofs.Ytabfjlokemkpjaa.sealJoins
