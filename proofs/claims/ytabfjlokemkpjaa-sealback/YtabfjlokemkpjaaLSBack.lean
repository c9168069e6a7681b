/-
  SealBack holds for every input: what is sealed is opened as it was; what is opened is sealed as it was, four bytes longer. No condition.
-/
import Derived.Test.YtabfjlokemkpjaaSAwake
import Derived.ProofKit
import Derived.OpenShut
import Derived.ShutString
import Derived.ChangeOld
import Derived.WalkSmall
namespace Go.Proofs.Ytabfjlokemkpjaa.sealBack
open Go.ChangeShapes Go.WideShapes Go.ChangeAt Go.RowKit
open Go.ChangeMaps (open_string shut_string)
set_option linter.unusedVariables false

theorem walk (a0 a1 : ByteArray) (w : World) (w0 : a0.size ≤ maxLen) (w1 : a1.size ≤ maxLen) :
    Calls Try.prog 4 #[.string a0, .string a1] w fun e w' => e = .returned (.bool true) ∧ Below w.heap.size w w' := by
  unfold maxLen at w0 w1
  by_cases hg : 2000 < a0.size ∨ 2000 < a1.size
  · rcases (show 2000 < a0.size ∨ (a0.size ≤ 2000 ∧ 2000 < a1.size) from by omega) with g | ⟨g1, g2⟩
    all_goals
      clear hg
      go_enter Try.func4, Try.ntmps4
      go_wp2_with fail
      refine (awake_any _).mono ?_
      rintro e w1 ⟨rfl, hb1⟩
      have HB1 := Lib.hid hb1
      have hs1 := hb1.size
      clear hb1
      go_wp2
      go_ret
      exact ⟨rfl, HB1.out⟩
  have l0 : a0.size ≤ 2000 := by omega
  have l1 : a1.size ≤ 2000 := by omega
  clear hg
  go_enter Try.func4, Try.ntmps4
  go_wp2_with fail
  refine (awake_any _).mono ?_
  rintro e w1 ⟨rfl, hb1⟩
  have HB1 := Lib.hid hb1
  have hs1 := hb1.size
  clear hb1
  go_wp2_with fail
  refine (seal_any a0 _ (by omega)).mono ?_
  rintro e w2 ⟨X, rfl, hX, hb2⟩
  have HB2 := Lib.hid (HB1.out.trans (hb2.mono hs1))
  have hs2 := HB2.out.size
  clear hb2 HB1
  have x1 : X.size ≤ 2004 := by rw [size_list, hX, Sm.sealed_length, ← size_list]; omega
  have XO : Hid (Sm.okB X.data.toList = true) := by show Sm.okB X.data.toList = true; rw [hX]; exact Sm.sealed_ok _
  have HX := Lib.hid hX
  clear hX
  go_wp2_with fail
  refine (open_any X _ (by omega)).mono ?_
  rintro e w3 ⟨S, rfl, hS, hb3⟩
  have HB3 := Lib.hid (HB2.out.trans (hb3.mono hs2))
  have hs3 := HB3.out.size
  clear hb3 HB2
  obtain rfl : S = a0 := text_eq (by
    rw [hS, XO.out, if_pos rfl, size_list, HX.out, Sm.sealed_take])
  rw [XO.out]
  clear hS HX XO
  go_wp2_with fail
  refine (open_any a1 _ (by omega)).mono ?_
  rintro e w4 ⟨Y, rfl, hY, hb4⟩
  have HB4 := Lib.hid (HB3.out.trans (hb4.mono hs3))
  have hs4 := HB4.out.size
  clear hb4 HB3
  cases ho : Sm.okB a1.data.toList with
  | false =>
    obtain rfl : Y = ⟨#[]⟩ := text_eq (by rw [hY, ho]; rfl)
    clear hY ho
    go_wp2
    go_ret
    exact ⟨rfl, HB4.out⟩
  | true =>
    rw [ho, if_pos rfl] at hY
    have hl : 4 ≤ a1.size := by
      unfold Sm.okB at ho
      simp only [Bool.and_eq_true, decide_eq_true_eq] at ho
      rw [size_list]; exact ho.1
    have hy : Y.size + 4 = a1.size := by rw [size_list, hY, List.length_take, ← size_list]; omega
    have HY : Hid (Sm.sealed Y.data.toList = a1.data.toList) := by
      show Sm.sealed Y.data.toList = a1.data.toList
      rw [hY, size_list]; exact Sm.sealed_back _ ho
    have y1 : Y.size ≤ 2000 := by omega
    have q : ((a1.size : Int) == (Y.size : Int) + 4) = true := by rw [beq_iff_eq]; omega
    clear hY ho hy
    go_wp2_with fail
    refine (seal_any Y _ (by omega)).mono ?_
    rintro e w5 ⟨Z, rfl, hZ, hb5⟩
    have HB5 := Lib.hid (HB4.out.trans (hb5.mono hs4))
    obtain rfl : Z = a1 := text_eq (by rw [hZ, HY.out])
    clear hb5 HB4 hZ HY
    go_wp2
    go_ret
    exact ⟨rfl, HB5.out⟩
theorem own : ownKnob Try.prog.godebug = none := by kernel_rfl
theorem laidOut : laidOutB Try.prog = true := by kernel_rfl
set_option maxRecDepth 100000 in
theorem lifted (os : Os) (started : os.Started) (H : Type) (enc : TypeId × Value → H) :
    ReturnsInHanded {} Try.checked os 4 .any (Rows.sealBackSpec.pre6 enc Try.prog Try.f4 Rows.sealBackRow.domain false) (Rows.sealBackSpec.post enc Try.prog Try.f4 false true false false) := by
  refine returnsInHanded_of_change (C := Try.checked) own started (by kernel_rfl) Try.func4
    (ChangeSpec.witness6 (enc := enc) (C := Try.checked) false ⟨#[], #[.string ByteArray.empty, .string ByteArray.empty], []⟩ 8 (by kernel_rfl) (by kernel_rfl) (by kernel_rfl) (by kernel_rfl)) ?_
  intro W base args ds gs before hval0 hW hcnd _
  have hval : ∀ (j : Nat) t v, Try.f4.params[j]? = some t → args[j]? = some v → Value.okWide Try.prog W .any base t v := hval0
  have hW' := hW
  obtain ⟨p, q, hA0, hV, rfl, hfz, hnd⟩ := hW
  have hA : DataW.TrodAll enc Try.prog W 0 (fun _ => true) true Try.f4.params.toList args.toList ds p := hA0
  rw [Try.params4] at hA hval
  obtain ⟨v0, vs0, d0, ds0, p0, q0, hargs, rfl, rfl, h0, r0⟩ := trodAll_cons hA
  obtain ⟨v1, vs1, d1, ds1, p1, q1, rfl, rfl, rfl, h1, r1⟩ := trodAll_cons r0
  obtain ⟨rfl, rfl, rfl⟩ := trodAll_nil r1
  obtain rfl : args = #[v0, v1] := by cases args; simp_all
  obtain ⟨rfl, rfl⟩ := trodVars_none hV
  obtain ⟨a0, rfl, rfl, rfl, w0⟩ := open_string Try.underlying9 (hval 0 9 v0 rfl rfl) h0
  obtain ⟨a1, rfl, rfl, rfl, w1⟩ := open_string Try.underlying9 (hval 1 9 v1 rfl rfl) h1
  clear hA0 hval0
  refine (walk a0 a1 W w0 w1).mono fun e W' ⟨he, bel⟩ => ?_
  subst he
  exact ⟨_, rfl, _, _, _, [], _, [], hW', trodAll_mk1 (shut_bool Try.underlying4 _), (trodAll_cons_mk (shut_string Try.underlying9 w0) (trodAll_cons_mk (shut_string Try.underlying9 w1) trodAll_mk0)), rfl, bel.frame _, fun h => by cases h⟩
theorem over : Rows.sealBackRow.holds Try.pinned (OpenSpec.ofChange Rows.sealBackSpec) :=
  OpenClaim.holds_of_wide 4 Try.f4 rfl rfl rfl rfl rfl rfl rfl ⟨rfl, rfl, rfl, rfl, rfl⟩ rfl rfl rfl rfl rfl (by kernel_rfl) Try.func4 (by kernel_rfl)
    (of_decide_eq_true (by kernel_rfl)) (by unfold Func.isWrapper; first | (rw [if_pos (by decide +kernel)]; kernel_rfl) | (rw [if_neg (by decide +kernel)]; exact ⟨rfl, rfl⟩))
    (fun os started H enc _ => lifted os started H enc)
/-- the statement -/
theorem proved : Rows.SealBackSaid := over
#print axioms proved
end Go.Proofs.Ytabfjlokemkpjaa.sealBack
