/-
  SealBits holds for every input: a sealed text of which one, two or three bits are turned over isn't sealed. No condition.
-/
import Derived.Test.YtabfjlokemkpjaaSAwake
import Derived.Test.YtabfjlokemkpjaaSTurn
import Derived.ProofKit
import Derived.OpenShut
import Derived.ShutString
import Derived.ChangeOld
import Derived.WalkSmall
namespace Go.Proofs.Ytabfjlokemkpjaa.sealBits
open Go.ChangeShapes Go.WideShapes Go.ChangeAt Go.RowKit
open Go.ChangeMaps (open_string shut_string)
set_option linter.unusedVariables false

theorem walk (a0 : ByteArray) (a1 a2 a3 : Int) (w : World) (w0 : a0.size ≤ maxLen) (w1 : (Lit.int .i64 a1).wf = true) (w2 : (Lit.int .i64 a2).wf = true) (w3 : (Lit.int .i64 a3).wf = true) :
    Calls Try.prog 6 #[.string a0, .int .i64 a1, .int .i64 a2, .int .i64 a3] w fun e w' => e = .returned (.bool true) ∧ Below w.heap.size w w' := by
  have b1 := bounds_i64 w1
  have b2 := bounds_i64 w2
  have b3 := bounds_i64 w3
  unfold maxLen at w0
  clear w1 w2 w3
  obtain ⟨n, hn⟩ : ∃ n, n = min a0.size 996 := ⟨_, rfl⟩
  have n1 : n ≤ 996 := by omega
  have n2 : n ≤ a0.size := by omega
  have hm : min (a0.size : Int) 996 = (n : Int) := by omega
  clear hn
  go_enter Try.func6, Try.ntmps6
  go_wp2_with fail
  refine (awake_any _).mono ?_
  rintro e w1 ⟨rfl, hb1⟩
  have HB1 := Lib.hid hb1
  have hs1 := hb1.size
  clear hb1
  go_wp2_with fail
  refine (seal_any (a0.extract 0 n) _ (by rw [ByteArray.size_extract]; omega)).mono ?_
  rintro e w2 ⟨X, rfl, hX, hb2⟩
  have HB2 := Lib.hid (HB1.out.trans (hb2.mono hs1))
  have hs2 := HB2.out.size
  clear hb2 HB1
  have x1 : X.size ≤ 1000 := by rw [size_list, hX, Sm.sealed_length, ← size_list, ByteArray.size_extract]; omega
  have x2 : 4 ≤ X.size := by rw [size_list, hX, Sm.sealed_length]; omega
  have XO : Hid (Sm.okB X.data.toList = true) := by show Sm.okB X.data.toList = true; rw [hX]; exact Sm.sealed_ok _
  clear hX
  go_wp2_with fail
  refine (turn_any X a1 _ (by omega) (by omega) (by omega)).mono ?_
  rintro e w3 ⟨Y, rfl, hY, hb3⟩
  have HB3 := Lib.hid (HB2.out.trans (hb3.mono hs2))
  have hs3 := HB3.out.size
  clear hb3 HB2
  have y1 : Y.size = X.size := by rw [size_list, hY, Sm.turnI_length, ← size_list]
  have y2 : Y.size ≤ 1000 := by omega
  have HY := Lib.hid hY
  clear hY y1
  go_wp2_with fail
  refine (turn_any Y a2 _ (by omega) (by omega) (by omega)).mono ?_
  rintro e w4 ⟨Z, rfl, hZ, hb4⟩
  have HB4 := Lib.hid (HB3.out.trans (hb4.mono hs3))
  have hs4 := HB4.out.size
  clear hb4 HB3
  have z1 : Z.size = Y.size := by rw [size_list, hZ, Sm.turnI_length, ← size_list]
  have z2 : Z.size ≤ 1000 := by omega
  have HZ := Lib.hid hZ
  clear hZ z1
  go_wp2_with fail
  refine (turn_any Z a3 _ (by omega) (by omega) (by omega)).mono ?_
  rintro e w5 ⟨V, rfl, hV, hb5⟩
  have HB5 := Lib.hid (HB4.out.trans (hb5.mono hs4))
  have hs5 := HB5.out.size
  clear hb5 HB4
  have v1 : V.size = Z.size := by rw [size_list, hV, Sm.turnI_length, ← size_list]
  have v2 : V.size ≤ 1000 := by omega
  have HV : Hid (V.data.toList = Sm.turnI (Sm.turnI (Sm.turnI X.data.toList a1) a2) a3) := by
    show V.data.toList = Sm.turnI (Sm.turnI (Sm.turnI X.data.toList a1) a2) a3
    rw [hV, HZ.out, HY.out]
  clear hV v1 HZ HY
  go_wp2_with fail
  refine (open_any V _ (by omega)).mono ?_
  rintro e w6 ⟨S, rfl, hS, hb6⟩
  have HB6 := Lib.hid (HB5.out.trans (hb6.mono hs5))
  have hs6 := HB6.out.size
  clear hb6 HB5
  clear hS
  cases ho : Sm.okB V.data.toList with
  | true =>
    have hv : V = X := text_eq (by
      have h := Sm.bits_seen X.data.toList XO.out (by rw [← size_list]; exact x2) (by rw [← size_list]; exact x1) a1 a2 a3 (by rw [← HV.out]; exact ho)
      rw [HV.out, h])
    clear ho HV
    subst hv
    go_wp2
    go_ret
    exact ⟨rfl, HB6.out⟩
  | false =>
    have hv : (V.toList == X.toList) = false := by
      rw [beq_eq_false_iff_ne]
      intro h; rw [toList_inj h, XO.out] at ho; cases ho
    clear ho HV XO
    go_wp2
    go_ret
    exact ⟨rfl, HB6.out⟩
theorem own : ownKnob Try.prog.godebug = none := by kernel_rfl
theorem laidOut : laidOutB Try.prog = true := by kernel_rfl
set_option maxRecDepth 100000 in
theorem lifted (os : Os) (started : os.Started) (H : Type) (enc : TypeId × Value → H) :
    ReturnsInHanded {} Try.checked os 6 .any (Rows.sealBitsSpec.pre6 enc Try.prog Try.f6 Rows.sealBitsRow.domain false) (Rows.sealBitsSpec.post enc Try.prog Try.f6 false true false false) := by
  refine returnsInHanded_of_change (C := Try.checked) own started (by kernel_rfl) Try.func6
    (ChangeSpec.witness6 (enc := enc) (C := Try.checked) false ⟨#[], #[.string ByteArray.empty, .int .i64 0, .int .i64 0, .int .i64 0], []⟩ 8 (by kernel_rfl) (by kernel_rfl) (by kernel_rfl) (by kernel_rfl)) ?_
  intro W base args ds gs before hval0 hW hcnd _
  have hval : ∀ (j : Nat) t v, Try.f6.params[j]? = some t → args[j]? = some v → Value.okWide Try.prog W .any base t v := hval0
  have hW' := hW
  obtain ⟨p, q, hA0, hV, rfl, hfz, hnd⟩ := hW
  have hA : DataW.TrodAll enc Try.prog W 0 (fun _ => true) true Try.f6.params.toList args.toList ds p := hA0
  rw [Try.params6] at hA hval
  obtain ⟨v0, vs0, d0, ds0, p0, q0, hargs, rfl, rfl, h0, r0⟩ := trodAll_cons hA
  obtain ⟨v1, vs1, d1, ds1, p1, q1, rfl, rfl, rfl, h1, r1⟩ := trodAll_cons r0
  obtain ⟨v2, vs2, d2, ds2, p2, q2, rfl, rfl, rfl, h2, r2⟩ := trodAll_cons r1
  obtain ⟨v3, vs3, d3, ds3, p3, q3, rfl, rfl, rfl, h3, r3⟩ := trodAll_cons r2
  obtain ⟨rfl, rfl, rfl⟩ := trodAll_nil r3
  obtain rfl : args = #[v0, v1, v2, v3] := by cases args; simp_all
  obtain ⟨rfl, rfl⟩ := trodVars_none hV
  obtain ⟨a0, rfl, rfl, rfl, w0⟩ := open_string Try.underlying9 (hval 0 9 v0 rfl rfl) h0
  obtain ⟨a1, rfl, rfl, rfl, w1⟩ := open_int Try.underlying3 (hval 1 3 v1 rfl rfl) h1
  obtain ⟨a2, rfl, rfl, rfl, w2⟩ := open_int Try.underlying3 (hval 2 3 v2 rfl rfl) h2
  obtain ⟨a3, rfl, rfl, rfl, w3⟩ := open_int Try.underlying3 (hval 3 3 v3 rfl rfl) h3
  clear hA0 hval0
  refine (walk a0 a1 a2 a3 W w0 w1 w2 w3).mono fun e W' ⟨he, bel⟩ => ?_
  subst he
  exact ⟨_, rfl, _, _, _, [], _, [], hW', trodAll_mk1 (shut_bool Try.underlying4 _), (trodAll_cons_mk (shut_string Try.underlying9 w0) (trodAll_cons_mk (shut_int Try.underlying3 w1) (trodAll_cons_mk (shut_int Try.underlying3 w2) (trodAll_cons_mk (shut_int Try.underlying3 w3) trodAll_mk0)))), rfl, bel.frame _, fun h => by cases h⟩
theorem over : Rows.sealBitsRow.holds Try.pinned (OpenSpec.ofChange Rows.sealBitsSpec) :=
  OpenClaim.holds_of_wide 6 Try.f6 rfl rfl rfl rfl rfl rfl rfl ⟨rfl, rfl, rfl, rfl, rfl⟩ rfl rfl rfl rfl rfl (by kernel_rfl) Try.func6 (by kernel_rfl)
    (of_decide_eq_true (by kernel_rfl)) (by unfold Func.isWrapper; first | (rw [if_pos (by decide +kernel)]; kernel_rfl) | (rw [if_neg (by decide +kernel)]; exact ⟨rfl, rfl⟩))
    (fun os started H enc _ => lifted os started H enc)
/-- the statement -/
theorem proved : Rows.SealBitsSaid := over
#print axioms proved
end Go.Proofs.Ytabfjlokemkpjaa.sealBits
