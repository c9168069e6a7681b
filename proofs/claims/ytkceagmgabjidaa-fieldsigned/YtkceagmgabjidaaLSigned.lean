/-
  FieldSigned holds for every input: a number with a sign that fits into a field is told by it as it was. No condition.
-/
import Derived.Test.YtkceagmgabjidaaFAwake
import Derived.ProofKit
import Derived.OpenShut
import Derived.ShutString
import Derived.ChangeOld
namespace Go.Proofs.Ytkceagmgabjidaa.fieldSigned
open Go.ChangeShapes Go.WideShapes Go.ChangeAt Go.RowKit
open Go.ChangeMaps (open_string shut_string)
set_option linter.unusedVariables false

/-- what is put is got, of any number -/
theorem put_get (n z : Nat) (hn : n < 18446744073709551616) (z1 : 1 ≤ z) (z2 : z ≤ 8) :
    (getN ⟨(putL n z).toArray⟩ 0 z : Nat) = n % Fm.pw z ∧ hasB (ByteArray.size ⟨(putL n z).toArray⟩) 0 z = true ∧ ByteArray.size ⟨(putL n z).toArray⟩ ≤ maxLen := by
  have e : putL n z = Fm.fld n z := by unfold putL; rw [if_pos (by omega)]; rfl
  have hs : ByteArray.size ⟨(Fm.fld n z).toArray⟩ = z := by simp [ByteArray.size, Fm.fld_length]
  have hb : hasB (ByteArray.size ⟨(putL n z).toArray⟩) 0 z = true := by rw [e, hs]; unfold hasB; simp; omega
  refine ⟨?_, hb, by rw [e, hs]; unfold maxLen; omega⟩
  unfold getN
  rw [hb, if_pos rfl, e]
  have : (((Fm.fld n z).toArray.toList.drop (0 : Int).toNat).take (z : Int).toNat) = Fm.fld n z := by
    simp; rw [List.take_of_length_le (by rw [Fm.fld_length]; omega)]
  show Fm.val _ = _
  rw [this, Fm.val_fld]
/-- a number with a sign that fits is told as it was -/
theorem sgn_back (n : Int) (m z : Nat) (b0 : -9223372036854775808 ≤ n) (b1 : n ≤ 9223372036854775807) (hm : (m : Int) = IntKind.u64.wrap n) (z1 : 1 ≤ z) (z2 : z ≤ 8)
    (h : z < 8 → -(2 ^ (8 * z - 1)) ≤ n ∧ n < 2 ^ (8 * z - 1)) : Fm.sgn ((m % Fm.pw z : Nat) : Int) z = n := by
  rw [IntKind.wrap_u64] at hm
  unfold Fm.sgn Fm.pw
  rw [if_pos (by omega)]
  rcases (show z = 1 ∨ z = 2 ∨ z = 3 ∨ z = 4 ∨ z = 5 ∨ z = 6 ∨ z = 7 ∨ z = 8 from by omega) with rfl | rfl | rfl | rfl | rfl | rfl | rfl | rfl
  all_goals
    simp at h ⊢
    split <;> omega

theorem walk (a0 : Int) (a1 : Int) (w : World) (w0 : (Lit.int .i64 a0).wf = true) (w1 : (Lit.int .i64 a1).wf = true) :
    Calls Try.prog 5 #[.int .i64 a0, .int .i64 a1] w fun e w' => e = .returned (.bool true) ∧ Below w.heap.size w w' := by
  have b0 := bounds_i64 w0
  have b1 := bounds_i64 w1
  obtain ⟨m, hm⟩ : ∃ m : Nat, (m : Int) = IntKind.u64.wrap a0 := ⟨(IntKind.u64.wrap a0).toNat, by rw [IntKind.wrap_u64]; omega⟩
  have m1 : m < 18446744073709551616 := by rw [IntKind.wrap_u64] at hm; omega
  have HM := Lib.hid hm
  clear hm
  by_cases h1 : a1 < 1
  · go_enter Try.func5, Try.ntmps5
    go_wp2_with fail
    refine (awake_any _).mono ?_
    rintro e w1 ⟨rfl, hb1⟩
    have HB1 := Lib.hid hb1
    clear hb1
    go_wp2_with fail
    refine (signed_no _ _ _ (.inl h1)).mono ?_
    rintro e w2 ⟨rfl, rfl⟩
    go_wp2
    go_ret
    exact ⟨rfl, HB1.out⟩
  by_cases h2 : 8 < a1
  · have h1' : 1 ≤ a1 := by omega
    go_enter Try.func5, Try.ntmps5
    go_wp2_with fail
    refine (awake_any _).mono ?_
    rintro e w1 ⟨rfl, hb1⟩
    have HB1 := Lib.hid hb1
    clear hb1
    go_wp2_with fail
    refine (signed_no _ _ _ (.inr h2)).mono ?_
    rintro e w2 ⟨rfl, rfl⟩
    go_wp2
    go_ret
    exact ⟨rfl, HB1.out⟩
  obtain ⟨z, rfl⟩ := Int.eq_ofNat_of_zero_le (show 0 ≤ a1 by omega)
  have z1 : 1 ≤ z := by omega
  have z2 : z ≤ 8 := by omega
  clear h1 h2
  obtain ⟨eN, eB, eL⟩ := put_get m z m1 z1 z2
  have EN := Lib.hid eN
  have EB := Lib.hid eB
  have HL := Lib.hid eL
  clear eN eB eL
  have hp := Fm.pw_pos z
  have hp8 : Fm.pw z ≤ 18446744073709551616 := by rw [← Fm.pw_eight]; exact Fm.pw_mono z2
  have hr0 : m % Fm.pw z < Fm.pw z := Nat.mod_lt _ hp
  by_cases h8 : z = 8
  · have HS := Lib.hid (sgn_back a0 m z b0.1 b0.2 HM.out z1 z2 (by omega))
    have h8' : 8 ≤ z := by omega
    clear h8
    go_enter Try.func5, Try.ntmps5
    go_wp2_with fail
    refine (awake_any _).mono ?_
    rintro e w1 ⟨rfl, hb1⟩
    have HB1 := Lib.hid hb1
    have hs1 := hb1.size
    clear hb1
    go_wp2_with fail
    rw [← HM.out]
    refine (put_any _ _ _ (by omega) (by omega)).mono ?_
    rintro e w2 ⟨rfl, hb2⟩
    have HB2 := Lib.hid (HB1.out.trans (hb2.mono hs1))
    clear hb2 HB1
    go_wp2_with fail
    refine (get_any _ _ _ _ HL.out).mono ?_
    rintro e w3 ⟨rfl, rfl⟩
    rw [EN.out, EB.out]
    go_wp2_with fail
    refine (signed_yes _ _ _ (by omega) (by omega) (by omega) (by omega)).mono ?_
    rintro e w3 ⟨rfl, rfl⟩
    go_wp2
    go_ret
    exact ⟨ret_bool (by rw [beq_iff_eq]; have := HS.out; rw [Int.natCast_emod] at this; exact this), HB2.out⟩
  have hp0 : 1 ≤ (2 : Int) ^ (8 * z - 1) := by
    have := Nat.pow_pos (n := 8 * z - 1) (show 0 < 2 by omega)
    have e : ((2 ^ (8 * z - 1) : Nat) : Int) = (2 : Int) ^ (8 * z - 1) := by simp
    rw [← e]; omega
  have hp1 : (2 : Int) ^ (8 * z - 1) ≤ 36028797018963968 := by
    have := Nat.pow_le_pow_right (n := 2) (by omega) (show 8 * z - 1 ≤ 55 by omega)
    have e : ((2 ^ (8 * z - 1) : Nat) : Int) = (2 : Int) ^ (8 * z - 1) := by simp
    rw [← e]; omega
  have h8' : z < 8 := by omega
  by_cases hlo : a0 < -(2 : Int) ^ (8 * z - 1)
  · clear EN EB HL
    go_enter Try.func5, Try.ntmps5
    go_wp2_with fail
    refine (awake_any _).mono ?_
    rintro e w1 ⟨rfl, hb1⟩
    have HB1 := Lib.hid hb1
    have hs1 := hb1.size
    clear hb1
    go_wp2
    go_ret
    exact ⟨rfl, HB1.out⟩
  by_cases hhi : (2 : Int) ^ (8 * z - 1) ≤ a0
  · clear EN EB HL
    go_enter Try.func5, Try.ntmps5
    go_wp2_with fail
    refine (awake_any _).mono ?_
    rintro e w1 ⟨rfl, hb1⟩
    have HB1 := Lib.hid hb1
    have hs1 := hb1.size
    clear hb1
    go_wp2
    go_ret
    exact ⟨rfl, HB1.out⟩
  · have HS := Lib.hid (sgn_back a0 m z b0.1 b0.2 HM.out z1 z2 (by omega))
    go_enter Try.func5, Try.ntmps5
    go_wp2_with fail
    refine (awake_any _).mono ?_
    rintro e w1 ⟨rfl, hb1⟩
    have HB1 := Lib.hid hb1
    have hs1 := hb1.size
    clear hb1
    go_wp2_with fail
    rw [← HM.out]
    refine (put_any _ _ _ (by omega) (by omega)).mono ?_
    rintro e w2 ⟨rfl, hb2⟩
    have HB2 := Lib.hid (HB1.out.trans (hb2.mono hs1))
    clear hb2 HB1
    go_wp2_with fail
    refine (get_any _ _ _ _ HL.out).mono ?_
    rintro e w3 ⟨rfl, rfl⟩
    rw [EN.out, EB.out]
    go_wp2_with fail
    refine (signed_yes _ _ _ (by omega) (by omega) (by omega) (by omega)).mono ?_
    rintro e w3 ⟨rfl, rfl⟩
    go_wp2
    go_ret
    exact ⟨ret_bool (by rw [beq_iff_eq]; have := HS.out; rw [Int.natCast_emod] at this; exact this), HB2.out⟩
theorem own : ownKnob Try.prog.godebug = none := by kernel_rfl
theorem laidOut : laidOutB Try.prog = true := by kernel_rfl
set_option maxRecDepth 100000 in
theorem lifted (os : Os) (started : os.Started) (H : Type) (enc : TypeId × Value → H) :
    ReturnsInHanded {} Try.checked os 5 .any (Rows.fieldSignedSpec.pre6 enc Try.prog Try.f5 Rows.fieldSignedRow.domain false) (Rows.fieldSignedSpec.post enc Try.prog Try.f5 false true false false) := by
  refine returnsInHanded_of_change (C := Try.checked) own started (by kernel_rfl) Try.func5
    (ChangeSpec.witness6 (enc := enc) (C := Try.checked) false ⟨#[], #[.int .i64 0, .int .i64 0], []⟩ 8 (by kernel_rfl) (by kernel_rfl) (by kernel_rfl) (by kernel_rfl)) ?_
  intro W base args ds gs before hval0 hW hcnd _
  have hval : ∀ (j : Nat) t v, Try.f5.params[j]? = some t → args[j]? = some v → Value.okWide Try.prog W .any base t v := hval0
  have hW' := hW
  obtain ⟨p, q, hA0, hV, rfl, hfz, hnd⟩ := hW
  have hA : DataW.TrodAll enc Try.prog W 0 (fun _ => true) true Try.f5.params.toList args.toList ds p := hA0
  rw [Try.params5] at hA hval
  obtain ⟨v0, vs0, d0, ds0, p0, q0, hargs, rfl, rfl, h0, r0⟩ := trodAll_cons hA
  obtain ⟨v1, vs1, d1, ds1, p1, q1, rfl, rfl, rfl, h1, r1⟩ := trodAll_cons r0
  obtain ⟨rfl, rfl, rfl⟩ := trodAll_nil r1
  obtain rfl : args = #[v0, v1] := by cases args; simp_all
  obtain ⟨rfl, rfl⟩ := trodVars_none hV
  obtain ⟨a0, rfl, rfl, rfl, w0⟩ := open_int Try.underlying2 (hval 0 2 v0 rfl rfl) h0
  obtain ⟨a1, rfl, rfl, rfl, w1⟩ := open_int Try.underlying3 (hval 1 3 v1 rfl rfl) h1
  clear hA0 hval0
  refine (walk a0 a1 W w0 w1).mono fun e W' ⟨he, bel⟩ => ?_
  subst he
  exact ⟨_, rfl, _, _, _, [], _, [], hW', trodAll_mk1 (shut_bool Try.underlying4 _), (trodAll_cons_mk (shut_int Try.underlying2 w0) (trodAll_cons_mk (shut_int Try.underlying3 w1) trodAll_mk0)), rfl, bel.frame _, fun h => by cases h⟩
theorem over : Rows.fieldSignedRow.holds Try.pinned (OpenSpec.ofChange Rows.fieldSignedSpec) :=
  OpenClaim.holds_of_wide 5 Try.f5 rfl rfl rfl rfl rfl rfl rfl ⟨rfl, rfl, rfl, rfl, rfl⟩ rfl rfl rfl rfl rfl (by kernel_rfl) Try.func5 (by kernel_rfl)
    (of_decide_eq_true (by kernel_rfl)) (by unfold Func.isWrapper; first | (rw [if_pos (by decide +kernel)]; kernel_rfl) | (rw [if_neg (by decide +kernel)]; exact ⟨rfl, rfl⟩))
    (fun os started H enc _ => lifted os started H enc)
/-- the statement -/
theorem proved : Rows.FieldSignedSaid := over
#print axioms proved
end Go.Proofs.Ytkceagmgabjidaa.fieldSigned
