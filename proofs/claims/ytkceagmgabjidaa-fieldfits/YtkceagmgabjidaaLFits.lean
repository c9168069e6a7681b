/-
  FieldFits holds for every input: a number that fits into a field comes back as it was, and not one that doesn't; a size more lets it fit still. No condition.
-/
import Derived.Test.YtkceagmgabjidaaFAwake
import Derived.ProofKit
import Derived.OpenShut
import Derived.ShutString
import Derived.ChangeOld
namespace Go.Proofs.Ytkceagmgabjidaa.fieldFits
open Go.ChangeShapes Go.WideShapes Go.ChangeAt Go.RowKit
open Go.ChangeMaps (open_string shut_string)
set_option linter.unusedVariables false

theorem fits_law (n z : Nat) (hn : n ≤ 9223372036854775807) (z1 : 1 ≤ z) (z2 : z ≤ 8) :
    (getN ⟨(putL n z).toArray⟩ 0 z : Nat) = n % Fm.pw z ∧ hasB (ByteArray.size ⟨(putL n z).toArray⟩) 0 z = true := by
  have e : putL n z = Fm.fld n z := by unfold putL; rw [if_pos (by omega)]; rfl
  have hs : ByteArray.size ⟨(Fm.fld n z).toArray⟩ = z := by simp [ByteArray.size, Fm.fld_length]
  have hb : hasB (ByteArray.size ⟨(putL n z).toArray⟩) 0 z = true := by rw [e, hs]; unfold hasB; simp; omega
  refine ⟨?_, hb⟩
  unfold getN
  rw [hb, if_pos rfl, e]
  have : (((Fm.fld n z).toArray.toList.drop (0 : Int).toNat).take (z : Int).toNat) = Fm.fld n z := by
    simp; rw [List.take_of_length_le (by rw [Fm.fld_length]; omega)]
  show Fm.val _ = _
  rw [this, Fm.val_fld]
theorem fits_iff (n z : Nat) : Fm.fitsB n z = (((n % Fm.pw z : Nat) : Int) == (n : Int)) := by
  have hp := Fm.pw_pos z
  unfold Fm.fitsB
  rw [Bool.eq_iff_iff]
  simp only [Int.toNat_natCast, decide_eq_true_eq, beq_iff_eq]
  constructor
  · intro h; rw [Nat.mod_eq_of_lt (by omega)]
  · intro h
    have := Nat.mod_lt n hp
    omega
theorem fits_more (n z : Nat) (h : Fm.fitsB n z = true) : Fm.fitsB n ((z : Int) + 1) = true := by
  have hp := Fm.pw_pos z
  unfold Fm.fitsB at *
  simp only [decide_eq_true_eq] at *
  rw [show ((z : Int) + 1).toNat = z + 1 from by omega, Fm.pw_succ]
  rw [Int.toNat_natCast] at h
  omega

theorem walk (a0 : Int) (a1 : Int) (w : World) (w0 : (Lit.int .i64 a0).wf = true) (w1 : (Lit.int .i64 a1).wf = true) :
    Calls Try.prog 8 #[.int .i64 a0, .int .i64 a1] w fun e w' => e = .returned (.bool true) ∧ Below w.heap.size w w' := by
  have b0 := bounds_i64 w0
  have b1 := bounds_i64 w1
  by_cases h0 : a0 < 0
  · go_enter Try.func8, Try.ntmps8
    go_wp2_with fail
    refine (awake_any _).mono ?_
    rintro e w1 ⟨rfl, hb1⟩
    have HB1 := Lib.hid hb1
    clear hb1
    go_wp2
    go_ret
    exact ⟨rfl, HB1.out⟩
  have h0' : 0 ≤ a0 := by omega
  by_cases h1 : a1 < 1
  · go_enter Try.func8, Try.ntmps8
    go_wp2_with fail
    refine (awake_any _).mono ?_
    rintro e w1 ⟨rfl, hb1⟩
    have HB1 := Lib.hid hb1
    clear hb1
    go_wp2
    go_ret
    exact ⟨rfl, HB1.out⟩
  have h1' : 1 ≤ a1 := by omega
  by_cases h2 : 8 < a1
  · go_enter Try.func8, Try.ntmps8
    go_wp2_with fail
    refine (awake_any _).mono ?_
    rintro e w1 ⟨rfl, hb1⟩
    have HB1 := Lib.hid hb1
    clear hb1
    go_wp2
    go_ret
    exact ⟨rfl, HB1.out⟩
  have h2' : a1 ≤ 8 := by omega
  clear h0 h1 h2
  obtain ⟨n, rfl⟩ := Int.eq_ofNat_of_zero_le h0'
  obtain ⟨z, rfl⟩ := Int.eq_ofNat_of_zero_le (show 0 ≤ a1 by omega)
  obtain ⟨eN, eB⟩ := fits_law n z (by omega) (by omega) (by omega)
  have EN := Lib.hid eN
  have EB := Lib.hid eB
  have EI := Lib.hid (fits_iff n z)
  clear eN eB
  have hsz : ByteArray.size ⟨(putL n z).toArray⟩ ≤ maxLen := by
    have e : putL n z = Fm.fld n z := by unfold putL; rw [if_pos (by omega)]; rfl
    rw [e]; simp [ByteArray.size, Fm.fld_length, maxLen]; omega
  go_enter Try.func8, Try.ntmps8
  go_wp2_with fail
  refine (awake_any _).mono ?_
  rintro e w1 ⟨rfl, hb1⟩
  have HB1 := Lib.hid hb1
  have hs1 := hb1.size
  clear hb1
  go_wp2_with fail
  refine (put_any _ _ _ (by omega) (by omega)).mono ?_
  rintro e w2 ⟨rfl, hb2⟩
  have HB2 := Lib.hid (HB1.out.trans (hb2.mono hs1))
  clear hb2 HB1
  go_wp2_with fail
  refine (get_any _ _ _ _ hsz).mono ?_
  rintro e w3 ⟨rfl, rfl⟩
  rw [EN.out, EB.out]
  go_wp2_with fail
  refine (fits_any _ _ _ (by omega) (by omega)).mono ?_
  rintro e w3 ⟨rfl, rfl⟩
  go_wp2_with fail
  refine (fits_any _ _ _ (by omega) (by omega)).mono ?_
  rintro e w3 ⟨rfl, rfl⟩
  cases hf : Fm.fitsB n z with
  | false =>
    rw [hf] at EI
    have EI' := Lib.hid EI.out.symm
    clear EI
    go_wp2
    go_ret
    exact ⟨rfl, HB2.out⟩
  | true =>
    have hm := fits_more n z hf
    go_wp2_with fail
    refine (fits_any _ _ _ (by omega) (by omega)).mono ?_
    rintro e w3 ⟨rfl, rfl⟩
    rw [hm]
    go_wp2
    go_ret
    exact ⟨rfl, HB2.out⟩
theorem own : ownKnob Try.prog.godebug = none := by kernel_rfl
theorem laidOut : laidOutB Try.prog = true := by kernel_rfl
set_option maxRecDepth 100000 in
theorem lifted (os : Os) (started : os.Started) (H : Type) (enc : TypeId × Value → H) :
    ReturnsInHanded {} Try.checked os 8 .any (Rows.fieldFitsSpec.pre6 enc Try.prog Try.f8 Rows.fieldFitsRow.domain false) (Rows.fieldFitsSpec.post enc Try.prog Try.f8 false true false false) := by
  refine returnsInHanded_of_change (C := Try.checked) own started (by kernel_rfl) Try.func8
    (ChangeSpec.witness6 (enc := enc) (C := Try.checked) false ⟨#[], #[.int .i64 0, .int .i64 0], []⟩ 8 (by kernel_rfl) (by kernel_rfl) (by kernel_rfl) (by kernel_rfl)) ?_
  intro W base args ds gs before hval0 hW hcnd _
  have hval : ∀ (j : Nat) t v, Try.f8.params[j]? = some t → args[j]? = some v → Value.okWide Try.prog W .any base t v := hval0
  have hW' := hW
  obtain ⟨p, q, hA0, hV, rfl, hfz, hnd⟩ := hW
  have hA : DataW.TrodAll enc Try.prog W 0 (fun _ => true) true Try.f8.params.toList args.toList ds p := hA0
  rw [Try.params8] at hA hval
  obtain ⟨v0, vs0, d0, ds0, p0, q0, hargs, rfl, rfl, h0, r0⟩ := trodAll_cons hA
  obtain ⟨v1, vs1, d1, ds1, p1, q1, rfl, rfl, rfl, h1, r1⟩ := trodAll_cons r0
  obtain ⟨rfl, rfl, rfl⟩ := trodAll_nil r1
  obtain rfl : args = #[v0, v1] := by cases args; simp_all
  obtain ⟨rfl, rfl⟩ := trodVars_none hV
  obtain ⟨a0, rfl, rfl, rfl, w0⟩ := open_int Try.underlying3 (hval 0 3 v0 rfl rfl) h0
  obtain ⟨a1, rfl, rfl, rfl, w1⟩ := open_int Try.underlying3 (hval 1 3 v1 rfl rfl) h1
  clear hA0 hval0
  refine (walk a0 a1 W w0 w1).mono fun e W' ⟨he, bel⟩ => ?_
  subst he
  exact ⟨_, rfl, _, _, _, [], _, [], hW', trodAll_mk1 (shut_bool Try.underlying4 _), (trodAll_cons_mk (shut_int Try.underlying3 w0) (trodAll_cons_mk (shut_int Try.underlying3 w1) trodAll_mk0)), rfl, bel.frame _, fun h => by cases h⟩
theorem over : Rows.fieldFitsRow.holds Try.pinned (OpenSpec.ofChange Rows.fieldFitsSpec) :=
  OpenClaim.holds_of_wide 8 Try.f8 rfl rfl rfl rfl rfl rfl rfl ⟨rfl, rfl, rfl, rfl, rfl⟩ rfl rfl rfl rfl rfl (by kernel_rfl) Try.func8 (by kernel_rfl)
    (of_decide_eq_true (by kernel_rfl)) (by unfold Func.isWrapper; first | (rw [if_pos (by decide +kernel)]; kernel_rfl) | (rw [if_neg (by decide +kernel)]; exact ⟨rfl, rfl⟩))
    (fun os started H enc _ => lifted os started H enc)
/-- the statement -/
theorem proved : Rows.FieldFitsSaid := over
#print axioms proved
end Go.Proofs.Ytkceagmgabjidaa.fieldFits
