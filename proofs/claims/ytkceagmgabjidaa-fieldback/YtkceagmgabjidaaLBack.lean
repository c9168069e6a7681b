/-
  FieldBack holds for every input: what is put is got, wherever it stands; of a number that fits all of it; of any one its lowest bytes. No condition.
-/
import Derived.Test.YtkceagmgabjidaaFAwake
import Derived.ProofKit
import Derived.OpenShut
import Derived.ShutString
import Derived.ChangeOld
import Derived.Deep.DeepCutAuto
namespace Go.Proofs.Ytkceagmgabjidaa.fieldBack
open Go.ChangeShapes Go.WideShapes Go.ChangeAt Go.RowKit
open Go.ChangeMaps (open_string shut_string)
set_option linter.unusedVariables false

theorem put_text (n z : Nat) (w : World) (hn : n < 18446744073709551616) (z1 : 1 ≤ z) (z2 : z ≤ 8) :
    Calls Try.prog 13 #[.int .u64 n, .int .i64 z] w fun e w' => ∃ S : ByteArray, e = .returned (.string S) ∧ S.data.toList = Fm.fld n z ∧ Below w.heap.size w w' :=
  (put_yes n z w hn z1 z2).mono fun _ _ h => ⟨_, h.1, rfl, h.2⟩
theorem size_list (s : ByteArray) : s.size = s.data.toList.length := by simp
theorem text_eq {a b : ByteArray} (h : a.data.toList = b.data.toList) : a = b := by
  cases a; cases b; simp at h; simpa using h
theorem list_app (a b : ByteArray) : (a ++ b).data.toList = a.data.toList ++ b.data.toList := by simp
theorem back_get (a S b : ByteArray) (n z : Nat) (hS : S.data.toList = Fm.fld n z) (z1 : 1 ≤ z) (z2 : z ≤ 8) :
    getN (a ++ S ++ b) a.size z = n % Fm.pw z ∧ hasB (a ++ S ++ b).size a.size z = true ∧ hasB (a ++ S).size ((a.size : Int) + 1) z = false := by
  have hz : S.size = z := by rw [size_list, hS, Fm.fld_length]
  have hb : hasB (a ++ S ++ b).size a.size z = true := by
    unfold hasB; simp [ByteArray.size_append, hz]; omega
  refine ⟨?_, hb, ?_⟩
  · unfold getN
    rw [hb, if_pos rfl, list_app, list_app, hS]
    have e : ((a.data.toList ++ Fm.fld n z ++ b.data.toList).drop (a.size : Int).toNat).take (z : Int).toNat = Fm.fld n z := by
      rw [Int.toNat_natCast, Int.toNat_natCast, List.append_assoc, List.drop_left' (by rw [size_list]), List.take_left' (Fm.fld_length n z)]
    rw [e, Fm.val_fld]
  · unfold hasB; simp [ByteArray.size_append, hz]; omega
theorem and_low (n z : Nat) (hn : n < 18446744073709551616) (hz : z ≤ 7) : bits .and .u64 (n : Int) ((2 : Int) ^ (8 * z) - 1) = ((n % Fm.pw z : Nat) : Int) := by
  have hp : 2 ^ (8 * z) ≤ 2 ^ 56 := Nat.pow_le_pow_right (by omega) (by omega)
  have hp0 : 0 < 2 ^ (8 * z) := Nat.pow_pos (by omega)
  have e : ((2 : Int) ^ (8 * z) - 1) = ((2 ^ (8 * z) - 1 : Nat) : Int) := by
    have : ((2 ^ (8 * z) : Nat) : Int) = (2 : Int) ^ (8 * z) := by simp
    rw [← this]; omega
  have h1 : (BitVec.ofInt 64 (n : Int)).toNat = n := by
    rw [BitVec.ofInt_natCast, BitVec.toNat_ofNat]; exact Nat.mod_eq_of_lt (by simpa using hn)
  have h2 : (BitVec.ofInt 64 ((2 ^ (8 * z) - 1 : Nat) : Int)).toNat = 2 ^ (8 * z) - 1 := by
    rw [BitVec.ofInt_natCast, BitVec.toNat_ofNat]; exact Nat.mod_eq_of_lt (by omega)
  rw [e]
  show IntKind.u64.wrap ((BitVec.ofInt 64 (n : Int) &&& BitVec.ofInt 64 ((2 ^ (8 * z) - 1 : Nat) : Int)).toNat : Int) = _
  rw [BitVec.toNat_and, h1, h2, Nat.and_two_pow_sub_one_eq_mod, IntKind.wrap_u64, Fm.pw_two]
  have := Nat.mod_lt n hp0
  omega
theorem fits_same (n z : Nat) (h : Fm.fitsB n z = true) : n % Fm.pw z = n := by
  unfold Fm.fitsB at h
  simp only [decide_eq_true_eq, Int.toNat_natCast] at h
  exact Nat.mod_eq_of_lt (by omega)

set_option maxRecDepth 100000 in
theorem walk (a0 a1 : Int) (a2 a3 : ByteArray) (w : World) (w0 : (Lit.int .u64 a0).wf = true) (w1 : (Lit.int .i64 a1).wf = true) (w2 : a2.size ≤ maxLen) (w3 : a3.size ≤ maxLen) :
    Calls Try.prog 4 #[.int .u64 a0, .int .i64 a1, .string a2, .string a3] w fun e w' => e = .returned (.bool true) ∧ Below w.heap.size w w' := by
  have b0 := bounds_u64 w0
  have b1 := bounds_i64 w1
  unfold maxLen at w2 w3
  by_cases hg : a1 < 1 ∨ 8 < a1 ∨ 2000 < a2.size ∨ 2000 < a3.size
  · rcases (show a1 < 1 ∨ (1 ≤ a1 ∧ 8 < a1) ∨ (1 ≤ a1 ∧ a1 ≤ 8 ∧ 2000 < a2.size) ∨ (1 ≤ a1 ∧ a1 ≤ 8 ∧ a2.size ≤ 2000 ∧ 2000 < a3.size) from by omega) with g | ⟨g1, g2⟩ | ⟨g1, g2, g3⟩ | ⟨g1, g2, g3, g4⟩
    all_goals
      clear hg
      go_enter Try.func4, Try.ntmps4
      go_wp2_with fail
      refine (awake_any _).mono ?_
      rintro e w1 ⟨rfl, hb1⟩
      have HB1 := Lib.hid hb1
      clear hb1
      go_wp2
      go_ret
      exact ⟨rfl, HB1.out⟩
  obtain ⟨n, rfl⟩ := Int.eq_ofNat_of_zero_le b0.1
  obtain ⟨z, rfl⟩ := Int.eq_ofNat_of_zero_le (show 0 ≤ a1 by omega)
  have z1 : 1 ≤ z := by omega
  have z2 : z ≤ 8 := by omega
  have l2 : a2.size ≤ 2000 := by omega
  have l3 : a3.size ≤ 2000 := by omega
  have n1 : n < 18446744073709551616 := by omega
  clear hg
  go_enter Try.func4, Try.ntmps4
  go_wp2_with fail
  refine (awake_any _).mono ?_
  rintro e w1 ⟨rfl, hb1⟩
  have HB1 := Lib.hid hb1
  have hs1 := hb1.size
  clear hb1
  go_wp2_with fail
  refine (put_text n z _ n1 z1 z2).mono ?_
  rintro e w2 ⟨S, rfl, hS, hb2⟩
  have HS := Lib.hid hS
  have HB2 := Lib.hid (HB1.out.trans (hb2.mono hs1))
  have hs2 := HB2.out.size
  clear hb2 HB1 hS
  have sz : S.size = z := by rw [size_list, HS.out, Fm.fld_length]
  have sz1 : S.size ≤ z := by omega
  have sz2 : z ≤ S.size := by omega
  have SB : ((S.size : Int) != (z : Int)) = false := by simp; omega
  clear sz
  obtain ⟨g1, g2, g3⟩ := back_get a2 S a3 n z HS.out z1 z2
  obtain ⟨x, hx⟩ : ∃ x : Nat, x = n % Fm.pw z := ⟨_, rfl⟩
  rw [← hx] at g1
  have x1 : x < 18446744073709551616 := by rw [hx]; exact Nat.lt_of_le_of_lt (Nat.mod_le _ _) n1
  have HX := Lib.hid hx
  clear hx
  have G1 := Lib.hid g1
  have G2 := Lib.hid g2
  have G3 := Lib.hid g3
  clear g1 g2 g3
  go_wp2_with fail
  refine (get_any _ _ _ _ (by simp [ByteArray.size_append, maxLen]; omega)).mono ?_
  rintro e w3 ⟨rfl, rfl⟩
  rw [G1.out, G2.out]
  go_wp2_with fail
  refine (get_any _ _ _ _ (by simp [ByteArray.size_append, maxLen]; omega)).mono ?_
  rintro e w3 ⟨rfl, rfl⟩
  rw [G3.out]
  go_wp2_with fail
  refine (put_text x z _ x1 z1 z2).mono ?_
  rintro e w3 ⟨S2, rfl, hS2, hb3⟩
  have e2 : S2 = S := text_eq (by rw [hS2, HS.out, HX.out]; exact Fm.fld_low _ _ _ (Nat.mod_mod _ _))
  rw [e2]
  have HB3 := Lib.hid (HB2.out.trans (hb3.mono hs2))
  clear hS2 hb3 e2 HB2 G1 G2 G3 HS
  have hxn : x = n ∨ (z ≤ 7 ∧ ¬ x = n) := by
    by_cases h8 : z = 8
    · left; rw [HX.out, h8, Fm.pw_eight]; exact Nat.mod_eq_of_lt n1
    · by_cases hh : x = n
      · exact .inl hh
      · exact .inr ⟨by omega, hh⟩
  go_upto_region 12 with (fail)
  rcases hxn with hxn | ⟨h7, hxn⟩
  · have q1 : ((x : Int) == (n : Int)) = true := by simp; omega
    have q2 : ((x : Int) != (n : Int)) = false := by simp; omega
    clear hxn HX
    by_cases hbig : (n : Int) ≤ 9223372036854775807
    · have hdec : decide ((n : Int) < 9223372036854775808) = true := by simp; omega
      go_wp2_with fail
      refine (fits_any _ _ _ (by omega) (by omega)).mono ?_
      rintro e w4 ⟨rfl, rfl⟩
      cases hf : Fm.fitsB n z with
      | false =>
        go_wp2
        go_ret
        exact ⟨rfl, HB3.out⟩
      | true =>
        go_wp2
        go_ret
        exact ⟨rfl, HB3.out⟩
    · have hdec : decide ((n : Int) < 9223372036854775808) = false := by simp; omega
      go_wp2
      go_ret
      exact ⟨rfl, HB3.out⟩
  · have q1 : ((x : Int) == (n : Int)) = false := by simp; omega
    have q2 : ((x : Int) != (n : Int)) = true := by simp; omega
    have hnf : Fm.fitsB n z = false := by
      cases hf : Fm.fitsB n z with
      | false => rfl
      | true => exact absurd (HX.out.trans (fits_same n z hf)) hxn
    have hp0 : 1 ≤ (2 : Int) ^ (8 * z) := by
      have := Nat.pow_pos (n := 8 * z) (show 0 < 2 by omega)
      have e : ((2 ^ (8 * z) : Nat) : Int) = (2 : Int) ^ (8 * z) := by simp
      rw [← e]; omega
    have hp1 : (2 : Int) ^ (8 * z) ≤ 72057594037927936 := by
      have := Nat.pow_le_pow_right (n := 2) (by omega) (show 8 * z ≤ 56 by omega)
      have e : ((2 ^ (8 * z) : Nat) : Int) = (2 : Int) ^ (8 * z) := by simp
      rw [← e]; omega
    have HA : Hid (((x : Int) == bits BinOp.and IntKind.u64 n ((2 : Int) ^ (8 * z) - 1)) = true) := by
      show ((x : Int) == bits BinOp.and IntKind.u64 n ((2 : Int) ^ (8 * z) - 1)) = true
      rw [and_low n z n1 h7, HX.out]; simp
    clear hxn HX
    by_cases hbig : (n : Int) ≤ 9223372036854775807
    · have hdec : decide ((n : Int) < 9223372036854775808) = true := by simp; omega
      go_wp2_with fail
      refine (fits_any _ _ _ (by omega) (by omega)).mono ?_
      rintro e w4 ⟨rfl, rfl⟩
      rw [hnf]
      go_upto_region 14 with (fail)
      clear hdec hbig
      go_wp2
      go_ret
      exact ⟨ret_bool HA.out, HB3.out⟩
    · have hdec : decide ((n : Int) < 9223372036854775808) = false := by simp; omega
      go_upto_region 14 with (fail)
      clear hdec hbig
      go_wp2
      go_ret
      exact ⟨ret_bool HA.out, HB3.out⟩
theorem own : ownKnob Try.prog.godebug = none := by kernel_rfl
theorem laidOut : laidOutB Try.prog = true := by kernel_rfl
set_option maxRecDepth 100000 in
theorem lifted (os : Os) (started : os.Started) (H : Type) (enc : TypeId × Value → H) :
    ReturnsInHanded {} Try.checked os 4 .any (Rows.fieldBackSpec.pre6 enc Try.prog Try.f4 Rows.fieldBackRow.domain false) (Rows.fieldBackSpec.post enc Try.prog Try.f4 false true false false) := by
  refine returnsInHanded_of_change (C := Try.checked) own started (by kernel_rfl) Try.func4
    (ChangeSpec.witness6 (enc := enc) (C := Try.checked) false ⟨#[], #[.int .u64 0, .int .i64 0, .string ByteArray.empty, .string ByteArray.empty], []⟩ 8 (by kernel_rfl) (by kernel_rfl) (by kernel_rfl) (by kernel_rfl)) ?_
  intro W base args ds gs before hval0 hW hcnd _
  have hval : ∀ (j : Nat) t v, Try.f4.params[j]? = some t → args[j]? = some v → Value.okWide Try.prog W .any base t v := hval0
  have hW' := hW
  obtain ⟨p, q, hA0, hV, rfl, hfz, hnd⟩ := hW
  have hA : DataW.TrodAll enc Try.prog W 0 (fun _ => true) true Try.f4.params.toList args.toList ds p := hA0
  rw [Try.params4] at hA hval
  obtain ⟨v0, vs0, d0, ds0, p0, q0, hargs, rfl, rfl, h0, r0⟩ := trodAll_cons hA
  obtain ⟨v1, vs1, d1, ds1, p1, q1, rfl, rfl, rfl, h1, r1⟩ := trodAll_cons r0
  obtain ⟨v2, vs2, d2, ds2, p2, q2, rfl, rfl, rfl, h2, r2⟩ := trodAll_cons r1
  obtain ⟨v3, vs3, d3, ds3, p3, q3, rfl, rfl, rfl, h3, r3⟩ := trodAll_cons r2
  obtain ⟨rfl, rfl, rfl⟩ := trodAll_nil r3
  obtain rfl : args = #[v0, v1, v2, v3] := by cases args; simp_all
  obtain ⟨rfl, rfl⟩ := trodVars_none hV
  obtain ⟨a0, rfl, rfl, rfl, w0⟩ := open_int Try.underlying22 (hval 0 22 v0 rfl rfl) h0
  obtain ⟨a1, rfl, rfl, rfl, w1⟩ := open_int Try.underlying3 (hval 1 3 v1 rfl rfl) h1
  obtain ⟨a2, rfl, rfl, rfl, w2⟩ := open_string Try.underlying9 (hval 2 9 v2 rfl rfl) h2
  obtain ⟨a3, rfl, rfl, rfl, w3⟩ := open_string Try.underlying9 (hval 3 9 v3 rfl rfl) h3
  clear hA0 hval0
  refine (walk a0 a1 a2 a3 W w0 w1 w2 w3).mono fun e W' ⟨he, bel⟩ => ?_
  subst he
  exact ⟨_, rfl, _, _, _, [], _, [], hW', trodAll_mk1 (shut_bool Try.underlying4 _), (trodAll_cons_mk (shut_int Try.underlying22 w0) (trodAll_cons_mk (shut_int Try.underlying3 w1) (trodAll_cons_mk (shut_string Try.underlying9 w2) (trodAll_cons_mk (shut_string Try.underlying9 w3) trodAll_mk0)))), rfl, bel.frame _, fun h => by cases h⟩
theorem over : Rows.fieldBackRow.holds Try.pinned (OpenSpec.ofChange Rows.fieldBackSpec) :=
  OpenClaim.holds_of_wide 4 Try.f4 rfl rfl rfl rfl rfl rfl rfl ⟨rfl, rfl, rfl, rfl, rfl⟩ rfl rfl rfl rfl rfl (by kernel_rfl) Try.func4 (by kernel_rfl)
    (of_decide_eq_true (by kernel_rfl)) (by unfold Func.isWrapper; first | (rw [if_pos (by decide +kernel)]; kernel_rfl) | (rw [if_neg (by decide +kernel)]; exact ⟨rfl, rfl⟩))
    (fun os started H enc _ => lifted os started H enc)
/-- the statement -/
theorem proved : Rows.FieldBackSaid := over
#print axioms proved
end Go.Proofs.Ytkceagmgabjidaa.fieldBack
