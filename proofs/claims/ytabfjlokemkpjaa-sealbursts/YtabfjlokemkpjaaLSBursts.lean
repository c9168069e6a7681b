/-
  SealBursts holds for every input: a sealed text of which bits are turned over that stand within 32 on end, over the seam of text and sum too, isn't sealed. No condition.
-/
import Derived.Test.YtabfjlokemkpjaaSAwake
import Derived.Test.YtabfjlokemkpjaaSTurn
import Derived.ProofKit
import Derived.OpenShut
import Derived.ShutString
import Derived.ChangeOld
import Derived.WalkSmall
namespace Go.Proofs.Ytabfjlokemkpjaa.sealBursts
open Go.ChangeShapes Go.WideShapes Go.ChangeAt Go.RowKit
open Go.ChangeMaps (open_string shut_string)
set_option linter.unusedVariables false

theorem walk (a0 : ByteArray) (a1 a2 : Int) (w : World) (w0 : a0.size ≤ maxLen) (w1 : (Lit.int .i64 a1).wf = true) (w2 : (Lit.int .u32 a2).wf = true) :
    Calls Try.prog 5 #[.string a0, .int .i64 a1, .int .u32 a2] w fun e w' => e = .returned (.bool true) ∧ Below w.heap.size w w' := by
  have b1 := bounds_i64 w1
  have b2 := bounds_u32 w2
  unfold maxLen at w0
  clear w1 w2
  obtain ⟨n, hn⟩ : ∃ n, n = min a0.size 2000 := ⟨_, rfl⟩
  have n1 : n ≤ 2000 := by omega
  have n2 : n ≤ a0.size := by omega
  have hm : min (a0.size : Int) 2000 = (n : Int) := by omega
  clear hn
  go_enter Try.func5, Try.ntmps5
  go_wp2_with fail
  refine (awake_any _).mono ?_
  rintro e w1 ⟨rfl, hb1⟩
  have HB1 := Lib.hid hb1
  have hs1 := hb1.size
  clear hb1
  go_wp2_with fail
  refine (seal_any (a0.extract 0 n) _ (by rw [ByteArray.size_extract]; omega)).mono ?_
  rintro e w2 ⟨X, rfl, hX, hb2⟩
  have HB2 := Lib.hid (HB1.out.trans (hb2.mono hs1))
  have hs2 := HB2.out.size
  clear hb2 HB1
  have x1 : X.size ≤ 2004 := by rw [size_list, hX, Sm.sealed_length, ← size_list, ByteArray.size_extract]; omega
  have x2 : 4 ≤ X.size := by rw [size_list, hX, Sm.sealed_length]; omega
  have XO : Hid (Sm.okB X.data.toList = true) := by show Sm.okB X.data.toList = true; rw [hX]; exact Sm.sealed_ok _
  clear hX
  by_cases hg : a2 = 0 ∨ a1 < 0 ∨ 8 * (X.size : Int) ≤ a1
  · have q4 : decide (4 ≤ (X.size : Int)) = true := by simp; omega
    rcases (show (a2 = 0) ∨ (a2 ≠ 0 ∧ a1 < 0) ∨ (a2 ≠ 0 ∧ 0 ≤ a1 ∧ 8 * (X.size : Int) ≤ a1) from by omega) with g | ⟨g1, g2⟩ | ⟨g1, g2, g3⟩
    · subst g
      clear hg
      go_wp2
      go_ret
      exact ⟨rfl, HB2.out⟩
    · have q : (a2 == 0) = false := by rw [beq_eq_false_iff_ne]; exact g1
      clear hg
      go_wp2
      go_ret
      exact ⟨rfl, HB2.out⟩
    · have q : (a2 == 0) = false := by rw [beq_eq_false_iff_ne]; exact g1
      have q2 : decide (a1 < 0) = false := by simp; omega
      have q3 : decide (8 * (X.size : Int) ≤ a1) = true := by simp; omega
      clear hg
      go_wp2
      go_ret
      exact ⟨rfl, HB2.out⟩
  obtain ⟨m, rfl⟩ := Int.eq_ofNat_of_zero_le (show 0 ≤ a1 by omega)
  have q : (a2 == 0) = false := by rw [beq_eq_false_iff_ne]; omega
  have q2 : decide ((m : Int) < 0) = false := by simp
  have q3 : decide (8 * (X.size : Int) ≤ (m : Int)) = false := by simp; omega
  have hm8 : (m : Int) < 8 * (X.size : Int) := by omega
  clear hg
  go_wp2
  clear q q2 q3
  go_loopw [8, 9] (fun y i wr => ∃ (k : Nat) (Y : ByteArray), k ≤ 32 ∧ i = .int .i64 k ∧ y = .string Y ∧ Sm.Burst X.data.toList Y.data.toList m k ∧ Below w.heap.size w wr) (fun _ i _ => 32 - (intOf i).toNat)
  case atStart => exact ⟨0, X, by omega, rfl, rfl, Sm.burst_start _ _, HB2.out⟩
  case round =>
    obtain ⟨k, Y, hk, rfl, rfl, hU, hB⟩ := hrel
    have y1 : Y.size = X.size := by rw [size_list, hU.1, ← size_list]
    have y2 : Y.size ≤ 2004 := by omega
    have HU := Lib.hid hU
    have HB := Lib.hid hB
    have hsr := hB.size
    clear hU hB y1
    by_cases hlt : k < 32
    · by_cases hbit : bits .and .u32 (a2 / 2 ^ k) 1 = 1
      · go_wp2_with fail
        refine (turn_any Y _ _ (by omega) (by omega) (by omega)).mono ?_
        rintro e w3 ⟨Z, rfl, hZ, hb3⟩
        have HZ : Hid (Sm.Burst X.data.toList Z.data.toList m (k + 1)) := by
          show Sm.Burst X.data.toList Z.data.toList m (k + 1)
          rw [hZ]; exact Sm.burst_turn HU.out hlt
        have HB3 := Lib.hid (HB.out.trans (hb3.mono hsr))
        clear hZ hb3
        go_wp2
        go_roundw
        case rel => exact ⟨k + 1, Z, by omega, by go_num, rfl, HZ.out, HB3.out⟩
        case measure => simp [intOf]; omega
      · have hbit' : (bits .and .u32 (a2 / 2 ^ k) 1 == 1) = false := by rw [beq_eq_false_iff_ne]; exact hbit
        clear hbit
        go_wp2
        go_roundw
        case rel => exact ⟨k + 1, Y, by omega, by go_num, rfl, Sm.burst_skip HU.out, HB.out⟩
        case measure => simp [intOf]; omega
    · go_wp2_with fail
      refine (open_any Y _ (by omega)).mono ?_
      rintro e w3 ⟨S, rfl, hS, hb3⟩
      have HB3 := Lib.hid (HB.out.trans (hb3.mono hsr))
      clear hb3
      cases ho : Sm.okB Y.data.toList with
      | true =>
        have hv : Y = X := text_eq (Sm.burst_seen HU.out XO.out (by rw [← size_list]; exact x2) ho)
        clear ho hS HU
        subst hv
        go_wp2
        go_ret
        exact ⟨rfl, HB3.out⟩
      | false =>
        have hv : (Y.toList == X.toList) = false := by
          rw [beq_eq_false_iff_ne]
          intro h; rw [toList_inj h, XO.out] at ho; cases ho
        obtain rfl : S = ⟨#[]⟩ := text_eq (by rw [hS, ho]; rfl)
        clear ho HU XO hS
        go_wp2
        go_ret
        exact ⟨rfl, HB3.out⟩
theorem own : ownKnob Try.prog.godebug = none := by kernel_rfl
theorem laidOut : laidOutB Try.prog = true := by kernel_rfl
set_option maxRecDepth 100000 in
theorem lifted (os : Os) (started : os.Started) (H : Type) (enc : TypeId × Value → H) :
    ReturnsInHanded {} Try.checked os 5 .any (Rows.sealBurstsSpec.pre6 enc Try.prog Try.f5 Rows.sealBurstsRow.domain false) (Rows.sealBurstsSpec.post enc Try.prog Try.f5 false true false false) := by
  refine returnsInHanded_of_change (C := Try.checked) own started (by kernel_rfl) Try.func5
    (ChangeSpec.witness6 (enc := enc) (C := Try.checked) false ⟨#[], #[.string ByteArray.empty, .int .i64 0, .int .u32 0], []⟩ 8 (by kernel_rfl) (by kernel_rfl) (by kernel_rfl) (by kernel_rfl)) ?_
  intro W base args ds gs before hval0 hW hcnd _
  have hval : ∀ (j : Nat) t v, Try.f5.params[j]? = some t → args[j]? = some v → Value.okWide Try.prog W .any base t v := hval0
  have hW' := hW
  obtain ⟨p, q, hA0, hV, rfl, hfz, hnd⟩ := hW
  have hA : DataW.TrodAll enc Try.prog W 0 (fun _ => true) true Try.f5.params.toList args.toList ds p := hA0
  rw [Try.params5] at hA hval
  obtain ⟨v0, vs0, d0, ds0, p0, q0, hargs, rfl, rfl, h0, r0⟩ := trodAll_cons hA
  obtain ⟨v1, vs1, d1, ds1, p1, q1, rfl, rfl, rfl, h1, r1⟩ := trodAll_cons r0
  obtain ⟨v2, vs2, d2, ds2, p2, q2, rfl, rfl, rfl, h2, r2⟩ := trodAll_cons r1
  obtain ⟨rfl, rfl, rfl⟩ := trodAll_nil r2
  obtain rfl : args = #[v0, v1, v2] := by cases args; simp_all
  obtain ⟨rfl, rfl⟩ := trodVars_none hV
  obtain ⟨a0, rfl, rfl, rfl, w0⟩ := open_string Try.underlying9 (hval 0 9 v0 rfl rfl) h0
  obtain ⟨a1, rfl, rfl, rfl, w1⟩ := open_int Try.underlying3 (hval 1 3 v1 rfl rfl) h1
  obtain ⟨a2, rfl, rfl, rfl, w2⟩ := open_int Try.underlying22 (hval 2 22 v2 rfl rfl) h2
  clear hA0 hval0
  refine (walk a0 a1 a2 W w0 w1 w2).mono fun e W' ⟨he, bel⟩ => ?_
  subst he
  exact ⟨_, rfl, _, _, _, [], _, [], hW', trodAll_mk1 (shut_bool Try.underlying4 _), (trodAll_cons_mk (shut_string Try.underlying9 w0) (trodAll_cons_mk (shut_int Try.underlying3 w1) (trodAll_cons_mk (shut_int Try.underlying22 w2) trodAll_mk0))), rfl, bel.frame _, fun h => by cases h⟩
theorem over : Rows.sealBurstsRow.holds Try.pinned (OpenSpec.ofChange Rows.sealBurstsSpec) :=
  OpenClaim.holds_of_wide 5 Try.f5 rfl rfl rfl rfl rfl rfl rfl ⟨rfl, rfl, rfl, rfl, rfl⟩ rfl rfl rfl rfl rfl (by kernel_rfl) Try.func5 (by kernel_rfl)
    (of_decide_eq_true (by kernel_rfl)) (by unfold Func.isWrapper; first | (rw [if_pos (by decide +kernel)]; kernel_rfl) | (rw [if_neg (by decide +kernel)]; exact ⟨rfl, rfl⟩))
    (fun os started H enc _ => lifted os started H enc)
/-- the statement -/
theorem proved : Rows.SealBurstsSaid := over
#print axioms proved
end Go.Proofs.Ytabfjlokemkpjaa.sealBursts
