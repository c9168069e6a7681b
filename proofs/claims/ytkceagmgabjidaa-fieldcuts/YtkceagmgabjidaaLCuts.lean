/-
  FieldCuts holds for every input: any text is cut by any sizes just as the document says, or not at all; the parts together are it. No condition.
-/
import Derived.Test.YtkceagmgabjidaaFCut
import Derived.Test.YtkceagmgabjidaaFAwake
import Derived.ProofKit
import Derived.OpenShut
import Derived.ShutString
import Derived.ChangeOld
import Derived.WalkSmall
namespace Go.Proofs.Ytkceagmgabjidaa.fieldCuts
open Go.ChangeShapes Go.WideShapes Go.ChangeAt Go.RowKit
open Go.ChangeMaps (open_string shut_string)
set_option linter.unusedVariables false

theorem flat_take (m : List (List UInt8)) (k : Nat) (h : k < m.length) : (m.take (k + 1)).flatten = (m.take k).flatten ++ m[k] := by
  rw [List.take_succ_eq_append_getElem h, List.flatten_append, List.flatten_cons, List.flatten_nil, List.append_nil]
theorem flat_len (m : List (List UInt8)) (k : Nat) (h : k < m.length) : (m.take k).flatten.length ≤ m.flatten.length ∧ m[k].length ≤ m.flatten.length := by
  have e : m.flatten = (m.take k).flatten ++ (m[k] ++ (m.drop (k + 1)).flatten) := by
    rw [← List.flatten_cons, ← List.drop_eq_getElem_cons h, ← List.flatten_append, List.take_append_drop]
  rw [e]; simp; omega

set_option maxHeartbeats 1600000 in
set_option maxRecDepth 100000 in
theorem walk (a0 : ByteArray) (a1 : Option Addr) (len1 cap1 : Nat) (z1 : List Int) (w : World) (w0 : a0.size ≤ maxLen) (w1 : IsRow .i64 w a1 len1 cap1 z1) :
    Calls Try.prog 7 #[.string a0, .slice a1 len1 cap1] w fun e w' => e = .returned (.bool true) ∧ Below w.heap.size w w' := by
  unfold maxLen at w0
  by_cases g0 : 2000 < a0.size
  · clear w1
    go_enter Try.func7, Try.ntmps7
    go_wp2_with fail
    refine (awake_any _).mono ?_
    rintro e w1 ⟨rfl, hb1⟩
    have HB1 := Lib.hid hb1
    clear hb1
    go_wp2
    go_ret
    exact ⟨rfl, HB1.out⟩
  have g0' : a0.size ≤ 2000 := by omega
  obtain ⟨hL, hl0, hlc, hwf, -⟩ := w1.lst
  by_cases g1 : 200 < len1
  · clear w1 g0 hL hl0 hwf
    go_enter Try.func7, Try.ntmps7
    go_wp2_with fail
    refine (awake_any _).mono ?_
    rintro e w1 ⟨rfl, hb1⟩
    have HB1 := Lib.hid hb1
    clear hb1
    go_wp2
    go_ret
    exact ⟨rfl, HB1.out⟩
  have g1' : len1 ≤ 200 := by omega
  obtain ⟨l, hl⟩ : ∃ l, l = z1.take len1 := ⟨_, rfl⟩
  rw [← hl] at hL
  obtain rfl : len1 = l.length := by rw [hl]; simp; omega
  have HL := Lib.hid hL
  clear hL hwf hl w1 hl0 g0 g1 hlc
  go_enter Try.func7, Try.ntmps7
  go_wp2_with fail
  refine (awake_any _).mono ?_
  rintro e w1 ⟨rfl, hb1⟩
  have HB1 := Lib.hid hb1
  have hs1 := hb1.size
  clear hb1
  go_wp2_with fail
  refine (cut_any a0 a1 cap1 l _ (by omega) ((HL.out.below HB1.out).more hs1) (by omega)).mono ?_
  rintro e w2 ⟨hb2, hres⟩
  have HB2 := Lib.hid (HB1.out.trans (hb2.mono hs1))
  have hs2 := HB2.out.size
  clear hb2 HB1
  rcases hres with ⟨hnone, rfl⟩ | ⟨m, A, c, hsome, rfl, hown⟩
  · have HE := Lib.hid hnone
    clear hnone
    go_wp2_with fail
    refine (refCut_any a0 a1 cap1 l _ (by omega) ((HL.out.below HB2.out).more hs2) (by omega)).mono ?_
    rintro e w3 ⟨hb3, hres⟩
    have HB3 := Lib.hid (HB2.out.trans (hb3.mono hs2))
    clear hb3 HB2
    rcases hres with ⟨_, rfl⟩ | ⟨m, A, c, hsome, _⟩
    · go_wp2_with fail
      refine (texts_same none none 0 0 0 0 [] _ (Lst.nil _ _ _) (Lst.nil _ _ _) (by omega)).mono ?_
      rintro e w4 ⟨rfl, hd⟩
      have HB4 : Hid (Below w.heap.size w w4) := by obtain ⟨d, rfl⟩ := hd; exact below_drewN HB3.out d
      clear hd HB3 HE HL
      go_wp2_with fail
      refine wp_loop_rounds 1 ?_
      rw [rounds_succ]
      go_wp2
      go_ret
      exact ⟨rfl, HB4.out⟩
    · rw [HE.out] at hsome; cases hsome
  · obtain ⟨hflat, hml⟩ := cutL_join _ _ _ hsome
    have HE := Lib.hid hsome
    have HF := Lib.hid hflat
    have HM := Lib.hid hml
    have HO := Lib.hid (Lst.of_own hown)
    clear hsome hflat hml hown
    go_wp2_with fail
    refine (refCut_any a0 a1 cap1 l _ (by omega) ((HL.out.below HB2.out).more hs2) (by omega)).mono ?_
    rintro e w3 ⟨hb3, hres⟩
    have HB3 := Lib.hid (HB2.out.trans (hb3.mono hs2))
    have hs3 := hb3.size
    have HO3 := Lib.hid ((HO.out.below hb3).more hb3.size)
    clear hb3 HB2 HO
    rcases hres with ⟨hnone, _⟩ | ⟨m', A', c', hsome, rfl, hown'⟩
    · rw [HE.out] at hnone; cases hnone
    · obtain rfl : m' = m := by rw [HE.out] at hsome; exact (Option.some.inj hsome).symm
      have HO' := Lib.hid (Lst.of_own hown')
      clear hsome hown' HE HL
      go_wp2_with fail
      refine (texts_same A A' l.length c c' w3.heap.size m' _ HO3.out HO'.out (by omega)).mono ?_
      rintro e w4 ⟨rfl, hd⟩
      have HB4 : Hid (Below w.heap.size w w4) := by obtain ⟨d, rfl⟩ := hd; exact below_drewN HB3.out d
      have HO4 : Hid (Lst w4 w3.heap.size A l.length (m'.map strV)) := by obtain ⟨d, rfl⟩ := hd; exact HO3.out
      clear hd HB3 HO3 HO'
      go_wp2_with fail
      go_loop [9, 10] (fun t i => ∃ k : Nat, k ≤ l.length ∧ i = .int .i64 k ∧ t = .string ⟨((m'.take k).flatten).toArray⟩) (fun _ i => l.length - (intOf i).toNat)
      case atStart => exact ⟨0, Nat.zero_le _, rfl, rfl⟩
      case round =>
        obtain ⟨k, hk, rfl, rfl⟩ := hrel
        by_cases hlt : k < l.length
        · have hkl : k < m'.length := by rw [HM.out]; exact hlt
          obtain ⟨b, off, hA, hb, hc⟩ := HO4.out.at_ hlt
          subst hA
          rw [List.getElem?_map, List.getElem?_eq_getElem hkl] at hc
          simp only [Option.map_some] at hc
          obtain ⟨f1, f2⟩ := flat_len m' k hkl
          rw [HF.out] at f1 f2
          have hadd : ∀ W : World, (Op.stringOp .add ⟨((m'.take k).flatten).toArray⟩ ⟨(m'[k]).toArray⟩).run Try.prog W = .ok (.string ⟨((m'.take (k + 1)).flatten).toArray⟩) W := fun W => by
            rw [flat_take m' k hkl]
            have hz : a0.data.toList.length = a0.size := by simp
            exact run_string_add_lists (P := Try.prog) W _ _ (by omega) (by omega)
          unfold strV at hc
          obtain ⟨x, hx⟩ : ∃ x, x = m'[k] := ⟨_, rfl⟩
          rw [← hx] at hc hadd
          clear f1 f2 hx
          go_wp2
          go_round
          case rel => exact ⟨k + 1, by omega, by go_num, rfl⟩
          case measure => simp [intOf]; omega
        · have ht : (ByteArray.mk ((m'.take k).flatten).toArray) = a0 := by
            rw [List.take_of_length_le (by rw [HM.out]; omega), HF.out]
          rw [ht]
          clear ht
          go_wp2
          go_ret
          exact ⟨rfl, HB4.out⟩
theorem own : ownKnob Try.prog.godebug = none := by kernel_rfl
theorem laidOut : laidOutB Try.prog = true := by kernel_rfl
set_option maxRecDepth 100000 in
theorem lifted (os : Os) (started : os.Started) (H : Type) (enc : TypeId × Value → H) :
    ReturnsInHanded {} Try.checked os 7 .any (Rows.fieldCutsSpec.pre6 enc Try.prog Try.f7 Rows.fieldCutsRow.domain false) (Rows.fieldCutsSpec.post enc Try.prog Try.f7 false true false false) := by
  refine returnsInHanded_of_change (C := Try.checked) own started (by kernel_rfl) Try.func7
    (ChangeSpec.witness6 (enc := enc) (C := Try.checked) false ⟨#[], #[.string ByteArray.empty, .slice none 0 0], []⟩ 8 (by kernel_rfl) (by kernel_rfl) (by kernel_rfl) (by kernel_rfl)) ?_
  intro W base args ds gs before hval0 hW hcnd _
  have hval : ∀ (j : Nat) t v, Try.f7.params[j]? = some t → args[j]? = some v → Value.okWide Try.prog W .any base t v := hval0
  have hW' := hW
  obtain ⟨p, q, hA0, hV, rfl, hfz, hnd⟩ := hW
  have hA : DataW.TrodAll enc Try.prog W 0 (fun _ => true) true Try.f7.params.toList args.toList ds p := hA0
  rw [Try.params7] at hA hval
  obtain ⟨v0, vs0, d0, ds0, p0, q0, hargs, rfl, rfl, h0, r0⟩ := trodAll_cons hA
  obtain ⟨v1, vs1, d1, ds1, p1, q1, rfl, rfl, rfl, h1, r1⟩ := trodAll_cons r0
  obtain ⟨rfl, rfl, rfl⟩ := trodAll_nil r1
  obtain rfl : args = #[v0, v1] := by cases args; simp_all
  obtain ⟨rfl, rfl⟩ := trodVars_none hV
  obtain ⟨a0, rfl, rfl, rfl, w0⟩ := open_string Try.underlying9 (hval 0 9 v0 rfl rfl) h0
  obtain ⟨a1, len1, cap1, rfl⟩ := okWide_slice Try.underlying38 (hval 1 38 v1 rfl rfl)
  have k1 := h1
  have lt1 : ∀ x ∈ p1, x.block < W.heap.size := by obtain ⟨m, hm⟩ := k1; exact DataW.trod_lt m _ _ _ hm
  obtain ⟨z1, w1⟩ : ∃ zs, IsRow .i64 W a1 len1 cap1 zs := by
    obtain ⟨fuel, hf⟩ := h1
    rcases open_ints Try.underlying38 Try.underlying3 (by kernel_rfl) hf with ⟨hcs, _⟩ | ⟨x, l, c, zs, hcs, _, hl, hm, hz, _, hcell, hwz⟩
    · simp [Value.cells] at hcs
      obtain ⟨rfl, rfl, rfl⟩ := hcs
      exact ⟨[], .inl ⟨rfl, rfl, rfl, rfl⟩⟩
    · simp [Value.cells] at hcs
      obtain ⟨rfl, rfl, rfl⟩ := hcs
      exact ⟨zs, .inr ⟨_, rfl, hl, hm, by simpa using hz, hcell, hwz⟩⟩
  clear hA0 hval0
  refine (walk a0 a1 len1 cap1 z1 W w0 w1).mono fun e W' ⟨he, bel⟩ => ?_
  subst he
  exact ⟨_, rfl, _, _, _, [], _, [], hW', trodAll_mk1 (shut_bool Try.underlying4 _), (trodAll_cons_mk (shut_string Try.underlying9 w0) (trodAll_cons_mk (Below.trod laidOut (by kernel_rfl) (of_decide_eq_true (by kernel_rfl)) k1 bel lt1) trodAll_mk0)), rfl, bel.frame _, fun h => by cases h⟩
theorem over : Rows.fieldCutsRow.holds Try.pinned (OpenSpec.ofChange Rows.fieldCutsSpec) :=
  OpenClaim.holds_of_wide 7 Try.f7 rfl rfl rfl rfl rfl rfl rfl ⟨rfl, rfl, rfl, rfl, rfl⟩ rfl rfl rfl rfl rfl (by kernel_rfl) Try.func7 (by kernel_rfl)
    (of_decide_eq_true (by kernel_rfl)) (by unfold Func.isWrapper; first | (rw [if_pos (by decide +kernel)]; kernel_rfl) | (rw [if_neg (by decide +kernel)]; exact ⟨rfl, rfl⟩))
    (fun os started H enc _ => lifted os started H enc)
/-- the statement -/
theorem proved : Rows.FieldCutsSaid := over
#print axioms proved
end Go.Proofs.Ytkceagmgabjidaa.fieldCuts
