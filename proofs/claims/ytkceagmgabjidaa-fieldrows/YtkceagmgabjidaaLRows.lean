/-
  FieldRows holds for every input: coordinates in a row are told just as the document says, and back as they were; a text of another length is none. No condition.
-/
import Derived.Test.YtkceagmgabjidaaFCol
import Derived.Test.YtkceagmgabjidaaFAwake
import Derived.ProofKit
import Derived.OpenShut
import Derived.ShutString
import Derived.ChangeOld
import Derived.WalkSmall
import Derived.Deep.DeepCutAuto
namespace Go.Proofs.Ytkceagmgabjidaa.fieldRows
open Go.ChangeShapes Go.WideShapes Go.ChangeAt Go.RowKit
open Go.ChangeMaps (open_string shut_string)
set_option linter.unusedVariables false

set_option maxHeartbeats 1600000 in
set_option maxRecDepth 100000 in
theorem walk (a0 : Option Addr) (len0 cap0 : Nat) (z0 : List Int) (a1 : ByteArray) (w : World) (w0 : IsRow .i32 w a0 len0 cap0 z0) (w1 : a1.size ≤ maxLen) :
    Calls Try.prog 6 #[.slice a0 len0 cap0, .string a1] w fun e w' => e = .returned (.bool true) ∧ Below w.heap.size w w' := by
  unfold maxLen at w1
  by_cases g0 : 500 < len0
  · clear w0
    go_enter Try.func6, Try.ntmps6
    go_wp2_with fail
    refine (awake_any _).mono ?_
    rintro e w1 ⟨rfl, hb1⟩
    have HB1 := Lib.hid hb1
    clear hb1
    go_wp2
    go_ret
    exact ⟨rfl, HB1.out⟩
  by_cases g1 : 2000 < a1.size
  · have g0' : len0 ≤ 500 := by omega
    clear w0 g0
    go_enter Try.func6, Try.ntmps6
    go_wp2_with fail
    refine (awake_any _).mono ?_
    rintro e w1 ⟨rfl, hb1⟩
    have HB1 := Lib.hid hb1
    clear hb1
    go_wp2
    go_ret
    exact ⟨rfl, HB1.out⟩
  have g0' : len0 ≤ 500 := by omega
  have g1' : a1.size ≤ 2000 := by omega
  clear g0 g1
  obtain ⟨hL, hl0, -, hwf, -⟩ := w0.lst
  obtain ⟨l, hl⟩ : ∃ l, l = z0.take len0 := ⟨_, rfl⟩
  rw [← hl] at hL hwf
  have hlen : l.length = len0 := by rw [hl]; simp; omega
  have hin : ∀ c ∈ l, -2147483648 ≤ c ∧ c ≤ 2147483647 := fun c hc => bounds_i32 (hwf c hc)
  have HL := Lib.hid hL
  have HI := Lib.hid hin
  have HN := Lib.hid hlen
  clear hL hwf hl hlen hin w0 hl0
  go_enter Try.func6, Try.ntmps6
  go_wp2_with fail
  refine (awake_any _).mono ?_
  rintro e w1 ⟨rfl, hb1⟩
  have HB1 := Lib.hid hb1
  have hs1 := hb1.size
  clear hb1
  go_wp2_with fail
  refine (row_any _ _ _ l _ ((HL.out.below HB1.out).more hs1) (by omega)).mono ?_
  rintro e w2 ⟨rfl, hb2⟩
  have HB2 := Lib.hid (HB1.out.trans (hb2.mono hs1))
  have hs2 := HB2.out.size
  clear hb2 HB1
  go_wp2_with fail
  refine (column_yes _ len0 _ (by simp [ByteArray.size, rowB_length, HN.out]) (by omega)).mono ?_
  rintro e w3 ⟨A, c, rfl, hown3, hb3⟩
  have hcol : colN (ByteArray.mk (rowB l).toArray).data.toList len0 = l := by
    show colN (rowB l).toArray.toList len0 = l
    rw [List.toList_toArray, ← HN.out]; exact col_row l HI.out
  rw [hcol] at hown3
  have HO3 := Lib.hid (Lst.of_own hown3)
  have HB3 := Lib.hid (HB2.out.trans (hb3.mono hs2))
  have hs3 := HB3.out.size
  clear hcol hown3 hb3 HB2
  go_wp2_with fail
  refine (refRow_any _ _ _ l _ ((HL.out.below HB3.out).more hs3) (by omega) HI.out).mono ?_
  rintro e w4 ⟨rfl, hb4⟩
  have HB4 := Lib.hid (HB3.out.trans (hb4.mono hs3))
  have hs4 := HB4.out.size
  have HO4 := Lib.hid (HO3.out.below hb4)
  clear hb4 HB3 HO3
  go_wp2_with fail
  go_loopw [8] (fun i wr => ∃ k : Nat, k ≤ len0 ∧ i = .int .i64 k ∧ ∃ d, wr = w4.drewN d) (fun i _ => len0 - (intOf i).toNat)
  case atStart => exact ⟨0, Nat.zero_le _, rfl, 0, rfl⟩
  case round =>
    obtain ⟨k, hk, rfl, hd⟩ := hrel
    have HD := Lib.hid hd
    clear hd
    by_cases hlt : k < len0
    · have hkl : k < l.length := by rw [HN.out]; exact hlt
      obtain ⟨b, off, hA, hb, hc⟩ := HO4.out.at_ hlt
      obtain ⟨b', off', hA', hb', hc'⟩ := (HL.out.below HB4.out).at_ hlt
      rw [List.getElem?_map, List.getElem?_eq_getElem hkl] at hc hc'
      obtain ⟨x, hx⟩ : ∃ x, x = l[k] := ⟨_, rfl⟩
      rw [← hx] at hc hc'
      simp only [Option.map_some] at hc hc'
      have hc2 : wr.cell? ⟨b, off + k, none⟩ = some (.int .i32 x) := by obtain ⟨d, rfl⟩ := HD.out; exact hc
      have hc3 : wr.cell? ⟨b', off' + k, none⟩ = some (.int .i32 x) := by obtain ⟨d, rfl⟩ := HD.out; exact hc'
      subst hA hA'
      clear hx hc hc'
      go_wp2
      go_quiet (fail)
      go_wp2
      go_roundw
      case rel => exact ⟨k + 1, by omega, by go_num, by obtain ⟨d, hd⟩ := HD.out; exact ⟨d + nq, by rw [hd, World.drewN_drewN]⟩⟩
      case measure => simp [intOf]; omega
    · have HBr : Hid (Below w.heap.size w wr) := by obtain ⟨d, rfl⟩ := HD.out; exact below_drewN HB4.out d
      have hsr := HBr.out.size
      clear HB4 HO4 HL HD HI HN
      by_cases h4 : a1.size % 4 = 0
      · obtain ⟨m, hm⟩ : ∃ m, a1.size = 4 * m := ⟨a1.size / 4, by omega⟩
        have HM := Lib.hid hm
        have hm5 : m ≤ 500 := by omega
        have hq : (((a1.size : Int) % 4) == 0) = true := by simp; omega
        clear hm h4
        go_wp2_with fail
        refine (column_yes _ m _ HM.out (by omega)).mono ?_
        rintro e w5 ⟨A5, c5, rfl, hown5, hb5⟩
        have HO5 := Lib.hid (Lst.of_own hown5)
        have HB5 := Lib.hid (HBr.out.trans (hb5.mono hsr))
        have hs5 := HB5.out.size
        clear hown5 hb5 HBr
        go_wp2_with fail
        refine (row_any _ _ _ _ _ HO5.out (by omega)).mono ?_
        rintro e w6 ⟨rfl, hb6⟩
        have e6 : ByteArray.mk (rowB (colN a1.data.toList m)).toArray = a1 := by
          rw [row_col a1.data.toList m (by simpa using HM.out)]
        rw [e6]
        have HB6 := Lib.hid (HB5.out.trans (hb6.mono hs5))
        clear hb6 e6 HB5 HO5
        go_wp2
        go_ret
        exact ⟨rfl, HB6.out⟩
      · have hq : (((a1.size : Int) % 4) == 0) = false := by simp; omega
        go_wp2_with fail
        refine (column_no _ _ (by unfold maxLen; omega) h4).mono ?_
        rintro e w5 ⟨rfl, rfl⟩
        clear h4
        go_wp2
        go_ret
        exact ⟨rfl, HBr.out⟩
theorem own : ownKnob Try.prog.godebug = none := by kernel_rfl
theorem laidOut : laidOutB Try.prog = true := by kernel_rfl
set_option maxRecDepth 100000 in
theorem lifted (os : Os) (started : os.Started) (H : Type) (enc : TypeId × Value → H) :
    ReturnsInHanded {} Try.checked os 6 .any (Rows.fieldRowsSpec.pre6 enc Try.prog Try.f6 Rows.fieldRowsRow.domain false) (Rows.fieldRowsSpec.post enc Try.prog Try.f6 false true false false) := by
  refine returnsInHanded_of_change (C := Try.checked) own started (by kernel_rfl) Try.func6
    (ChangeSpec.witness6 (enc := enc) (C := Try.checked) false ⟨#[], #[.slice none 0 0, .string ByteArray.empty], []⟩ 8 (by kernel_rfl) (by kernel_rfl) (by kernel_rfl) (by kernel_rfl)) ?_
  intro W base args ds gs before hval0 hW hcnd _
  have hval : ∀ (j : Nat) t v, Try.f6.params[j]? = some t → args[j]? = some v → Value.okWide Try.prog W .any base t v := hval0
  have hW' := hW
  obtain ⟨p, q, hA0, hV, rfl, hfz, hnd⟩ := hW
  have hA : DataW.TrodAll enc Try.prog W 0 (fun _ => true) true Try.f6.params.toList args.toList ds p := hA0
  rw [Try.params6] at hA hval
  obtain ⟨v0, vs0, d0, ds0, p0, q0, hargs, rfl, rfl, h0, r0⟩ := trodAll_cons hA
  obtain ⟨v1, vs1, d1, ds1, p1, q1, rfl, rfl, rfl, h1, r1⟩ := trodAll_cons r0
  obtain ⟨rfl, rfl, rfl⟩ := trodAll_nil r1
  obtain rfl : args = #[v0, v1] := by cases args; simp_all
  obtain ⟨rfl, rfl⟩ := trodVars_none hV
  obtain ⟨a0, len0, cap0, rfl⟩ := okWide_slice Try.underlying32 (hval 0 32 v0 rfl rfl)
  have k0 := h0
  have lt0 : ∀ x ∈ p0, x.block < W.heap.size := by obtain ⟨m, hm⟩ := k0; exact DataW.trod_lt m _ _ _ hm
  obtain ⟨z0, w0⟩ : ∃ zs, IsRow .i32 W a0 len0 cap0 zs := by
    obtain ⟨fuel, hf⟩ := h0
    rcases open_ints Try.underlying32 Try.underlying21 (by kernel_rfl) hf with ⟨hcs, _⟩ | ⟨x, l, c, zs, hcs, _, hl, hm, hz, _, hcell, hwz⟩
    · simp [Value.cells] at hcs
      obtain ⟨rfl, rfl, rfl⟩ := hcs
      exact ⟨[], .inl ⟨rfl, rfl, rfl, rfl⟩⟩
    · simp [Value.cells] at hcs
      obtain ⟨rfl, rfl, rfl⟩ := hcs
      exact ⟨zs, .inr ⟨_, rfl, hl, hm, by simpa using hz, hcell, hwz⟩⟩
  obtain ⟨a1, rfl, rfl, rfl, w1⟩ := open_string Try.underlying9 (hval 1 9 v1 rfl rfl) h1
  clear hA0 hval0
  refine (walk a0 len0 cap0 z0 a1 W w0 w1).mono fun e W' ⟨he, bel⟩ => ?_
  subst he
  exact ⟨_, rfl, _, _, _, [], _, [], hW', trodAll_mk1 (shut_bool Try.underlying4 _), (trodAll_cons_mk (Below.trod laidOut (by kernel_rfl) (of_decide_eq_true (by kernel_rfl)) k0 bel lt0) (trodAll_cons_mk (shut_string Try.underlying9 w1) trodAll_mk0)), rfl, bel.frame _, fun h => by cases h⟩
theorem over : Rows.fieldRowsRow.holds Try.pinned (OpenSpec.ofChange Rows.fieldRowsSpec) :=
  OpenClaim.holds_of_wide 6 Try.f6 rfl rfl rfl rfl rfl rfl rfl ⟨rfl, rfl, rfl, rfl, rfl⟩ rfl rfl rfl rfl rfl (by kernel_rfl) Try.func6 (by kernel_rfl)
    (of_decide_eq_true (by kernel_rfl)) (by unfold Func.isWrapper; first | (rw [if_pos (by decide +kernel)]; kernel_rfl) | (rw [if_neg (by decide +kernel)]; exact ⟨rfl, rfl⟩))
    (fun os started H enc _ => lifted os started H enc)
/-- the statement -/
theorem proved : Rows.FieldRowsSaid := over
#print axioms proved
end Go.Proofs.Ytkceagmgabjidaa.fieldRows
