/-
  OrderStands: those of which neither is first stay as they stood, sorted and merged; whether a list is sorted is told just so. No condition.
-/
import Derived.Test.YtfefhandlkbeoaaOMrgP
import Derived.Test.YtfefhandlkbeoaaORefP
import Derived.Test.YtfefhandlkbeoaaORis
import Derived.Test.YtfefhandlkbeoaaOAwk
import Derived.ProofKit
import Derived.OpenShut
import Derived.ChangeOld
import Derived.WalkSmall
namespace Go.Proofs.Ytfefhandlkbeoaa.orderStands
open Go.ChangeShapes Go.WideShapes Go.ChangeAt Go.RowKit

set_option maxHeartbeats 3200000 in
theorem walk (a0 : Option Addr) (len0 cap0 : Nat) (zs0 : List Int) (a1 : Option Addr) (len1 cap1 : Nat) (zs1 : List Int) (w : World) (h0 : IsRow .i64 w a0 len0 cap0 zs0) (h1 : IsRow .i64 w a1 len1 cap1 zs1) :
    Calls Try.prog 4 #[.slice a0 len0 cap0, .slice a1 len1 cap1] w fun e w' => e = .returned (.bool true) ∧ Below w.heap.size w w' := by
  obtain ⟨i0, hi, hz0, hz1, hz2⟩ := info_parts Try.infoP
  obtain ⟨l0, n0, -, -, -⟩ := h0.lst
  obtain ⟨l1, n1, -, -, -⟩ := h1.lst
  obtain ⟨z0, hz0'⟩ : ∃ z0, z0 = zs0.take len0 := ⟨_, rfl⟩
  obtain ⟨z1, hz1'⟩ : ∃ z1, z1 = zs1.take len1 := ⟨_, rfl⟩
  rw [← hz0'] at l0
  rw [← hz1'] at l1
  have L0 := Lib.hid l0
  have L1 := Lib.hid l1
  have K0 := Lib.hid (show z0.length = len0 from by have := l0.1; simpa using this)
  have K1 := Lib.hid (show z1.length = len1 from by have := l1.1; simpa using this)
  clear l0 l1 h0 h1 hz0' hz1' n0 n1
  go_enter Try.func4, Try.ntmps4
  go_wp2_with fail
  refine (awake_any _).mono ?_
  rintro _ w1 ⟨rfl, hb1⟩
  have B1 := Lib.hid hb1
  clear hb1
  rcases (show 100 < len0 ∨ (len0 ≤ 100 ∧ 100 < len1) ∨ (len0 ≤ 100 ∧ len1 ≤ 100) from by omega) with q | ⟨q, q'⟩ | ⟨q, q'⟩
  · go_wp2
    go_ret
    exact ⟨rfl, B1.out⟩
  · have p : ¬ 100 < len0 := by omega
    go_wp2
    go_ret
    exact ⟨rfl, B1.out⟩
  have p : ¬ 100 < len0 := by omega
  have p' : ¬ 100 < len1 := by omega
  have p2 : decide ((100 : Int) < (len0 : Int)) = false := by simp; omega
  have p3 : decide ((100 : Int) < (len1 : Int)) = false := by simp; omega
  have sz1 := B1.out.size
  go_wp2
  go_loopw [5, 7] (fun v I wr => ∃ k : Nat, I = .int .i64 (k : Int) ∧ k ≤ len0 ∧ wr.ownsRow w1.heap.size 39 2 v k (cel (Om.tag (z0.take k) 0)) ∧ Below w1.heap.size w1 wr) (fun _ I _ => len0 - (intOf I).toNat)
  case atStart => exact ⟨0, rfl, Nat.zero_le _, by simpa [Om.tag, cel_nil] using World.ownsRow_nil _ _ _ _, Below.refl _ _⟩
  case round =>
    obtain ⟨k, rfl, hk, hown, hb⟩ := hrel
    have O := Lib.hid hown
    have Bk := Lib.hid hb
    have szk := hb.size
    clear hown hb
    by_cases hlt : k < len0
    · obtain ⟨x, hx⟩ : ∃ x, z0[k]? = some x := ⟨_, List.getElem?_eq_getElem (by rw [K0.out]; omega)⟩
      obtain ⟨b, off, rfl, hbb, hc⟩ := L0.out.2 (by omega)
      have c1 : wr.cell? ⟨b, off + k, none⟩ = some (.int .i64 x) := ((B1.out.trans (Bk.out.mono sz1)).cell hbb).trans (hc k _ (by rw [List.getElem?_map, hx]; rfl))
      have TS := Lib.hid (Om.tag_snoc (o := 0) hx)
      have E1 := Lib.hid (O.out.alloc (.cells #[.int .i64 x, .int .i64 (k : Int)] 39))
      have V1 := Lib.hid (VecE.one (t := 39) (heap_alloc_new wr (.cells #[.int .i64 x, .int .i64 (k : Int)] 39)))
      have BA := Lib.hid (Bk.out.alloc szk (.cells #[.int .i64 x, .int .i64 (k : Int)] 39))
      clear hx hc
      go_wp2_with (at_builtin; refine append_vec _ rfl (.tmp 28) (.tmp 35) 37 rfl w1.heap.size 39 i0 (.agg #[.int .i64 0, .int .i64 0]) 16 Try.underlying37 hi hz0 hz1 hz2 rfl u5 k (Om.tag (z0.take k) 0) rfl E1.out (some ⟨wr.heap.size, 0, none⟩) 1 1 [(x, (k : Int))] rfl (fun h => by cases h) V1.out (by unfold maxLen; omega) (by omega) BA.out.size ?_; intro v1 w2 hown1 hg1; have B2 := Lib.hid (BA.out.grown hg1 BA.out.size (own_block2 E1.out)); have O2 := Lib.hid hown1; clear hown1 hg1 c1)
      have O3 : Hid (w2.ownsRow w1.heap.size 39 2 v1 (k + 1) (cel (Om.tag (z0.take (k + 1)) 0))) := by
        show w2.ownsRow w1.heap.size 39 2 v1 (k + 1) (cel (Om.tag (z0.take (k + 1)) 0))
        rw [TS.out, Int.zero_add]; exact O2.out
      go_roundw
      case rel => exact ⟨k + 1, congrArg (Value.int .i64) (by omega), by omega, O3.out, B2.out⟩
      case measure => simp [intOf]; omega
    · obtain rfl : k = len0 := by omega
      have hO := O.out
      rw [List.take_of_length_le (by rw [K0.out]; omega)] at hO
      obtain ⟨Al, cl, hvl, hnl, hcl⟩ := own_form2 hO
      have VL := Lib.hid (show VecE wr Al k (Om.tag z0 0) from by rw [hvl] at hO; exact VecE.of_own hO)
      subst hvl
      have NL := Lib.hid hnl
      have Bw := Lib.hid (B1.out.trans (Bk.out.mono sz1))
      have szw := Bw.out.size
      obtain ⟨w2, hw2⟩ : ∃ w2, w2 = wr := ⟨_, rfl⟩
      rw [← hw2] at VL Bw szw
      rw [← hw2]
      clear hO O Bk szk hnl B1 sz1 hw2
      go_wp2
      go_loopw [6, 8] (fun v I ws => ∃ j : Nat, I = .int .i64 (j : Int) ∧ j ≤ len1 ∧ ws.ownsRow w2.heap.size 39 2 v j (cel (Om.tag (z1.take j) (k : Int))) ∧ Below w2.heap.size w2 ws) (fun _ I _ => len1 - (intOf I).toNat)
      case atStart => exact ⟨0, rfl, Nat.zero_le _, by simpa [Om.tag, cel_nil] using World.ownsRow_nil _ _ _ _, Below.refl _ _⟩
      case round =>
        obtain ⟨j, rfl, hj, hown, hb⟩ := hrel
        have O := Lib.hid hown
        have Bk := Lib.hid hb
        have szk := hb.size
        clear hown hb
        by_cases hlt2 : j < len1
        · obtain ⟨x, hx⟩ : ∃ x, z1[j]? = some x := ⟨_, List.getElem?_eq_getElem (by rw [K1.out]; omega)⟩
          obtain ⟨b, off, rfl, hbb, hc⟩ := L1.out.2 (by omega)
          have c1 : wr.cell? ⟨b, off + j, none⟩ = some (.int .i64 x) := ((Bw.out.trans (Bk.out.mono szw)).cell hbb).trans (hc j _ (by rw [List.getElem?_map, hx]; rfl))
          have TS := Lib.hid (Om.tag_snoc (o := (k : Int)) hx)
          have E1 := Lib.hid (O.out.alloc (.cells #[.int .i64 x, .int .i64 ((k : Int) + (j : Int))] 39))
          have V1 := Lib.hid (VecE.one (t := 39) (heap_alloc_new wr (.cells #[.int .i64 x, .int .i64 ((k : Int) + (j : Int))] 39)))
          have BA := Lib.hid (Bk.out.alloc szk (.cells #[.int .i64 x, .int .i64 ((k : Int) + (j : Int))] 39))
          clear hx hc
          go_wp2_with (at_builtin; refine append_vec _ rfl (.tmp 43) (.tmp 53) 37 rfl w2.heap.size 39 i0 (.agg #[.int .i64 0, .int .i64 0]) 16 Try.underlying37 hi hz0 hz1 hz2 rfl u6 j (Om.tag (z1.take j) (k : Int)) rfl E1.out (some ⟨wr.heap.size, 0, none⟩) 1 1 [(x, (k : Int) + (j : Int))] rfl (fun h => by cases h) V1.out (by unfold maxLen; omega) (by omega) BA.out.size ?_; intro v1 w3 hown1 hg1; have B3 := Lib.hid (BA.out.grown hg1 BA.out.size (own_block2 E1.out)); have O2 := Lib.hid hown1; clear hown1 hg1 c1)
          have O3 : Hid (w3.ownsRow w2.heap.size 39 2 v1 (j + 1) (cel (Om.tag (z1.take (j + 1)) (k : Int)))) := by
            show w3.ownsRow w2.heap.size 39 2 v1 (j + 1) (cel (Om.tag (z1.take (j + 1)) (k : Int)))
            rw [TS.out]; exact O2.out
          go_roundw
          case rel => exact ⟨j + 1, congrArg (Value.int .i64) (by omega), by omega, O3.out, B3.out⟩
          case measure => simp [intOf]; omega
        · obtain rfl : j = len1 := by omega
          have hO := O.out
          rw [List.take_of_length_le (by rw [K1.out]; omega)] at hO
          obtain ⟨Am, cm, hvm, hnm, hcm⟩ := own_form2 hO
          have VM := Lib.hid (show VecE wr Am j (Om.tag z1 (k : Int)) from by rw [hvm] at hO; exact VecE.of_own hO)
          subst hvm
          have NM := Lib.hid hnm
          have VL3 := Lib.hid (VL.out.below Bk.out)
          have B3 := Lib.hid (Bw.out.trans (Bk.out.mono szw))
          clear hO O Bk szk hnm Bw szw VL
          have TL := Lib.hid (show (Om.tag z0 0).length = k from by rw [Om.tag_length]; exact K0.out)
          have TM := Lib.hid (show (Om.tag z1 (k : Int)).length = j from by rw [Om.tag_length]; exact K1.out)
          obtain ⟨R, hR⟩ : ∃ R : Bool, R = true ↔ Om.Rise z0 k := by
            by_cases h : Om.Rise z0 k
            · exact ⟨true, ⟨fun _ => h, fun _ => rfl⟩⟩
            · exact ⟨false, ⟨(fun h' => by cases h'), fun h' => absurd h' h⟩⟩
          have HR := Lib.hid hR
          have HR2 := Lib.hid (hR.trans (Om.rise_next z0 0 k).symm)
          clear hR
          go_wp2_with fail
          refine (sortP Al k cl _ _ VL3.out NL.out (by omega)).mono ?_
          rintro _ w4 ⟨g, rfl, -, hx, hb4⟩
          have X := Lib.hid (hx.vec (n := k) (by rw [Om.isort_length]; exact TL.out))
          have VL4 := Lib.hid (VL3.out.below hb4)
          have VM4 := Lib.hid (VM.out.below hb4)
          have B4 := Lib.hid (B3.out.trans (hb4.mono B3.out.size))
          clear hx hb4 B3 VL3 VM
          go_wp2_with fail
          refine (sortP Am j cm _ _ VM4.out NM.out (by omega)).mono ?_
          rintro _ w5 ⟨g', rfl, -, hy, hb5⟩
          have Y := Lib.hid (hy.vec (n := j) (by rw [Om.isort_length]; exact TM.out))
          have X5 := Lib.hid (X.out.below hb5)
          have VL5 := Lib.hid (VL4.out.below hb5)
          have VM5 := Lib.hid (VM4.out.below hb5)
          have B5 := Lib.hid (B4.out.trans (hb5.mono B4.out.size))
          clear hy hb5 B4 VL4 VM4 X
          go_wp2_with fail
          refine (refP Al k cl _ _ VL5.out (by omega)).mono ?_
          rintro _ w6 ⟨A6, c6, rfl, hr6, hb6⟩
          have R6 := Lib.hid hr6
          have X6 := Lib.hid (X5.out.below hb6)
          have Y6 := Lib.hid (Y.out.below hb6)
          have VL6 := Lib.hid (VL5.out.below hb6)
          have VM6 := Lib.hid (VM5.out.below hb6)
          have B6 := Lib.hid (B5.out.trans (hb6.mono B5.out.size))
          clear hr6 hb6 B5 VL5 VM5 X5 Y
          go_wp2_with fail
          refine (sameP _ _ k k _ _ _ _ _ X6.out R6.out (by omega) (by omega)).mono ?_
          rintro _ w7 ⟨he, hb7⟩
          rw [decide_eq_true rfl] at he
          subst he
          have X7 := Lib.hid (X6.out.below hb7)
          have Y7 := Lib.hid (Y6.out.below hb7)
          have VL7 := Lib.hid (VL6.out.below hb7)
          have VM7 := Lib.hid (VM6.out.below hb7)
          have B7 := Lib.hid (B6.out.trans (hb7.mono B6.out.size))
          clear hb7 B6 VL6 VM6 X6 Y6 R6
          go_wp2_with fail
          refine (refP Am j cm _ _ VM7.out (by omega)).mono ?_
          rintro _ w8 ⟨A8, c8, rfl, hr8, hb8⟩
          have R8 := Lib.hid hr8
          have X8 := Lib.hid (X7.out.below hb8)
          have Y8 := Lib.hid (Y7.out.below hb8)
          have VL8 := Lib.hid (VL7.out.below hb8)
          have VM8 := Lib.hid (VM7.out.below hb8)
          have B8 := Lib.hid (B7.out.trans (hb8.mono B7.out.size))
          clear hr8 hb8 B7 VL7 VM7 X7 Y7
          go_wp2_with fail
          refine (sameP _ _ j j _ _ _ _ _ Y8.out R8.out (by omega) (by omega)).mono ?_
          rintro _ w9 ⟨he, hb9⟩
          rw [decide_eq_true rfl] at he
          subst he
          have X9 := Lib.hid (X8.out.below hb9)
          have Y9 := Lib.hid (Y8.out.below hb9)
          have VL9 := Lib.hid (VL8.out.below hb9)
          have VM9 := Lib.hid (VM8.out.below hb9)
          have B9 := Lib.hid (B8.out.trans (hb9.mono B8.out.size))
          clear hb9 B8 VL8 VM8 X8 Y8 R8
          go_wp2_with fail
          refine (sortedP _ k _ _ true _ X9.out (by omega) ⟨fun _ => Om.next_srt (Om.isort_srt Om.less_ord _) _, fun _ => rfl⟩).mono ?_
          rintro _ wa ⟨rfl, hba⟩
          have Xa := Lib.hid (X9.out.below hba)
          have Ya := Lib.hid (Y9.out.below hba)
          have VLa := Lib.hid (VL9.out.below hba)
          have VMa := Lib.hid (VM9.out.below hba)
          have Ba := Lib.hid (B9.out.trans (hba.mono B9.out.size))
          clear hba B9 VL9 VM9 X9 Y9
          go_wp2_with fail
          refine (sortedP _ k _ _ R _ VLa.out (by omega) HR2.out).mono ?_
          rintro _ wb ⟨rfl, hbb⟩
          have Xb := Lib.hid (Xa.out.below hbb)
          have Yb := Lib.hid (Ya.out.below hbb)
          have VLb := Lib.hid (VLa.out.below hbb)
          have VMb := Lib.hid (VMa.out.below hbb)
          have Bb := Lib.hid (Ba.out.trans (hbb.mono Ba.out.size))
          clear hbb Ba VLa VMa Xa Ya
          go_wp2_with fail
          refine (rises_any a0 k cap0 z0 R _ ((L0.out.below Bb.out).more Bb.out.size) (by omega) HR.out).mono ?_
          rintro _ wc ⟨rfl, hbc⟩
          have Xc := Lib.hid (Xb.out.below hbc)
          have Yc := Lib.hid (Yb.out.below hbc)
          have VLc := Lib.hid (VLb.out.below hbc)
          have VMc := Lib.hid (VMb.out.below hbc)
          have Bc := Lib.hid (Bb.out.trans (hbc.mono Bb.out.size))
          clear hbc Bb VLb VMb Xb Yb
          have gR : (R != R) = false := by simp
          have sc := Bc.out.size
          have E5 := Lib.hid (own_none2 (base := wc.heap.size) (heap_alloc_new wc (.cells #[] 39)) (Nat.le_refl _))
          have BE := Lib.hid (show Below wc.heap.size wc (wc.alloc (.cells #[] 39)) from (Below.refl _ wc).alloc (Nat.le_refl _) _)
          go_wp2_with (first
            | (at_builtin; refine append_vec _ rfl (.tmp 83) (.tmp 84) 37 rfl wc.heap.size 39 i0 (.agg #[.int .i64 0, .int .i64 0]) 16 Try.underlying37 hi hz0 hz1 hz2 rfl (.slice (some ⟨wc.heap.size, 0, none⟩) 0 0) 0 [] rfl E5.out Al k cl (Om.tag z0 0) rfl NL.out (VLc.out.below BE.out) (by unfold maxLen; omega) (by omega) BE.out.size ?_; intro v1 wd hown1 hg1; have Bd := Lib.hid (BE.out.grown hg1 BE.out.size (own_block2 E5.out)); have Od := Lib.hid hown1; clear hown1 hg1)
            | (at_builtin; refine append_vec _ rfl (.tmp 85) (.tmp 86) 37 rfl wc.heap.size 39 i0 (.agg #[.int .i64 0, .int .i64 0]) 16 Try.underlying37 hi hz0 hz1 hz2 rfl v1 (0 + k) ([] ++ Om.tag z0 0) rfl Od.out Am j cm (Om.tag z1 (k : Int)) rfl NM.out (VMc.out.below Bd.out) (by unfold maxLen; omega) (by omega) Bd.out.size ?_; intro v2 we hown2 hg2; have Be := Lib.hid (Bd.out.grown hg2 Bd.out.size (own_block2 Od.out)); obtain ⟨Ae, ce, hve, hne, hce⟩ := own_form2 hown2; subst hve; have Oe := Lib.hid (VecE.of_own hown2); have Ne := Lib.hid hne; clear hown2 hg2 hne))
          have Ve : Hid (VecE we Ae (k + j) (Om.tag z0 0 ++ Om.tag z1 (k : Int))) := by have := Oe.out; rw [Nat.zero_add, List.nil_append] at this; exact this
          have Xe := Lib.hid (Xc.out.below Be.out)
          have Ye := Lib.hid (Yc.out.below Be.out)
          have Bf := Lib.hid (Bc.out.trans (Be.out.mono sc))
          clear Oe Od Bd E5 BE Xc Yc VLc VMc Bc Be sc
          refine (mergeP _ _ k j _ _ _ _ _ Xe.out Ye.out (fun h => by cases h) (fun h => by cases h) (by omega) (by omega) (Nat.le_refl _) (Nat.le_refl _)).mono ?_
          rintro _ wf ⟨Af, cf, rfl, hmf, -, -, hbf⟩
          rw [← Om.isort_append Om.less_ord] at hmf
          have Mf := Lib.hid hmf
          have Vf := Lib.hid (Ve.out.below hbf)
          have Bg := Lib.hid (Bf.out.trans (hbf.mono Bf.out.size))
          clear hmf hbf Ve Xe Ye Bf
          go_wp2_with fail
          refine (refP Ae (k + j) ce _ _ Vf.out (by omega)).mono ?_
          rintro _ wh ⟨Ah, ch, rfl, hrh, hbh⟩
          have Rh := Lib.hid hrh
          have Mh := Lib.hid (Mf.out.below hbh)
          have Bh := Lib.hid (Bg.out.trans (hbh.mono Bg.out.size))
          clear hrh hbh Mf Vf Bg
          go_wp2_with fail
          refine (sameP _ _ (k + j) (k + j) _ _ _ _ _ Mh.out Rh.out (by omega) (by omega)).mono ?_
          rintro _ wi ⟨he, hbi⟩
          rw [decide_eq_true rfl] at he
          subst he
          have Bi := Lib.hid (Bh.out.trans (hbi.mono Bh.out.size))
          clear hbi Bh
          go_wp2
          go_ret
          exact ⟨rfl, Bi.out⟩

theorem own : ownKnob Try.prog.godebug = none := by kernel_rfl
theorem laidOut : laidOutB Try.prog = true := by kernel_rfl
set_option maxRecDepth 100000 in
theorem lifted (os : Os) (started : os.Started) (H : Type) (enc : TypeId × Value → H) :
    ReturnsInHanded {} Try.checked os 4 .any (Rows.orderStandsSpec.pre6 enc Try.prog Try.f4 Rows.orderStandsRow.domain false) (Rows.orderStandsSpec.post enc Try.prog Try.f4 false true false false) := by
  refine returnsInHanded_of_change (C := Try.checked) own started (by kernel_rfl) Try.func4
    (ChangeSpec.witness6 (enc := enc) (C := Try.checked) false ⟨#[], #[.slice none 0 0, .slice none 0 0], []⟩ 8 (by kernel_rfl) (by kernel_rfl) (by kernel_rfl) (by kernel_rfl)) ?_
  intro W base args ds gs before hval0 hW hcnd _
  have hval : ∀ (j : Nat) t v, Try.f4.params[j]? = some t → args[j]? = some v → Value.okWide Try.prog W .any base t v := hval0
  have hW' := hW
  obtain ⟨p, q, hA0, hV, rfl, hfz, hnd⟩ := hW
  have hA : DataW.TrodAll enc Try.prog W 0 (fun _ => true) true Try.f4.params.toList args.toList ds p := hA0
  rw [Try.params4] at hA hval
  obtain ⟨v0, vs0, d0, ds0, p0, q0, hargs, rfl, rfl, h0, r0⟩ := trodAll_cons hA
  obtain ⟨v1, vs1, d1, ds1, p1, q1, rfl, rfl, rfl, h1, r1⟩ := trodAll_cons r0
  obtain ⟨rfl, rfl, rfl⟩ := trodAll_nil r1
  obtain rfl : args = #[v0, v1] := by cases args; simp_all
  obtain ⟨rfl, rfl⟩ := trodVars_none hV
  obtain ⟨a0, len0, cap0, rfl⟩ := okWide_slice Try.underlying36 (hval 0 36 v0 rfl rfl)
  have k0 := h0
  have lt0 : ∀ x ∈ p0, x.block < W.heap.size := by obtain ⟨m, hm⟩ := k0; exact DataW.trod_lt m _ _ _ hm
  obtain ⟨z0, w0⟩ : ∃ zs, IsRow .i64 W a0 len0 cap0 zs := by
    obtain ⟨fuel, hf⟩ := h0
    rcases open_ints Try.underlying36 Try.underlying3 (by kernel_rfl) hf with ⟨hcs, _⟩ | ⟨x, l, c, zs, hcs, _, hl, hm, hz, _, hcell, hwz⟩
    · simp [Value.cells] at hcs
      obtain ⟨rfl, rfl, rfl⟩ := hcs
      exact ⟨[], .inl ⟨rfl, rfl, rfl, rfl⟩⟩
    · simp [Value.cells] at hcs
      obtain ⟨rfl, rfl, rfl⟩ := hcs
      exact ⟨zs, .inr ⟨_, rfl, hl, hm, by simpa using hz, hcell, hwz⟩⟩
  obtain ⟨a1, len1, cap1, rfl⟩ := okWide_slice Try.underlying36 (hval 1 36 v1 rfl rfl)
  have k1 := h1
  have lt1 : ∀ x ∈ p1, x.block < W.heap.size := by obtain ⟨m, hm⟩ := k1; exact DataW.trod_lt m _ _ _ hm
  obtain ⟨z1, w1⟩ : ∃ zs, IsRow .i64 W a1 len1 cap1 zs := by
    obtain ⟨fuel, hf⟩ := h1
    rcases open_ints Try.underlying36 Try.underlying3 (by kernel_rfl) hf with ⟨hcs, _⟩ | ⟨x, l, c, zs, hcs, _, hl, hm, hz, _, hcell, hwz⟩
    · simp [Value.cells] at hcs
      obtain ⟨rfl, rfl, rfl⟩ := hcs
      exact ⟨[], .inl ⟨rfl, rfl, rfl, rfl⟩⟩
    · simp [Value.cells] at hcs
      obtain ⟨rfl, rfl, rfl⟩ := hcs
      exact ⟨zs, .inr ⟨_, rfl, hl, hm, by simpa using hz, hcell, hwz⟩⟩
  clear hA0 hval0
  refine (walk a0 len0 cap0 z0 a1 len1 cap1 z1 W w0 w1).mono fun e W' ⟨he, bel⟩ => ?_
  subst he
  exact ⟨_, rfl, _, _, _, [], _, [], hW', trodAll_mk1 (shut_bool Try.underlying4 _), (trodAll_cons_mk (Below.trod laidOut (by kernel_rfl) (of_decide_eq_true (by kernel_rfl)) k0 bel lt0) (trodAll_cons_mk (Below.trod laidOut (by kernel_rfl) (of_decide_eq_true (by kernel_rfl)) k1 bel lt1) trodAll_mk0)), rfl, bel.frame _, fun h => by cases h⟩
theorem over : Rows.orderStandsRow.holds Try.pinned (OpenSpec.ofChange Rows.orderStandsSpec) :=
  OpenClaim.holds_of_wide 4 Try.f4 rfl rfl rfl rfl rfl rfl rfl ⟨rfl, rfl, rfl, rfl, rfl⟩ rfl rfl rfl rfl rfl (by kernel_rfl) Try.func4 (by kernel_rfl)
    (of_decide_eq_true (by kernel_rfl)) (by unfold Func.isWrapper; first | (rw [if_pos (by decide +kernel)]; kernel_rfl) | (rw [if_neg (by decide +kernel)]; exact ⟨rfl, rfl⟩))
    (fun os started H enc _ => lifted os started H enc)
/-- the statement -/
theorem proved : Rows.OrderStandsSaid := over
#print axioms proved
end Go.Proofs.Ytfefhandlkbeoaa.orderStands
