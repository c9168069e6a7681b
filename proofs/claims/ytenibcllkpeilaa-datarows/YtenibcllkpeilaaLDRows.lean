/-
  DataRows holds for every input: items that are added one by one are those that are made at once; each is as far from another one as the other way round. No condition.
-/
import Derived.Test.YtenibcllkpeilaaDAwk
import Derived.Test.YtenibcllkpeilaaDRef
import Derived.ProofKit
import Derived.OpenShut
import Derived.ShutString
import Derived.ChangeOld
import Derived.WalkSmall
namespace Go.Proofs.Ytenibcllkpeilaa.dataRows
open Go.ChangeShapes Go.WideShapes Go.ChangeAt Go.RowKit Go.Deep
open Go.ChangeMaps (open_string shut_string)
set_option linter.unusedVariables false

/-- the first k of L are added at s, behind what w0 holds -/
structure Ads (w0 : World) (s : Nat) (d : Int) (L : List (List Int)) (k : Nat) (W : World) : Prop where
  ex : ∃ S, It W S s d (L.take k) ∧ ∀ q, S q → w0.heap.size ≤ q
  be : Below w0.heap.size w0 W
theorem Ads.add {w0 W : World} {s k n c : Nat} {d : Int} {L : List (List Int)} {l : List Int} {A : Option Addr} (h : Ads w0 s d L k W) (hx : L[k]? = some l) (hv : Vec W A n l) (hc : Vm.chk l d = 0) (hL : L.length ≤ 1000) :
    Calls Try.prog 10 #[.pointer (some ⟨s, 0, none⟩), .slice A n c] W fun e w' => e = .returned (.tuple #[.int .i64 (k : Int), .int .i64 0]) ∧ Ads w0 s d L (k + 1) w' := by
  obtain ⟨⟨S, hi, hS⟩, hb⟩ := h
  have hk : k < L.length := (List.getElem?_eq_some_iff.1 hx).1
  have hkl : (L.take k).length = k := by rw [List.length_take]; omega
  have ha := addD (c := c) hi hv hc (by omega)
  rw [hkl] at ha
  refine ha.mono ?_
  rintro e W2 ⟨h1, S', i2, k2, s2⟩
  refine ⟨h1, ⟨S', by rw [List.take_add_one, hx]; exact i2, fun q hq => ?_⟩, hb.trans (k2.old hb.size hS)⟩
  rcases s2 q hq with h | h
  · exact hS q h
  · exact Nat.le_trans hb.size h

theorem at_any {w : World} {S : Nat → Prop} {s : Nat} {d : Int} {L : List (List Int)} (h : It w S s d L) (b : Int) (t : Bool) (ht : t = decide (0 ≤ b ∧ b < (L.length : Int))) :
    Calls Try.prog 18 #[.pointer (some ⟨s, 0, none⟩), .int .i64 b] w fun e w' => ∃ A c m, e = .returned (.tuple #[.slice A m c, .bool t]) ∧ Below w.heap.size w w' := by
  by_cases gb : 0 ≤ b ∧ b < (L.length : Int)
  · obtain ⟨j, rfl⟩ : ∃ j : Nat, b = (j : Int) := ⟨b.toNat, by omega⟩
    obtain ⟨l, hl⟩ : ∃ l, L[j]? = some l := ⟨_, List.getElem?_eq_getElem (by omega)⟩
    refine (atD h hl).mono ?_
    rintro _ _ ⟨g, rfl, -, -, h2⟩
    rw [ht, decide_eq_true gb]
    exact ⟨_, _, _, rfl, h2⟩
  · refine (atD_no h b gb).mono ?_
    rintro _ _ ⟨rfl, rfl⟩
    rw [ht, decide_eq_false gb]
    exact ⟨_, _, _, rfl, Below.refl _ _⟩

set_option maxHeartbeats 3200000 in
set_option maxRecDepth 100000 in
theorem walk (d : Int) (a1 : Option Addr) (n cap1 : Nat) (L : List (List Int)) (a b : Int) (w : World) (_w0 : (Lit.int .i64 d).wf = true) (w1 : Lv w a1 n cap1 L) (_w2 : (Lit.int .i64 a).wf = true) (_w3 : (Lit.int .i64 b).wf = true) :
    Calls Try.prog 6 #[.int .i64 d, .slice a1 n cap1, .int .i64 a, .int .i64 b] w fun e w' => e = .returned (.bool true) ∧ Below w.heap.size w w' := by
  have HL := Lib.hid w1
  clear w1 _w0 _w2 _w3
  go_enter Try.func6, Try.ntmps6
  go_wp2_with fail
  refine (awake_any _).mono ?_
  rintro _ W1 ⟨rfl, hb1⟩
  have HB1 := Lib.hid hb1
  have HL1 := Lib.hid (HL.out.below hb1)
  clear hb1 HL
  go_wp2_with fail
  refine (fewD HL1.out).mono ?_
  rintro _ W1' (⟨rfl, rfl⟩ | ⟨rfl, hn, rfl⟩)
  · go_wp2
    go_ret
    exact ⟨rfl, HB1.out⟩
  by_cases hc : Dm.chks d L = 0
  case neg =>
    have HO := Lib.hid (ofD_no HL1.out (by omega) d hc)
    obtain ⟨z, hz⟩ : ∃ z, z = Dm.chks d L := ⟨_, rfl⟩
    rw [← hz] at HO hc
    have hq : (z != 0) = true := by simpa using hc
    clear hz hc
    go_wp2_with fail
    refine HO.out.mono ?_
    rintro _ W2 ⟨rfl, hb2⟩
    have HB2 := Lib.hid (HB1.out.trans (hb2.mono HB1.out.size))
    clear hb2 HO
    have HN : Hid (Calls Try.prog 9 #[.int .i64 d] W2 fun e w' => ∃ p z2, e = .returned (.tuple #[.pointer p, .int .i64 z2]) ∧ Below W2.heap.size W2 w') := by
      by_cases g : d < 1 ∨ 1024 < d
      · exact (newD_no d W2 g).mono fun _ _ h => ⟨_, _, h.1, by rw [h.2]; exact Below.refl _ _⟩
      · exact (newD d W2 (by omega) (by omega)).mono fun _ _ h => ⟨_, _, h.1, h.2.2⟩
    go_wp2_with fail
    refine HN.out.mono ?_
    rintro _ W3 ⟨p, z2, rfl, hb3⟩
    have HB3 := Lib.hid (HB2.out.trans (hb3.mono HB2.out.size))
    clear hb3 HN
    go_wp2
    go_ret
    exact ⟨rfl, HB3.out⟩
  obtain ⟨d0, d1, hok⟩ := Dm.chks_zero hc
  have HO := Lib.hid (ofD HL1.out (by omega) d hc)
  have hln := HL1.out.len
  have HOK := Lib.hid hok
  clear hc hok
  go_wp2_with fail
  refine HO.out.mono ?_
  rintro _ W2 ⟨s, S, rfl, hi, -, hb2⟩
  have HI := Lib.hid hi
  have HB2 := Lib.hid (HB1.out.trans (hb2.mono HB1.out.size))
  have HL2 := Lib.hid (HL1.out.below hb2)
  clear hb2 HO HB1 HL1 hi
  go_wp2_with fail
  refine (newD d W2 d0 d1).mono ?_
  rintro _ W3 ⟨rfl, hi3, hb3⟩
  have HS3 : Hid (Ads W2 W2.heap.size d L 0 W3) := ⟨⟨_, hi3, fun q e => by rw [e]; exact Nat.le_refl _⟩, hb3⟩
  clear hi3 hb3
  go_wp2_with fail
  go_loopw [13] (fun i wr => ∃ k : Nat, k ≤ n ∧ i = .int .i64 k ∧ Ads W2 W2.heap.size d L k wr) (fun i _ => n - (intOf i).toNat)
  case atStart => exact ⟨0, Nat.zero_le _, rfl, HS3.out⟩
  case round =>
    clear HS3
    obtain ⟨k, hk, rfl, hst⟩ := hrel
    have HS := Lib.hid hst
    by_cases hlt : k < n
    · have hL2 := HL2.out.below hst.be
      obtain ⟨l, hx⟩ := hL2.get hlt
      obtain ⟨bb, off, rfl, hbb, A', n', c', h2, hv, hn'⟩ := hL2.at_ k l hx
      have HA := Lib.hid (HS.out.add (c := c') hx hv (HOK.out.at_ hx) (by omega))
      clear hL2 hx hbb hv hn' hst
      go_wp2_with fail
      refine HA.out.mono ?_
      rintro _ W4 ⟨rfl, h4⟩
      have H4 := Lib.hid h4
      clear h4 HA HS
      go_wp2
      go_roundw
      case rel => exact ⟨k + 1, by omega, by go_num, H4.out⟩
      case measure => simp [intOf]; omega
    · obtain rfl : k = n := by omega
      obtain ⟨⟨T, hiy, -⟩, hby⟩ := hst
      rw [List.take_of_length_le (by omega)] at hiy
      have HX := Lib.hid (HI.out.below hby)
      have HY := Lib.hid hiy
      have HBy := Lib.hid (HB2.out.trans (hby.mono HB2.out.size))
      obtain ⟨sy, hsy⟩ : ∃ sy, sy = W2.heap.size := ⟨_, rfl⟩
      rw [← hsy] at HY ⊢
      clear hiy hby HS HI HL2 HB2 hsy
      by_cases ga : 0 ≤ a ∧ a < (k : Int)
      case neg =>
        have HA := Lib.hid (atD_no HX.out a (by rw [hln]; exact ga))
        have HC := Lib.hid (fun t ht => at_any HY.out b t ht)
        rw [hln] at HC
        rcases (show a < 0 ∨ (0 ≤ a ∧ (k : Int) ≤ a) from by omega) with g1 | ⟨g1, g2⟩
        all_goals
          have HT : ∃ t, Hid (Calls Try.prog 18 #[.pointer (some ⟨sy, 0, none⟩), .int .i64 b] wr fun e w' => ∃ A c m, e = .returned (.tuple #[.slice A m c, .bool t]) ∧ Below wr.heap.size wr w') ∧ ((t = false ∧ b < 0) ∨ (t = false ∧ 0 ≤ b ∧ (k : Int) ≤ b) ∨ (t = true ∧ 0 ≤ b ∧ b < (k : Int))) :=
            ⟨_, HC.out _ rfl, by simp; omega⟩
          obtain ⟨t, HC2, ⟨rfl, q1⟩ | ⟨rfl, q1, q2⟩ | ⟨rfl, q1, q2⟩⟩ := HT
          all_goals
            clear HC ga
            go_wp2_with fail
            refine HA.out.mono ?_
            rintro _ _ ⟨rfl, rfl⟩
            go_wp2_with fail
            refine HC2.out.mono ?_
            rintro _ W5 ⟨A5, c5, m5, rfl, hb5⟩
            have HB5 := Lib.hid (HBy.out.trans (hb5.mono HBy.out.size))
            clear hb5 HC2 HA
            go_wp2
            go_ret
            exact ⟨rfl, HB5.out⟩
      case pos =>
        obtain ⟨p, rfl⟩ : ∃ p : Nat, a = (p : Int) := ⟨a.toNat, by omega⟩
        have hp : p < k := by omega
        obtain ⟨la, hla⟩ : ∃ l, L[p]? = some l := ⟨_, List.getElem?_eq_getElem (by omega)⟩
        have HA := Lib.hid (atD HX.out hla)
        have hca := HX.out.ok.at_ hla
        have hdm := dim_max hca
        clear ga
        by_cases gb : 0 ≤ b ∧ b < (k : Int)
        case neg =>
          have HC := Lib.hid (fun (W : World) (hb : Below wr.heap.size wr W) => atD_no (HY.out.below hb) b (by rw [hln]; exact gb))
          rcases (show b < 0 ∨ (0 ≤ b ∧ (k : Int) ≤ b) from by omega) with q1 | ⟨q1, q2⟩
          all_goals
            clear gb
            go_wp2_with fail
            refine HA.out.mono ?_
            rintro _ W4 ⟨g, rfl, -, -, hb4⟩
            have HC4 := Lib.hid (HC.out W4 hb4)
            have HB4 := Lib.hid (HBy.out.trans (hb4.mono HBy.out.size))
            clear hb4 HC HA
            go_wp2_with fail
            refine HC4.out.mono ?_
            rintro _ _ ⟨rfl, rfl⟩
            go_wp2
            go_ret
            exact ⟨rfl, HB4.out⟩
        case pos =>
          obtain ⟨q, rfl⟩ : ∃ q : Nat, b = (q : Int) := ⟨b.toNat, by omega⟩
          have hq : q < k := by omega
          obtain ⟨lb, hlb⟩ : ∃ l, L[q]? = some l := ⟨_, List.getElem?_eq_getElem (by omega)⟩
          have hcb := HX.out.ok.at_ hlb
          have HC := Lib.hid (fun (W : World) (hb : Below wr.heap.size wr W) => atD (HY.out.below hb) hlb)
          clear gb
          go_wp2_with fail
          refine HA.out.mono ?_
          rintro _ W4 ⟨g, rfl, -, hg4, hb4⟩
          have HC4 := Lib.hid (HC.out W4 hb4)
          have HB4 := Lib.hid (HBy.out.trans (hb4.mono HBy.out.size))
          have HX4 := Lib.hid (HX.out.below hb4)
          have HY4 := Lib.hid (HY.out.below hb4)
          have HV4 := Lib.hid (hg4.vecD hca)
          clear hg4 hb4 HC HA HX HY HBy
          go_wp2_with fail
          refine HC4.out.mono ?_
          rintro _ W5 ⟨g5, rfl, -, hg5, hb5⟩
          have HB5 := Lib.hid (HB4.out.trans (hb5.mono HB4.out.size))
          have HX5 := Lib.hid (HX4.out.below hb5)
          have HY5 := Lib.hid (HY4.out.below hb5)
          have HV5 := Lib.hid (HV4.out.below hb5)
          have HW5 := Lib.hid (hg5.vecD hcb)
          clear hg5 hb5 HC4 HB4 HX4 HY4 HV4
          have hz0 := Dm.far_zero hcb hca
          obtain ⟨z, hz⟩ : ∃ z, z = Vm.far lb la := ⟨_, rfl⟩
          have F1 := Lib.hid (show ∀ r, Calls Try.prog 19 #[.pointer (some ⟨s, 0, none⟩), .int .i64 (q : Int), .slice (some ⟨g, 0, none⟩) d.toNat d.toNat] (W5.drewN r) fun e w' => e = .returned (.int .i64 z) ∧ ∃ m, w' = W5.drewN m from fun r => by
            rw [hz]; exact quietly2 (farD (HX5.out.drewN r) hlb (HV5.out.drew r) (by omega)))
          have F2 := Lib.hid (show ∀ r, Calls Try.prog 19 #[.pointer (some ⟨sy, 0, none⟩), .int .i64 (p : Int), .slice (some ⟨g5, 0, none⟩) d.toNat d.toNat] (W5.drewN r) fun e w' => e = .returned (.int .i64 z) ∧ ∃ m, w' = W5.drewN m from fun r => by
            rw [hz, Vm.far_comm]; exact quietly2 (farD (HY5.out.drewN r) hla (HW5.out.drew r) (by omega)))
          have F3 := Lib.hid (show ∀ r, Calls Try.prog 20 #[.slice (some ⟨g, 0, none⟩) d.toNat d.toNat, .slice (some ⟨g5, 0, none⟩) d.toNat d.toNat] (W5.drewN r) fun e w' => e = .returned (.bool (decide (la = lb))) ∧ ∃ m, w' = W5.drewN m from fun r =>
            quietly2 (refSame_q _ _ _ _ _ _ la lb _ (HV5.out.drew r) (HW5.out.drew r) (by omega) (by omega)))
          rw [← hz] at hz0
          have hy : (z == 0) = decide (la = lb) := by
            rw [Bool.eq_iff_iff, beq_iff_eq, decide_eq_true_iff, hz0]
            exact eq_comm
          obtain ⟨t, ht⟩ : ∃ t, t = decide (la = lb) := ⟨_, rfl⟩
          rw [← ht] at hy F3
          have hzz : (z == z) = true := by simp
          have htt : (t == t) = true := by simp
          clear hz hz0 ht hca hcb hla hlb HX5 HY5 HV5 HW5
          go_wp2_with fail
          refine (F1.out 0).mono ?_
          rintro _ _ ⟨rfl, m1, rfl⟩
          go_wp2_with fail
          refine (F2.out m1).mono ?_
          rintro _ _ ⟨rfl, m2, rfl⟩
          go_wp2_with fail
          refine (F1.out m2).mono ?_
          rintro _ _ ⟨rfl, m3, rfl⟩
          go_wp2_with fail
          refine (F3.out m3).mono ?_
          rintro _ _ ⟨rfl, m4, rfl⟩
          have HBE := Lib.hid (bdrew HB5.out m4)
          clear F1 F2 F3 HB5
          go_wp2
          go_ret
          exact ⟨by simp, HBE.out⟩
theorem own : ownKnob Try.prog.godebug = none := by kernel_rfl
theorem laidOut : laidOutB Try.prog = true := by kernel_rfl
set_option maxRecDepth 100000 in
theorem lifted (os : Os) (started : os.Started) (H : Type) (enc : TypeId × Value → H) :
    ReturnsInHanded {} Try.checked os 6 .any (Rows.dataRowsSpec.pre6 enc Try.prog Try.f6 Rows.dataRowsRow.domain false) (Rows.dataRowsSpec.post enc Try.prog Try.f6 false true false false) := by
  refine returnsInHanded_of_change (C := Try.checked) own started (by kernel_rfl) Try.func6
    (ChangeSpec.witness6 (enc := enc) (C := Try.checked) false ⟨#[], #[.int .i64 0, .slice none 0 0, .int .i64 0, .int .i64 0], []⟩ 8 (by kernel_rfl) (by kernel_rfl) (by kernel_rfl) (by kernel_rfl)) ?_
  intro W base args ds gs before hval0 hW hcnd _
  have hval : ∀ (j : Nat) t v, Try.f6.params[j]? = some t → args[j]? = some v → Value.okWide Try.prog W .any base t v := hval0
  have hW' := hW
  obtain ⟨p, q, hA0, hV, rfl, hfz, hnd⟩ := hW
  have hA : DataW.TrodAll enc Try.prog W 0 (fun _ => true) true Try.f6.params.toList args.toList ds p := hA0
  rw [Try.params6] at hA hval
  obtain ⟨v0, vs0, d0, ds0, p0, q0, hargs, rfl, rfl, h0, r0⟩ := trodAll_cons hA
  obtain ⟨v1, vs1, d1, ds1, p1, q1, rfl, rfl, rfl, h1, r1⟩ := trodAll_cons r0
  obtain ⟨v2, vs2, d2, ds2, p2, q2, rfl, rfl, rfl, h2, r2⟩ := trodAll_cons r1
  obtain ⟨v3, vs3, d3, ds3, p3, q3, rfl, rfl, rfl, h3, r3⟩ := trodAll_cons r2
  obtain ⟨rfl, rfl, rfl⟩ := trodAll_nil r3
  obtain rfl : args = #[v0, v1, v2, v3] := by cases args; simp_all
  obtain ⟨rfl, rfl⟩ := trodVars_none hV
  obtain ⟨a0, rfl, rfl, rfl, w0⟩ := open_int Try.underlying3 (hval 0 3 v0 rfl rfl) h0
  obtain ⟨a1, len1, cap1, rfl⟩ := okWide_slice Try.underlying22 (hval 1 22 v1 rfl rfl)
  have k1 := h1
  have lt1 : ∀ x ∈ p1, x.block < W.heap.size := by obtain ⟨m, hm⟩ := k1; exact DataW.trod_lt m _ _ _ hm
  obtain ⟨z1, w1⟩ : ∃ L, Lv W a1 len1 cap1 L := by
    obtain ⟨fuel, hf⟩ := h1
    rcases Go.Deep.open_int_rows Try.underlying22 Try.underlying31 Try.underlying21 (by kernel_rfl) (by kernel_rfl) hf with ⟨hcs, _⟩ | ⟨x, l, c, _, _, _, _, hcs, _, hl, _, _, hx⟩
    · simp [Value.cells] at hcs
      obtain ⟨rfl, rfl, rfl⟩ := hcs
      exact ⟨[], Lv.nil_ _⟩
    · simp [Value.cells] at hcs
      obtain ⟨rfl, rfl, rfl⟩ := hcs
      exact ⟨_, Lv.of_rows hl hx⟩
  obtain ⟨a2, rfl, rfl, rfl, w2⟩ := open_int Try.underlying3 (hval 2 3 v2 rfl rfl) h2
  obtain ⟨a3, rfl, rfl, rfl, w3⟩ := open_int Try.underlying3 (hval 3 3 v3 rfl rfl) h3
  clear hA0 hval0
  refine (walk a0 a1 len1 cap1 z1 a2 a3 W w0 w1 w2 w3).mono fun e W' ⟨he, bel⟩ => ?_
  subst he
  exact ⟨_, rfl, _, _, _, [], _, [], hW', trodAll_mk1 (shut_bool Try.underlying4 _), (trodAll_cons_mk (shut_int Try.underlying3 w0) (trodAll_cons_mk (Below.trod laidOut (by kernel_rfl) (of_decide_eq_true (by kernel_rfl)) k1 bel lt1) (trodAll_cons_mk (shut_int Try.underlying3 w2) (trodAll_cons_mk (shut_int Try.underlying3 w3) trodAll_mk0)))), rfl, bel.frame _, fun h => by cases h⟩
theorem over : Rows.dataRowsRow.holds Try.pinned (OpenSpec.ofChange Rows.dataRowsSpec) :=
  OpenClaim.holds_of_wide 6 Try.f6 rfl rfl rfl rfl rfl rfl rfl ⟨rfl, rfl, rfl, rfl, rfl⟩ rfl rfl rfl rfl rfl (by kernel_rfl) Try.func6 (by kernel_rfl)
    (of_decide_eq_true (by kernel_rfl)) (by unfold Func.isWrapper; first | (rw [if_pos (by decide +kernel)]; kernel_rfl) | (rw [if_neg (by decide +kernel)]; exact ⟨rfl, rfl⟩))
    (fun os started H enc _ => lifted os started H enc)
/-- the statement -/
theorem proved : Rows.DataRowsSaid := over
#print axioms proved
end Go.Proofs.Ytenibcllkpeilaa.dataRows
