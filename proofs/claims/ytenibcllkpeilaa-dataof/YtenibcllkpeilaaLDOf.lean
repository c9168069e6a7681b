/-
  DataOf holds for every input: any list is items of any dimension just as the document says, or the first error is told; each is told by its id; how far it is, too. No condition.
-/
import Derived.Test.YtenibcllkpeilaaDAwk
import Derived.Test.YtenibcllkpeilaaDRef
import Derived.ProofKit
import Derived.OpenShut
import Derived.ShutString
import Derived.ChangeOld
import Derived.WalkSmall
namespace Go.Proofs.Ytenibcllkpeilaa.dataOf
open Go.ChangeShapes Go.WideShapes Go.ChangeAt Go.RowKit Go.Deep
open Go.ChangeMaps (open_string shut_string)
set_option linter.unusedVariables false

set_option maxHeartbeats 1600000 in
set_option maxRecDepth 100000 in
theorem walk (d : Int) (a1 : Option Addr) (n cap1 : Nat) (L : List (List Int)) (id : Int) (a3 : Option Addr) (m cap3 : Nat) (z3 : List Int) (w : World) (_w0 : (Lit.int .i64 d).wf = true) (w1 : Lv w a1 n cap1 L) (_w2 : (Lit.int .i64 id).wf = true) (w3 : IsRow .i32 w a3 m cap3 z3) :
    Calls Try.prog 4 #[.int .i64 d, .slice a1 n cap1, .int .i64 id, .slice a3 m cap3] w fun e w' => e = .returned (.bool true) ∧ Below w.heap.size w w' := by
  obtain ⟨v, hV, -, -⟩ := w3.vec
  have HL := Lib.hid w1
  have HV := Lib.hid hV
  clear w1 w3 hV _w0 _w2
  go_enter Try.func4, Try.ntmps4
  go_wp2_with fail
  refine (awake_any _).mono ?_
  rintro _ W1 ⟨rfl, hb1⟩
  have HB1 := Lib.hid hb1
  have HL1 := Lib.hid (HL.out.below hb1)
  have HV1 := Lib.hid (HV.out.below hb1)
  clear hb1 HL HV
  go_wp2_with fail
  refine (fewD HL1.out).mono ?_
  rintro _ W1' (⟨rfl, rfl⟩ | ⟨rfl, hn, rfl⟩)
  · go_wp2
    go_ret
    exact ⟨rfl, HB1.out⟩
  by_cases gm : 2000 < m
  · go_wp2
    go_ret
    exact ⟨rfl, HB1.out⟩
  by_cases hc : Dm.chks d L = 0
  case neg =>
    have HO := Lib.hid (ofD_no HL1.out (by omega) d hc)
    have HR := Lib.hid (fun (W2 : World) (hb : Below W1.heap.size W1 W2) => refCheckD (HL1.out.below hb) (by unfold maxLen; omega) d)
    obtain ⟨z, hz⟩ : ∃ z, z = Dm.chks d L := ⟨_, rfl⟩
    rw [← hz] at HO HR hc
    have hq : (z != 0) = true := by simpa using hc
    clear hz hc
    go_wp2_with fail
    refine HO.out.mono ?_
    rintro _ W2 ⟨rfl, hb2⟩
    have HB2 := Lib.hid (HB1.out.trans (hb2.mono HB1.out.size))
    have HR2 := Lib.hid (HR.out W2 hb2)
    clear hb2 HR HO
    go_wp2_with fail
    refine HR2.out.mono ?_
    rintro _ _ ⟨rfl, rfl⟩
    go_wp2
    go_ret
    exact ⟨rfl, HB2.out⟩
  case pos =>
    have HO := Lib.hid (ofD HL1.out (by omega) d hc)
    have HR := Lib.hid (fun (W2 : World) (hb : Below W1.heap.size W1 W2) => refCheckD (HL1.out.below hb) (by unfold maxLen; omega) d)
    rw [hc] at HR
    have hln := HL1.out.len
    clear hc
    go_wp2_with fail
    refine HO.out.mono ?_
    rintro _ W2 ⟨s, S, rfl, hi, -, hb2⟩
    have HI := Lib.hid hi
    have HB2 := Lib.hid (HB1.out.trans (hb2.mono HB1.out.size))
    have HR2 := Lib.hid (HR.out W2 hb2)
    have HL2 := Lib.hid (HL1.out.below hb2)
    have HV2 := Lib.hid (HV1.out.below hb2)
    have HLE := lenD hi
    rw [hln] at HLE
    have HLE2 := Lib.hid HLE
    clear hb2 HR HO HB1 HL1 HV1 hi HLE
    go_wp2_with fail
    refine HR2.out.mono ?_
    rintro _ _ ⟨rfl, rfl⟩
    go_wp2_with fail
    refine HLE2.out.mono ?_
    rintro _ _ ⟨rfl, rfl⟩
    by_cases hid : 0 ≤ id ∧ id < (n : Int)
    case neg =>
      have HA := Lib.hid (atD_no HI.out id (by rw [hln]; exact hid))
      have HF := Lib.hid (farD_no HI.out id (by rw [hln]; exact hid) (c := cap3) HV2.out (by omega))
      rcases (show id < 0 ∨ (0 ≤ id ∧ (n : Int) ≤ id) from by omega) with g1 | ⟨g1, g2⟩
      all_goals
        clear hid
        go_wp2_with fail
        refine HA.out.mono ?_
        rintro _ _ ⟨rfl, rfl⟩
        go_wp2_with fail
        refine HF.out.mono ?_
        rintro _ W3 ⟨rfl, hm⟩
        have HB3 : Hid (Below w.heap.size w W3) := by obtain ⟨q, rfl⟩ := hm; exact bdrew HB2.out q
        clear hm
        go_wp2
        go_ret
        exact ⟨rfl, HB3.out⟩
    case pos =>
      obtain ⟨k, rfl⟩ : ∃ k : Nat, id = (k : Int) := ⟨id.toNat, by omega⟩
      have hk : k < n := by omega
      obtain ⟨l, hx⟩ := HL2.out.get hk
      have hcl := HI.out.ok.at_ hx
      have hdm := dim_max hcl
      have HA := Lib.hid (atD HI.out hx)
      clear hid
      go_wp2_with fail
      refine HA.out.mono ?_
      rintro _ W3 ⟨g, rfl, -, hkb, hb3⟩
      have HI3 := Lib.hid (HI.out.below hb3)
      have HVG := Lib.hid (hkb.vecD hcl)
      have HV3 := Lib.hid (HV2.out.below hb3)
      obtain ⟨b, off, rfl, hb, A', n', c', c0, hv, hn'⟩ := (HL2.out.below hb3).at_ k l hx
      have HVL := Lib.hid hv
      have HB3 := Lib.hid (HB2.out.trans (hb3.mono HB2.out.size))
      have HX := Lib.hid hx
      have e1 := hv.length
      have e2 := (hkb.vecD hcl).length
      obtain ⟨z, hz⟩ : ∃ z, z = Vm.far l v := ⟨_, rfl⟩
      have HZ := Lib.hid hz
      have HF1 := Lib.hid (show ∀ q, Calls Try.prog 19 #[.pointer (some ⟨s, 0, none⟩), .int .i64 (k : Int), .slice a3 m cap3] (W3.drewN q) fun e w'' => e = .returned (.int .i64 z) ∧ ∃ m, w'' = W3.drewN m from fun q => by
        rw [hz]; exact quietly2 (farD (HI3.out.drewN q) hx (HV3.out.drew q) (by omega)))
      have HF2 := Lib.hid (show ∀ q, Calls Try.prog 21 #[.slice A' n' c', .slice a3 m cap3] (W3.drewN q) fun e w'' => e = .returned (.int .i64 z) ∧ ∃ m, w'' = W3.drewN m from fun q => by
        rw [hz]; exact quietly2 (refFar_q _ _ _ _ _ _ l v _ (HVL.out.drew q) (HV3.out.drew q) (by omega) (by omega)))
      have HF3 := Lib.hid (show ∀ q, Calls Try.prog 20 #[.slice (some ⟨g, 0, none⟩) d.toNat d.toNat, .slice A' n' c'] (W3.drewN q) fun e w'' => e = .returned (.bool true) ∧ ∃ m, w'' = W3.drewN m from fun q =>
        quietly2 (refSame_t (HVG.out.drew q) (HVL.out.drew q) (by omega) (by omega)))
      clear hx hcl hkb hb3 hb hv hn' HA HB2 HI HV2 HL2 hz HR2 HLE2 HVG HVL HV3 HI3
      go_wp2
      go_quiet (first
        | (go_at_call 20; exact HF3.out _)
        | (go_at_call 19; exact HF1.out _)
        | (go_at_call 21; exact HF2.out _))
      go_wp2
      go_ret
      exact ⟨by simp, bdrew HB3.out nq⟩
theorem own : ownKnob Try.prog.godebug = none := by kernel_rfl
theorem laidOut : laidOutB Try.prog = true := by kernel_rfl
set_option maxRecDepth 100000 in
theorem lifted (os : Os) (started : os.Started) (H : Type) (enc : TypeId × Value → H) :
    ReturnsInHanded {} Try.checked os 4 .any (Rows.dataOfSpec.pre6 enc Try.prog Try.f4 Rows.dataOfRow.domain false) (Rows.dataOfSpec.post enc Try.prog Try.f4 false true false false) := by
  refine returnsInHanded_of_change (C := Try.checked) own started (by kernel_rfl) Try.func4
    (ChangeSpec.witness6 (enc := enc) (C := Try.checked) false ⟨#[], #[.int .i64 0, .slice none 0 0, .int .i64 0, .slice none 0 0], []⟩ 8 (by kernel_rfl) (by kernel_rfl) (by kernel_rfl) (by kernel_rfl)) ?_
  intro W base args ds gs before hval0 hW hcnd _
  have hval : ∀ (j : Nat) t v, Try.f4.params[j]? = some t → args[j]? = some v → Value.okWide Try.prog W .any base t v := hval0
  have hW' := hW
  obtain ⟨p, q, hA0, hV, rfl, hfz, hnd⟩ := hW
  have hA : DataW.TrodAll enc Try.prog W 0 (fun _ => true) true Try.f4.params.toList args.toList ds p := hA0
  rw [Try.params4] at hA hval
  obtain ⟨v0, vs0, d0, ds0, p0, q0, hargs, rfl, rfl, h0, r0⟩ := trodAll_cons hA
  obtain ⟨v1, vs1, d1, ds1, p1, q1, rfl, rfl, rfl, h1, r1⟩ := trodAll_cons r0
  obtain ⟨v2, vs2, d2, ds2, p2, q2, rfl, rfl, rfl, h2, r2⟩ := trodAll_cons r1
  obtain ⟨v3, vs3, d3, ds3, p3, q3, rfl, rfl, rfl, h3, r3⟩ := trodAll_cons r2
  obtain ⟨rfl, rfl, rfl⟩ := trodAll_nil r3
  obtain rfl : args = #[v0, v1, v2, v3] := by cases args; simp_all
  obtain ⟨rfl, rfl⟩ := trodVars_none hV
  obtain ⟨a0, rfl, rfl, rfl, w0⟩ := open_int Try.underlying3 (hval 0 3 v0 rfl rfl) h0
  obtain ⟨a1, len1, cap1, rfl⟩ := okWide_slice Try.underlying22 (hval 1 22 v1 rfl rfl)
  have k1 := h1
  have lt1 : ∀ x ∈ p1, x.block < W.heap.size := by obtain ⟨m, hm⟩ := k1; exact DataW.trod_lt m _ _ _ hm
  obtain ⟨z1, w1⟩ : ∃ L, Lv W a1 len1 cap1 L := by
    obtain ⟨fuel, hf⟩ := h1
    rcases Go.Deep.open_int_rows Try.underlying22 Try.underlying31 Try.underlying21 (by kernel_rfl) (by kernel_rfl) hf with ⟨hcs, _⟩ | ⟨x, l, c, _, _, _, _, hcs, _, hl, _, _, hx⟩
    · simp [Value.cells] at hcs
      obtain ⟨rfl, rfl, rfl⟩ := hcs
      exact ⟨[], Lv.nil_ _⟩
    · simp [Value.cells] at hcs
      obtain ⟨rfl, rfl, rfl⟩ := hcs
      exact ⟨_, Lv.of_rows hl hx⟩
  obtain ⟨a2, rfl, rfl, rfl, w2⟩ := open_int Try.underlying3 (hval 2 3 v2 rfl rfl) h2
  obtain ⟨a3, len3, cap3, rfl⟩ := okWide_slice Try.underlying31 (hval 3 31 v3 rfl rfl)
  have k3 := h3
  have lt3 : ∀ x ∈ p3, x.block < W.heap.size := by obtain ⟨m, hm⟩ := k3; exact DataW.trod_lt m _ _ _ hm
  obtain ⟨z3, w3⟩ : ∃ zs, IsRow .i32 W a3 len3 cap3 zs := by
    obtain ⟨fuel, hf⟩ := h3
    rcases open_ints Try.underlying31 Try.underlying21 (by kernel_rfl) hf with ⟨hcs, _⟩ | ⟨x, l, c, zs, hcs, _, hl, hm, hz, _, hcell, hwz⟩
    · simp [Value.cells] at hcs
      obtain ⟨rfl, rfl, rfl⟩ := hcs
      exact ⟨[], .inl ⟨rfl, rfl, rfl, rfl⟩⟩
    · simp [Value.cells] at hcs
      obtain ⟨rfl, rfl, rfl⟩ := hcs
      exact ⟨zs, .inr ⟨_, rfl, hl, hm, by simpa using hz, hcell, hwz⟩⟩
  clear hA0 hval0
  refine (walk a0 a1 len1 cap1 z1 a2 a3 len3 cap3 z3 W w0 w1 w2 w3).mono fun e W' ⟨he, bel⟩ => ?_
  subst he
  exact ⟨_, rfl, _, _, _, [], _, [], hW', trodAll_mk1 (shut_bool Try.underlying4 _), (trodAll_cons_mk (shut_int Try.underlying3 w0) (trodAll_cons_mk (Below.trod laidOut (by kernel_rfl) (of_decide_eq_true (by kernel_rfl)) k1 bel lt1) (trodAll_cons_mk (shut_int Try.underlying3 w2) (trodAll_cons_mk (Below.trod laidOut (by kernel_rfl) (of_decide_eq_true (by kernel_rfl)) k3 bel lt3) trodAll_mk0)))), rfl, bel.frame _, fun h => by cases h⟩
theorem over : Rows.dataOfRow.holds Try.pinned (OpenSpec.ofChange Rows.dataOfSpec) :=
  OpenClaim.holds_of_wide 4 Try.f4 rfl rfl rfl rfl rfl rfl rfl ⟨rfl, rfl, rfl, rfl, rfl⟩ rfl rfl rfl rfl rfl (by kernel_rfl) Try.func4 (by kernel_rfl)
    (of_decide_eq_true (by kernel_rfl)) (by unfold Func.isWrapper; first | (rw [if_pos (by decide +kernel)]; kernel_rfl) | (rw [if_neg (by decide +kernel)]; exact ⟨rfl, rfl⟩))
    (fun os started H enc _ => lifted os started H enc)
/-- the statement -/
theorem proved : Rows.DataOfSaid := over
#print axioms proved
end Go.Proofs.Ytenibcllkpeilaa.dataOf
