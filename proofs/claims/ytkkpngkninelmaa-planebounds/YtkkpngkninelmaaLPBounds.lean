/-
  PlaneBounds holds for every input: of a plane and a vector that may be the margin doesn't go round; of the flat plane it is 0. No condition.
-/
import Derived.Test.YtkkpngkninelmaaPArg
import Derived.ProofKit
import Derived.Lib.SmallJoins
import Derived.OpenShut
import Derived.ShutString
import Derived.ChangeOld
import Derived.WalkSmall
namespace Go.Proofs.Ytkkpngkninelmaa.planeBounds
open Go.ChangeShapes Go.WideShapes Go.ChangeAt Go.RowKit Go.Joins
open Go.ChangeMaps (open_string shut_string)
set_option linter.unusedVariables false

set_option maxHeartbeats 1600000 in
set_option maxRecDepth 100000 in
theorem walk (a0 : Option Addr) (len0 cap0 : Nat) (z0 : List Int) (o : Int) (a1 : Option Addr) (len1 cap1 : Nat) (z1 : List Int) (w : World) (w0 : (Lit.int .i64 o).wf = true ∧ IsRow .i32 w a0 len0 cap0 z0) (w1 : IsRow .i32 w a1 len1 cap1 z1) :
    Calls Try.prog 5 #[.agg #[.slice a0 len0 cap0, .int .i64 o], .slice a1 len1 cap1] w fun e w' => e = .returned (.bool true) ∧ Below w.heap.size w w' := by
  obtain ⟨l, hV, m0, -⟩ := w0.2.vec
  obtain ⟨r, hV', m1, -⟩ := w1.vec
  obtain ⟨D, hD⟩ : ∃ D, D = w.alloc (.cells #[.slice a0 len0 cap0, .int .i64 o] 24) := ⟨_, rfl⟩
  have hb : Below w.heap.size w D := by rw [hD]; exact (Below.refl _ w).alloc (Nat.le_refl _) _
  have hp : Pbx D w.heap.size a0 len0 cap0 o := by rw [hD]; exact Pbx.new w _ _ _ _
  have V := Lib.hid (hV.below hb)
  have V' := Lib.hid (hV'.below hb)
  have P := Lib.hid hp
  have HB := Lib.hid hb
  have HD := Lib.hid hD
  clear w0 w1 hV hV' hb hp hD
  by_cases g : 1024 < len1
  · go_enter Try.func5, Try.ntmps5
    go_wp2_with fail
    rw [← HD.out]
    refine (awake_c (w0 := D) (Below.refl _ _)).mono ?_
    rintro e w1 ⟨rfl, hb1⟩
    have HB1 := Lib.hid (HB.out.trans (hb1.mono HB.out.size))
    clear hb1
    go_wp2
    go_ret
    exact ⟨rfl, HB1.out⟩
  have l1 : len1 ≤ 1024 := by omega
  clear g
  obtain ⟨p, hp⟩ : ∃ p, Pm.chk l o (len1 : Int) = p := ⟨_, rfl⟩
  have HP := Lib.hid hp
  by_cases c0 : p = 0
  case neg =>
    have q := ne_bool c0
    clear c0 hp
    go_enter Try.func5, Try.ntmps5
    go_wp2_with fail
    rw [← HD.out]
    refine (awake_c (w0 := D) (Below.refl _ _)).mono ?_
    rintro e w1 ⟨rfl, hb1⟩
    have k0 := (P.out.below hb1).c0
    have k1 := (P.out.below hb1).c1
    have HB1 := Lib.hid hb1
    clear hb1
    go_wp2_with fail
    refine (chkP_c V.out HB1.out m0).mono ?_
    rintro e w2 ⟨rfl, hb2⟩
    rw [HP.out]
    have HB2 := Lib.hid (HB.out.trans (hb2.mono HB.out.size))
    clear hb2 HB1 k0 k1
    go_wp2
    go_ret
    exact ⟨rfl, HB2.out⟩
  subst c0
  clear hp
  obtain ⟨p', hp'⟩ : ∃ p, Vm.chk r (len1 : Int) = p := ⟨_, rfl⟩
  have HP' := Lib.hid hp'
  by_cases c0 : p' = 0
  case neg =>
    have q := ne_bool c0
    clear c0 hp'
    go_enter Try.func5, Try.ntmps5
    go_wp2_with fail
    rw [← HD.out]
    refine (awake_c (w0 := D) (Below.refl _ _)).mono ?_
    rintro e w1 ⟨rfl, hb1⟩
    have k0 := (P.out.below hb1).c0
    have k1 := (P.out.below hb1).c1
    have HB1 := Lib.hid hb1
    clear hb1
    go_wp2_with fail
    refine (chkP_c V.out HB1.out m0).mono ?_
    rintro e w2 ⟨rfl, hb2⟩
    rw [HP.out]
    have HB2 := Lib.hid hb2
    clear hb2 HB1 k0 k1
    go_wp2_with fail
    refine (check_c V'.out HB2.out m1).mono ?_
    rintro e w3 ⟨rfl, rfl⟩
    rw [HP'.out]
    go_wp2
    go_ret
    exact ⟨rfl, HB.out.trans (HB2.out.mono HB.out.size)⟩
  subst c0
  clear hp'
  obtain ⟨M, hM⟩ : ∃ M, Pm.mar l o r = M := ⟨_, rfl⟩
  obtain ⟨b0, b1⟩ := Pm.mar_bound HP.out HP'.out
  have hl0 : (len0 : Int) = len1 := by rw [← (Pm.chk_ok HP.out).2.2.1, V.out.length]
  have hl1 : 1 ≤ len1 := by have := (Pm.chk_ok HP.out).1; omega
  have ln0 : len0 ≤ 10000 := by omega
  rw [hM] at b0 b1
  have HM := Lib.hid hM
  have g0 : decide (-18014398509481984 ≤ M) = true := decide_eq_true b0
  have g1 : decide (M ≤ 18014398509481984) = true := decide_eq_true b1
  have F0 := Lib.hid (Pm.flat_mar len1 r)
  have F1 := Lib.hid (Pm.flat_chk len1 hl1 l1)
  have F2 : Hid ((len1 : Int) = if (len1 : Int) < 0 ∨ 1024 < (len1 : Int) then 0 else (len1 : Int)) := Lib.hid (by rw [if_neg (by omega)])
  clear hM b0 b1 hl0 hl1
  go_enter Try.func5, Try.ntmps5
  go_wp2_with fail
  rw [← HD.out]
  refine (awake_c (w0 := D) (Below.refl _ _)).mono ?_
  rintro e w1 ⟨rfl, hb1⟩
  have k0 := (P.out.below hb1).c0
  have k1 := (P.out.below hb1).c1
  have HB1 := Lib.hid hb1
  clear hb1
  go_wp2_with fail
  refine (chkP_c V.out HB1.out m0).mono ?_
  rintro e w2 ⟨rfl, hb2⟩
  rw [HP.out]
  have HB2 := Lib.hid hb2
  clear HB1 k0 k1
  go_wp2_with fail
  refine (check_c V'.out HB2.out m1).mono ?_
  rintro e w3 ⟨rfl, rfl⟩
  rw [HP'.out]
  have k0 := (P.out.below hb2).c0
  have k1 := (P.out.below hb2).c1
  clear hb2
  go_wp2_with fail
  refine (marg_c V.out V'.out HB2.out ln0 (by omega)).mono ?_
  rintro e w4 ⟨rfl, hb4⟩
  rw [HM.out]
  have HB4 := Lib.hid hb4
  clear hb4 k0 k1
  go_wp2_with fail
  refine (flat_c HB4.out l1 F2.out).mono ?_
  rintro e w5 ⟨g, rfl, hv5, hb5, -⟩
  obtain ⟨E, hE⟩ : ∃ E, E = w5.alloc (.cells #[.slice (some ⟨g, 0, none⟩) len1 len1, .int .i64 0] 24) := ⟨_, rfl⟩
  have hbE : Below w5.heap.size w5 E := by rw [hE]; exact (Below.refl _ _).alloc (Nat.le_refl _) _
  have hpE : Pbx E w5.heap.size (some ⟨g, 0, none⟩) len1 len1 0 := by rw [hE]; exact Pbx.new _ _ _ _ _
  have V5 := Lib.hid (hv5.below hbE)
  have HB5 := Lib.hid (hb5.trans (hbE.mono hb5.size))
  have V5' := Lib.hid (V'.out.below HB5.out)
  have PE := Lib.hid hpE
  have HE := Lib.hid hE
  clear hv5 hb5 hbE hpE hE HB4
  go_wp2_with fail
  rw [← HE.out]
  refine (marg_c (w0 := E) V5.out V5'.out (Below.refl _ _) (by omega) (by omega)).mono ?_
  rintro e w6 ⟨rfl, hb6⟩
  rw [F0.out]
  have k0 := (PE.out.below hb6).c0
  have k1 := (PE.out.below hb6).c1
  have HB6 := Lib.hid hb6
  clear hb6
  go_wp2_with fail
  refine (side_c V5.out V5'.out HB6.out (by omega) (by omega)).mono ?_
  rintro e w7 ⟨rfl, hb7⟩
  rw [F0.out]
  have HB7 := Lib.hid hb7
  clear HB6 k0 k1
  have k0 := (PE.out.below hb7).c0
  have k1 := (PE.out.below hb7).c1
  clear hb7
  go_wp2_with fail
  refine (chkP_c V5.out HB7.out (by unfold maxLen; omega)).mono ?_
  rintro e w8 ⟨rfl, hb8⟩
  rw [F1.out]
  have HB8 := Lib.hid (HB5.out.trans (hb8.mono HB5.out.size))
  clear hb8 k0 k1
  go_wp2
  go_ret
  exact ⟨rfl, HB.out.trans (HB8.out.mono HB.out.size)⟩
theorem own : ownKnob Try.prog.godebug = none := by kernel_rfl
theorem laidOut : laidOutB Try.prog = true := by kernel_rfl
set_option maxRecDepth 100000 in
theorem lifted (os : Os) (started : os.Started) (H : Type) (enc : TypeId × Value → H) :
    ReturnsInHanded {} Try.checked os 5 .any (Rows.planeBoundsSpec.pre6 enc Try.prog Try.f5 Rows.planeBoundsRow.domain false) (Rows.planeBoundsSpec.post enc Try.prog Try.f5 false true false false) := by
  refine returnsInHanded_of_change (C := Try.checked) own started (by kernel_rfl) Try.func5
    (ChangeSpec.witness6 (enc := enc) (C := Try.checked) false ⟨#[], #[.agg #[.slice none 0 0, .int .i64 0], .slice none 0 0], []⟩ 8 (by kernel_rfl) (by kernel_rfl) (by kernel_rfl) (by kernel_rfl)) ?_
  intro W base args ds gs before hval0 hW hcnd _
  have hval : ∀ (j : Nat) t v, Try.f5.params[j]? = some t → args[j]? = some v → Value.okWide Try.prog W .any base t v := hval0
  have hW' := hW
  obtain ⟨p, q, hA0, hV, rfl, hfz, hnd⟩ := hW
  have hA : DataW.TrodAll enc Try.prog W 0 (fun _ => true) true Try.f5.params.toList args.toList ds p := hA0
  rw [Try.params5] at hA hval
  obtain ⟨v0, vs0, d0, ds0, p0, q0, hargs, rfl, rfl, h0, r0⟩ := trodAll_cons hA
  obtain ⟨v1, vs1, d1, ds1, p1, q1, rfl, rfl, rfl, h1, r1⟩ := trodAll_cons r0
  obtain ⟨rfl, rfl, rfl⟩ := trodAll_nil r1
  obtain rfl : args = #[v0, v1] := by cases args; simp_all
  obtain ⟨rfl, rfl⟩ := trodVars_none hV
  have k0 := h0
  have lt0 : ∀ x ∈ p0, x.block < W.heap.size := by obtain ⟨m, hm⟩ := k0; exact DataW.trod_lt m _ _ _ hm
  obtain ⟨a0, len0, cap0, z0, o0, g0, w0⟩ : ∃ (a : Option Addr) (len cap : Nat) (zs : List Int) (o : Int), v0 = .agg #[.slice a len cap, .int .i64 o] ∧ (Lit.int .i64 o).wf = true ∧ IsRow .i32 W a len cap zs := by
    obtain ⟨u0, u1, y0, y1, n, rfl, -, -, t0, t1⟩ := open_agg2 Try.underlying24 (by kernel_rfl) (by kernel_rfl) (hval 0 24 v0 rfl rfl) h0
    obtain ⟨o, ho, -, hw⟩ := DataW.trod_int Try.underlying2 t1
    simp at ho
    subst ho
    rcases open_ints Try.underlying22 Try.underlying21 (by kernel_rfl) t0 with ⟨hcs, _⟩ | ⟨x, l, c, zs, hcs, _, hl, hm, hz, _, hcell, hwz⟩
    · simp at hcs
      subst hcs
      exact ⟨none, 0, 0, [], o, rfl, hw, .inl ⟨rfl, rfl, rfl, rfl⟩⟩
    · simp at hcs
      subst hcs
      exact ⟨some x, l, c, zs, o, rfl, hw, .inr ⟨_, rfl, hl, hm, by simpa using hz, hcell, hwz⟩⟩
  subst g0
  obtain ⟨a1, len1, cap1, rfl⟩ := okWide_slice Try.underlying22 (hval 1 22 v1 rfl rfl)
  have k1 := h1
  have lt1 : ∀ x ∈ p1, x.block < W.heap.size := by obtain ⟨m, hm⟩ := k1; exact DataW.trod_lt m _ _ _ hm
  obtain ⟨z1, w1⟩ : ∃ zs, IsRow .i32 W a1 len1 cap1 zs := by
    obtain ⟨fuel, hf⟩ := h1
    rcases open_ints Try.underlying22 Try.underlying21 (by kernel_rfl) hf with ⟨hcs, _⟩ | ⟨x, l, c, zs, hcs, _, hl, hm, hz, _, hcell, hwz⟩
    · simp [Value.cells] at hcs
      obtain ⟨rfl, rfl, rfl⟩ := hcs
      exact ⟨[], .inl ⟨rfl, rfl, rfl, rfl⟩⟩
    · simp [Value.cells] at hcs
      obtain ⟨rfl, rfl, rfl⟩ := hcs
      exact ⟨zs, .inr ⟨_, rfl, hl, hm, by simpa using hz, hcell, hwz⟩⟩
  clear hA0 hval0
  refine (walk a0 len0 cap0 z0 o0 a1 len1 cap1 z1 W w0 w1).mono fun e W' ⟨he, bel⟩ => ?_
  subst he
  exact ⟨_, rfl, _, _, _, [], _, [], hW', trodAll_mk1 (shut_bool Try.underlying4 _), (trodAll_cons_mk (Below.trod laidOut (by kernel_rfl) (of_decide_eq_true (by kernel_rfl)) k0 bel lt0) (trodAll_cons_mk (Below.trod laidOut (by kernel_rfl) (of_decide_eq_true (by kernel_rfl)) k1 bel lt1) trodAll_mk0)), rfl, bel.frame _, fun h => by cases h⟩
theorem over : Rows.planeBoundsRow.holds Try.pinned (OpenSpec.ofChange Rows.planeBoundsSpec) :=
  OpenClaim.holds_of_wide 5 Try.f5 rfl rfl rfl rfl rfl rfl rfl ⟨rfl, rfl, rfl, rfl, rfl⟩ rfl rfl rfl rfl rfl (by kernel_rfl) Try.func5 (by kernel_rfl)
    (of_decide_eq_true (by kernel_rfl)) (by unfold Func.isWrapper; first | (rw [if_pos (by decide +kernel)]; kernel_rfl) | (rw [if_neg (by decide +kernel)]; exact ⟨rfl, rfl⟩))
    (fun os started H enc _ => lifted os started H enc)
/-- the statement -/
theorem proved : Rows.PlaneBoundsSaid := over
#print axioms proved
end Go.Proofs.Ytkkpngkninelmaa.planeBounds
