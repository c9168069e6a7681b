/-
  VecSpaces holds for every input: how far two are is bent by a third one as it should be: twice the sum of both ways is no less; and a sum of products goes by parts. No condition.
-/
import Derived.Test.YtmnckpjboieeiaaVAll
import Derived.ProofKit
import Derived.OpenShut
import Derived.ShutString
import Derived.ChangeOld
import Derived.WalkSmall
namespace Go.Proofs.Ytmnckpjboieeiaa.vecSpaces
open Go.ChangeShapes Go.WideShapes Go.ChangeAt Go.RowKit
open Go.ChangeMaps (open_string shut_string)
set_option linter.unusedVariables false

theorem ne_bool {x : Int} (h : ¬ x = 0) : (x != 0) = true := by simpa using h
/-- what vectors that may be tell -/
theorem facts {l r t : List Int} {n : Nat} (c0 : Vm.chk l (n : Int) = 0) (c1 : Vm.chk r (n : Int) = 0) (c2 : Vm.chk t (n : Int) = 0) : ∃ X Y Z S T U : Int,
    Vm.far l r = X ∧ Vm.far r t = Y ∧ Vm.far l t = Z ∧ Vm.dot l t = S ∧ Vm.dot r t = T ∧ Vm.dot (Vm.less l r) t = U ∧ U = S - T ∧ n ≤ 1024 ∧
    Z ≤ 2 * (X + Y) ∧ 0 ≤ X ∧ X ≤ 4503599627370496 ∧ 0 ≤ Y ∧ Y ≤ 4503599627370496 ∧ 0 ≤ Z ∧ Z ≤ 4503599627370496 ∧
    -1125899906842624 ≤ S ∧ S ≤ 1125899906842624 ∧ -1125899906842624 ≤ T ∧ T ≤ 1125899906842624 := by
  obtain ⟨d0, d1, e0, g0⟩ := Vm.chk_ok c0
  obtain ⟨-, -, e1, g1⟩ := Vm.chk_ok c1
  obtain ⟨-, -, e2, g2⟩ := Vm.chk_ok c2
  have hl : l.length = r.length := by omega
  have hl' : l.length = t.length := by omega
  have b0 := Vm.farZ_bound l r g0 g1
  have b1 := Vm.farZ_bound r t g1 g2
  have b2 := Vm.farZ_bound l t g0 g2
  have b3 := Vm.dotZ_bound l t g0 g2
  have b4 := Vm.dotZ_bound r t g1 g2
  have e5 := Vm.dotZ_less_by l r t hl hl' g0 g1
  have e6 := Vm.farZ_bent l r t hl hl'
  refine ⟨Vm.farZ l r, Vm.farZ r t, Vm.farZ l t, Vm.dotZ l t, Vm.dotZ r t, Vm.dotZ (Vm.less l r) t, Vm.wrap_in (by omega) (by omega), Vm.wrap_in (by omega) (by omega), Vm.wrap_in (by omega) (by omega), Vm.wrap_in (by omega) (by omega), Vm.wrap_in (by omega) (by omega), Vm.wrap_in (by omega) (by omega), e5, by omega, e6, ?_⟩
  omega

set_option maxHeartbeats 1600000 in
set_option maxRecDepth 100000 in
theorem good_walk (a0 a1 a2 : Option Addr) (n cap0 cap1 cap2 : Nat) (l r t : List Int) (w : World) (V : Hid (Vec w a0 n l)) (V' : Hid (Vec w a1 n r)) (V2 : Hid (Vec w a2 n t))
    (c0 : Vm.chk l (n : Int) = 0) (c1 : Vm.chk r (n : Int) = 0) (c2 : Vm.chk t (n : Int) = 0) :
    Calls Try.prog 5 #[.slice a0 n cap0, .slice a1 n cap1, .slice a2 n cap2] w fun e w' => e = .returned (.bool true) ∧ Below w.heap.size w w' := by
  obtain ⟨X, Y, Z, S, T, U, k1, k2, k3, k4, k5, k6, k7, hn, h0, x0, x1, y0, y1, z0, z1, s0, s1, t0, t1⟩ := facts c0 c1 c2
  have C0 := Lib.hid c0
  have C1 := Lib.hid c1
  have C2 := Lib.hid c2
  have K1 := Lib.hid k1
  have K2 := Lib.hid k2
  have K3 := Lib.hid k3
  have K4 := Lib.hid k4
  have K5 := Lib.hid k5
  have K6 := Lib.hid k6
  have K7 := Lib.hid k7
  have m0 : n ≤ maxLen := by unfold maxLen; omega
  clear c0 c1 c2 k1 k2 k3 k4 k5 k6 k7
  go_enter Try.func5, Try.ntmps5
  go_wp2_with fail
  refine (awake_any _).mono ?_
  rintro e w1 ⟨rfl, hb1⟩
  have HB1 := Lib.hid hb1
  clear hb1
  go_wp2_with fail
  refine (few_yes _ _ _ _ _ _ _ (by omega) (by omega)).mono ?_
  rintro e w2 ⟨rfl, rfl⟩
  go_wp2_with fail
  refine (few_yes _ _ _ _ _ _ _ (by omega) (by omega)).mono ?_
  rintro e w2 ⟨rfl, rfl⟩
  go_wp2_with fail
  refine (check_c V.out HB1.out m0).mono ?_
  rintro e w2 ⟨rfl, rfl⟩
  rw [C0.out]
  go_wp2_with fail
  refine (check_c V'.out HB1.out m0).mono ?_
  rintro e w2 ⟨rfl, rfl⟩
  rw [C1.out]
  go_wp2_with fail
  refine (check_c V2.out HB1.out m0).mono ?_
  rintro e w2 ⟨rfl, rfl⟩
  rw [C2.out]
  go_wp2_with fail
  refine (far_c V.out V'.out HB1.out (by omega) (by omega)).mono ?_
  rintro e w2 ⟨rfl, hb2⟩
  rw [K1.out]
  have HB2 := Lib.hid hb2
  clear hb2 HB1
  go_wp2_with fail
  refine (far_c V'.out V2.out HB2.out (by omega) (by omega)).mono ?_
  rintro e w3 ⟨rfl, hb3⟩
  rw [K2.out]
  have HB3 := Lib.hid hb3
  clear hb3 HB2
  go_wp2_with fail
  refine (far_c V.out V2.out HB3.out (by omega) (by omega)).mono ?_
  rintro e w4 ⟨rfl, hb4⟩
  rw [K3.out]
  have HB4 := Lib.hid hb4
  clear hb4 HB3
  go_wp2_with fail
  refine (less_c V.out V'.out HB4.out (by omega) (by omega)).mono ?_
  rintro e w5 ⟨g, rfl, -, -, -, hv5, hb5, -⟩
  rw [Nat.min_self] at hv5
  rw [Nat.min_self]
  have HV5 := Lib.hid hv5
  have HB5 := Lib.hid hb5
  clear hb5 hv5 HB4
  go_wp2_with fail
  refine (dot_any _ _ _ _ _ _ _ _ _ HV5.out (V2.out.below HB5.out) (by omega) (by omega)).mono ?_
  rintro e w6 ⟨rfl, hb6⟩
  rw [K6.out]
  have HB6 := Lib.hid (HB5.out.trans (hb6.mono HB5.out.size))
  clear hb6 HB5 HV5
  go_wp2_with fail
  refine (dot_c V.out V2.out HB6.out (by omega) (by omega)).mono ?_
  rintro e w7 ⟨rfl, hb7⟩
  rw [K4.out]
  have HB7 := Lib.hid hb7
  clear hb7 HB6
  go_wp2_with fail
  refine (dot_c V'.out V2.out HB7.out (by omega) (by omega)).mono ?_
  rintro e w8 ⟨rfl, hb8⟩
  rw [K5.out]
  have HB8 := Lib.hid hb8
  clear hb8 HB7
  go_wp2
  go_ret
  exact ⟨ret_bool (by simpa using K7.out), HB8.out⟩

set_option maxHeartbeats 1600000 in
set_option maxRecDepth 100000 in
theorem walk (a0 : Option Addr) (len0 cap0 : Nat) (z0 : List Int) (a1 : Option Addr) (len1 cap1 : Nat) (z1 : List Int) (a2 : Option Addr) (len2 cap2 : Nat) (z2 : List Int) (w : World) (w0 : IsRow .i32 w a0 len0 cap0 z0) (w1 : IsRow .i32 w a1 len1 cap1 z1) (w2 : IsRow .i32 w a2 len2 cap2 z2) :
    Calls Try.prog 5 #[.slice a0 len0 cap0, .slice a1 len1 cap1, .slice a2 len2 cap2] w fun e w' => e = .returned (.bool true) ∧ Below w.heap.size w w' := by
  obtain ⟨l, hV, m0, -⟩ := w0.vec
  obtain ⟨r, hV', m1, -⟩ := w1.vec
  obtain ⟨t, hV2, m2, -⟩ := w2.vec
  have V := Lib.hid hV
  have V' := Lib.hid hV'
  have V2 := Lib.hid hV2
  clear w0 w1 w2 hV hV' hV2
  by_cases g : 1100 < len0 ∨ 1100 < len1
  · go_enter Try.func5, Try.ntmps5
    go_wp2_with fail
    refine (awake_any _).mono ?_
    rintro e w1 ⟨rfl, hb1⟩
    have HB1 := Lib.hid hb1
    clear hb1
    go_wp2_with fail
    refine (few_no _ _ _ _ _ _ _ g).mono ?_
    rintro e w2 ⟨rfl, rfl⟩
    go_wp2
    go_ret
    exact ⟨rfl, HB1.out⟩
  have l0 : len0 ≤ 1100 := by omega
  have l1 : len1 ≤ 1100 := by omega
  clear g
  by_cases g : 1100 < len2
  case pos =>
    go_enter Try.func5, Try.ntmps5
    go_wp2_with fail
    refine (awake_any _).mono ?_
    rintro e w1 ⟨rfl, hb1⟩
    have HB1 := Lib.hid hb1
    clear hb1
    go_wp2_with fail
    refine (few_yes _ _ _ _ _ _ _ l0 l1).mono ?_
    rintro e w2 ⟨rfl, rfl⟩
    go_wp2_with fail
    refine (few_no _ _ _ _ _ _ _ (Or.inr g)).mono ?_
    rintro e w2 ⟨rfl, rfl⟩
    go_wp2
    go_ret
    exact ⟨rfl, HB1.out⟩
  have l2 : len2 ≤ 1100 := by omega
  clear g
  by_cases c0 : Vm.chk l (len0 : Int) = 0
  case neg =>
    have q := ne_bool c0
    obtain ⟨p, hp⟩ : ∃ p, Vm.chk l (len0 : Int) = p := ⟨_, rfl⟩
    rw [hp] at q
    have HP := Lib.hid hp
    clear c0 hp
    go_enter Try.func5, Try.ntmps5
    go_wp2_with fail
    refine (awake_any _).mono ?_
    rintro e w1 ⟨rfl, hb1⟩
    have HB1 := Lib.hid hb1
    clear hb1
    go_wp2_with fail
    refine (few_yes _ _ _ _ _ _ _ l0 l1).mono ?_
    rintro e w2 ⟨rfl, rfl⟩
    go_wp2_with fail
    refine (few_yes _ _ _ _ _ _ _ l1 l2).mono ?_
    rintro e w2 ⟨rfl, rfl⟩
    go_wp2_with fail
    refine (check_c V.out HB1.out m0).mono ?_
    rintro e w2 ⟨rfl, rfl⟩
    rw [HP.out]
    go_wp2
    go_ret
    exact ⟨rfl, HB1.out⟩
  by_cases c1 : Vm.chk r (len0 : Int) = 0
  case neg =>
    have q := ne_bool c1
    obtain ⟨p, hp⟩ : ∃ p, Vm.chk r (len0 : Int) = p := ⟨_, rfl⟩
    rw [hp] at q
    have HP := Lib.hid hp
    clear c1 hp
    have C0 := Lib.hid c0
    clear c0
    go_enter Try.func5, Try.ntmps5
    go_wp2_with fail
    refine (awake_any _).mono ?_
    rintro e w1 ⟨rfl, hb1⟩
    have HB1 := Lib.hid hb1
    clear hb1
    go_wp2_with fail
    refine (few_yes _ _ _ _ _ _ _ l0 l1).mono ?_
    rintro e w2 ⟨rfl, rfl⟩
    go_wp2_with fail
    refine (few_yes _ _ _ _ _ _ _ l1 l2).mono ?_
    rintro e w2 ⟨rfl, rfl⟩
    go_wp2_with fail
    refine (check_c V.out HB1.out m0).mono ?_
    rintro e w2 ⟨rfl, rfl⟩
    rw [C0.out]
    go_wp2_with fail
    refine (check_c V'.out HB1.out m1).mono ?_
    rintro e w2 ⟨rfl, rfl⟩
    rw [HP.out]
    go_wp2
    go_ret
    exact ⟨rfl, HB1.out⟩
  by_cases c2 : Vm.chk t (len0 : Int) = 0
  case neg =>
    have q := ne_bool c2
    obtain ⟨p, hp⟩ : ∃ p, Vm.chk t (len0 : Int) = p := ⟨_, rfl⟩
    rw [hp] at q
    have HP := Lib.hid hp
    clear c2 hp
    have C0 := Lib.hid c0
    clear c0
    have C1 := Lib.hid c1
    clear c1
    go_enter Try.func5, Try.ntmps5
    go_wp2_with fail
    refine (awake_any _).mono ?_
    rintro e w1 ⟨rfl, hb1⟩
    have HB1 := Lib.hid hb1
    clear hb1
    go_wp2_with fail
    refine (few_yes _ _ _ _ _ _ _ l0 l1).mono ?_
    rintro e w2 ⟨rfl, rfl⟩
    go_wp2_with fail
    refine (few_yes _ _ _ _ _ _ _ l1 l2).mono ?_
    rintro e w2 ⟨rfl, rfl⟩
    go_wp2_with fail
    refine (check_c V.out HB1.out m0).mono ?_
    rintro e w2 ⟨rfl, rfl⟩
    rw [C0.out]
    go_wp2_with fail
    refine (check_c V'.out HB1.out m1).mono ?_
    rintro e w2 ⟨rfl, rfl⟩
    rw [C1.out]
    go_wp2_with fail
    refine (check_c V2.out HB1.out m2).mono ?_
    rintro e w2 ⟨rfl, rfl⟩
    rw [HP.out]
    go_wp2
    go_ret
    exact ⟨rfl, HB1.out⟩
  have hl : len1 = len0 := by have := V'.out.length; have := (Vm.chk_ok c1).2.2.1; omega
  have hl2 : len2 = len0 := by have := V2.out.length; have := (Vm.chk_ok c2).2.2.1; omega
  rw [hl] at V' ⊢
  rw [hl2] at V2 ⊢
  exact good_walk a0 a1 a2 len0 cap0 cap1 cap2 l r t w V V' V2 c0 c1 c2
theorem own : ownKnob Try.prog.godebug = none := by kernel_rfl
theorem laidOut : laidOutB Try.prog = true := by kernel_rfl
set_option maxRecDepth 100000 in
theorem lifted (os : Os) (started : os.Started) (H : Type) (enc : TypeId × Value → H) :
    ReturnsInHanded {} Try.checked os 5 .any (Rows.vecSpacesSpec.pre6 enc Try.prog Try.f5 Rows.vecSpacesRow.domain false) (Rows.vecSpacesSpec.post enc Try.prog Try.f5 false true false false) := by
  refine returnsInHanded_of_change (C := Try.checked) own started (by kernel_rfl) Try.func5
    (ChangeSpec.witness6 (enc := enc) (C := Try.checked) false ⟨#[], #[.slice none 0 0, .slice none 0 0, .slice none 0 0], []⟩ 8 (by kernel_rfl) (by kernel_rfl) (by kernel_rfl) (by kernel_rfl)) ?_
  intro W base args ds gs before hval0 hW hcnd _
  have hval : ∀ (j : Nat) t v, Try.f5.params[j]? = some t → args[j]? = some v → Value.okWide Try.prog W .any base t v := hval0
  have hW' := hW
  obtain ⟨p, q, hA0, hV, rfl, hfz, hnd⟩ := hW
  have hA : DataW.TrodAll enc Try.prog W 0 (fun _ => true) true Try.f5.params.toList args.toList ds p := hA0
  rw [Try.params5] at hA hval
  obtain ⟨v0, vs0, d0, ds0, p0, q0, hargs, rfl, rfl, h0, r0⟩ := trodAll_cons hA
  obtain ⟨v1, vs1, d1, ds1, p1, q1, rfl, rfl, rfl, h1, r1⟩ := trodAll_cons r0
  obtain ⟨v2, vs2, d2, ds2, p2, q2, rfl, rfl, rfl, h2, r2⟩ := trodAll_cons r1
  obtain ⟨rfl, rfl, rfl⟩ := trodAll_nil r2
  obtain rfl : args = #[v0, v1, v2] := by cases args; simp_all
  obtain ⟨rfl, rfl⟩ := trodVars_none hV
  obtain ⟨a0, len0, cap0, rfl⟩ := okWide_slice Try.underlying22 (hval 0 22 v0 rfl rfl)
  have k0 := h0
  have lt0 : ∀ x ∈ p0, x.block < W.heap.size := by obtain ⟨m, hm⟩ := k0; exact DataW.trod_lt m _ _ _ hm
  obtain ⟨z0, w0⟩ : ∃ zs, IsRow .i32 W a0 len0 cap0 zs := by
    obtain ⟨fuel, hf⟩ := h0
    rcases open_ints Try.underlying22 Try.underlying21 (by kernel_rfl) hf with ⟨hcs, _⟩ | ⟨x, l, c, zs, hcs, _, hl, hm, hz, _, hcell, hwz⟩
    · simp [Value.cells] at hcs
      obtain ⟨rfl, rfl, rfl⟩ := hcs
      exact ⟨[], .inl ⟨rfl, rfl, rfl, rfl⟩⟩
    · simp [Value.cells] at hcs
      obtain ⟨rfl, rfl, rfl⟩ := hcs
      exact ⟨zs, .inr ⟨_, rfl, hl, hm, by simpa using hz, hcell, hwz⟩⟩
  obtain ⟨a1, len1, cap1, rfl⟩ := okWide_slice Try.underlying22 (hval 1 22 v1 rfl rfl)
  have k1 := h1
  have lt1 : ∀ x ∈ p1, x.block < W.heap.size := by obtain ⟨m, hm⟩ := k1; exact DataW.trod_lt m _ _ _ hm
  obtain ⟨z1, w1⟩ : ∃ zs, IsRow .i32 W a1 len1 cap1 zs := by
    obtain ⟨fuel, hf⟩ := h1
    rcases open_ints Try.underlying22 Try.underlying21 (by kernel_rfl) hf with ⟨hcs, _⟩ | ⟨x, l, c, zs, hcs, _, hl, hm, hz, _, hcell, hwz⟩
    · simp [Value.cells] at hcs
      obtain ⟨rfl, rfl, rfl⟩ := hcs
      exact ⟨[], .inl ⟨rfl, rfl, rfl, rfl⟩⟩
    · simp [Value.cells] at hcs
      obtain ⟨rfl, rfl, rfl⟩ := hcs
      exact ⟨zs, .inr ⟨_, rfl, hl, hm, by simpa using hz, hcell, hwz⟩⟩
  obtain ⟨a2, len2, cap2, rfl⟩ := okWide_slice Try.underlying22 (hval 2 22 v2 rfl rfl)
  have k2 := h2
  have lt2 : ∀ x ∈ p2, x.block < W.heap.size := by obtain ⟨m, hm⟩ := k2; exact DataW.trod_lt m _ _ _ hm
  obtain ⟨z2, w2⟩ : ∃ zs, IsRow .i32 W a2 len2 cap2 zs := by
    obtain ⟨fuel, hf⟩ := h2
    rcases open_ints Try.underlying22 Try.underlying21 (by kernel_rfl) hf with ⟨hcs, _⟩ | ⟨x, l, c, zs, hcs, _, hl, hm, hz, _, hcell, hwz⟩
    · simp [Value.cells] at hcs
      obtain ⟨rfl, rfl, rfl⟩ := hcs
      exact ⟨[], .inl ⟨rfl, rfl, rfl, rfl⟩⟩
    · simp [Value.cells] at hcs
      obtain ⟨rfl, rfl, rfl⟩ := hcs
      exact ⟨zs, .inr ⟨_, rfl, hl, hm, by simpa using hz, hcell, hwz⟩⟩
  clear hA0 hval0
  refine (walk a0 len0 cap0 z0 a1 len1 cap1 z1 a2 len2 cap2 z2 W w0 w1 w2).mono fun e W' ⟨he, bel⟩ => ?_
  subst he
  exact ⟨_, rfl, _, _, _, [], _, [], hW', trodAll_mk1 (shut_bool Try.underlying4 _), (trodAll_cons_mk (Below.trod laidOut (by kernel_rfl) (of_decide_eq_true (by kernel_rfl)) k0 bel lt0) (trodAll_cons_mk (Below.trod laidOut (by kernel_rfl) (of_decide_eq_true (by kernel_rfl)) k1 bel lt1) (trodAll_cons_mk (Below.trod laidOut (by kernel_rfl) (of_decide_eq_true (by kernel_rfl)) k2 bel lt2) trodAll_mk0))), rfl, bel.frame _, fun h => by cases h⟩
theorem over : Rows.vecSpacesRow.holds Try.pinned (OpenSpec.ofChange Rows.vecSpacesSpec) :=
  OpenClaim.holds_of_wide 5 Try.f5 rfl rfl rfl rfl rfl rfl rfl ⟨rfl, rfl, rfl, rfl, rfl⟩ rfl rfl rfl rfl rfl (by kernel_rfl) Try.func5 (by kernel_rfl)
    (of_decide_eq_true (by kernel_rfl)) (by unfold Func.isWrapper; first | (rw [if_pos (by decide +kernel)]; kernel_rfl) | (rw [if_neg (by decide +kernel)]; exact ⟨rfl, rfl⟩))
    (fun os started H enc _ => lifted os started H enc)
/-- the statement -/
theorem proved : Rows.VecSpacesSaid := over
#print axioms proved
end Go.Proofs.Ytmnckpjboieeiaa.vecSpaces
