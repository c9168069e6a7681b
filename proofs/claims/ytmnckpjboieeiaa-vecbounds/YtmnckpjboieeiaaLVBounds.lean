/-
  VecBounds holds for every input: of vectors that may be neither the sum of products nor how far they are goes round: both are within their bounds; how far is 0 just of the same ones, and the same both ways round. No condition.
-/
import Derived.Test.YtmnckpjboieeiaaVAll
import Derived.ProofKit
import Derived.OpenShut
import Derived.ShutString
import Derived.ChangeOld
import Derived.WalkSmall
namespace Go.Proofs.Ytmnckpjboieeiaa.vecBounds
open Go.ChangeShapes Go.WideShapes Go.ChangeAt Go.RowKit
open Go.ChangeMaps (open_string shut_string)
set_option linter.unusedVariables false

theorem ne_bool {x : Int} (h : ¬ x = 0) : (x != 0) = true := by simpa using h

/-- what vectors that may be tell -/
theorem facts {l r : List Int} {n : Nat} (c0 : Vm.chk l (n : Int) = 0) (c1 : Vm.chk r (n : Int) = 0) : ∃ N D P Q : Int, Vm.dot l r = N ∧ Vm.dot r l = N ∧ Vm.far l r = D ∧ Vm.far r l = D ∧
    Vm.dot (Vm.less l r) (Vm.less l r) = D ∧ Vm.dot l l = P ∧ Vm.dot r r = Q ∧ P + Q - 2 * N = D ∧ decide (l = r) = (D == 0) ∧ n ≤ 1024 ∧
    -1125899906842624 ≤ N ∧ N ≤ 1125899906842624 ∧ 0 ≤ D ∧ D ≤ 4503599627370496 ∧ -1125899906842624 ≤ P ∧ P ≤ 1125899906842624 ∧ -1125899906842624 ≤ Q ∧ Q ≤ 1125899906842624 := by
  obtain ⟨d0, d1, e0, g0⟩ := Vm.chk_ok c0
  obtain ⟨-, -, e1, g1⟩ := Vm.chk_ok c1
  have hl : l.length = r.length := by omega
  have b0 := Vm.dotZ_bound l r g0 g1
  have b1 := Vm.farZ_bound l r g0 g1
  have b2 := Vm.dotZ_bound l l g0 g0
  have b3 := Vm.dotZ_bound r r g1 g1
  have e2 : Vm.dot l r = Vm.dotZ l r := Vm.wrap_in (by omega) (by omega)
  have e3 : Vm.far l r = Vm.farZ l r := Vm.wrap_in (by omega) (by omega)
  have e4 : Vm.dot l l = Vm.dotZ l l := Vm.wrap_in (by omega) (by omega)
  have e5 : Vm.dot r r = Vm.dotZ r r := Vm.wrap_in (by omega) (by omega)
  have e6 : Vm.dot (Vm.less l r) (Vm.less l r) = Vm.farZ l r := by unfold Vm.dot; rw [Vm.dotZ_less l r g0 g1]; exact Vm.wrap_in (by omega) (by omega)
  refine ⟨_, _, _, _, e2, by rw [Vm.dot_comm, e2], e3, by rw [Vm.far_comm, e3], e6, e4, e5, Vm.farZ_split l r hl, ?_, by omega, by omega, by omega, by omega, by omega, by omega, by omega, by omega, by omega⟩
  have := Vm.farZ_zero l r hl
  by_cases h : l = r
  · rw [this.2 h]; simp [h]
  · have h' : ¬ Vm.farZ l r = 0 := fun e => h (this.1 e)
    simp [h, h']

set_option maxHeartbeats 1600000 in
set_option maxRecDepth 100000 in
theorem good_walk (a0 a1 : Option Addr) (n cap0 cap1 : Nat) (l r : List Int) (w : World) (V : Hid (Vec w a0 n l)) (V' : Hid (Vec w a1 n r)) (c0 : Vm.chk l (n : Int) = 0) (c1 : Vm.chk r (n : Int) = 0) :
    Calls Try.prog 4 #[.slice a0 n cap0, .slice a1 n cap1] w fun e w' => e = .returned (.bool true) ∧ Below w.heap.size w w' := by
  obtain ⟨N, D, P, Q, k1, k2, k3, k4, k5, k6, k7, k8, k9, hn, n0, n1, d0, d1, p0, p1, q0, q1⟩ := facts c0 c1
  have C0 := Lib.hid c0
  have C1 := Lib.hid c1
  have K1 := Lib.hid k1
  have K2 := Lib.hid k2
  have K3 := Lib.hid k3
  have K4 := Lib.hid k4
  have K5 := Lib.hid k5
  have K6 := Lib.hid k6
  have K7 := Lib.hid k7
  have K8 := Lib.hid k8
  have K9 := Lib.hid k9
  have m0 : n ≤ maxLen := by unfold maxLen; omega
  clear c0 c1 k1 k2 k3 k4 k5 k6 k7 k8 k9
  go_enter Try.func4, Try.ntmps4
  go_wp2_with fail
  refine (awake_any _).mono ?_
  rintro e w1 ⟨rfl, hb1⟩
  have HB1 := Lib.hid hb1
  clear hb1
  go_wp2_with fail
  refine (few_yes _ _ _ _ _ _ _ (by omega) (by omega)).mono ?_
  rintro e w2 ⟨rfl, rfl⟩
  go_wp2_with fail
  refine (check_c V.out HB1.out m0).mono ?_
  rintro e w2 ⟨rfl, rfl⟩
  rw [C0.out]
  go_wp2_with fail
  refine (check_c V'.out HB1.out m0).mono ?_
  rintro e w2 ⟨rfl, rfl⟩
  rw [C1.out]
  go_wp2_with fail
  refine (dot_c V.out V'.out HB1.out (by omega) (by omega)).mono ?_
  rintro e w2 ⟨rfl, hb2⟩
  rw [K1.out]
  have HB2 := Lib.hid hb2
  clear hb2 HB1
  go_wp2_with fail
  refine (far_c V.out V'.out HB2.out (by omega) (by omega)).mono ?_
  rintro e w3 ⟨rfl, hb3⟩
  rw [K3.out]
  have HB3 := Lib.hid hb3
  clear hb3 HB2
  go_wp2_with fail
  refine (same_c V.out V'.out HB3.out (by omega) (by omega)).mono ?_
  rintro e w4 ⟨rfl, hb4⟩
  rw [K9.out]
  have HB4 := Lib.hid hb4
  clear hb4 HB3
  go_wp2_with fail
  refine (far_c V'.out V.out HB4.out (by omega) (by omega)).mono ?_
  rintro e w5 ⟨rfl, hb5⟩
  rw [K4.out]
  have HB5 := Lib.hid hb5
  clear hb5 HB4
  go_wp2_with fail
  refine (dot_c V'.out V.out HB5.out (by omega) (by omega)).mono ?_
  rintro e w6 ⟨rfl, hb6⟩
  rw [K2.out]
  have HB6 := Lib.hid hb6
  clear hb6 HB5
  go_wp2_with fail
  refine (less_c V.out V'.out HB6.out (by omega) (by omega)).mono ?_
  rintro e w7 ⟨g, rfl, -, -, -, hv7, hb7, -⟩
  rw [Nat.min_self] at hv7
  rw [Nat.min_self]
  have HV7 := Lib.hid hv7
  have HB7 := Lib.hid hb7
  clear hb7 hv7 HB6
  go_wp2_with fail
  refine (dot_any _ _ _ _ _ _ _ _ _ HV7.out HV7.out (by omega) (by omega)).mono ?_
  rintro e w8 ⟨rfl, hb8⟩
  rw [K5.out]
  have HB8 := Lib.hid (HB7.out.trans (hb8.mono HB7.out.size))
  clear hb8 HB7 HV7
  go_wp2_with fail
  refine (dot_c V.out V.out HB8.out (by omega) (by omega)).mono ?_
  rintro e w9 ⟨rfl, hb9⟩
  rw [K6.out]
  have HB9 := Lib.hid hb9
  clear hb9 HB8
  go_wp2_with fail
  refine (dot_c V'.out V'.out HB9.out (by omega) (by omega)).mono ?_
  rintro e w10 ⟨rfl, hb10⟩
  rw [K7.out]
  have HB10 := Lib.hid hb10
  clear hb10 HB9
  go_wp2
  go_ret
  exact ⟨ret_bool (by simpa using K8.out), HB10.out⟩

set_option maxHeartbeats 1600000 in
set_option maxRecDepth 100000 in
theorem walk (a0 : Option Addr) (len0 cap0 : Nat) (z0 : List Int) (a1 : Option Addr) (len1 cap1 : Nat) (z1 : List Int) (w : World) (w0 : IsRow .i32 w a0 len0 cap0 z0) (w1 : IsRow .i32 w a1 len1 cap1 z1) :
    Calls Try.prog 4 #[.slice a0 len0 cap0, .slice a1 len1 cap1] w fun e w' => e = .returned (.bool true) ∧ Below w.heap.size w w' := by
  obtain ⟨l, hV, m0, -⟩ := w0.vec
  obtain ⟨r, hV', m1, -⟩ := w1.vec
  have V := Lib.hid hV
  have V' := Lib.hid hV'
  clear w0 w1 hV hV'
  by_cases g : 1100 < len0 ∨ 1100 < len1
  · go_enter Try.func4, Try.ntmps4
    go_wp2_with fail
    refine (awake_any _).mono ?_
    rintro e w1 ⟨rfl, hb1⟩
    have HB1 := Lib.hid hb1
    clear hb1
    go_wp2_with fail
    refine (few_no _ _ _ _ _ _ _ g).mono ?_
    rintro e w2 ⟨rfl, rfl⟩
    go_wp2
    go_ret
    exact ⟨rfl, HB1.out⟩
  have l0 : len0 ≤ 1100 := by omega
  have l1 : len1 ≤ 1100 := by omega
  clear g
  by_cases c0 : Vm.chk l (len0 : Int) = 0
  case neg =>
    have q := ne_bool c0
    obtain ⟨p, hp⟩ : ∃ p, Vm.chk l (len0 : Int) = p := ⟨_, rfl⟩
    rw [hp] at q
    have HP := Lib.hid hp
    clear c0 hp
    go_enter Try.func4, Try.ntmps4
    go_wp2_with fail
    refine (awake_any _).mono ?_
    rintro e w1 ⟨rfl, hb1⟩
    have HB1 := Lib.hid hb1
    clear hb1
    go_wp2_with fail
    refine (few_yes _ _ _ _ _ _ _ l0 l1).mono ?_
    rintro e w2 ⟨rfl, rfl⟩
    go_wp2_with fail
    refine (check_c V.out HB1.out m0).mono ?_
    rintro e w2 ⟨rfl, rfl⟩
    rw [HP.out]
    go_wp2
    go_ret
    exact ⟨rfl, HB1.out⟩
  by_cases c1 : Vm.chk r (len0 : Int) = 0
  case neg =>
    have q := ne_bool c1
    obtain ⟨p, hp⟩ : ∃ p, Vm.chk r (len0 : Int) = p := ⟨_, rfl⟩
    rw [hp] at q
    have HP := Lib.hid hp
    have C0 := Lib.hid c0
    clear c0 c1 hp
    go_enter Try.func4, Try.ntmps4
    go_wp2_with fail
    refine (awake_any _).mono ?_
    rintro e w1 ⟨rfl, hb1⟩
    have HB1 := Lib.hid hb1
    clear hb1
    go_wp2_with fail
    refine (few_yes _ _ _ _ _ _ _ l0 l1).mono ?_
    rintro e w2 ⟨rfl, rfl⟩
    go_wp2_with fail
    refine (check_c V.out HB1.out m0).mono ?_
    rintro e w2 ⟨rfl, rfl⟩
    rw [C0.out]
    go_wp2_with fail
    refine (check_c V'.out HB1.out m1).mono ?_
    rintro e w2 ⟨rfl, rfl⟩
    rw [HP.out]
    go_wp2
    go_ret
    exact ⟨rfl, HB1.out⟩
  have hl : len1 = len0 := by have := V'.out.length; have := (Vm.chk_ok c1).2.2.1; omega
  rw [hl] at V' ⊢
  exact good_walk a0 a1 len0 cap0 cap1 l r w V V' c0 c1
theorem own : ownKnob Try.prog.godebug = none := by kernel_rfl
theorem laidOut : laidOutB Try.prog = true := by kernel_rfl
set_option maxRecDepth 100000 in
theorem lifted (os : Os) (started : os.Started) (H : Type) (enc : TypeId × Value → H) :
    ReturnsInHanded {} Try.checked os 4 .any (Rows.vecBoundsSpec.pre6 enc Try.prog Try.f4 Rows.vecBoundsRow.domain false) (Rows.vecBoundsSpec.post enc Try.prog Try.f4 false true false false) := by
  refine returnsInHanded_of_change (C := Try.checked) own started (by kernel_rfl) Try.func4
    (ChangeSpec.witness6 (enc := enc) (C := Try.checked) false ⟨#[], #[.slice none 0 0, .slice none 0 0], []⟩ 8 (by kernel_rfl) (by kernel_rfl) (by kernel_rfl) (by kernel_rfl)) ?_
  intro W base args ds gs before hval0 hW hcnd _
  have hval : ∀ (j : Nat) t v, Try.f4.params[j]? = some t → args[j]? = some v → Value.okWide Try.prog W .any base t v := hval0
  have hW' := hW
  obtain ⟨p, q, hA0, hV, rfl, hfz, hnd⟩ := hW
  have hA : DataW.TrodAll enc Try.prog W 0 (fun _ => true) true Try.f4.params.toList args.toList ds p := hA0
  rw [Try.params4] at hA hval
  obtain ⟨v0, vs0, d0, ds0, p0, q0, hargs, rfl, rfl, h0, r0⟩ := trodAll_cons hA
  obtain ⟨v1, vs1, d1, ds1, p1, q1, rfl, rfl, rfl, h1, r1⟩ := trodAll_cons r0
  obtain ⟨rfl, rfl, rfl⟩ := trodAll_nil r1
  obtain rfl : args = #[v0, v1] := by cases args; simp_all
  obtain ⟨rfl, rfl⟩ := trodVars_none hV
  obtain ⟨a0, len0, cap0, rfl⟩ := okWide_slice Try.underlying22 (hval 0 22 v0 rfl rfl)
  have k0 := h0
  have lt0 : ∀ x ∈ p0, x.block < W.heap.size := by obtain ⟨m, hm⟩ := k0; exact DataW.trod_lt m _ _ _ hm
  obtain ⟨z0, w0⟩ : ∃ zs, IsRow .i32 W a0 len0 cap0 zs := by
    obtain ⟨fuel, hf⟩ := h0
    rcases open_ints Try.underlying22 Try.underlying21 (by kernel_rfl) hf with ⟨hcs, _⟩ | ⟨x, l, c, zs, hcs, _, hl, hm, hz, _, hcell, hwz⟩
    · simp [Value.cells] at hcs
      obtain ⟨rfl, rfl, rfl⟩ := hcs
      exact ⟨[], .inl ⟨rfl, rfl, rfl, rfl⟩⟩
    · simp [Value.cells] at hcs
      obtain ⟨rfl, rfl, rfl⟩ := hcs
      exact ⟨zs, .inr ⟨_, rfl, hl, hm, by simpa using hz, hcell, hwz⟩⟩
  obtain ⟨a1, len1, cap1, rfl⟩ := okWide_slice Try.underlying22 (hval 1 22 v1 rfl rfl)
  have k1 := h1
  have lt1 : ∀ x ∈ p1, x.block < W.heap.size := by obtain ⟨m, hm⟩ := k1; exact DataW.trod_lt m _ _ _ hm
  obtain ⟨z1, w1⟩ : ∃ zs, IsRow .i32 W a1 len1 cap1 zs := by
    obtain ⟨fuel, hf⟩ := h1
    rcases open_ints Try.underlying22 Try.underlying21 (by kernel_rfl) hf with ⟨hcs, _⟩ | ⟨x, l, c, zs, hcs, _, hl, hm, hz, _, hcell, hwz⟩
    · simp [Value.cells] at hcs
      obtain ⟨rfl, rfl, rfl⟩ := hcs
      exact ⟨[], .inl ⟨rfl, rfl, rfl, rfl⟩⟩
    · simp [Value.cells] at hcs
      obtain ⟨rfl, rfl, rfl⟩ := hcs
      exact ⟨zs, .inr ⟨_, rfl, hl, hm, by simpa using hz, hcell, hwz⟩⟩
  clear hA0 hval0
  refine (walk a0 len0 cap0 z0 a1 len1 cap1 z1 W w0 w1).mono fun e W' ⟨he, bel⟩ => ?_
  subst he
  exact ⟨_, rfl, _, _, _, [], _, [], hW', trodAll_mk1 (shut_bool Try.underlying4 _), (trodAll_cons_mk (Below.trod laidOut (by kernel_rfl) (of_decide_eq_true (by kernel_rfl)) k0 bel lt0) (trodAll_cons_mk (Below.trod laidOut (by kernel_rfl) (of_decide_eq_true (by kernel_rfl)) k1 bel lt1) trodAll_mk0)), rfl, bel.frame _, fun h => by cases h⟩
theorem over : Rows.vecBoundsRow.holds Try.pinned (OpenSpec.ofChange Rows.vecBoundsSpec) :=
  OpenClaim.holds_of_wide 4 Try.f4 rfl rfl rfl rfl rfl rfl rfl ⟨rfl, rfl, rfl, rfl, rfl⟩ rfl rfl rfl rfl rfl (by kernel_rfl) Try.func4 (by kernel_rfl)
    (of_decide_eq_true (by kernel_rfl)) (by unfold Func.isWrapper; first | (rw [if_pos (by decide +kernel)]; kernel_rfl) | (rw [if_neg (by decide +kernel)]; exact ⟨rfl, rfl⟩))
    (fun os started H enc _ => lifted os started H enc)
/-- the statement -/
theorem proved : Rows.VecBoundsSaid := over
#print axioms proved
end Go.Proofs.Ytmnckpjboieeiaa.vecBounds
