/-
  PlaneBetween holds for every input: the plane between two vectors that may be may be; margins at it are how far a vector is from the second one less how far from the first one. No condition.
-/
import Derived.Test.YtkkpngkninelmaaPArg
import Derived.ProofKit
import Derived.OpenShut
import Derived.ShutString
import Derived.ChangeOld
import Derived.WalkSmall
namespace Go.Proofs.Ytkkpngkninelmaa.planeBetween
open Go.ChangeShapes Go.WideShapes Go.ChangeAt Go.RowKit
open Go.ChangeMaps (open_string shut_string)
set_option linter.unusedVariables false

/-- what three vectors that may be tell -/
theorem facts {a b v : List Int} {n : Nat} (hn : n ≤ 1024) (c0 : Vm.chk a (n : Int) = 0) (c1 : Vm.chk b (n : Int) = 0) (c2 : Vm.chk v (n : Int) = 0) :
    ∃ D X Y : Int, Vm.far a b = D ∧ Vm.far v b = X ∧ Vm.far v a = Y ∧ Pm.chk (Vm.less a b) (Pm.off a b) (n : Int) = 0 ∧ Pm.mar (Vm.less a b) (Pm.off a b) a = D ∧ Pm.mar (Vm.less a b) (Pm.off a b) b = -D ∧
      Pm.mar (Vm.less a b) (Pm.off a b) v = X - Y ∧ decide (0 ≤ Pm.mar (Vm.less a b) (Pm.off a b) v) = decide (Y ≤ X) ∧ 0 ≤ D ∧ D ≤ 4503599627370496 ∧ 0 ≤ X ∧ X ≤ 4503599627370496 ∧ 0 ≤ Y ∧ Y ≤ 4503599627370496 ∧
      a.length = n ∧ b.length = n ∧ v.length = n := by
  obtain ⟨d0, d1, e0, g0⟩ := Vm.chk_ok c0
  obtain ⟨-, -, e1, g1⟩ := Vm.chk_ok c1
  obtain ⟨-, -, e2, g2⟩ := Vm.chk_ok c2
  have T : Pm.Two a b n := ⟨hn, by omega, by omega, g0, g1⟩
  have K : Pm.Two a v n := ⟨hn, by omega, by omega, g0, g2⟩
  obtain ⟨m1, m2, m3, m4, m5, m6, m7⟩ := T.mar K
  obtain ⟨-, -, f3, f4, f5, -⟩ := T.mar T
  have hD : Vm.far a b = Vm.farZ b a := by rw [Vm.far_comm]; exact f3
  refine ⟨_, _, _, rfl, rfl, rfl, T.chk (by omega), T.fst, T.snd, m1, ?_, by omega, by omega, by omega, by omega, by omega, by omega, by omega, by omega, by omega⟩
  rw [m1]
  exact decide_eq_decide.2 (by omega)

set_option maxHeartbeats 1600000 in
set_option maxRecDepth 100000 in
theorem good_walk (a0 a1 a2 : Option Addr) (n cap0 cap1 cap2 : Nat) (l r s : List Int) (w : World) (V : Hid (Vec w a0 n l)) (V' : Hid (Vec w a1 n r)) (V2 : Hid (Vec w a2 n s)) (hn : n ≤ 1024) (c0 : Vm.chk l (n : Int) = 0) (c1 : Vm.chk r (n : Int) = 0) (c2 : Vm.chk s (n : Int) = 0) :
    Calls Try.prog 4 #[.slice a0 n cap0, .slice a1 n cap1, .slice a2 n cap2] w fun e w' => e = .returned (.bool true) ∧ Below w.heap.size w w' := by
  obtain ⟨D, X, Y, k1, k2, k3, k4, k5, k6, k7, k8, d0, d1, x0, x1, y0, y1, -, -, -⟩ := facts hn c0 c1 c2
  have C0 := Lib.hid c0
  have C1 := Lib.hid c1
  have C2 := Lib.hid c2
  have K1 := Lib.hid k1
  have K2 := Lib.hid k2
  have K3 := Lib.hid k3
  have K4 := Lib.hid k4
  have K5 := Lib.hid k5
  have K6 := Lib.hid k6
  have K7 := Lib.hid k7
  have K8 := Lib.hid k8
  have m0 : n ≤ maxLen := by unfold maxLen; omega
  clear c0 c1 c2 k1 k2 k3 k4 k5 k6 k7 k8
  go_enter Try.func4, Try.ntmps4
  go_wp2_with fail
  refine (awake_any _).mono ?_
  rintro e w1 ⟨rfl, hb1⟩
  have HB1 := Lib.hid hb1
  clear hb1
  go_wp2_with fail
  refine (check_c V.out HB1.out m0).mono ?_
  rintro e w2 ⟨rfl, rfl⟩
  rw [C0.out]
  go_wp2_with fail
  refine (check_c V'.out HB1.out m0).mono ?_
  rintro e w2 ⟨rfl, rfl⟩
  rw [C1.out]
  go_wp2_with fail
  refine (check_c V2.out HB1.out m0).mono ?_
  rintro e w2 ⟨rfl, rfl⟩
  rw [C2.out]
  go_wp2_with fail
  refine (betw_c V.out V'.out HB1.out (by omega) (by omega)).mono ?_
  rintro e w2 ⟨g, rfl, -, -, hv2, hb2, -⟩
  rw [Nat.min_self] at hv2 ⊢
  obtain ⟨E, hE⟩ : ∃ E, E = w2.alloc (.cells #[.slice (some ⟨g, 0, none⟩) n n, .int .i64 (Pm.off l r)] 24) := ⟨_, rfl⟩
  have hbE : Below w2.heap.size w2 E := by rw [hE]; exact (Below.refl _ _).alloc (Nat.le_refl _) _
  have hpE : Pbx E w2.heap.size (some ⟨g, 0, none⟩) n n (Pm.off l r) := by rw [hE]; exact Pbx.new _ _ _ _ _
  have HB := Lib.hid (hb2.trans (hbE.mono hb2.size))
  have N := Lib.hid (hv2.below hbE)
  have U0 := Lib.hid (V.out.below HB.out)
  have U1 := Lib.hid (V'.out.below HB.out)
  have U2 := Lib.hid (V2.out.below HB.out)
  have PE := Lib.hid hpE
  have HE := Lib.hid hE
  clear hv2 hb2 hbE hpE hE HB1 V V' V2
  go_wp2_with fail
  rw [← HE.out]
  refine (far_c (w0 := E) U0.out U1.out (Below.refl _ _) (by omega) (by omega)).mono ?_
  rintro e w3 ⟨rfl, hb3⟩
  rw [K1.out]
  have HB3 := Lib.hid hb3
  have k0 := (PE.out.below hb3).c0
  have k1 := (PE.out.below hb3).c1
  clear hb3 HE
  go_wp2_with fail
  refine (chkP_c N.out HB3.out m0).mono ?_
  rintro e w4 ⟨rfl, hb4⟩
  rw [K4.out]
  have HB4 := Lib.hid hb4
  clear HB3 k0 k1
  have k0 := (PE.out.below hb4).c0
  have k1 := (PE.out.below hb4).c1
  clear hb4
  go_wp2_with fail
  refine (marg_c N.out U0.out HB4.out (by omega) (by omega)).mono ?_
  rintro e w5 ⟨rfl, hb5⟩
  rw [K5.out]
  have HB5 := Lib.hid hb5
  clear HB4 k0 k1
  have k0 := (PE.out.below hb5).c0
  have k1 := (PE.out.below hb5).c1
  clear hb5
  go_wp2_with fail
  refine (marg_c N.out U1.out HB5.out (by omega) (by omega)).mono ?_
  rintro e w6 ⟨rfl, hb6⟩
  rw [K6.out]
  have HB6 := Lib.hid hb6
  clear HB5 k0 k1
  have k0 := (PE.out.below hb6).c0
  have k1 := (PE.out.below hb6).c1
  clear hb6
  go_wp2_with fail
  refine (marg_c N.out U2.out HB6.out (by omega) (by omega)).mono ?_
  rintro e w7 ⟨rfl, hb7⟩
  rw [K7.out]
  have HB7 := Lib.hid hb7
  clear HB6 k0 k1
  have k0 := (PE.out.below hb7).c0
  have k1 := (PE.out.below hb7).c1
  clear hb7
  go_wp2_with fail
  refine (far_c U2.out U1.out HB7.out (by omega) (by omega)).mono ?_
  rintro e w8 ⟨rfl, hb8⟩
  rw [K2.out]
  have HB8 := Lib.hid hb8
  clear HB7 k0 k1
  have k0 := (PE.out.below hb8).c0
  have k1 := (PE.out.below hb8).c1
  clear hb8
  go_wp2_with fail
  refine (far_c U2.out U0.out HB8.out (by omega) (by omega)).mono ?_
  rintro e w9 ⟨rfl, hb9⟩
  rw [K3.out]
  have HB9 := Lib.hid hb9
  clear HB8 k0 k1
  have k0 := (PE.out.below hb9).c0
  have k1 := (PE.out.below hb9).c1
  clear hb9
  go_wp2_with fail
  refine (side_c N.out U2.out HB9.out (by omega) (by omega)).mono ?_
  rintro e w10 ⟨rfl, hb10⟩
  rw [K8.out]
  have HB10 := Lib.hid hb10
  clear HB9 k0 k1 hb10
  go_wp2_with fail
  refine (far_c U2.out U0.out HB10.out (by omega) (by omega)).mono ?_
  rintro e w11 ⟨rfl, hb11⟩
  rw [K3.out]
  have HB11 := Lib.hid hb11
  clear HB10 hb11
  go_wp2_with fail
  refine (far_c U2.out U1.out HB11.out (by omega) (by omega)).mono ?_
  rintro e w12 ⟨rfl, hb12⟩
  rw [K2.out]
  have HB12 := Lib.hid (HB.out.trans (hb12.mono HB.out.size))
  clear HB11 hb12
  go_wp2
  go_ret
  exact ⟨ret_bool (by simp), HB12.out⟩

set_option maxHeartbeats 1600000 in
set_option maxRecDepth 100000 in
theorem walk (a0 : Option Addr) (len0 cap0 : Nat) (z0 : List Int) (a1 : Option Addr) (len1 cap1 : Nat) (z1 : List Int) (a2 : Option Addr) (len2 cap2 : Nat) (z2 : List Int) (w : World) (w0 : IsRow .i32 w a0 len0 cap0 z0) (w1 : IsRow .i32 w a1 len1 cap1 z1) (w2 : IsRow .i32 w a2 len2 cap2 z2) :
    Calls Try.prog 4 #[.slice a0 len0 cap0, .slice a1 len1 cap1, .slice a2 len2 cap2] w fun e w' => e = .returned (.bool true) ∧ Below w.heap.size w w' := by
  obtain ⟨l, hV, m0, -⟩ := w0.vec
  obtain ⟨r, hV', m1, -⟩ := w1.vec
  obtain ⟨s, hV2, m2, -⟩ := w2.vec
  have V := Lib.hid hV
  have V' := Lib.hid hV'
  have V2 := Lib.hid hV2
  clear w0 w1 w2 hV hV' hV2
  by_cases g : 1024 < len0
  · go_enter Try.func4, Try.ntmps4
    go_wp2_with fail
    refine (awake_any _).mono ?_
    rintro e w1 ⟨rfl, hb1⟩
    have HB1 := Lib.hid hb1
    clear hb1
    go_wp2
    go_ret
    exact ⟨rfl, HB1.out⟩
  have l0 : len0 ≤ 1024 := by omega
  clear g
  obtain ⟨p, hp⟩ : ∃ p, Vm.chk l (len0 : Int) = p := ⟨_, rfl⟩
  have HP := Lib.hid hp
  clear hp
  by_cases c0 : p = 0
  case neg =>
    have q := ne_bool c0
    clear c0
    go_enter Try.func4, Try.ntmps4
    go_wp2_with fail
    refine (awake_any _).mono ?_
    rintro e w1 ⟨rfl, hb1⟩
    have HB1 := Lib.hid hb1
    clear hb1
    go_wp2_with fail
    refine (check_c V.out HB1.out m0).mono ?_
    rintro e w2 ⟨rfl, rfl⟩
    rw [HP.out]
    go_wp2
    go_ret
    exact ⟨rfl, HB1.out⟩
  subst c0
  obtain ⟨p, hp⟩ : ∃ p, Vm.chk r (len0 : Int) = p := ⟨_, rfl⟩
  have HP' := Lib.hid hp
  clear hp
  by_cases c0 : p = 0
  case neg =>
    have q := ne_bool c0
    clear c0
    go_enter Try.func4, Try.ntmps4
    go_wp2_with fail
    refine (awake_any _).mono ?_
    rintro e w1 ⟨rfl, hb1⟩
    have HB1 := Lib.hid hb1
    clear hb1
    go_wp2_with fail
    refine (check_c V.out HB1.out m0).mono ?_
    rintro e w2 ⟨rfl, rfl⟩
    rw [HP.out]
    go_wp2_with fail
    refine (check_c V'.out HB1.out m1).mono ?_
    rintro e w2 ⟨rfl, rfl⟩
    rw [HP'.out]
    go_wp2
    go_ret
    exact ⟨rfl, HB1.out⟩
  subst c0
  obtain ⟨p, hp⟩ : ∃ p, Vm.chk s (len0 : Int) = p := ⟨_, rfl⟩
  have HP2 := Lib.hid hp
  clear hp
  by_cases c0 : p = 0
  case neg =>
    have q := ne_bool c0
    clear c0
    go_enter Try.func4, Try.ntmps4
    go_wp2_with fail
    refine (awake_any _).mono ?_
    rintro e w1 ⟨rfl, hb1⟩
    have HB1 := Lib.hid hb1
    clear hb1
    go_wp2_with fail
    refine (check_c V.out HB1.out m0).mono ?_
    rintro e w2 ⟨rfl, rfl⟩
    rw [HP.out]
    go_wp2_with fail
    refine (check_c V'.out HB1.out m1).mono ?_
    rintro e w2 ⟨rfl, rfl⟩
    rw [HP'.out]
    go_wp2_with fail
    refine (check_c V2.out HB1.out m2).mono ?_
    rintro e w2 ⟨rfl, rfl⟩
    rw [HP2.out]
    go_wp2
    go_ret
    exact ⟨rfl, HB1.out⟩
  subst c0
  have e1 : len1 = len0 := by have := V'.out.length; have := (Vm.chk_ok HP'.out).2.2.1; omega
  have e2 : len2 = len0 := by have := V2.out.length; have := (Vm.chk_ok HP2.out).2.2.1; omega
  subst e1
  subst e2
  exact good_walk a0 a1 a2 _ cap0 cap1 cap2 l r s w V V' V2 l0 HP.out HP'.out HP2.out
theorem own : ownKnob Try.prog.godebug = none := by kernel_rfl
theorem laidOut : laidOutB Try.prog = true := by kernel_rfl
set_option maxRecDepth 100000 in
theorem lifted (os : Os) (started : os.Started) (H : Type) (enc : TypeId × Value → H) :
    ReturnsInHanded {} Try.checked os 4 .any (Rows.planeBetweenSpec.pre6 enc Try.prog Try.f4 Rows.planeBetweenRow.domain false) (Rows.planeBetweenSpec.post enc Try.prog Try.f4 false true false false) := by
  refine returnsInHanded_of_change (C := Try.checked) own started (by kernel_rfl) Try.func4
    (ChangeSpec.witness6 (enc := enc) (C := Try.checked) false ⟨#[], #[.slice none 0 0, .slice none 0 0, .slice none 0 0], []⟩ 8 (by kernel_rfl) (by kernel_rfl) (by kernel_rfl) (by kernel_rfl)) ?_
  intro W base args ds gs before hval0 hW hcnd _
  have hval : ∀ (j : Nat) t v, Try.f4.params[j]? = some t → args[j]? = some v → Value.okWide Try.prog W .any base t v := hval0
  have hW' := hW
  obtain ⟨p, q, hA0, hV, rfl, hfz, hnd⟩ := hW
  have hA : DataW.TrodAll enc Try.prog W 0 (fun _ => true) true Try.f4.params.toList args.toList ds p := hA0
  rw [Try.params4] at hA hval
  obtain ⟨v0, vs0, d0, ds0, p0, q0, hargs, rfl, rfl, h0, r0⟩ := trodAll_cons hA
  obtain ⟨v1, vs1, d1, ds1, p1, q1, rfl, rfl, rfl, h1, r1⟩ := trodAll_cons r0
  obtain ⟨v2, vs2, d2, ds2, p2, q2, rfl, rfl, rfl, h2, r2⟩ := trodAll_cons r1
  obtain ⟨rfl, rfl, rfl⟩ := trodAll_nil r2
  obtain rfl : args = #[v0, v1, v2] := by cases args; simp_all
  obtain ⟨rfl, rfl⟩ := trodVars_none hV
  obtain ⟨a0, len0, cap0, rfl⟩ := okWide_slice Try.underlying22 (hval 0 22 v0 rfl rfl)
  have k0 := h0
  have lt0 : ∀ x ∈ p0, x.block < W.heap.size := by obtain ⟨m, hm⟩ := k0; exact DataW.trod_lt m _ _ _ hm
  obtain ⟨z0, w0⟩ : ∃ zs, IsRow .i32 W a0 len0 cap0 zs := by
    obtain ⟨fuel, hf⟩ := h0
    rcases open_ints Try.underlying22 Try.underlying21 (by kernel_rfl) hf with ⟨hcs, _⟩ | ⟨x, l, c, zs, hcs, _, hl, hm, hz, _, hcell, hwz⟩
    · simp [Value.cells] at hcs
      obtain ⟨rfl, rfl, rfl⟩ := hcs
      exact ⟨[], .inl ⟨rfl, rfl, rfl, rfl⟩⟩
    · simp [Value.cells] at hcs
      obtain ⟨rfl, rfl, rfl⟩ := hcs
      exact ⟨zs, .inr ⟨_, rfl, hl, hm, by simpa using hz, hcell, hwz⟩⟩
  obtain ⟨a1, len1, cap1, rfl⟩ := okWide_slice Try.underlying22 (hval 1 22 v1 rfl rfl)
  have k1 := h1
  have lt1 : ∀ x ∈ p1, x.block < W.heap.size := by obtain ⟨m, hm⟩ := k1; exact DataW.trod_lt m _ _ _ hm
  obtain ⟨z1, w1⟩ : ∃ zs, IsRow .i32 W a1 len1 cap1 zs := by
    obtain ⟨fuel, hf⟩ := h1
    rcases open_ints Try.underlying22 Try.underlying21 (by kernel_rfl) hf with ⟨hcs, _⟩ | ⟨x, l, c, zs, hcs, _, hl, hm, hz, _, hcell, hwz⟩
    · simp [Value.cells] at hcs
      obtain ⟨rfl, rfl, rfl⟩ := hcs
      exact ⟨[], .inl ⟨rfl, rfl, rfl, rfl⟩⟩
    · simp [Value.cells] at hcs
      obtain ⟨rfl, rfl, rfl⟩ := hcs
      exact ⟨zs, .inr ⟨_, rfl, hl, hm, by simpa using hz, hcell, hwz⟩⟩
  obtain ⟨a2, len2, cap2, rfl⟩ := okWide_slice Try.underlying22 (hval 2 22 v2 rfl rfl)
  have k2 := h2
  have lt2 : ∀ x ∈ p2, x.block < W.heap.size := by obtain ⟨m, hm⟩ := k2; exact DataW.trod_lt m _ _ _ hm
  obtain ⟨z2, w2⟩ : ∃ zs, IsRow .i32 W a2 len2 cap2 zs := by
    obtain ⟨fuel, hf⟩ := h2
    rcases open_ints Try.underlying22 Try.underlying21 (by kernel_rfl) hf with ⟨hcs, _⟩ | ⟨x, l, c, zs, hcs, _, hl, hm, hz, _, hcell, hwz⟩
    · simp [Value.cells] at hcs
      obtain ⟨rfl, rfl, rfl⟩ := hcs
      exact ⟨[], .inl ⟨rfl, rfl, rfl, rfl⟩⟩
    · simp [Value.cells] at hcs
      obtain ⟨rfl, rfl, rfl⟩ := hcs
      exact ⟨zs, .inr ⟨_, rfl, hl, hm, by simpa using hz, hcell, hwz⟩⟩
  clear hA0 hval0
  refine (walk a0 len0 cap0 z0 a1 len1 cap1 z1 a2 len2 cap2 z2 W w0 w1 w2).mono fun e W' ⟨he, bel⟩ => ?_
  subst he
  exact ⟨_, rfl, _, _, _, [], _, [], hW', trodAll_mk1 (shut_bool Try.underlying4 _), (trodAll_cons_mk (Below.trod laidOut (by kernel_rfl) (of_decide_eq_true (by kernel_rfl)) k0 bel lt0) (trodAll_cons_mk (Below.trod laidOut (by kernel_rfl) (of_decide_eq_true (by kernel_rfl)) k1 bel lt1) (trodAll_cons_mk (Below.trod laidOut (by kernel_rfl) (of_decide_eq_true (by kernel_rfl)) k2 bel lt2) trodAll_mk0))), rfl, bel.frame _, fun h => by cases h⟩
theorem over : Rows.planeBetweenRow.holds Try.pinned (OpenSpec.ofChange Rows.planeBetweenSpec) :=
  OpenClaim.holds_of_wide 4 Try.f4 rfl rfl rfl rfl rfl rfl rfl ⟨rfl, rfl, rfl, rfl, rfl⟩ rfl rfl rfl rfl rfl (by kernel_rfl) Try.func4 (by kernel_rfl)
    (of_decide_eq_true (by kernel_rfl)) (by unfold Func.isWrapper; first | (rw [if_pos (by decide +kernel)]; kernel_rfl) | (rw [if_neg (by decide +kernel)]; exact ⟨rfl, rfl⟩))
    (fun os started H enc _ => lifted os started H enc)
/-- the statement -/
theorem proved : Rows.PlaneBetweenSaid := over
#print axioms proved
end Go.Proofs.Ytkkpngkninelmaa.planeBetween
