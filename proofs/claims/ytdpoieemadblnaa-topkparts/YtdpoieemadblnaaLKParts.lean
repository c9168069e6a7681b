/-
  TopkParts: the first few of two lists are those of the first few of each. No condition.
-/
import Derived.Test.YtdpoieemadblnaaKAwk
import Derived.Test.YtdpoieemadblnaaKLem
import Derived.Test.YtdpoieemadblnaaOReadR
import Derived.Test.YtdpoieemadblnaaOArg
import Derived.Lib.SmallJoins
import Derived.OpenShut
namespace Go.Proofs.Ytdpoieemadblnaa
open Go.RowKit Go.Joins Go.ChangeShapes Go.WideShapes Go.Deep
namespace topkParts

theorem info0 : (Try.prog.info? 42).map (fun i => (i.zero, i.size, i.bytes)) = some (some (.agg #[.int .i64 0, .int .i64 0]), 2, 16) := by kernel_rfl
/-- a slice of results, told by Of: as many as there are, all of them new -/
structure Told (w0 : World) (W : World) (g : Nat) (K : List Om.E) : Prop where
  u : Below w0.heap.size w0 W
  v : VecE W (some ⟨g, 0, none⟩) K.length K
/-- two lists put together are new memory -/
theorem base {w W W' : World} {t : TypeId} {v : Value} {n : Nat} {cs : List Value} (h : Below w.heap.size w W) (ho : W.ownsRow w.heap.size t 2 v n cs) (hg : W.grownBy W' v.ownBlock) : Below w.heap.size w W' := h.grown hg h.size (own_block2 ho)

set_option maxHeartbeats 1600000 in
set_option maxRecDepth 100000 in
theorem walk (a0 : Option Addr) (len0 cap0 : Nat) (l : List Om.E) (a1 : Option Addr) (len1 cap1 : Nat) (r : List Om.E) (k : Int) (w : World) (w0 : VecE w a0 len0 l ∧ len0 ≤ cap0 ∧ (a0 = none → cap0 = 0)) (w1 : VecE w a1 len1 r ∧ len1 ≤ cap1 ∧ (a1 = none → cap1 = 0)) (w2 : (Lit.int .u8 k).wf = true) :
    Calls Try.prog 5 #[.slice a0 len0 cap0, .slice a1 len1 cap1, .int .u8 k] w fun e w' => e = .returned (.bool true) ∧ Below w.heap.size w w' := by
  obtain ⟨i0, hi, hz0, hz1, hz2⟩ := info_parts info0
  have HV := Lib.hid w0.1
  have HU := Lib.hid w1.1
  have HVA := Lib.hid w0.2.2
  have HUA := Lib.hid w1.2.2
  have bk := bounds_u8 w2
  clear w0 w1 w2
  go_enter Try.func5, Try.ntmps5
  go_wp2_with fail
  refine (awake_any _).mono ?_
  rintro _ W1 ⟨rfl, b1⟩
  have B1 := Lib.hid b1
  clear b1
  by_cases g0 : 100 < len0
  · have d0 : decide (100 < (len0 : Int)) = true := by simp; omega
    go_wp2
    go_ret
    exact ⟨rfl, B1.out⟩
  by_cases g1 : 100 < len1
  · have d0 : decide (100 < (len0 : Int)) = false := by simp; omega
    have d1 : decide (100 < (len1 : Int)) = true := by simp; omega
    go_wp2
    go_ret
    exact ⟨rfl, B1.out⟩
  have d0 : decide (100 < (len0 : Int)) = false := by simp; omega
  have d1 : decide (100 < (len1 : Int)) = false := by simp; omega
  have n0 : len0 ≤ 100 := by omega
  have n1 : len1 ≤ 100 := by omega
  clear g0 g1
  have A0 := Lib.hid (own_none2 (base := W1.heap.size) (heap_alloc_new W1 (.cells #[] 42)) (Nat.le_refl _))
  have AB := Lib.hid ((Below.refl _ W1).alloc (Nat.le_refl _) (.cells #[] 42))
  go_wp2_with (at_builtin; first
    | (refine append_vec _ rfl (.tmp 24) (.tmp 25) 39 rfl W1.heap.size 42 i0 (.agg #[.int .i64 0, .int .i64 0]) 16 Try.underlying39 hi hz0 hz1 hz2 rfl (.slice (some ⟨W1.heap.size, 0, none⟩) 0 0) 0 [] rfl A0.out a0 len0 cap0 l rfl HVA.out ((HV.out.below B1.out).below AB.out) (by unfold maxLen; omega) (by omega) AB.out.size ?_; intro v3 W3 q1 q2; rw [Nat.zero_add, List.nil_append] at q1; have Q1 := Lib.hid q1; have Q2 := Lib.hid (base AB.out A0.out q2); clear q1 q2)
    | (refine append_vec _ rfl (.tmp 26) (.tmp 27) 39 rfl W1.heap.size 42 i0 (.agg #[.int .i64 0, .int .i64 0]) 16 Try.underlying39 hi hz0 hz1 hz2 rfl v3 len0 l rfl Q1.out a1 len1 cap1 r rfl HUA.out ((HU.out.below B1.out).below Q2.out) (by unfold maxLen; omega) (by omega) Q2.out.size ?_; intro v4 W4 q3 q4; have Q3 := Lib.hid q3; have Q4 := Lib.hid (base Q2.out Q1.out q4); clear q3 q4)
    | fail)
  obtain ⟨A4, c4, rfl, hA4, -⟩ := own_form2 Q3.out
  have HA4 := Lib.hid hA4
  have B4 := Lib.hid (show Below w.heap.size w W4 from B1.out.trans (Q4.out.mono B1.out.size))
  have V4 := Lib.hid (VecE.of_own Q3.out)
  obtain ⟨KL, hKL⟩ : ∃ KL, Km.fst Om.near k l = KL := ⟨_, rfl⟩
  obtain ⟨KR, hKR⟩ : ∃ KR, Km.fst Om.near k r = KR := ⟨_, rfl⟩
  obtain ⟨KA, hKA⟩ : ∃ KA, Km.fst Om.near k (l ++ r) = KA := ⟨_, rfl⟩
  have hKB : Km.fst Om.near k (KL ++ KR) = KA := by rw [← hKL, ← hKR, ← hKA]; exact Km.fst_parts Om.near_ord k l r
  obtain ⟨nL, hnL⟩ : ∃ n, KL.length = n := ⟨_, rfl⟩
  obtain ⟨nR, hnR⟩ : ∃ n, KR.length = n := ⟨_, rfl⟩
  obtain ⟨nA, hnA⟩ : ∃ n, KA.length = n := ⟨_, rfl⟩
  have bL : nL ≤ 100 := by rw [← hnL, ← hKL, Km.fst_length, HV.out.length]; omega
  have bR : nR ≤ 100 := by rw [← hnR, ← hKR, Km.fst_length, HU.out.length]; omega
  have bA : nA ≤ 200 := by rw [← hnA, ← hKA, Km.fst_length, List.length_append, HV.out.length, HU.out.length]; omega
  have HKL := Lib.hid hKL
  have HKR := Lib.hid hKR
  have HKA := Lib.hid hKA
  have HKB := Lib.hid hKB
  have HNL := Lib.hid hnL
  have HNR := Lib.hid hnR
  have HNA := Lib.hid hnA
  clear hA4 hKL hKR hKA hKB hnL hnR hnA Q3 Q4 Q1 Q2 A0 AB
  refine (valsR a0 len0 cap0 _).mono ?_
  rintro _ X5 ⟨rfl, hx5⟩
  have bx5 : Below W4.heap.size W4 X5 := by rw [hx5]; exact (Below.refl _ W4).alloc (Nat.le_refl _) _
  have qx5 : X5.heap[W4.heap.size]? = some (.cells #[.slice a0 len0 cap0] 39 (0, 0)) := by rw [hx5]; exact heap_alloc_new W4 _
  have ho5 := ofR k a0 len0 cap0 _ _ X5 qx5 ((HV.out.below B4.out).below bx5) (by omega)
  rw [HKL.out, HNL.out] at ho5
  have HO5 := Lib.hid ho5
  have BX5 := Lib.hid bx5
  clear hx5 bx5 qx5 ho5
  go_wp2_with fail
  refine HO5.out.mono ?_
  rintro _ Y5 ⟨g5, rfl, hg5, hy5, by5⟩
  have BW5 := Lib.hid (show Below W4.heap.size W4 Y5 from BX5.out.trans (by5.mono BX5.out.size))
  have BY5 := Lib.hid (show Below w.heap.size w Y5 from B4.out.trans (BW5.out.mono B4.out.size))
  have HY5 := Lib.hid (hy5.vec HNL.out)
  clear hy5 by5 hg5 HO5 BX5
  go_wp2_with fail
  refine (valsR a1 len1 cap1 _).mono ?_
  rintro _ X6 ⟨rfl, hx6⟩
  have bx6 : Below Y5.heap.size Y5 X6 := by rw [hx6]; exact (Below.refl _ Y5).alloc (Nat.le_refl _) _
  have qx6 : X6.heap[Y5.heap.size]? = some (.cells #[.slice a1 len1 cap1] 39 (0, 0)) := by rw [hx6]; exact heap_alloc_new Y5 _
  have ho6 := ofR k a1 len1 cap1 _ _ X6 qx6 ((HU.out.below BY5.out).below bx6) (by omega)
  rw [HKR.out, HNR.out] at ho6
  have HO6 := Lib.hid ho6
  have BX6 := Lib.hid bx6
  clear hx6 bx6 qx6 ho6
  go_wp2_with fail
  refine HO6.out.mono ?_
  rintro _ Y6 ⟨g6, rfl, hg6, hy6, by6⟩
  have BW6 := Lib.hid (show Below Y5.heap.size Y5 Y6 from BX6.out.trans (by6.mono BX6.out.size))
  have BY6 := Lib.hid (show Below w.heap.size w Y6 from BY5.out.trans (BW6.out.mono BY5.out.size))
  have HY6 := Lib.hid (hy6.vec HNR.out)
  clear hy6 by6 hg6 HO6 BX6
  have V5 := Lib.hid (HY5.out.below BW6.out)
  have A0 := Lib.hid (own_none2 (base := Y6.heap.size) (heap_alloc_new Y6 (.cells #[] 42)) (Nat.le_refl _))
  have AB := Lib.hid ((Below.refl _ Y6).alloc (Nat.le_refl _) (.cells #[] 42))
  go_wp2_with (at_builtin; first
    | (refine append_vec _ rfl (.tmp 37) (.tmp 38) 39 rfl Y6.heap.size 42 i0 (.agg #[.int .i64 0, .int .i64 0]) 16 Try.underlying39 hi hz0 hz1 hz2 rfl (.slice (some ⟨Y6.heap.size, 0, none⟩) 0 0) 0 [] rfl A0.out (some ⟨g5, 0, none⟩) nL nL KL rfl (fun h => by cases h) (V5.out.below AB.out) (by unfold maxLen; omega) (by omega) AB.out.size ?_; intro v3 W7 q1 q2; rw [Nat.zero_add, List.nil_append] at q1; have Q1 := Lib.hid q1; have Q2 := Lib.hid (base AB.out A0.out q2); clear q1 q2)
    | (refine append_vec _ rfl (.tmp 39) (.tmp 40) 39 rfl Y6.heap.size 42 i0 (.agg #[.int .i64 0, .int .i64 0]) 16 Try.underlying39 hi hz0 hz1 hz2 rfl v3 nL KL rfl Q1.out (some ⟨g6, 0, none⟩) nR nR KR rfl (fun h => by cases h) (HY6.out.below Q2.out) (by unfold maxLen; omega) (by omega) Q2.out.size ?_; intro v8 W8 q3 q4; have Q3 := Lib.hid q3; have Q4 := Lib.hid (base Q2.out Q1.out q4); clear q3 q4)
    | fail)
  obtain ⟨A8, c8, rfl, hA8, -⟩ := own_form2 Q3.out
  have B8 := Lib.hid (show Below w.heap.size w W8 from BY6.out.trans (Q4.out.mono BY6.out.size))
  have V8 := Lib.hid (VecE.of_own Q3.out)
  have V48 := Lib.hid ((V4.out.below (BW5.out.trans (BW6.out.mono BW5.out.size))).below Q4.out)
  clear hA8 Q3 Q4 Q1 Q2 A0 AB V5
  refine (valsR A8 (nL + nR) c8 _).mono ?_
  rintro _ X9 ⟨rfl, hx9⟩
  have bx9 : Below W8.heap.size W8 X9 := by rw [hx9]; exact (Below.refl _ W8).alloc (Nat.le_refl _) _
  have qx9 : X9.heap[W8.heap.size]? = some (.cells #[.slice A8 (nL + nR) c8] 39 (0, 0)) := by rw [hx9]; exact heap_alloc_new W8 _
  have ho9 := ofR k A8 (nL + nR) c8 _ _ X9 qx9 ((V8.out).below bx9) (by omega)
  rw [HKB.out, HNA.out] at ho9
  have HO9 := Lib.hid ho9
  have BX9 := Lib.hid bx9
  clear hx9 bx9 qx9 ho9
  go_wp2_with fail
  refine HO9.out.mono ?_
  rintro _ Y9 ⟨g9, rfl, hg9, hy9, by9⟩
  have BW9 := Lib.hid (show Below W8.heap.size W8 Y9 from BX9.out.trans (by9.mono BX9.out.size))
  have BY9 := Lib.hid (show Below w.heap.size w Y9 from B8.out.trans (BW9.out.mono B8.out.size))
  have HY9 := Lib.hid (hy9.vec HNA.out)
  clear hy9 by9 hg9 HO9 BX9
  go_wp2_with fail
  refine (valsR A4 (len0 + len1) c4 _).mono ?_
  rintro _ X10 ⟨rfl, hx10⟩
  have bx10 : Below Y9.heap.size Y9 X10 := by rw [hx10]; exact (Below.refl _ Y9).alloc (Nat.le_refl _) _
  have qx10 : X10.heap[Y9.heap.size]? = some (.cells #[.slice A4 (len0 + len1) c4] 39 (0, 0)) := by rw [hx10]; exact heap_alloc_new Y9 _
  have ho10 := ofR k A4 (len0 + len1) c4 _ _ X10 qx10 ((V48.out.below BW9.out).below bx10) (by omega)
  rw [HKA.out, HNA.out] at ho10
  have HO10 := Lib.hid ho10
  have BX10 := Lib.hid bx10
  clear hx10 bx10 qx10 ho10
  go_wp2_with fail
  refine HO10.out.mono ?_
  rintro _ Y10 ⟨g10, rfl, hg10, hy10, by10⟩
  have BW10 := Lib.hid (show Below Y9.heap.size Y9 Y10 from BX10.out.trans (by10.mono BX10.out.size))
  have BY10 := Lib.hid (show Below w.heap.size w Y10 from BY9.out.trans (BW10.out.mono BY9.out.size))
  have HY10 := Lib.hid (hy10.vec HNA.out)
  clear hy10 by10 hg10 HO10 BX10
  have hs := sameR (some ⟨g9, 0, none⟩) (some ⟨g10, 0, none⟩) nA nA nA nA KA KA _ (HY9.out.below BW10.out) HY10.out (by omega) (by omega)
  rw [decide_eq_true rfl] at hs
  have HS := Lib.hid hs
  clear hs
  go_wp2_with fail
  refine HS.out.mono ?_
  rintro _ Z ⟨rfl, bz⟩
  have BZ := Lib.hid (show Below w.heap.size w Z from BY10.out.trans (bz.mono BY10.out.size))
  clear bz
  go_wp2
  go_ret
  exact ⟨rfl, BZ.out⟩
theorem own : ownKnob Try.prog.godebug = none := by kernel_rfl
theorem laidOut : laidOutB Try.prog = true := by kernel_rfl
set_option maxRecDepth 100000 in
theorem lifted (os : Os) (started : os.Started) (H : Type) (enc : TypeId × Value → H) :
    ReturnsInHanded {} Try.checked os 5 .any (Rows.topkPartsSpec.pre6 enc Try.prog Try.f5 Rows.topkPartsRow.domain false) (Rows.topkPartsSpec.post enc Try.prog Try.f5 false true false false) := by
  refine returnsInHanded_of_change (C := Try.checked) own started (by kernel_rfl) Try.func5
    (ChangeSpec.witness6 (enc := enc) (C := Try.checked) false ⟨#[], #[.slice none 0 0, .slice none 0 0, .int .u8 0], []⟩ 8 (by kernel_rfl) (by kernel_rfl) (by kernel_rfl) (by kernel_rfl)) ?_
  intro W base args ds gs before hval0 hW hcnd _
  have hval : ∀ (j : Nat) t v, Try.f5.params[j]? = some t → args[j]? = some v → Value.okWide Try.prog W .any base t v := hval0
  have hW' := hW
  obtain ⟨p, q, hA0, hV, rfl, hfz, hnd⟩ := hW
  have hA : DataW.TrodAll enc Try.prog W 0 (fun _ => true) true Try.f5.params.toList args.toList ds p := hA0
  rw [Try.params5] at hA hval
  obtain ⟨v0, vs0, d0, ds0, p0, q0, hargs, rfl, rfl, h0, r0⟩ := trodAll_cons hA
  obtain ⟨v1, vs1, d1, ds1, p1, q1, rfl, rfl, rfl, h1, r1⟩ := trodAll_cons r0
  obtain ⟨v2, vs2, d2, ds2, p2, q2, rfl, rfl, rfl, h2, r2⟩ := trodAll_cons r1
  obtain ⟨rfl, rfl, rfl⟩ := trodAll_nil r2
  obtain rfl : args = #[v0, v1, v2] := by cases args; simp_all
  obtain ⟨rfl, rfl⟩ := trodVars_none hV
  obtain ⟨a0, len0, cap0, rfl⟩ := okWide_slice Try.underlying39 (hval 0 39 v0 rfl rfl)
  have k0 := h0
  have lt0 : ∀ x ∈ p0, x.block < W.heap.size := by obtain ⟨m, hm⟩ := k0; exact DataW.trod_lt m _ _ _ hm
  obtain ⟨z0, w0⟩ : ∃ l, VecE W a0 len0 l ∧ len0 ≤ cap0 ∧ (a0 = none → cap0 = 0) := by
    obtain ⟨fuel, hf⟩ := h0
    rcases Go.Deep.open_slice_pairs Try.underlying39 Try.underlying42 (by kernel_rfl) rfl rfl (by kernel_rfl) (by kernel_rfl) hf with ⟨hcs, _⟩ | ⟨x, len, cap, m, n, V0, V1, D0, D1, P0, P1, hcs, _, hl, _, hmm, _, hcell⟩
    · simp [Value.cells] at hcs
      obtain ⟨rfl, rfl, rfl⟩ := hcs
      exact ⟨[], VecE.nil_ _ _, Nat.le_refl _, fun _ => rfl⟩
    · simp [Value.cells] at hcs
      obtain ⟨rfl, rfl, rfl⟩ := hcs
      obtain ⟨l, hv⟩ := VecE.of_each (w := W) (x := x) len0 (fun j hj => by
        obtain ⟨h1, h2, h3, h4⟩ := hcell j (by simp at hmm; omega)
        obtain ⟨p, hp, -⟩ := DataW.trod_int Try.underlying3 h3
        obtain ⟨q, hq, -⟩ := DataW.trod_int Try.underlying2 h4
        simp at hp hq
        exact ⟨(p, q), by rw [h1, hp], by rw [h2, hq]⟩)
      exact ⟨l, hv, hl, fun h => by cases h⟩
  obtain ⟨a1, len1, cap1, rfl⟩ := okWide_slice Try.underlying39 (hval 1 39 v1 rfl rfl)
  have k1 := h1
  have lt1 : ∀ x ∈ p1, x.block < W.heap.size := by obtain ⟨m, hm⟩ := k1; exact DataW.trod_lt m _ _ _ hm
  obtain ⟨z1, w1⟩ : ∃ l, VecE W a1 len1 l ∧ len1 ≤ cap1 ∧ (a1 = none → cap1 = 0) := by
    obtain ⟨fuel, hf⟩ := h1
    rcases Go.Deep.open_slice_pairs Try.underlying39 Try.underlying42 (by kernel_rfl) rfl rfl (by kernel_rfl) (by kernel_rfl) hf with ⟨hcs, _⟩ | ⟨x, len, cap, m, n, V0, V1, D0, D1, P0, P1, hcs, _, hl, _, hmm, _, hcell⟩
    · simp [Value.cells] at hcs
      obtain ⟨rfl, rfl, rfl⟩ := hcs
      exact ⟨[], VecE.nil_ _ _, Nat.le_refl _, fun _ => rfl⟩
    · simp [Value.cells] at hcs
      obtain ⟨rfl, rfl, rfl⟩ := hcs
      obtain ⟨l, hv⟩ := VecE.of_each (w := W) (x := x) len1 (fun j hj => by
        obtain ⟨h1, h2, h3, h4⟩ := hcell j (by simp at hmm; omega)
        obtain ⟨p, hp, -⟩ := DataW.trod_int Try.underlying3 h3
        obtain ⟨q, hq, -⟩ := DataW.trod_int Try.underlying2 h4
        simp at hp hq
        exact ⟨(p, q), by rw [h1, hp], by rw [h2, hq]⟩)
      exact ⟨l, hv, hl, fun h => by cases h⟩
  obtain ⟨a2, rfl, rfl, rfl, w2⟩ := open_int Try.underlying5 (hval 2 5 v2 rfl rfl) h2
  clear hA0 hval0
  refine (walk a0 len0 cap0 z0 a1 len1 cap1 z1 a2 W w0 w1 w2).mono fun e W' ⟨he, bel⟩ => ?_
  subst he
  exact ⟨_, rfl, _, _, _, [], _, [], hW', trodAll_mk1 (shut_bool Try.underlying4 _), (trodAll_cons_mk (Below.trod laidOut (by kernel_rfl) (of_decide_eq_true (by kernel_rfl)) k0 bel lt0) (trodAll_cons_mk (Below.trod laidOut (by kernel_rfl) (of_decide_eq_true (by kernel_rfl)) k1 bel lt1) (trodAll_cons_mk (shut_int Try.underlying5 w2) trodAll_mk0))), rfl, bel.frame _, fun h => by cases h⟩
theorem over : Rows.topkPartsRow.holds Try.pinned (OpenSpec.ofChange Rows.topkPartsSpec) :=
  OpenClaim.holds_of_wide 5 Try.f5 rfl rfl rfl rfl rfl rfl rfl ⟨rfl, rfl, rfl, rfl, rfl⟩ rfl rfl rfl rfl rfl (by kernel_rfl) Try.func5 (by kernel_rfl)
    (of_decide_eq_true (by kernel_rfl)) (by unfold Func.isWrapper; first | (rw [if_pos (by decide +kernel)]; kernel_rfl) | (rw [if_neg (by decide +kernel)]; exact ⟨rfl, rfl⟩))
    (fun os started H enc _ => lifted os started H enc)
/-- the statement -/
theorem proved : Rows.TopkPartsSaid := over
#print axioms proved
end topkParts
end Go.Proofs.Ytdpoieemadblnaa
