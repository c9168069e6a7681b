/-
  TopkBegins: the first few of many are the beginning of all in order; of more of them they are the beginning. No condition.
-/
import Derived.Test.YtdpoieemadblnaaKAwk
import Derived.Test.YtdpoieemadblnaaKLem
import Derived.Test.YtdpoieemadblnaaOReadR
import Derived.Test.YtdpoieemadblnaaOSortR
import Derived.Test.YtdpoieemadblnaaOArg
import Derived.Lib.SmallJoins
import Derived.OpenShut
namespace Go.Proofs.Ytdpoieemadblnaa
open Go.RowKit Go.Joins Go.ChangeShapes Go.WideShapes Go.Deep
namespace topkBegins

theorem run_min2 (x y : Int) (ts : Array TypeId) (t : TypeId) (W : World) : (Builtin.min_ ts t #[.int .i64 x, .int .i64 y]).run Try.prog W = .ok (.int .i64 (min x y)) W := by
  have h : ∀ a b : Int, (if b < a then b else a) = min a b := fun a b => by split <;> omega
  simp [Builtin.min_, Builtin.min2, h]
set_option maxHeartbeats 1600000 in
set_option maxRecDepth 100000 in
theorem walk (a0 : Option Addr) (len0 cap0 : Nat) (l : List Om.E) (a b : Int) (w : World) (w0 : VecE w a0 len0 l ∧ len0 ≤ cap0 ∧ (a0 = none → cap0 = 0)) (w1 : (Lit.int .u8 a).wf = true) (w2 : (Lit.int .u8 b).wf = true) :
    Calls Try.prog 4 #[.slice a0 len0 cap0, .int .u8 a, .int .u8 b] w fun e w' => e = .returned (.bool true) ∧ Below w.heap.size w w' := by
  have HV := Lib.hid w0.1
  have HVA := Lib.hid w0.2.2
  have ba := bounds_u8 w1
  have bb := bounds_u8 w2
  clear w0 w1 w2
  go_enter Try.func4, Try.ntmps4
  go_wp2_with fail
  refine (awake_any _).mono ?_
  rintro _ W1 ⟨rfl, b1⟩
  have B1 := Lib.hid b1
  clear b1
  by_cases g0 : 100 < len0
  · have d0 : decide (100 < (len0 : Int)) = true := by simp; omega
    go_wp2
    go_ret
    exact ⟨rfl, B1.out⟩
  have d0 : decide (100 < (len0 : Int)) = false := by simp; omega
  have n0 : len0 ≤ 100 := by omega
  clear g0
  obtain ⟨KX, hKX⟩ : ∃ KX, Km.fst Om.near a l = KX := ⟨_, rfl⟩
  obtain ⟨KY, hKY⟩ : ∃ KY, Km.fst Om.near (a + b) l = KY := ⟨_, rfl⟩
  obtain ⟨nX, hnX⟩ : ∃ n, KX.length = n := ⟨_, rfl⟩
  obtain ⟨nY, hnY⟩ : ∃ n, KY.length = n := ⟨_, rfl⟩
  have eX : nX = min len0 a.toNat := by rw [← hnX, ← hKX, Km.fst_length, HV.out.length, Nat.min_comm]
  have eY : nY = min len0 (a + b).toNat := by rw [← hnY, ← hKY, Km.fst_length, HV.out.length, Nat.min_comm]
  have tX : (Om.isort Om.near l).take nX = KX := by rw [← hKX]; exact (Km.fst_cut a nX l (by rw [HV.out.length]; exact eX)).symm
  have tY : (Om.isort Om.near l).take nY = KY := by rw [← hKY]; exact (Km.fst_cut (a + b) nY l (by rw [HV.out.length]; exact eY)).symm
  have bX : nX ≤ len0 := by omega
  have bY : nY ≤ len0 := by omega
  have mX : min (len0 : Int) a = (nX : Int) := by omega
  have mY : min (len0 : Int) (a + b) = (nY : Int) := by omega
  have hm1 : ∀ ts t W, (Builtin.min_ ts t #[.int .i64 (len0 : Int), .int .i64 a]).run Try.prog W = .ok (.int .i64 (nX : Int)) W := fun ts t W => by rw [run_min2, mX]
  have hm2 : ∀ ts t W, (Builtin.min_ ts t #[.int .i64 (len0 : Int), .int .i64 (a + b)]).run Try.prog W = .ok (.int .i64 (nY : Int)) W := fun ts t W => by rw [run_min2, mY]
  have HKX := Lib.hid hKX
  have HKY := Lib.hid hKY
  have HNX := Lib.hid hnX
  have HNY := Lib.hid hnY
  have HTX := Lib.hid tX
  have HTY := Lib.hid tY
  have HS := Lib.hid (sortR a0 len0 cap0 l W1 (HV.out.below B1.out) HVA.out (by omega))
  clear hKX hKY hnX hnY eX eY tX tY mX mY
  go_wp2_with fail
  refine HS.out.mono ?_
  rintro _ W2 ⟨g, rfl, hg, hbl, b2⟩
  have B2 := Lib.hid (show Below w.heap.size w W2 from B1.out.trans (b2.mono B1.out.size))
  have V2 := Lib.hid (hbl.vec (n := len0) (by rw [Om.isort_length, HV.out.length]))
  clear hbl b2 hg HS
  go_wp2_with fail
  refine (valsR a0 len0 cap0 _).mono ?_
  rintro _ X5 ⟨rfl, hx5⟩
  have bx5 : Below W2.heap.size W2 X5 := by rw [hx5]; exact (Below.refl _ W2).alloc (Nat.le_refl _) _
  have qx5 : X5.heap[W2.heap.size]? = some (.cells #[.slice a0 len0 cap0] 39 (0, 0)) := by rw [hx5]; exact heap_alloc_new W2 _
  have ho5 := ofR a a0 len0 cap0 _ _ X5 qx5 ((HV.out.below B2.out).below bx5) (by omega)
  rw [HKX.out, HNX.out] at ho5
  have HO5 := Lib.hid ho5
  have BX5 := Lib.hid bx5
  clear hx5 bx5 qx5 ho5
  go_wp2_with fail
  refine HO5.out.mono ?_
  rintro _ Y5 ⟨g5, rfl, hg5, hy5, by5⟩
  have BW5 := Lib.hid (show Below W2.heap.size W2 Y5 from BX5.out.trans (by5.mono BX5.out.size))
  have BY5 := Lib.hid (show Below w.heap.size w Y5 from B2.out.trans (BW5.out.mono B2.out.size))
  have HY5 := Lib.hid (hy5.vec HNX.out)
  clear hy5 by5 hg5 HO5 BX5
  go_wp2_with fail
  refine (valsR a0 len0 cap0 _).mono ?_
  rintro _ X6 ⟨rfl, hx6⟩
  have bx6 : Below Y5.heap.size Y5 X6 := by rw [hx6]; exact (Below.refl _ Y5).alloc (Nat.le_refl _) _
  have qx6 : X6.heap[Y5.heap.size]? = some (.cells #[.slice a0 len0 cap0] 39 (0, 0)) := by rw [hx6]; exact heap_alloc_new Y5 _
  have ho6 := ofR (a + b) a0 len0 cap0 _ _ X6 qx6 ((HV.out.below BY5.out).below bx6) (by omega)
  rw [HKY.out, HNY.out] at ho6
  have HO6 := Lib.hid ho6
  have BX6 := Lib.hid bx6
  clear hx6 bx6 qx6 ho6
  go_wp2_with fail
  refine HO6.out.mono ?_
  rintro _ Y6 ⟨g6, rfl, hg6, hy6, by6⟩
  have BW6 := Lib.hid (show Below Y5.heap.size Y5 Y6 from BX6.out.trans (by6.mono BX6.out.size))
  have BY6 := Lib.hid (show Below w.heap.size w Y6 from BY5.out.trans (BW6.out.mono BY5.out.size))
  have HY6 := Lib.hid (hy6.vec HNY.out)
  clear hy6 by6 hg6 HO6 BX6
  have V6 := V2.out.below (BW5.out.trans (BW6.out.mono BW5.out.size))
  have hx := V6.take bX
  have hy := V6.take bY
  rw [HTX.out] at hx
  rw [HTY.out] at hy
  have HX := Lib.hid hx
  have HYY := Lib.hid hy
  have H5 := Lib.hid (HY5.out.below BW6.out)
  have hs := sameR (some ⟨g5, 0, none⟩) (some ⟨g, 0, none⟩) nX nX nX len0 KX KX _ H5.out HX.out (by omega) (by omega)
  rw [decide_eq_true rfl] at hs
  have HS := Lib.hid hs
  clear V6 hx hy hs
  go_wp2_with fail
  refine HS.out.mono ?_
  rintro _ Z ⟨rfl, bz⟩
  have hs := sameR (some ⟨g6, 0, none⟩) (some ⟨g, 0, none⟩) nY nY nY len0 KY KY Z (HY6.out.below bz) (HYY.out.below bz) (by omega) (by omega)
  rw [decide_eq_true rfl] at hs
  have HS2 := Lib.hid hs
  have BZ := Lib.hid (show Below w.heap.size w Z from BY6.out.trans (bz.mono BY6.out.size))
  clear bz hs HS
  go_wp2_with fail
  refine HS2.out.mono ?_
  rintro _ Z2 ⟨rfl, bz2⟩
  have BZ2 := Lib.hid (show Below w.heap.size w Z2 from BZ.out.trans (bz2.mono BZ.out.size))
  clear bz2 HS2
  go_wp2
  go_ret
  exact ⟨rfl, BZ2.out⟩
theorem own : ownKnob Try.prog.godebug = none := by kernel_rfl
theorem laidOut : laidOutB Try.prog = true := by kernel_rfl
set_option maxRecDepth 100000 in
theorem lifted (os : Os) (started : os.Started) (H : Type) (enc : TypeId × Value → H) :
    ReturnsInHanded {} Try.checked os 4 .any (Rows.topkBeginsSpec.pre6 enc Try.prog Try.f4 Rows.topkBeginsRow.domain false) (Rows.topkBeginsSpec.post enc Try.prog Try.f4 false true false false) := by
  refine returnsInHanded_of_change (C := Try.checked) own started (by kernel_rfl) Try.func4
    (ChangeSpec.witness6 (enc := enc) (C := Try.checked) false ⟨#[], #[.slice none 0 0, .int .u8 0, .int .u8 0], []⟩ 8 (by kernel_rfl) (by kernel_rfl) (by kernel_rfl) (by kernel_rfl)) ?_
  intro W base args ds gs before hval0 hW hcnd _
  have hval : ∀ (j : Nat) t v, Try.f4.params[j]? = some t → args[j]? = some v → Value.okWide Try.prog W .any base t v := hval0
  have hW' := hW
  obtain ⟨p, q, hA0, hV, rfl, hfz, hnd⟩ := hW
  have hA : DataW.TrodAll enc Try.prog W 0 (fun _ => true) true Try.f4.params.toList args.toList ds p := hA0
  rw [Try.params4] at hA hval
  obtain ⟨v0, vs0, d0, ds0, p0, q0, hargs, rfl, rfl, h0, r0⟩ := trodAll_cons hA
  obtain ⟨v1, vs1, d1, ds1, p1, q1, rfl, rfl, rfl, h1, r1⟩ := trodAll_cons r0
  obtain ⟨v2, vs2, d2, ds2, p2, q2, rfl, rfl, rfl, h2, r2⟩ := trodAll_cons r1
  obtain ⟨rfl, rfl, rfl⟩ := trodAll_nil r2
  obtain rfl : args = #[v0, v1, v2] := by cases args; simp_all
  obtain ⟨rfl, rfl⟩ := trodVars_none hV
  obtain ⟨a0, len0, cap0, rfl⟩ := okWide_slice Try.underlying39 (hval 0 39 v0 rfl rfl)
  have k0 := h0
  have lt0 : ∀ x ∈ p0, x.block < W.heap.size := by obtain ⟨m, hm⟩ := k0; exact DataW.trod_lt m _ _ _ hm
  obtain ⟨z0, w0⟩ : ∃ l, VecE W a0 len0 l ∧ len0 ≤ cap0 ∧ (a0 = none → cap0 = 0) := by
    obtain ⟨fuel, hf⟩ := h0
    rcases Go.Deep.open_slice_pairs Try.underlying39 Try.underlying42 (by kernel_rfl) rfl rfl (by kernel_rfl) (by kernel_rfl) hf with ⟨hcs, _⟩ | ⟨x, len, cap, m, n, V0, V1, D0, D1, P0, P1, hcs, _, hl, _, hmm, _, hcell⟩
    · simp [Value.cells] at hcs
      obtain ⟨rfl, rfl, rfl⟩ := hcs
      exact ⟨[], VecE.nil_ _ _, Nat.le_refl _, fun _ => rfl⟩
    · simp [Value.cells] at hcs
      obtain ⟨rfl, rfl, rfl⟩ := hcs
      obtain ⟨l, hv⟩ := VecE.of_each (w := W) (x := x) len0 (fun j hj => by
        obtain ⟨h1, h2, h3, h4⟩ := hcell j (by simp at hmm; omega)
        obtain ⟨p, hp, -⟩ := DataW.trod_int Try.underlying3 h3
        obtain ⟨q, hq, -⟩ := DataW.trod_int Try.underlying2 h4
        simp at hp hq
        exact ⟨(p, q), by rw [h1, hp], by rw [h2, hq]⟩)
      exact ⟨l, hv, hl, fun h => by cases h⟩
  obtain ⟨a1, rfl, rfl, rfl, w1⟩ := open_int Try.underlying5 (hval 1 5 v1 rfl rfl) h1
  obtain ⟨a2, rfl, rfl, rfl, w2⟩ := open_int Try.underlying5 (hval 2 5 v2 rfl rfl) h2
  clear hA0 hval0
  refine (walk a0 len0 cap0 z0 a1 a2 W w0 w1 w2).mono fun e W' ⟨he, bel⟩ => ?_
  subst he
  exact ⟨_, rfl, _, _, _, [], _, [], hW', trodAll_mk1 (shut_bool Try.underlying4 _), (trodAll_cons_mk (Below.trod laidOut (by kernel_rfl) (of_decide_eq_true (by kernel_rfl)) k0 bel lt0) (trodAll_cons_mk (shut_int Try.underlying5 w1) (trodAll_cons_mk (shut_int Try.underlying5 w2) trodAll_mk0))), rfl, bel.frame _, fun h => by cases h⟩
theorem over : Rows.topkBeginsRow.holds Try.pinned (OpenSpec.ofChange Rows.topkBeginsSpec) :=
  OpenClaim.holds_of_wide 4 Try.f4 rfl rfl rfl rfl rfl rfl rfl ⟨rfl, rfl, rfl, rfl, rfl⟩ rfl rfl rfl rfl rfl (by kernel_rfl) Try.func4 (by kernel_rfl)
    (of_decide_eq_true (by kernel_rfl)) (by unfold Func.isWrapper; first | (rw [if_pos (by decide +kernel)]; kernel_rfl) | (rw [if_neg (by decide +kernel)]; exact ⟨rfl, rfl⟩))
    (fun os started H enc _ => lifted os started H enc)
/-- the statement -/
theorem proved : Rows.TopkBeginsSaid := over
#print axioms proved
end topkBegins
end Go.Proofs.Ytdpoieemadblnaa
