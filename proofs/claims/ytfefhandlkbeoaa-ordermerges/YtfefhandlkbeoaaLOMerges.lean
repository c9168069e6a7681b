/-
  OrderMerges: two lists, sorted and merged, are both together, sorted; a list in three parts, too, by whichever two are merged first. No condition.
-/
import Derived.Test.YtfefhandlkbeoaaOMrgR
import Derived.Test.YtfefhandlkbeoaaOAwk
import Derived.Test.YtfefhandlkbeoaaOArg
import Derived.Deep.WholeRow
namespace Go.Proofs.Ytfefhandlkbeoaa
open Go.RowKit Go.Joins Go.ChangeShapes Go.WideShapes Go.Deep
namespace orderMerges

set_option maxHeartbeats 1600000 in
theorem walk (a0 : Option Addr) (len0 cap0 : Nat) (z0 : List Om.E) (a1 : Option Addr) (len1 cap1 : Nat) (z1 : List Om.E) (a2 : Option Addr) (len2 cap2 : Nat) (z2 : List Om.E) (w : World)
    (h0 : VecE w a0 len0 z0 ∧ len0 ≤ cap0 ∧ (a0 = none → cap0 = 0)) (h1 : VecE w a1 len1 z1 ∧ len1 ≤ cap1 ∧ (a1 = none → cap1 = 0)) (h2 : VecE w a2 len2 z2 ∧ len2 ≤ cap2 ∧ (a2 = none → cap2 = 0)) :
    Calls Try.prog 6 #[.slice a0 len0 cap0, .slice a1 len1 cap1, .slice a2 len2 cap2] w fun e w' => e = .returned (.bool true) ∧ Below w.heap.size w w' := by
  obtain ⟨i0, hi, hz0, hz1, hz2⟩ := info_parts Try.infoR
  obtain ⟨v0, k0, n0⟩ := h0
  obtain ⟨v1, k1, n1⟩ := h1
  obtain ⟨v2, k2, n2⟩ := h2
  have V0 := Lib.hid v0
  have V1 := Lib.hid v1
  have V2 := Lib.hid v2
  have N0 := Lib.hid n0
  have N1 := Lib.hid n1
  have N2 := Lib.hid n2
  clear v0 v1 v2 n0 n1 n2
  go_enter Try.func6, Try.ntmps6
  go_wp2_with fail
  refine (awake_any _).mono ?_
  rintro _ w1 ⟨rfl, hb1⟩
  have B1 := Lib.hid hb1
  clear hb1
  rcases (show 100 < len0 ∨ (len0 ≤ 100 ∧ 100 < len1) ∨ (len0 ≤ 100 ∧ len1 ≤ 100 ∧ 100 < len2) ∨ (len0 ≤ 100 ∧ len1 ≤ 100 ∧ len2 ≤ 100) from by omega) with q | ⟨q, q'⟩ | ⟨q, q', q''⟩ | ⟨q, q', q''⟩
  · go_wp2
    go_ret
    exact ⟨rfl, B1.out⟩
  · have p : ¬ 100 < len0 := by omega
    go_wp2
    go_ret
    exact ⟨rfl, B1.out⟩
  · have p : ¬ 100 < len0 := by omega
    have p' : ¬ 100 < len1 := by omega
    go_wp2
    go_ret
    exact ⟨rfl, B1.out⟩
  · have p : ¬ 100 < len0 := by omega
    have p' : ¬ 100 < len1 := by omega
    have p'' : ¬ 100 < len2 := by omega
    go_wp2_with fail
    refine (sortR a0 len0 cap0 z0 _ (V0.out.below B1.out) N0.out (by omega)).mono ?_
    rintro _ w2 ⟨g, rfl, -, hx, hb2⟩
    have X := Lib.hid (hx.vec (n := len0) (by rw [Om.isort_length]; exact V0.out.1))
    have B2 := Lib.hid (B1.out.trans (hb2.mono B1.out.size))
    clear hx hb2 B1
    go_wp2_with fail
    refine (sortR a1 len1 cap1 z1 _ (V1.out.below B2.out) N1.out (by omega)).mono ?_
    rintro _ w3 ⟨g', rfl, -, hy, hb3⟩
    have Y := Lib.hid (hy.vec (n := len1) (by rw [Om.isort_length]; exact V1.out.1))
    have X3 := Lib.hid (X.out.below hb3)
    have B3 := Lib.hid (B2.out.trans (hb3.mono B2.out.size))
    clear hy hb3 B2 X
    go_wp2_with fail
    refine (sortR a2 len2 cap2 z2 _ (V2.out.below B3.out) N2.out (by omega)).mono ?_
    rintro _ w4 ⟨g'', rfl, -, hz, hb4⟩
    have Z := Lib.hid (hz.vec (n := len2) (by rw [Om.isort_length]; exact V2.out.1))
    have X4 := Lib.hid (X3.out.below hb4)
    have Y4 := Lib.hid (Y.out.below hb4)
    have B4 := Lib.hid (B3.out.trans (hb4.mono B3.out.size))
    clear hz hb4 B3 X3 Y
    go_wp2_with fail
    refine (mergeR _ _ len0 len1 len0 len1 _ _ _ X4.out Y4.out (fun h => by cases h) (fun h => by cases h) (by omega) (by omega) (Nat.le_refl _) (Nat.le_refl _)).mono ?_
    rintro _ w5 ⟨A5, c5, rfl, hm5, hn5, hc5, hb5⟩
    have M5 := Lib.hid hm5
    have MN := Lib.hid hn5
    have X5 := Lib.hid (X4.out.below hb5)
    have Y5 := Lib.hid (Y4.out.below hb5)
    have Z5 := Lib.hid (Z.out.below hb5)
    have B5 := Lib.hid (B4.out.trans (hb5.mono B4.out.size))
    clear hm5 hn5 hb5 B4 X4 Y4 Z
    have s5 := B5.out.size
    have E5 := Lib.hid (own_none2 (base := w5.heap.size) (heap_alloc_new w5 (.cells #[] 23)) (Nat.le_refl _))
    have BE := Lib.hid (show Below w5.heap.size w5 (w5.alloc (.cells #[] 23)) from (Below.refl _ w5).alloc (Nat.le_refl _) _)
    go_wp2_with (first
      | (at_builtin; refine append_vec _ rfl (.tmp 37) (.tmp 38) 26 rfl w5.heap.size 23 i0 (.agg #[.int .i64 0, .int .i64 0]) 16 Try.underlying26 hi hz0 hz1 hz2 rfl (.slice (some ⟨w5.heap.size, 0, none⟩) 0 0) 0 [] rfl E5.out a0 len0 cap0 z0 rfl N0.out ((V0.out.below B5.out).below BE.out) (by unfold maxLen; omega) (by omega) BE.out.size ?_; intro v1 w6 hown1 hg1; have B6 := Lib.hid (BE.out.grown hg1 BE.out.size (own_block2 E5.out)); have O6 := Lib.hid hown1; clear hown1 hg1)
      | (at_builtin; refine append_vec _ rfl (.tmp 39) (.tmp 40) 26 rfl w5.heap.size 23 i0 (.agg #[.int .i64 0, .int .i64 0]) 16 Try.underlying26 hi hz0 hz1 hz2 rfl v1 (0 + len0) ([] ++ z0) rfl O6.out a1 len1 cap1 z1 rfl N1.out ((V1.out.below B5.out).below B6.out) (by unfold maxLen; omega) (by omega) B6.out.size ?_; intro v2 w7 hown2 hg2; have B7 := Lib.hid (B6.out.grown hg2 B6.out.size (own_block2 O6.out)); have O7 := Lib.hid hown2; clear hown2 hg2)
      | (at_builtin; refine append_vec _ rfl (.tmp 41) (.tmp 42) 26 rfl w5.heap.size 23 i0 (.agg #[.int .i64 0, .int .i64 0]) 16 Try.underlying26 hi hz0 hz1 hz2 rfl v2 (0 + len0 + len1) ([] ++ z0 ++ z1) rfl O7.out a2 len2 cap2 z2 rfl N2.out ((V2.out.below B5.out).below B7.out) (by unfold maxLen; omega) (by omega) B7.out.size ?_; intro v3 w8 hown3 hg3; have B8 := Lib.hid (B7.out.grown hg3 B7.out.size (own_block2 O7.out)); obtain ⟨A8, c8, hv8, hn8, hc8⟩ := own_form2 hown3; subst hv8; have O8 := Lib.hid (VecE.of_own hown3); have N8 := Lib.hid hn8; clear hown3 hg3 hn8))
    have V8 : Hid (VecE w8 A8 (len0 + len1 + len2) (z0 ++ z1 ++ z2)) := by have := O8.out; rw [Nat.zero_add, List.nil_append] at this; exact this
    have B9 := Lib.hid (B5.out.trans (B8.out.mono s5))
    have X8 := Lib.hid (X5.out.below B8.out)
    have Y8 := Lib.hid (Y5.out.below B8.out)
    have Z8 := Lib.hid (Z5.out.below B8.out)
    have M8 := Lib.hid (M5.out.below B8.out)
    clear O8 B8 O7 B7 O6 B6 E5 BE B5 X5 Y5 Z5 M5 s5
    refine (sortR A8 (len0 + len1 + len2) c8 (z0 ++ z1 ++ z2) _ V8.out N8.out (by omega)).mono ?_
    rintro _ wa ⟨gw, rfl, -, hw, hba⟩
    have Wt := Lib.hid (hw.vec (n := len0 + len1 + len2) (by rw [Om.isort_length]; exact V8.out.1))
    have Xa := Lib.hid (X8.out.below hba)
    have Ya := Lib.hid (Y8.out.below hba)
    have Za := Lib.hid (Z8.out.below hba)
    have Ma := Lib.hid (M8.out.below hba)
    have Ba := Lib.hid (B9.out.trans (hba.mono B9.out.size))
    clear hw hba X8 Y8 Z8 M8 B9
    have E1 := Lib.hid (show Om.merge Om.near (Om.merge Om.near (Om.isort Om.near z0) (Om.isort Om.near z1)) (Om.isort Om.near z2) = Om.isort Om.near (z0 ++ z1 ++ z2) from by
      rw [Om.isort_append Om.near_ord, Om.isort_append Om.near_ord])
    have E2 := Lib.hid (show Om.merge Om.near (Om.isort Om.near z0) (Om.merge Om.near (Om.isort Om.near z1) (Om.isort Om.near z2)) = Om.isort Om.near (z0 ++ z1 ++ z2) from by
      rw [← Om.merge_as Om.near_ord]; exact E1.out)
    have ES := Lib.hid (show Om.Next Om.near (Om.merge Om.near (Om.isort Om.near z0) (Om.isort Om.near z1)) (len0 + len1) from
      Om.next_srt (Om.merge_srt Om.near_ord (Om.isort_srt Om.near_ord _) (Om.isort_srt Om.near_ord _)) _)
    have g1 : (((len0 + len1 : Nat) : Int) == (len0 : Int) + (len1 : Int)) = true := by simp
    have g2 : decide (((len0 + len1 : Nat) : Int) = (len0 : Int) + (len1 : Int)) = true := by simp
    go_wp2_with fail
    refine (sortedR _ (len0 + len1) _ _ true _ Ma.out (by omega) ⟨fun _ => ES.out, fun _ => rfl⟩).mono ?_
    rintro _ wb ⟨rfl, hbb⟩
    have Xb := Lib.hid (Xa.out.below hbb)
    have Yb := Lib.hid (Ya.out.below hbb)
    have Zb := Lib.hid (Za.out.below hbb)
    have Mb := Lib.hid (Ma.out.below hbb)
    have Wb := Lib.hid (Wt.out.below hbb)
    have Bb := Lib.hid (Ba.out.trans (hbb.mono Ba.out.size))
    clear hbb Xa Ya Za Ma Wt Ba
    go_wp2_with fail
    refine (mergeR _ _ (len0 + len1) len2 _ _ _ _ _ Mb.out Zb.out MN.out (fun h => by cases h) (by omega) (by omega) hc5 (Nat.le_refl _)).mono ?_
    rintro _ wc ⟨Ac, cc, rfl, hmc, -, -, hbc⟩
    rw [E1.out] at hmc
    have Xc := Lib.hid (Xb.out.below hbc)
    have Yc := Lib.hid (Yb.out.below hbc)
    have Zc := Lib.hid (Zb.out.below hbc)
    have Wc := Lib.hid (Wb.out.below hbc)
    have Mc := Lib.hid hmc
    have Bc := Lib.hid (Bb.out.trans (hbc.mono Bb.out.size))
    clear hbc hmc Xb Yb Zb Wb Mb Bb
    go_wp2_with fail
    refine (sameR _ _ (len0 + len1 + len2) (len0 + len1 + len2) _ _ _ _ _ Mc.out Wc.out (by omega) (by omega)).mono ?_
    rintro _ wd ⟨he, hbd⟩
    rw [decide_eq_true rfl] at he
    subst he
    have Xd := Lib.hid (Xc.out.below hbd)
    have Yd := Lib.hid (Yc.out.below hbd)
    have Zd := Lib.hid (Zc.out.below hbd)
    have Wd := Lib.hid (Wc.out.below hbd)
    have Bd := Lib.hid (Bc.out.trans (hbd.mono Bc.out.size))
    clear hbd Xc Yc Zc Wc Mc Bc
    go_wp2_with fail
    refine (mergeR _ _ len1 len2 _ _ _ _ _ Yd.out Zd.out (fun h => by cases h) (fun h => by cases h) (by omega) (by omega) (Nat.le_refl _) (Nat.le_refl _)).mono ?_
    rintro _ we ⟨Ae, ce, rfl, hme, hne, hce, hbe⟩
    have Xe := Lib.hid (Xd.out.below hbe)
    have We := Lib.hid (Wd.out.below hbe)
    have Me := Lib.hid hme
    have Ne := Lib.hid hne
    have Be := Lib.hid (Bd.out.trans (hbe.mono Bd.out.size))
    clear hbe hme hne Xd Yd Zd Wd Bd
    go_wp2_with fail
    refine (mergeR _ _ len0 (len1 + len2) _ _ _ _ _ Xe.out Me.out (fun h => by cases h) Ne.out (by omega) (by omega) (Nat.le_refl _) hce).mono ?_
    rintro _ wf ⟨Af, cf, rfl, hmf, -, -, hbf⟩
    rw [E2.out] at hmf
    have Wf := Lib.hid (We.out.below hbf)
    have Mf : Hid (VecE wf Af (len0 + (len1 + len2)) (Om.isort Om.near (z0 ++ z1 ++ z2))) := hmf
    have Bf := Lib.hid (Be.out.trans (hbf.mono Be.out.size))
    clear hbf hmf Xe We Me Be
    go_wp2_with fail
    refine (sameR _ _ (len0 + (len1 + len2)) (len0 + len1 + len2) _ _ _ _ _ Mf.out Wf.out (by omega) (by omega)).mono ?_
    rintro _ wg ⟨he, hbg⟩
    rw [decide_eq_true rfl] at he
    subst he
    have Bg := Lib.hid (Bf.out.trans (hbg.mono Bf.out.size))
    clear hbg Bf
    go_wp2
    go_ret
    exact ⟨rfl, Bg.out⟩

theorem own : ownKnob Try.prog.godebug = none := by kernel_rfl
theorem laidOut : laidOutB Try.prog = true := by kernel_rfl
set_option maxRecDepth 100000 in
theorem lifted (os : Os) (started : os.Started) (H : Type) (enc : TypeId × Value → H) :
    ReturnsInHanded {} Try.checked os 6 .any (Rows.orderMergesSpec.pre6 enc Try.prog Try.f6 Rows.orderMergesRow.domain false) (Rows.orderMergesSpec.post enc Try.prog Try.f6 false true false false) := by
  refine returnsInHanded_of_change (C := Try.checked) own started (by kernel_rfl) Try.func6
    (ChangeSpec.witness6 (enc := enc) (C := Try.checked) false ⟨#[], #[.slice none 0 0, .slice none 0 0, .slice none 0 0], []⟩ 8 (by kernel_rfl) (by kernel_rfl) (by kernel_rfl) (by kernel_rfl)) ?_
  intro W base args ds gs before hval0 hW hcnd _
  have hval : ∀ (j : Nat) t v, Try.f6.params[j]? = some t → args[j]? = some v → Value.okWide Try.prog W .any base t v := hval0
  have hW' := hW
  obtain ⟨p, q, hA0, hV, rfl, hfz, hnd⟩ := hW
  have hA : DataW.TrodAll enc Try.prog W 0 (fun _ => true) true Try.f6.params.toList args.toList ds p := hA0
  rw [Try.params6] at hA hval
  obtain ⟨v0, vs0, d0, ds0, p0, q0, hargs, rfl, rfl, h0, r0⟩ := trodAll_cons hA
  obtain ⟨v1, vs1, d1, ds1, p1, q1, rfl, rfl, rfl, h1, r1⟩ := trodAll_cons r0
  obtain ⟨v2, vs2, d2, ds2, p2, q2, rfl, rfl, rfl, h2, r2⟩ := trodAll_cons r1
  obtain ⟨rfl, rfl, rfl⟩ := trodAll_nil r2
  obtain rfl : args = #[v0, v1, v2] := by cases args; simp_all
  obtain ⟨rfl, rfl⟩ := trodVars_none hV
  obtain ⟨a0, len0, cap0, rfl⟩ := okWide_slice Try.underlying26 (hval 0 26 v0 rfl rfl)
  have k0 := h0
  have lt0 : ∀ x ∈ p0, x.block < W.heap.size := by obtain ⟨m, hm⟩ := k0; exact DataW.trod_lt m _ _ _ hm
  obtain ⟨z0, w0⟩ : ∃ l, VecE W a0 len0 l ∧ len0 ≤ cap0 ∧ (a0 = none → cap0 = 0) := by
    obtain ⟨fuel, hf⟩ := h0
    rcases Go.Deep.open_slice_pairs Try.underlying26 Try.underlying23 (by kernel_rfl) rfl rfl (by kernel_rfl) (by kernel_rfl) hf with ⟨hcs, _⟩ | ⟨x, len, cap, m, n, V0, V1, D0, D1, P0, P1, hcs, _, hl, _, hmm, _, hcell⟩
    · simp [Value.cells] at hcs
      obtain ⟨rfl, rfl, rfl⟩ := hcs
      exact ⟨[], VecE.nil_ _ _, Nat.le_refl _, fun _ => rfl⟩
    · simp [Value.cells] at hcs
      obtain ⟨rfl, rfl, rfl⟩ := hcs
      obtain ⟨l, hv⟩ := VecE.of_each (w := W) (x := x) len0 (fun j hj => by
        obtain ⟨h1, h2, h3, h4⟩ := hcell j (by simp at hmm; omega)
        obtain ⟨p, hp, -⟩ := DataW.trod_int Try.underlying3 h3
        obtain ⟨q, hq, -⟩ := DataW.trod_int Try.underlying2 h4
        simp at hp hq
        exact ⟨(p, q), by rw [h1, hp], by rw [h2, hq]⟩)
      exact ⟨l, hv, hl, fun h => by cases h⟩
  obtain ⟨a1, len1, cap1, rfl⟩ := okWide_slice Try.underlying26 (hval 1 26 v1 rfl rfl)
  have k1 := h1
  have lt1 : ∀ x ∈ p1, x.block < W.heap.size := by obtain ⟨m, hm⟩ := k1; exact DataW.trod_lt m _ _ _ hm
  obtain ⟨z1, w1⟩ : ∃ l, VecE W a1 len1 l ∧ len1 ≤ cap1 ∧ (a1 = none → cap1 = 0) := by
    obtain ⟨fuel, hf⟩ := h1
    rcases Go.Deep.open_slice_pairs Try.underlying26 Try.underlying23 (by kernel_rfl) rfl rfl (by kernel_rfl) (by kernel_rfl) hf with ⟨hcs, _⟩ | ⟨x, len, cap, m, n, V0, V1, D0, D1, P0, P1, hcs, _, hl, _, hmm, _, hcell⟩
    · simp [Value.cells] at hcs
      obtain ⟨rfl, rfl, rfl⟩ := hcs
      exact ⟨[], VecE.nil_ _ _, Nat.le_refl _, fun _ => rfl⟩
    · simp [Value.cells] at hcs
      obtain ⟨rfl, rfl, rfl⟩ := hcs
      obtain ⟨l, hv⟩ := VecE.of_each (w := W) (x := x) len1 (fun j hj => by
        obtain ⟨h1, h2, h3, h4⟩ := hcell j (by simp at hmm; omega)
        obtain ⟨p, hp, -⟩ := DataW.trod_int Try.underlying3 h3
        obtain ⟨q, hq, -⟩ := DataW.trod_int Try.underlying2 h4
        simp at hp hq
        exact ⟨(p, q), by rw [h1, hp], by rw [h2, hq]⟩)
      exact ⟨l, hv, hl, fun h => by cases h⟩
  obtain ⟨a2, len2, cap2, rfl⟩ := okWide_slice Try.underlying26 (hval 2 26 v2 rfl rfl)
  have k2 := h2
  have lt2 : ∀ x ∈ p2, x.block < W.heap.size := by obtain ⟨m, hm⟩ := k2; exact DataW.trod_lt m _ _ _ hm
  obtain ⟨z2, w2⟩ : ∃ l, VecE W a2 len2 l ∧ len2 ≤ cap2 ∧ (a2 = none → cap2 = 0) := by
    obtain ⟨fuel, hf⟩ := h2
    rcases Go.Deep.open_slice_pairs Try.underlying26 Try.underlying23 (by kernel_rfl) rfl rfl (by kernel_rfl) (by kernel_rfl) hf with ⟨hcs, _⟩ | ⟨x, len, cap, m, n, V0, V1, D0, D1, P0, P1, hcs, _, hl, _, hmm, _, hcell⟩
    · simp [Value.cells] at hcs
      obtain ⟨rfl, rfl, rfl⟩ := hcs
      exact ⟨[], VecE.nil_ _ _, Nat.le_refl _, fun _ => rfl⟩
    · simp [Value.cells] at hcs
      obtain ⟨rfl, rfl, rfl⟩ := hcs
      obtain ⟨l, hv⟩ := VecE.of_each (w := W) (x := x) len2 (fun j hj => by
        obtain ⟨h1, h2, h3, h4⟩ := hcell j (by simp at hmm; omega)
        obtain ⟨p, hp, -⟩ := DataW.trod_int Try.underlying3 h3
        obtain ⟨q, hq, -⟩ := DataW.trod_int Try.underlying2 h4
        simp at hp hq
        exact ⟨(p, q), by rw [h1, hp], by rw [h2, hq]⟩)
      exact ⟨l, hv, hl, fun h => by cases h⟩
  clear hA0 hval0
  refine (walk a0 len0 cap0 z0 a1 len1 cap1 z1 a2 len2 cap2 z2 W w0 w1 w2).mono fun e W' ⟨he, bel⟩ => ?_
  subst he
  exact ⟨_, rfl, _, _, _, [], _, [], hW', trodAll_mk1 (shut_bool Try.underlying4 _), (trodAll_cons_mk (Below.trod laidOut (by kernel_rfl) (of_decide_eq_true (by kernel_rfl)) k0 bel lt0) (trodAll_cons_mk (Below.trod laidOut (by kernel_rfl) (of_decide_eq_true (by kernel_rfl)) k1 bel lt1) (trodAll_cons_mk (Below.trod laidOut (by kernel_rfl) (of_decide_eq_true (by kernel_rfl)) k2 bel lt2) trodAll_mk0))), rfl, bel.frame _, fun h => by cases h⟩
theorem over : Rows.orderMergesRow.holds Try.pinned (OpenSpec.ofChange Rows.orderMergesSpec) :=
  OpenClaim.holds_of_wide 6 Try.f6 rfl rfl rfl rfl rfl rfl rfl ⟨rfl, rfl, rfl, rfl, rfl⟩ rfl rfl rfl rfl rfl (by kernel_rfl) Try.func6 (by kernel_rfl)
    (of_decide_eq_true (by kernel_rfl)) (by unfold Func.isWrapper; first | (rw [if_pos (by decide +kernel)]; kernel_rfl) | (rw [if_neg (by decide +kernel)]; exact ⟨rfl, rfl⟩))
    (fun os started H enc _ => lifted os started H enc)
/-- the statement -/
theorem proved : Rows.OrderMergesSaid := over
#print axioms proved
end orderMerges
end Go.Proofs.Ytfefhandlkbeoaa
