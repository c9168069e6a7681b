/-
  MarksUnique: any numbers, rising, each once, are just the document's; what was handed in is as it was; once more they stay. No condition.
-/
import Derived.Test.YthjpjeflgnkgpaaNAwk
import Derived.Test.YthjpjeflgnkgpaaNRef
import Derived.Lib.SmallJoins
import Derived.ProofKit
import Derived.OpenShut
import Derived.ShutString
import Derived.ChangeOld
import Derived.WalkSmall
namespace Go.Proofs.Ythjpjeflgnkgpaa
open Go.RowKit Go.Joins Go.ChangeShapes Go.WideShapes Go.Deep
namespace marksUnique

set_option maxHeartbeats 1600000 in
set_option maxRecDepth 100000 in
theorem walk (a0 : Option Addr) (len0 cap0 : Nat) (z0 : List Int) (w : World) (w0 : IsRow .i64 w a0 len0 cap0 z0) :
    Calls Try.prog 3 #[.slice a0 len0 cap0] w fun e w' => e = .returned (.bool true) ∧ Below w.heap.size w w' := by
  obtain ⟨i0, hi, hz0, hz1, hz2⟩ := info_parts Try.infoI
  have hV := Sl.of_row w0
  obtain ⟨l, hl⟩ : ∃ l, z0.take len0 = l := ⟨_, rfl⟩
  rw [hl] at hV
  have V := Lib.hid hV
  clear w0 hl hV
  go_enter Try.func3, Try.ntmps3
  go_wp2_with fail
  refine (awake_any _).mono ?_
  rintro _ W1 ⟨rfl, b1⟩
  have B1 := Lib.hid b1
  clear b1
  by_cases g0 : 200 < len0
  · have d0 : decide (200 < (len0 : Int)) = true := by simp; omega
    go_wp2
    go_ret
    exact ⟨rfl, B1.out⟩
  have d0 : decide (200 < (len0 : Int)) = false := by simp; omega
  have n0 : len0 ≤ 200 := by omega
  clear g0
  have V1 := Lib.hid (V.out.below B1.out)
  have Ba := Lib.hid (show Below W1.heap.size W1 (W1.alloc (.cells #[] 3)) from (Below.refl _ W1).alloc (Nat.le_refl _) _)
  have Oa := Lib.hid (show (W1.alloc (.cells #[] 3)).ownsRow W1.heap.size 3 1 (.slice (some ⟨W1.heap.size, 0, none⟩) 0 0) 0 [] from own_none (heap_alloc_new W1 _) (Nat.le_refl _))
  go_wp2_with (at_builtin; refine append_lst _ rfl (.tmp 10) (.tmp 11) 22 rfl W1.heap.size 3 i0 (.int .i64 0) 8 Try.underlying22 hi hz0 hz1 hz2 rfl (.slice (some ⟨W1.heap.size, 0, none⟩) 0 0) 0 [] rfl Oa.out W1.heap.size a0 len0 cap0 (ci l) rfl V1.out.nil (V1.out.lst.below Ba.out) (ints_one .i64 l) (by unfold maxLen; omega) (by omega) Ba.out.size ?_; intro v' W2 q1 q2; have Q1 := Lib.hid q1; have Q2 := Lib.hid (Ba.out.grown q2 Ba.out.size (fun k hk => by simp [Value.ownBlock] at hk; omega)); clear q1 q2)
  obtain ⟨A1, c1, rfl, -, -⟩ := own_form Q1.out
  have hw := Q1.out
  simp only [Nat.zero_add, List.nil_append] at hw
  rw [Nat.zero_add]
  have S2 := Lib.hid (Sl.of_own hw)
  have B2 := Lib.hid (B1.out.trans (Q2.out.mono B1.out.size))
  have V2 := Lib.hid (V1.out.below Q2.out)
  clear hw Q1 Q2 Oa Ba B1
  refine (uniqI a0 len0 cap0 l W2 V2.out (by omega)).mono ?_
  rintro _ W3 ⟨A3, c3, rfl, o3, b3⟩
  have S3 := Lib.hid (Sl.of_own o3)
  have hn3 := Nm.uniq_le l
  rw [V2.out.length] at hn3
  have hq := Nm.uniq_uq l
  have hq2 : Nm.uniq (Nm.uniq l) = Nm.uniq l := by rw [Nm.uniq_uq (Nm.uniq l), Nm.uq_self (Nm.uniq_ri l)]
  have HQ2 := Lib.hid hq2
  obtain ⟨u, hu⟩ : ∃ u, u = Nm.uniq l := ⟨_, rfl⟩
  rw [← hu] at S3 hn3 hq HQ2 ⊢
  have HQ := Lib.hid hq
  obtain ⟨m, hm⟩ : ∃ m, u.length = m := ⟨_, rfl⟩
  rw [hm] at S3 hn3 ⊢
  have HM := Lib.hid hm
  have V3 := Lib.hid (V2.out.below b3)
  have T3 := Lib.hid (S2.out.below b3)
  have B3 := Lib.hid (B2.out.trans (b3.mono B2.out.size))
  clear o3 b3 hu hm hq hq2 B2 V2 S2 V1
  go_wp2_with fail
  refine (refUniq a0 len0 cap0 l W3 V3.out (by omega)).mono ?_
  rintro _ W4 ⟨A4, c4, rfl, s4, b4⟩
  rw [← HQ.out, HM.out] at s4 ⊢
  have U4 := Lib.hid s4
  have S4 := Lib.hid (S3.out.below b4)
  have V4 := Lib.hid (V3.out.below b4)
  have T4 := Lib.hid (T3.out.below b4)
  have B4 := Lib.hid (B3.out.trans (b4.mono B3.out.size))
  clear s4 b4 B3 V3 T3 S3
  go_wp2_with fail
  refine (refSame A3 A4 m c3 m c4 u u W4 S4.out U4.out (by omega)).mono ?_
  rintro _ W5 ⟨he, b5⟩
  rw [decide_eq_true rfl] at he
  subst he
  have S5 := Lib.hid (S4.out.below b5)
  have V5 := Lib.hid (V4.out.below b5)
  have T5 := Lib.hid (T4.out.below b5)
  have B5 := Lib.hid (B4.out.trans (b5.mono B4.out.size))
  clear b5 B4 V4 T4 S4 U4
  go_wp2_with fail
  refine (refSame a0 A1 len0 cap0 len0 c1 l l W5 V5.out T5.out (by omega)).mono ?_
  rintro _ W6 ⟨he, b6⟩
  rw [decide_eq_true rfl] at he
  subst he
  have S6 := Lib.hid (S5.out.below b6)
  have B6 := Lib.hid (B5.out.trans (b6.mono B5.out.size))
  clear b6 B5 V5 T5 S5
  go_wp2_with fail
  refine (uniqI A3 m c3 u W6 S6.out (by omega)).mono ?_
  rintro _ W7 ⟨A7, c7, rfl, o7, b7⟩
  rw [HQ2.out, HM.out] at o7 ⊢
  have U7 := Lib.hid (Sl.of_own o7)
  have S7 := Lib.hid (S6.out.below b7)
  have B7 := Lib.hid (B6.out.trans (b7.mono B6.out.size))
  clear o7 b7 B6 S6
  go_wp2_with fail
  refine (refSame A7 A3 m c7 m c3 u u W7 U7.out S7.out (by omega)).mono ?_
  rintro _ W8 ⟨he, b8⟩
  rw [decide_eq_true rfl] at he
  subst he
  have B8 := Lib.hid (B7.out.trans (b8.mono B7.out.size))
  clear b8
  go_wp2
  go_ret
  exact ⟨rfl, B8.out⟩
theorem own : ownKnob Try.prog.godebug = none := by kernel_rfl
theorem laidOut : laidOutB Try.prog = true := by kernel_rfl
set_option maxRecDepth 100000 in
theorem lifted (os : Os) (started : os.Started) (H : Type) (enc : TypeId × Value → H) :
    ReturnsInHanded {} Try.checked os 3 .any (Rows.marksUniqueSpec.pre6 enc Try.prog Try.f3 Rows.marksUniqueRow.domain false) (Rows.marksUniqueSpec.post enc Try.prog Try.f3 false true false false) := by
  refine returnsInHanded_of_change (C := Try.checked) own started (by kernel_rfl) Try.func3
    (ChangeSpec.witness6 (enc := enc) (C := Try.checked) false ⟨#[], #[.slice none 0 0], []⟩ 8 (by kernel_rfl) (by kernel_rfl) (by kernel_rfl) (by kernel_rfl)) ?_
  intro W base args ds gs before hval0 hW hcnd _
  have hval : ∀ (j : Nat) t v, Try.f3.params[j]? = some t → args[j]? = some v → Value.okWide Try.prog W .any base t v := hval0
  have hW' := hW
  obtain ⟨p, q, hA0, hV, rfl, hfz, hnd⟩ := hW
  have hA : DataW.TrodAll enc Try.prog W 0 (fun _ => true) true Try.f3.params.toList args.toList ds p := hA0
  rw [Try.params3] at hA hval
  obtain ⟨v0, vs0, d0, ds0, p0, q0, hargs, rfl, rfl, h0, r0⟩ := trodAll_cons hA
  obtain ⟨rfl, rfl, rfl⟩ := trodAll_nil r0
  obtain rfl : args = #[v0] := by cases args; simp_all
  obtain ⟨rfl, rfl⟩ := trodVars_none hV
  obtain ⟨a0, len0, cap0, rfl⟩ := okWide_slice Try.underlying22 (hval 0 22 v0 rfl rfl)
  have k0 := h0
  have lt0 : ∀ x ∈ p0, x.block < W.heap.size := by obtain ⟨m, hm⟩ := k0; exact DataW.trod_lt m _ _ _ hm
  obtain ⟨z0, w0⟩ : ∃ zs, IsRow .i64 W a0 len0 cap0 zs := by
    obtain ⟨fuel, hf⟩ := h0
    rcases open_ints Try.underlying22 Try.underlying3 (by kernel_rfl) hf with ⟨hcs, _⟩ | ⟨x, l, c, zs, hcs, _, hl, hm, hz, _, hcell, hwz⟩
    · simp [Value.cells] at hcs
      obtain ⟨rfl, rfl, rfl⟩ := hcs
      exact ⟨[], .inl ⟨rfl, rfl, rfl, rfl⟩⟩
    · simp [Value.cells] at hcs
      obtain ⟨rfl, rfl, rfl⟩ := hcs
      exact ⟨zs, .inr ⟨_, rfl, hl, hm, by simpa using hz, hcell, hwz⟩⟩
  clear hA0 hval0
  refine (walk a0 len0 cap0 z0 W w0).mono fun e W' ⟨he, bel⟩ => ?_
  subst he
  exact ⟨_, rfl, _, _, _, [], _, [], hW', trodAll_mk1 (shut_bool Try.underlying4 _), (trodAll_cons_mk (Below.trod laidOut (by kernel_rfl) (of_decide_eq_true (by kernel_rfl)) k0 bel lt0) trodAll_mk0), rfl, bel.frame _, fun h => by cases h⟩
theorem over : Rows.marksUniqueRow.holds Try.pinned (OpenSpec.ofChange Rows.marksUniqueSpec) :=
  OpenClaim.holds_of_wide 3 Try.f3 rfl rfl rfl rfl rfl rfl rfl ⟨rfl, rfl, rfl, rfl, rfl⟩ rfl rfl rfl rfl rfl (by kernel_rfl) Try.func3 (by kernel_rfl)
    (of_decide_eq_true (by kernel_rfl)) (by unfold Func.isWrapper; first | (rw [if_pos (by decide +kernel)]; kernel_rfl) | (rw [if_neg (by decide +kernel)]; exact ⟨rfl, rfl⟩))
    (fun os started H enc _ => lifted os started H enc)
/-- the statement -/
theorem proved : Rows.MarksUniqueSaid := over
#print axioms proved
end marksUnique
end Go.Proofs.Ythjpjeflgnkgpaa
