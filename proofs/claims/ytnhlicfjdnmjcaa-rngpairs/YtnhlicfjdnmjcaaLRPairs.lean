/-
  RngPairs: a pair's numbers are unlike, and below the number; by two draws. No condition.
-/
import Derived.Test.YtnhlicfjdnmjcaaRArg
import Derived.Lib.SmallJoins
namespace Go.Proofs.Ytnhlicfjdnmjcaa
open Go.RowKit Go.Joins Go.ChangeShapes Go.WideShapes Go.Deep
namespace rngPairs

set_option maxHeartbeats 800000 in
theorem walk (mixed : Bool) (s : Int) (A : Option Addr) (len cap : Nat) (z : List Int) (n : Int) (w : World) (ws : (Lit.int .u64 s).wf = true) (wl : IsRow .u64 w A len cap z) (wn : (Lit.int .i64 n).wf = true) :
    Calls Try.prog 4 #[.bool mixed, .int .u64 s, .slice A len cap, .int .i64 n] w fun e w' => e = .returned (.bool true) ∧ Below w.heap.size w w' := by
  have G := Lib.hid (Arg.of_row ws wl)
  have bn := bounds_i64 wn
  clear ws wl wn
  go_enter Try.func4, Try.ntmps4
  go_wp2_with fail
  refine (awake_any _).mono ?_
  rintro _ w1 ⟨rfl, b1⟩
  have B1 := Lib.hid b1
  clear b1
  by_cases hl : 200 < len
  · go_wp2
    go_ret
    exact ⟨rfl, B1.out⟩
  · have hO := Lib.hid ((G.out.below B1.out).of_ mixed B1.out.size (by omega))
    go_wp2_with fail
    refine hO.out.mono ?_
    rintro _ w2 ⟨b, rfl, h2, b2⟩
    have B2 := Lib.hid (B1.out.trans (b2.mono B1.out.size))
    have HC := Lib.hid (count_new h2)
    have s1 := B1.out.size
    clear hO h2 b2 B1
    go_wp2_with fail
    refine HC.out.mono ?_
    rintro _ w3 ⟨q, rfl, h3, b3⟩
    have B3 := Lib.hid (B2.out.trans (b3.mono B2.out.size))
    have HP := pair_any h3.src n (by omega) bn.2
    clear HC h3 b3 B2
    by_cases c : n < 2
    · rw [show Rm.np n = 0 from by unfold Rm.np; rw [if_pos c], show Rm.fst (ofF mixed s (z.take len)) n = 0 from by unfold Rm.fst; rw [if_pos c], show Rm.snd (ofF mixed s (z.take len)) n = 0 from by unfold Rm.snd; rw [if_pos c]] at HP
      have HP' := Lib.hid HP
      clear HP
      go_wp2_with fail
      refine HP'.out.mono ?_
      rintro _ w4 ⟨rfl, h4, b4⟩
      have B4 := Lib.hid (B3.out.trans (b4.old B3.out.size s1))
      have HD := Lib.hid (drawn_any h4.ctr)
      clear HP' h4 b4 B3
      go_wp2_with fail
      refine HD.out.mono ?_
      rintro _ _ ⟨rfl, rfl⟩
      go_wp2
      go_ret
      exact ⟨rfl, B4.out⟩
    · obtain ⟨p1, p2, p3, p4, p5⟩ := Rm.pair_ok (ofF mixed s (z.take len)) n (by omega)
      rw [show Rm.np n = 2 from by unfold Rm.np; rw [if_neg c]] at HP
      obtain ⟨x, hx⟩ : ∃ x, x = Rm.fst (ofF mixed s (z.take len)) n := ⟨_, rfl⟩
      obtain ⟨y, hy⟩ : ∃ y, y = Rm.snd (ofF mixed s (z.take len)) n := ⟨_, rfl⟩
      rw [← hx, ← hy] at HP p5
      rw [← hx] at p1 p2
      rw [← hy] at p3 p4
      have HP' := Lib.hid HP
      have p6 : (x != y) = true := by simpa using p5
      clear HP hx hy p5
      go_wp2_with fail
      refine HP'.out.mono ?_
      rintro _ w4 ⟨rfl, h4, b4⟩
      have B4 := Lib.hid (B3.out.trans (b4.old B3.out.size s1))
      have HD := Lib.hid (drawn_any h4.ctr)
      clear HP' h4 b4 B3
      go_wp2_with fail
      refine HD.out.mono ?_
      rintro _ _ ⟨rfl, rfl⟩
      go_wp2
      go_ret
      exact ⟨rfl, B4.out⟩

theorem own : ownKnob Try.prog.godebug = none := by kernel_rfl
theorem laidOut : laidOutB Try.prog = true := by kernel_rfl
set_option maxRecDepth 100000 in
theorem lifted (os : Os) (started : os.Started) (H : Type) (enc : TypeId × Value → H) :
    ReturnsInHanded {} Try.checked os 4 .any (Rows.rngPairsSpec.pre6 enc Try.prog Try.f4 Rows.rngPairsRow.domain false) (Rows.rngPairsSpec.post enc Try.prog Try.f4 false true false false) := by
  refine returnsInHanded_of_change (C := Try.checked) own started (by kernel_rfl) Try.func4
    (ChangeSpec.witness6 (enc := enc) (C := Try.checked) false ⟨#[], #[.bool false, .int .u64 0, .slice none 0 0, .int .i64 0], []⟩ 8 (by kernel_rfl) (by kernel_rfl) (by kernel_rfl) (by kernel_rfl)) ?_
  intro W base args ds gs before hval0 hW hcnd _
  have hval : ∀ (j : Nat) t v, Try.f4.params[j]? = some t → args[j]? = some v → Value.okWide Try.prog W .any base t v := hval0
  have hW' := hW
  obtain ⟨p, q, hA0, hV, rfl, hfz, hnd⟩ := hW
  have hA : DataW.TrodAll enc Try.prog W 0 (fun _ => true) true Try.f4.params.toList args.toList ds p := hA0
  rw [Try.params4] at hA hval
  obtain ⟨v0, vs0, d0, ds0, p0, q0, hargs, rfl, rfl, h0, r0⟩ := trodAll_cons hA
  obtain ⟨v1, vs1, d1, ds1, p1, q1, rfl, rfl, rfl, h1, r1⟩ := trodAll_cons r0
  obtain ⟨v2, vs2, d2, ds2, p2, q2, rfl, rfl, rfl, h2, r2⟩ := trodAll_cons r1
  obtain ⟨v3, vs3, d3, ds3, p3, q3, rfl, rfl, rfl, h3, r3⟩ := trodAll_cons r2
  obtain ⟨rfl, rfl, rfl⟩ := trodAll_nil r3
  obtain rfl : args = #[v0, v1, v2, v3] := by cases args; simp_all
  obtain ⟨rfl, rfl⟩ := trodVars_none hV
  obtain ⟨a0, rfl, rfl, rfl⟩ := open_bool Try.underlying4 (hval 0 4 v0 rfl rfl) h0
  obtain ⟨a1, rfl, rfl, rfl, w1⟩ := open_int Try.underlying22 (hval 1 22 v1 rfl rfl) h1
  obtain ⟨a2, len2, cap2, rfl⟩ := okWide_slice Try.underlying23 (hval 2 23 v2 rfl rfl)
  have k2 := h2
  have lt2 : ∀ x ∈ p2, x.block < W.heap.size := by obtain ⟨m, hm⟩ := k2; exact DataW.trod_lt m _ _ _ hm
  obtain ⟨z2, w2⟩ : ∃ zs, IsRow .u64 W a2 len2 cap2 zs := by
    obtain ⟨fuel, hf⟩ := h2
    rcases open_ints Try.underlying23 Try.underlying22 (by kernel_rfl) hf with ⟨hcs, _⟩ | ⟨x, l, c, zs, hcs, _, hl, hm, hz, _, hcell, hwz⟩
    · simp [Value.cells] at hcs
      obtain ⟨rfl, rfl, rfl⟩ := hcs
      exact ⟨[], .inl ⟨rfl, rfl, rfl, rfl⟩⟩
    · simp [Value.cells] at hcs
      obtain ⟨rfl, rfl, rfl⟩ := hcs
      exact ⟨zs, .inr ⟨_, rfl, hl, hm, by simpa using hz, hcell, hwz⟩⟩
  obtain ⟨a3, rfl, rfl, rfl, w3⟩ := open_int Try.underlying3 (hval 3 3 v3 rfl rfl) h3
  clear hA0 hval0
  refine (walk a0 a1 a2 len2 cap2 z2 a3 W w1 w2 w3).mono fun e W' ⟨he, bel⟩ => ?_
  subst he
  exact ⟨_, rfl, _, _, _, [], _, [], hW', trodAll_mk1 (shut_bool Try.underlying4 _), (trodAll_cons_mk (shut_bool Try.underlying4 a0) (trodAll_cons_mk (shut_int Try.underlying22 w1) (trodAll_cons_mk (Below.trod laidOut (by kernel_rfl) (of_decide_eq_true (by kernel_rfl)) k2 bel lt2) (trodAll_cons_mk (shut_int Try.underlying3 w3) trodAll_mk0)))), rfl, bel.frame _, fun h => by cases h⟩
theorem over : Rows.rngPairsRow.holds Try.pinned (OpenSpec.ofChange Rows.rngPairsSpec) :=
  OpenClaim.holds_of_wide 4 Try.f4 rfl rfl rfl rfl rfl rfl rfl ⟨rfl, rfl, rfl, rfl, rfl⟩ rfl rfl rfl rfl rfl (by kernel_rfl) Try.func4 (by kernel_rfl)
    (of_decide_eq_true (by kernel_rfl)) (by unfold Func.isWrapper; first | (rw [if_pos (by decide +kernel)]; kernel_rfl) | (rw [if_neg (by decide +kernel)]; exact ⟨rfl, rfl⟩))
    (fun os started H enc _ => lifted os started H enc)
/-- the statement -/
theorem proved : Rows.RngPairsSaid := over
#print axioms proved
end rngPairs
end Go.Proofs.Ytnhlicfjdnmjcaa
