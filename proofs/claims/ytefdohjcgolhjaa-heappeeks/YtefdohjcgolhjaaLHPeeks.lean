/-
  HeapPeeks: what is looked at stays, and is what is popped next. No condition.
-/
import Derived.Test.YtefdohjcgolhjaaHAwk
import Derived.Lib.SmallJoins
namespace Go.Proofs.Ytefdohjcgolhjaa
open Go.RowKit Go.Joins Go.ChangeShapes Go.WideShapes Go.Deep
namespace heapPeeks

theorem told {l l' : List Int} {f x y : Int} {ok is : Bool} (pk : Hm.Pk ilt 0 l f ok) (po : Hm.Po ilt 0 (x :: l) y is l') : is = true ∧ l'.length = l.length ∧ y = if ok = true ∧ f < x then f else x := by
  rcases po with ⟨h, _⟩ | ⟨rfl, hp, hm⟩
  · cases h
  refine ⟨rfl, by have := hp.length_eq; simp at this; omega, ?_⟩
  have hy : y ∈ x :: l := hp.symm.subset (by simp)
  have hx := hm x (by simp)
  simp [ilt] at hx
  rcases pk with ⟨rfl, rfl, rfl⟩ | ⟨rfl, h1, h2⟩
  · simpa using hy
  · have hf := hm f (by simp [h1])
    simp [ilt] at hf
    have hy2 : f ≤ y ∨ y = x := by
      rcases List.mem_cons.1 hy with e | e
      · exact .inr e
      · have := h2 y e; simp [ilt] at this; exact .inl this
    simp only [true_and]
    split <;> omega

set_option maxRecDepth 100000 in
set_option maxHeartbeats 800000 in
theorem walk (a0 : Option Addr) (len0 cap0 : Nat) (z0 : List Int) (x n : Int) (w : World) (w0 : IsRow .i64 w a0 len0 cap0 z0) (w1 : (Lit.int .i64 x).wf = true) (w2 : (Lit.int .u8 n).wf = true) :
    Calls Try.prog 7 #[.slice a0 len0 cap0, .int .i64 x, .int .u8 n] w fun e w' => e = .returned (.bool true) ∧ Below w.heap.size w w' := by
  obtain ⟨hL, hl, hlc, -, hA⟩ := w0.lst
  have hll : (z0.take len0).length = len0 := by simp; omega
  obtain ⟨l, hl2⟩ : ∃ l, l = z0.take len0 := ⟨_, rfl⟩
  rw [← hl2] at hL hll
  have HL := Lib.hid hL
  have HA := Lib.hid hA
  have HLL := Lib.hid hll
  have bn := bounds_u8 w2
  clear w0 w1 w2 hl hlc hA hL hl2 hll
  go_enter Try.func7, Try.ntmps7
  go_wp2_with fail
  refine (awake_any _).mono ?_
  rintro _ w1 ⟨rfl, b1⟩
  have HB1 := Lib.hid b1
  have HL1 := Lib.hid (((HL.out.below b1)).more b1.size)
  clear b1
  by_cases c1 : 100 < len0
  · go_wp2
    go_ret
    exact ⟨rfl, HB1.out⟩
  · have HN := Lib.hid (newI a0 len0 cap0 l w1 HL1.out HA.out (by omega))
    go_wp2_with fail
    refine HN.out.mono ?_
    rintro _ w2 ⟨S, B, rfl, h2, b2, hS⟩
    have HB2 := Lib.hid (HB1.out.trans (b2.mono HB1.out.size))
    have HS := Lib.hid (show ∀ k, S k → w.heap.size ≤ k from fun k hk => Nat.le_trans HB1.out.size (hS k hk))
    have H2 := Lib.hid h2
    clear HN h2 b2 hS
    go_wp2_with fail
    refine (peekI S B l w2 H2.out).mono ?_
    rintro _ w3 ⟨f, ok, rfl, pk, rfl⟩
    have PK := Lib.hid pk
    rcases pk with ⟨hl0, rfl, rfl⟩ | ⟨rfl, hm, hle⟩
    · have l0 : len0 = 0 := by rw [← HLL.out, hl0]; rfl
      clear hl0
      subst l0
      go_wp2
      go_loopw [10] (fun I wr => ∃ i : Nat, I = .int .i64 (i : Int) ∧ i ≤ 5 ∧ wr = w3) (fun I _ => 5 - (intOf I).toNat)
      case atStart => exact ⟨0, rfl, by omega, rfl⟩
      case round =>
        obtain ⟨i, rfl, i5, hwr⟩ := hrel
        subst hwr
        by_cases ci : (i : Int) < n % 5
        · have il : i < 5 := by omega
          go_wp2_with fail
          refine (peekI S B l _ H2.out).mono ?_
          rintro _ w4 ⟨f2, ok2, rfl, pk, hw4⟩
          subst hw4
          obtain ⟨rfl, rfl⟩ := PK.out.unique ilt_eq pk
          clear pk
          go_wp2
          go_roundw
          case rel => exact ⟨i + 1, congrArg (Value.int .i64) (by omega), by omega, trivial⟩
          case measure => simp [intOf]; omega
        · go_wp2_with fail
          refine (lenI S B l _ H2.out).mono ?_
          rintro _ w4 ⟨rfl, hw4⟩
          subst hw4
          rw [HLL.out]
          go_wp2_with fail
          refine (pushI S B l x _ H2.out (by rw [HLL.out]; omega)).mono ?_
          rintro _ w5 ⟨rfl, S', h5, k5, hS5⟩
          have HB5 := Lib.hid (HB2.out.trans (k5.old HB2.out.size HS.out))
          have HS5 := Lib.hid (show ∀ k, S' k → w.heap.size ≤ k from fun k hk => by
            rcases hS5 k hk with q | q
            · exact HS.out k q
            · exact Nat.le_trans HB2.out.size q)
          have H5 := Lib.hid h5
          clear h5 k5 hS5
          go_wp2_with fail
          refine (popI S' B _ _ H5.out (by simp; rw [HLL.out]; omega)).mono ?_
          rintro _ w6 ⟨y, is, l', rfl, po, h6, k6⟩
          obtain ⟨rfl, hl', hy⟩ := told PK.out po
          have HB6 := Lib.hid (HB5.out.trans (k6.old HB5.out.size HS5.out))
          have H6 := Lib.hid h6
          have HL' := Lib.hid (hl'.trans HLL.out)
          clear h6 k6 po hl'
          have hy2 : y = x := by rw [hy]; simp
          clear hy
          subst hy2
          go_wp2_with fail
          refine (lenI S' B l' _ H6.out).mono ?_
          rintro _ w7 ⟨rfl, hw7⟩
          subst hw7
          rw [HL'.out]
          go_wp2
          go_ret
          exact ⟨rfl, HB6.out⟩
    · have l0 : 0 < len0 := by rw [← HLL.out]; exact List.length_pos_of_mem hm
      clear hm hle
      by_cases cf : f < x
      · skip
        go_wp2
        go_loopw [10] (fun I wr => ∃ i : Nat, I = .int .i64 (i : Int) ∧ i ≤ 5 ∧ wr = w3) (fun I _ => 5 - (intOf I).toNat)
        case atStart => exact ⟨0, rfl, by omega, rfl⟩
        case round =>
          obtain ⟨i, rfl, i5, hwr⟩ := hrel
          subst hwr
          by_cases ci : (i : Int) < n % 5
          · have il : i < 5 := by omega
            go_wp2_with fail
            refine (peekI S B l _ H2.out).mono ?_
            rintro _ w4 ⟨f2, ok2, rfl, pk, hw4⟩
            subst hw4
            obtain ⟨rfl, rfl⟩ := PK.out.unique ilt_eq pk
            clear pk
            go_wp2
            go_roundw
            case rel => exact ⟨i + 1, congrArg (Value.int .i64) (by omega), by omega, trivial⟩
            case measure => simp [intOf]; omega
          · go_wp2_with fail
            refine (lenI S B l _ H2.out).mono ?_
            rintro _ w4 ⟨rfl, hw4⟩
            subst hw4
            rw [HLL.out]
            go_wp2_with fail
            refine (pushI S B l x _ H2.out (by rw [HLL.out]; omega)).mono ?_
            rintro _ w5 ⟨rfl, S', h5, k5, hS5⟩
            have HB5 := Lib.hid (HB2.out.trans (k5.old HB2.out.size HS.out))
            have HS5 := Lib.hid (show ∀ k, S' k → w.heap.size ≤ k from fun k hk => by
              rcases hS5 k hk with q | q
              · exact HS.out k q
              · exact Nat.le_trans HB2.out.size q)
            have H5 := Lib.hid h5
            clear h5 k5 hS5
            go_wp2_with fail
            refine (popI S' B _ _ H5.out (by simp; rw [HLL.out]; omega)).mono ?_
            rintro _ w6 ⟨y, is, l', rfl, po, h6, k6⟩
            obtain ⟨rfl, hl', hy⟩ := told PK.out po
            have HB6 := Lib.hid (HB5.out.trans (k6.old HB5.out.size HS5.out))
            have H6 := Lib.hid h6
            have HL' := Lib.hid (hl'.trans HLL.out)
            clear h6 k6 po hl'
            rw [if_pos ⟨rfl, by omega⟩] at hy
            subst hy
            go_wp2_with fail
            refine (lenI S' B l' _ H6.out).mono ?_
            rintro _ w7 ⟨rfl, hw7⟩
            subst hw7
            rw [HL'.out]
            go_wp2
            go_ret
            exact ⟨rfl, HB6.out⟩
      · skip
        go_wp2
        go_loopw [10] (fun I wr => ∃ i : Nat, I = .int .i64 (i : Int) ∧ i ≤ 5 ∧ wr = w3) (fun I _ => 5 - (intOf I).toNat)
        case atStart => exact ⟨0, rfl, by omega, rfl⟩
        case round =>
          obtain ⟨i, rfl, i5, hwr⟩ := hrel
          subst hwr
          by_cases ci : (i : Int) < n % 5
          · have il : i < 5 := by omega
            go_wp2_with fail
            refine (peekI S B l _ H2.out).mono ?_
            rintro _ w4 ⟨f2, ok2, rfl, pk, hw4⟩
            subst hw4
            obtain ⟨rfl, rfl⟩ := PK.out.unique ilt_eq pk
            clear pk
            go_wp2
            go_roundw
            case rel => exact ⟨i + 1, congrArg (Value.int .i64) (by omega), by omega, trivial⟩
            case measure => simp [intOf]; omega
          · go_wp2_with fail
            refine (lenI S B l _ H2.out).mono ?_
            rintro _ w4 ⟨rfl, hw4⟩
            subst hw4
            rw [HLL.out]
            go_wp2_with fail
            refine (pushI S B l x _ H2.out (by rw [HLL.out]; omega)).mono ?_
            rintro _ w5 ⟨rfl, S', h5, k5, hS5⟩
            have HB5 := Lib.hid (HB2.out.trans (k5.old HB2.out.size HS.out))
            have HS5 := Lib.hid (show ∀ k, S' k → w.heap.size ≤ k from fun k hk => by
              rcases hS5 k hk with q | q
              · exact HS.out k q
              · exact Nat.le_trans HB2.out.size q)
            have H5 := Lib.hid h5
            clear h5 k5 hS5
            go_wp2_with fail
            refine (popI S' B _ _ H5.out (by simp; rw [HLL.out]; omega)).mono ?_
            rintro _ w6 ⟨y, is, l', rfl, po, h6, k6⟩
            obtain ⟨rfl, hl', hy⟩ := told PK.out po
            have HB6 := Lib.hid (HB5.out.trans (k6.old HB5.out.size HS5.out))
            have H6 := Lib.hid h6
            have HL' := Lib.hid (hl'.trans HLL.out)
            clear h6 k6 po hl'
            rw [if_neg (fun h => by have := h.2; omega)] at hy
            subst hy
            go_wp2_with fail
            refine (lenI S' B l' _ H6.out).mono ?_
            rintro _ w7 ⟨rfl, hw7⟩
            subst hw7
            rw [HL'.out]
            go_wp2
            go_ret
            exact ⟨rfl, HB6.out⟩
theorem own : ownKnob Try.prog.godebug = none := by kernel_rfl
theorem laidOut : laidOutB Try.prog = true := by kernel_rfl
set_option maxRecDepth 100000 in
theorem lifted (os : Os) (started : os.Started) (H : Type) (enc : TypeId × Value → H) :
    ReturnsInHanded {} Try.checked os 7 .any (Rows.heapPeeksSpec.pre6 enc Try.prog Try.f7 Rows.heapPeeksRow.domain false) (Rows.heapPeeksSpec.post enc Try.prog Try.f7 false true false false) := by
  refine returnsInHanded_of_change (C := Try.checked) own started (by kernel_rfl) Try.func7
    (ChangeSpec.witness6 (enc := enc) (C := Try.checked) false ⟨#[], #[.slice none 0 0, .int .i64 0, .int .u8 0], []⟩ 8 (by kernel_rfl) (by kernel_rfl) (by kernel_rfl) (by kernel_rfl)) ?_
  intro W base args ds gs before hval0 hW hcnd _
  have hval : ∀ (j : Nat) t v, Try.f7.params[j]? = some t → args[j]? = some v → Value.okWide Try.prog W .any base t v := hval0
  have hW' := hW
  obtain ⟨p, q, hA0, hV, rfl, hfz, hnd⟩ := hW
  have hA : DataW.TrodAll enc Try.prog W 0 (fun _ => true) true Try.f7.params.toList args.toList ds p := hA0
  rw [Try.params7] at hA hval
  obtain ⟨v0, vs0, d0, ds0, p0, q0, hargs, rfl, rfl, h0, r0⟩ := trodAll_cons hA
  obtain ⟨v1, vs1, d1, ds1, p1, q1, rfl, rfl, rfl, h1, r1⟩ := trodAll_cons r0
  obtain ⟨v2, vs2, d2, ds2, p2, q2, rfl, rfl, rfl, h2, r2⟩ := trodAll_cons r1
  obtain ⟨rfl, rfl, rfl⟩ := trodAll_nil r2
  obtain rfl : args = #[v0, v1, v2] := by cases args; simp_all
  obtain ⟨rfl, rfl⟩ := trodVars_none hV
  obtain ⟨a0, len0, cap0, rfl⟩ := okWide_slice Try.underlying22 (hval 0 22 v0 rfl rfl)
  have k0 := h0
  have lt0 : ∀ x ∈ p0, x.block < W.heap.size := by obtain ⟨m, hm⟩ := k0; exact DataW.trod_lt m _ _ _ hm
  obtain ⟨z0, w0⟩ : ∃ zs, IsRow .i64 W a0 len0 cap0 zs := by
    obtain ⟨fuel, hf⟩ := h0
    rcases open_ints Try.underlying22 Try.underlying3 (by kernel_rfl) hf with ⟨hcs, _⟩ | ⟨x, l, c, zs, hcs, _, hl, hm, hz, _, hcell, hwz⟩
    · simp [Value.cells] at hcs
      obtain ⟨rfl, rfl, rfl⟩ := hcs
      exact ⟨[], .inl ⟨rfl, rfl, rfl, rfl⟩⟩
    · simp [Value.cells] at hcs
      obtain ⟨rfl, rfl, rfl⟩ := hcs
      exact ⟨zs, .inr ⟨_, rfl, hl, hm, by simpa using hz, hcell, hwz⟩⟩
  obtain ⟨a1, rfl, rfl, rfl, w1⟩ := open_int Try.underlying3 (hval 1 3 v1 rfl rfl) h1
  obtain ⟨a2, rfl, rfl, rfl, w2⟩ := open_int Try.underlying5 (hval 2 5 v2 rfl rfl) h2
  clear hA0 hval0
  refine (walk a0 len0 cap0 z0 a1 a2 W w0 w1 w2).mono fun e W' ⟨he, bel⟩ => ?_
  subst he
  exact ⟨_, rfl, _, _, _, [], _, [], hW', trodAll_mk1 (shut_bool Try.underlying4 _), (trodAll_cons_mk (Below.trod laidOut (by kernel_rfl) (of_decide_eq_true (by kernel_rfl)) k0 bel lt0) (trodAll_cons_mk (shut_int Try.underlying3 w1) (trodAll_cons_mk (shut_int Try.underlying5 w2) trodAll_mk0))), rfl, bel.frame _, fun h => by cases h⟩
theorem over : Rows.heapPeeksRow.holds Try.pinned (OpenSpec.ofChange Rows.heapPeeksSpec) :=
  OpenClaim.holds_of_wide 7 Try.f7 rfl rfl rfl rfl rfl rfl rfl ⟨rfl, rfl, rfl, rfl, rfl⟩ rfl rfl rfl rfl rfl (by kernel_rfl) Try.func7 (by kernel_rfl)
    (of_decide_eq_true (by kernel_rfl)) (by unfold Func.isWrapper; first | (rw [if_pos (by decide +kernel)]; kernel_rfl) | (rw [if_neg (by decide +kernel)]; exact ⟨rfl, rfl⟩))
    (fun os started H enc _ => lifted os started H enc)
/-- the statement -/
theorem proved : Rows.HeapPeeksSaid := over
#print axioms proved
end heapPeeks
end Go.Proofs.Ytefdohjcgolhjaa
