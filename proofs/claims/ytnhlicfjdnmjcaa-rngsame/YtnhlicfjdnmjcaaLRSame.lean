/-
  RngSame: two sources of one state, or one list, tell the same, also when one is counted; what is drawn of another one plays no part. No condition.
-/
import Derived.Test.YtnhlicfjdnmjcaaRArg
import Derived.Lib.SmallJoins
import Derived.Deep.RegionHeld3
import Derived.Deep.DeepCutAuto
import Derived.Deep.WholeRow
namespace Go.Proofs.Ytnhlicfjdnmjcaa
open Go.RowKit Go.Joins Go.ChangeShapes Go.WideShapes Go.Deep
namespace rngSame

/-- the three sources' blocks -/
structure Lay (B l1 h1 l2 h2 l3 h3 : Nat) : Prop where
  b : B ≤ l1
  a : l1 ≤ h1
  ab : h1 ≤ l2
  m : l2 ≤ h2
  bc : h2 ≤ l3
  c : l3 ≤ h3
/-- the plain source behind i draws, the counted one behind j, the third one behind k -/
structure Three (w wr : World) (T l1 h1 a l2 h2 b l3 h3 c : Nat) (F : Nat → Int) (i j k : Nat) : Prop where
  y : Lay w.heap.size l1 h1 l2 h2 l3 h3
  a : Src T wr l1 h1 a (Rm.dr F i) i
  b : Ctr wr l2 h2 b (Rm.dr F j) j
  c : Src T wr l3 h3 c (Rm.dr F k) k
  u : Below w.heap.size w wr
section
variable {w wr w' : World} {T l1 h1 a l2 h2 b l3 h3 c : Nat} {F : Nat → Int} {i j k n : Nat}
theorem Three.drew (h : Three w wr T l1 h1 a l2 h2 b l3 h3 c F i j k) : Three w wr.drew T l1 h1 a l2 h2 b l3 h3 c F i j k := ⟨h.y, h.a.drew, h.b.drew, h.c.drew, h.u.drew⟩
theorem Three.stepA (h : Three w wr T l1 h1 a l2 h2 b l3 h3 c F i j k) (hs : Src T w' l1 h1 a (Rm.dr (Rm.dr F i) n) (i + n)) (hb : Btw l1 h1 wr w') : Three w w' T l1 h1 a l2 h2 b l3 h3 c F (i + n) j k := by
  obtain ⟨y1, y2, y3, y4, y5, y6⟩ := h.y
  exact ⟨h.y, by rw [Rm.dr_dr] at hs; exact hs, h.b.other hb (by omega), h.c.other hb (by omega), h.u.trans (hb.old h.u.size y1)⟩
theorem Three.stepB (h : Three w wr T l1 h1 a l2 h2 b l3 h3 c F i j k) (hs : Ctr w' l2 h2 b (Rm.dr (Rm.dr F j) n) (j + n)) (hb : Btw l2 h2 wr w') : Three w w' T l1 h1 a l2 h2 b l3 h3 c F i (j + n) k := by
  obtain ⟨y1, y2, y3, y4, y5, y6⟩ := h.y
  exact ⟨h.y, h.a.other hb (by omega), by rw [Rm.dr_dr] at hs; exact hs, h.c.other hb (by omega), h.u.trans (hb.old h.u.size (by omega))⟩
theorem Three.stepC (h : Three w wr T l1 h1 a l2 h2 b l3 h3 c F i j k) (hs : Src T w' l3 h3 c (Rm.dr (Rm.dr F k) n) (k + n)) (hb : Btw l3 h3 wr w') : Three w w' T l1 h1 a l2 h2 b l3 h3 c F i j (k + n) := by
  obtain ⟨y1, y2, y3, y4, y5, y6⟩ := h.y
  exact ⟨h.y, h.a.other hb (by omega), h.b.other hb (by omega), by rw [Rm.dr_dr] at hs; exact hs, h.u.trans (hb.old h.u.size (by omega))⟩
end

set_option maxHeartbeats 1600000 in
set_option maxRecDepth 100000 in
theorem walk (mixed : Bool) (s : Int) (A : Option Addr) (len cap : Nat) (z : List Int) (n : Int) (A' : Option Addr) (len' cap' : Nat) (z' : List Int) (w : World) (ws : (Lit.int .u64 s).wf = true) (wl : IsRow .u64 w A len cap z) (wn : (Lit.int .u8 n).wf = true) (wa : IsRow .i64 w A' len' cap' z') :
    Calls Try.prog 7 #[.bool mixed, .int .u64 s, .slice A len cap, .int .u8 n, .slice A' len' cap'] w fun e w' => e = .returned (.bool true) ∧ Below w.heap.size w w' := by
  have G := Lib.hid (Arg.of_row ws wl)
  have bn := bounds_u8 wn
  obtain ⟨la, -, -, xa, -⟩ := wa.lst
  have LA := Lib.hid la
  have XA := Lib.hid xa
  clear ws wl wa la xa wn
  have q1 := iface_eql
  go_enter Try.func7, Try.ntmps7
  go_wp2_with fail
  refine (awake_any _).mono ?_
  rintro _ w1 ⟨rfl, b1⟩
  have B1 := Lib.hid b1
  clear b1
  by_cases hl : 200 < len
  · go_wp2
    go_ret
    exact ⟨rfl, B1.out⟩
  by_cases hl' : 100 < len'
  · go_wp2
    go_ret
    exact ⟨rfl, B1.out⟩
  obtain ⟨F, hF⟩ : ∃ F, F = ofF mixed s (z.take len) := ⟨_, rfl⟩
  obtain ⟨T, hT⟩ : ∃ T, T = ofT mixed := ⟨_, rfl⟩
  have HO : Hid (∀ W, Below w.heap.size w W → Calls Try.prog 10 #[.bool mixed, .int .u64 s, .slice A len cap] W fun e w' => ∃ b, e = .returned (.iface T (.pointer (some ⟨b, 0, none⟩))) ∧ Bas T w' W.heap.size w'.heap.size b F ∧ Below W.heap.size W w') := by
    intro W hW
    rw [hF, hT]
    exact (G.out.below hW).of_ mixed hW.size (by omega)
  clear G hF hT
  go_wp2_with fail
  refine (HO.out _ B1.out).mono ?_
  rintro _ w2 ⟨a, rfl, h2, b2⟩
  have B2 := Lib.hid (B1.out.trans (b2.mono B1.out.size))
  have H2 := Lib.hid h2
  have s1 := B1.out.size
  have s2 := b2.size
  clear h2 b2 B1
  go_wp2_with fail
  refine (HO.out _ B2.out).mono ?_
  rintro _ w3 ⟨b, rfl, h3, b3⟩
  have B3 := Lib.hid (B2.out.trans (b3.mono B2.out.size))
  have H23 := Lib.hid (H2.out.below b3)
  have HC := Lib.hid (count_new h3)
  have s3 := b3.size
  clear h3 b3 B2 H2
  go_wp2_with fail
  refine HC.out.mono ?_
  rintro _ w4 ⟨q, rfl, h4, b4⟩
  have B4 := Lib.hid (B3.out.trans (b4.mono B3.out.size))
  have H24 := Lib.hid (H23.out.below b4)
  have H4 := Lib.hid h4
  have s4 := b4.size
  clear h4 b4 B3 H23 HC
  go_wp2_with fail
  refine (HO.out _ B4.out).mono ?_
  rintro _ w5 ⟨c, rfl, h5, b5⟩
  have s5 := b5.size
  have A0 : Hid (Three w w5 T w1.heap.size w2.heap.size a w2.heap.size w4.heap.size q w4.heap.size w5.heap.size c F 0 0 0) :=
    ⟨⟨by omega, by omega, by omega, by omega, by omega, by omega⟩, .inl (H24.out.below b5), H4.out.below b5, .inl h5, B4.out.trans (b5.mono B4.out.size)⟩
  obtain ⟨m1, m2, m3⟩ := h5.meth
  clear h5 b5 B4 H24 H4 HO
  obtain ⟨n, rfl⟩ : ∃ m : Nat, n = m := ⟨n.toNat, by omega⟩
  go_wp2
  go_loopw [14] (fun I wr => ∃ k : Nat, I = .int .i64 (k : Int) ∧ k ≤ n ∧ Three w wr T w1.heap.size w2.heap.size a w2.heap.size w4.heap.size q w4.heap.size w5.heap.size c F 0 0 k) (fun i _ => n - (intOf i).toNat)
  case atStart => exact ⟨0, rfl, by omega, A0.out⟩
  case round =>
    clear A0
    obtain ⟨k, rfl, hk, hA⟩ := hrel
    have HA := Lib.hid hA
    clear hA
    by_cases hlt : k < n
    · have K := Lib.hid (src_draw HA.out.c (by omega))
      go_wp2_with fail
      refine K.out.mono ?_
      rintro _ U ⟨rfl, hc, hb⟩
      have HA2 := Lib.hid (HA.out.stepC hc hb)
      clear hc hb K HA
      go_wp2
      go_roundw
      case rel => exact ⟨k + 1, congrArg (Value.int .i64) (by omega), by omega, HA2.out⟩
      case measure => simp [intOf]; omega
    · go_wp2
      go_loopw [15] (fun I ws => ∃ i N : Nat, I = .int .i64 (i : Int) ∧ i ≤ len' ∧ N ≤ 3 * i ∧ Three w ws T w1.heap.size w2.heap.size a w2.heap.size w4.heap.size q w4.heap.size w5.heap.size c F N N k) (fun i _ => len' - (intOf i).toNat)
      case atStart => exact ⟨0, 0, rfl, by omega, by omega, HA.out⟩
      case round =>
        clear HA
        obtain ⟨i, N, rfl, hi, hN, hA⟩ := hrel
        have HA := Lib.hid hA
        clear hA
        by_cases hlt : i < len'
        · obtain ⟨ab, ao, rfl, hab, hcell⟩ := LA.out.at_ hlt
          have hzl : i < (z'.take len').length := by have := LA.out.1; simp at this; simp; omega
          obtain ⟨x, hx⟩ : ∃ x, x = (z'.take len')[i] := ⟨_, rfl⟩
          have bx : x ≤ 9223372036854775807 := by rw [hx]; exact (bounds_i64 (XA.out _ (List.getElem_mem _))).2
          have hc1 : w.cell? ⟨ab, ao + i, none⟩ = some (.int .i64 x) := by rw [hcell, List.getElem?_map, List.getElem?_eq_getElem hzl, hx]; rfl
          have HC1 := Lib.hid hc1
          have hc2 := (HA.out.u.cell (p := ⟨ab, ao + i, none⟩) hab).trans hc1
          clear hcell hzl hx hc1
          have np2 : Rm.np x ≤ 2 := by unfold Rm.np; split <;> omega
          have nb2 : Rm.nb x ≤ 1 := by unfold Rm.nb; split <;> omega
          obtain ⟨p, hp⟩ : ∃ p, p = Rm.fst (Rm.dr F N) x := ⟨_, rfl⟩
          obtain ⟨r, hr⟩ : ∃ r, r = Rm.snd (Rm.dr F N) x := ⟨_, rfl⟩
          have K1 := pair_any HA.out.a x (by omega) bx
          rw [← hp, ← hr] at K1
          have HK1 := Lib.hid K1
          clear K1
          go_wp2_with fail
          refine HK1.out.mono ?_
          rintro _ U1 ⟨rfl, hs1, hb1⟩
          have HA1 := Lib.hid (HA.out.stepA hs1 hb1)
          have K2 := pair_any HA1.out.b.src x (by omega) bx
          rw [← hp, ← hr] at K2
          have HK2 := Lib.hid K2
          have uc1 := (HA1.out.u.cell (p := ⟨ab, ao + i, none⟩) hab).trans HC1.out
          clear K2 HK1 hs1 hb1 hc2 HA hp hr
          go_wp2_with fail
          refine HK2.out.mono ?_
          rintro _ U2 ⟨rfl, hs2, hb2⟩
          have HA2 := Lib.hid (HA1.out.stepB hs2.ctr hb2)
          have uc2 := (HA2.out.u.cell (p := ⟨ab, ao + i, none⟩) hab).trans HC1.out
          clear HK2 hs2 hb2 uc1 HA1
          have K3 := Lib.hid (below_any HA2.out.drew.a x (by omega) bx)
          go_wp2
          go_region_held3 (fun w' => w'.cell? ⟨ab, ao + i, none⟩ = some (.int .i64 x)) (go_keep) (first
            | (go_at_call 11; (with_reducible refine K3.out.mono ?_); rintro _ U3 ⟨rfl, hs3, hb3⟩; have HA3 := Lib.hid (HA2.out.drew.stepA hs3 hb3); have uc3 := (HA3.out.u.cell (p := ⟨ab, ao + i, none⟩) hab).trans HC1.out; clear hs3 hb3)
            | (go_at_call 11; (with_reducible refine (below_any HA3.out.b.src x (by omega) bx).mono ?_); rintro _ U4 ⟨rfl, hs4, hb4⟩; have HA4 := Lib.hid (HA3.out.stepB hs4.ctr hb4); have uc4 := (HA4.out.u.cell (p := ⟨ab, ao + i, none⟩) hab).trans HC1.out; clear hs4 hb4))
          clear HA2 HA3 K3 uc2 uc3 uc4 bx
          go_wp2
          go_roundw
          case rel => exact ⟨i + 1, N + Rm.np x + Rm.nb x, congrArg (Value.int .i64) (by omega), by omega, by omega, HA4.out⟩
          case measure => simp [intOf]; omega
        · have K1 := Lib.hid (src_draw HA.out.a (by omega))
          obtain ⟨p, hp⟩ : ∃ p, p = Rm.dr F N 0 := ⟨_, rfl⟩
          rw [← hp] at K1
          go_wp2_with fail
          refine K1.out.mono ?_
          rintro _ U1 ⟨rfl, hs1, hb1⟩
          have HA1 := Lib.hid (HA.out.stepA hs1 hb1)
          have K2 := ctr_draw HA1.out.b (by omega)
          rw [← hp] at K2
          have HK2 := Lib.hid K2
          clear K2 K1 hs1 hb1 HA hp
          go_wp2_with fail
          refine HK2.out.mono ?_
          rintro _ U2 ⟨rfl, hs2, hb2⟩
          have HA2 := Lib.hid (HA1.out.stepB hs2 hb2)
          clear HK2 hs2 hb2 HA1
          go_wp2
          go_ret
          exact ⟨rfl, HA2.out.u⟩

theorem own : ownKnob Try.prog.godebug = none := by kernel_rfl
theorem laidOut : laidOutB Try.prog = true := by kernel_rfl
set_option maxRecDepth 100000 in
theorem lifted (os : Os) (started : os.Started) (H : Type) (enc : TypeId × Value → H) :
    ReturnsInHanded {} Try.checked os 7 .any (Rows.rngSameSpec.pre6 enc Try.prog Try.f7 Rows.rngSameRow.domain false) (Rows.rngSameSpec.post enc Try.prog Try.f7 false true false false) := by
  refine returnsInHanded_of_change (C := Try.checked) own started (by kernel_rfl) Try.func7
    (ChangeSpec.witness6 (enc := enc) (C := Try.checked) false ⟨#[], #[.bool false, .int .u64 0, .slice none 0 0, .int .u8 0, .slice none 0 0], []⟩ 8 (by kernel_rfl) (by kernel_rfl) (by kernel_rfl) (by kernel_rfl)) ?_
  intro W base args ds gs before hval0 hW hcnd _
  have hval : ∀ (j : Nat) t v, Try.f7.params[j]? = some t → args[j]? = some v → Value.okWide Try.prog W .any base t v := hval0
  have hW' := hW
  obtain ⟨p, q, hA0, hV, rfl, hfz, hnd⟩ := hW
  have hA : DataW.TrodAll enc Try.prog W 0 (fun _ => true) true Try.f7.params.toList args.toList ds p := hA0
  rw [Try.params7] at hA hval
  obtain ⟨v0, vs0, d0, ds0, p0, q0, hargs, rfl, rfl, h0, r0⟩ := trodAll_cons hA
  obtain ⟨v1, vs1, d1, ds1, p1, q1, rfl, rfl, rfl, h1, r1⟩ := trodAll_cons r0
  obtain ⟨v2, vs2, d2, ds2, p2, q2, rfl, rfl, rfl, h2, r2⟩ := trodAll_cons r1
  obtain ⟨v3, vs3, d3, ds3, p3, q3, rfl, rfl, rfl, h3, r3⟩ := trodAll_cons r2
  obtain ⟨v4, vs4, d4, ds4, p4, q4, rfl, rfl, rfl, h4, r4⟩ := trodAll_cons r3
  obtain ⟨rfl, rfl, rfl⟩ := trodAll_nil r4
  obtain rfl : args = #[v0, v1, v2, v3, v4] := by cases args; simp_all
  obtain ⟨rfl, rfl⟩ := trodVars_none hV
  obtain ⟨a0, rfl, rfl, rfl⟩ := open_bool Try.underlying4 (hval 0 4 v0 rfl rfl) h0
  obtain ⟨a1, rfl, rfl, rfl, w1⟩ := open_int Try.underlying22 (hval 1 22 v1 rfl rfl) h1
  obtain ⟨a2, len2, cap2, rfl⟩ := okWide_slice Try.underlying23 (hval 2 23 v2 rfl rfl)
  have k2 := h2
  have lt2 : ∀ x ∈ p2, x.block < W.heap.size := by obtain ⟨m, hm⟩ := k2; exact DataW.trod_lt m _ _ _ hm
  obtain ⟨z2, w2⟩ : ∃ zs, IsRow .u64 W a2 len2 cap2 zs := by
    obtain ⟨fuel, hf⟩ := h2
    rcases open_ints Try.underlying23 Try.underlying22 (by kernel_rfl) hf with ⟨hcs, _⟩ | ⟨x, l, c, zs, hcs, _, hl, hm, hz, _, hcell, hwz⟩
    · simp [Value.cells] at hcs
      obtain ⟨rfl, rfl, rfl⟩ := hcs
      exact ⟨[], .inl ⟨rfl, rfl, rfl, rfl⟩⟩
    · simp [Value.cells] at hcs
      obtain ⟨rfl, rfl, rfl⟩ := hcs
      exact ⟨zs, .inr ⟨_, rfl, hl, hm, by simpa using hz, hcell, hwz⟩⟩
  obtain ⟨a3, rfl, rfl, rfl, w3⟩ := open_int Try.underlying5 (hval 3 5 v3 rfl rfl) h3
  obtain ⟨a4, len4, cap4, rfl⟩ := okWide_slice Try.underlying24 (hval 4 24 v4 rfl rfl)
  have k4 := h4
  have lt4 : ∀ x ∈ p4, x.block < W.heap.size := by obtain ⟨m, hm⟩ := k4; exact DataW.trod_lt m _ _ _ hm
  obtain ⟨z4, w4⟩ : ∃ zs, IsRow .i64 W a4 len4 cap4 zs := by
    obtain ⟨fuel, hf⟩ := h4
    rcases open_ints Try.underlying24 Try.underlying3 (by kernel_rfl) hf with ⟨hcs, _⟩ | ⟨x, l, c, zs, hcs, _, hl, hm, hz, _, hcell, hwz⟩
    · simp [Value.cells] at hcs
      obtain ⟨rfl, rfl, rfl⟩ := hcs
      exact ⟨[], .inl ⟨rfl, rfl, rfl, rfl⟩⟩
    · simp [Value.cells] at hcs
      obtain ⟨rfl, rfl, rfl⟩ := hcs
      exact ⟨zs, .inr ⟨_, rfl, hl, hm, by simpa using hz, hcell, hwz⟩⟩
  clear hA0 hval0
  refine (walk a0 a1 a2 len2 cap2 z2 a3 a4 len4 cap4 z4 W w1 w2 w3 w4).mono fun e W' ⟨he, bel⟩ => ?_
  subst he
  exact ⟨_, rfl, _, _, _, [], _, [], hW', trodAll_mk1 (shut_bool Try.underlying4 _), (trodAll_cons_mk (shut_bool Try.underlying4 a0) (trodAll_cons_mk (shut_int Try.underlying22 w1) (trodAll_cons_mk (Below.trod laidOut (by kernel_rfl) (of_decide_eq_true (by kernel_rfl)) k2 bel lt2) (trodAll_cons_mk (shut_int Try.underlying5 w3) (trodAll_cons_mk (Below.trod laidOut (by kernel_rfl) (of_decide_eq_true (by kernel_rfl)) k4 bel lt4) trodAll_mk0))))), rfl, bel.frame _, fun h => by cases h⟩
theorem over : Rows.rngSameRow.holds Try.pinned (OpenSpec.ofChange Rows.rngSameSpec) :=
  OpenClaim.holds_of_wide 7 Try.f7 rfl rfl rfl rfl rfl rfl rfl ⟨rfl, rfl, rfl, rfl, rfl⟩ rfl rfl rfl rfl rfl (by kernel_rfl) Try.func7 (by kernel_rfl)
    (of_decide_eq_true (by kernel_rfl)) (by unfold Func.isWrapper; first | (rw [if_pos (by decide +kernel)]; kernel_rfl) | (rw [if_neg (by decide +kernel)]; exact ⟨rfl, rfl⟩))
    (fun os started H enc _ => lifted os started H enc)
/-- the statement -/
theorem proved : Rows.RngSameSaid := over
#print axioms proved
end rngSame
end Go.Proofs.Ytnhlicfjdnmjcaa
