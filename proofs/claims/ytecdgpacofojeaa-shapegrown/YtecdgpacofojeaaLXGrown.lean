/-
  ShapeGrown holds for every input: each tree that is grown is a tree of its ids, none deeper than told, of twice as many nodes as leaves, less one. No condition.
-/
import Derived.Test.YtecdgpacofojeaaXAwk
import Derived.Test.YtecdgpacofojeaaXGrn
import Derived.Test.YtecdgpacofojeaaWArg
import Derived.Test.YtecdgpacofojeaaDRef
import Derived.ProofKit
import Derived.Lib.SmallJoins
import Derived.OpenShut
import Derived.ShutString
import Derived.ChangeOld
import Derived.WalkSmall
import Derived.Deep.RegionHeld3
namespace Go.Proofs.Ytecdgpacofojeaa.shapeGrown
open Go.ChangeShapes Go.WideShapes Go.ChangeAt Go.RowKit Go.Joins
open Go.ChangeMaps (open_string shut_string)
set_option linter.unusedVariables false

theorem u64_in {n : Int} (h : (Lit.int .u64 n).wf = true) : 0 ≤ n ∧ n < 18446744073709551616 := by have := bounds_u64 h; omega
theorem all_of {d : Int} {L : List (List Int)} (h : Dm.chks d L = 0) : Zm.All L d.toNat := by
  obtain ⟨d0, d1, hok⟩ := Dm.chks_zero h
  intro l hl
  have := Vm.chk_ok (hok l hl)
  exact ⟨by omega, this.2.2.2⟩
set_option maxHeartbeats 3200000 in
set_option maxRecDepth 100000 in
theorem walk (dim : Int) (a1 : Option Addr) (len1 cap1 : Nat) (L : List (List Int)) (tr lf dp : Int) (sc : Bool) (sd : Int) (pA : Option Addr) (pn pc : Nat) (st : Int) (w : World)
    (w0 : (Lit.int .i64 dim).wf = true) (w1 : Lv w a1 len1 cap1 L) (w2 : True) (w3 : (Lit.int .u64 st).wf = true) :
    Calls Try.prog 5 #[.int .i64 dim, .slice a1 len1 cap1, .agg #[.int .i64 tr, .int .i64 lf, .int .i64 dp, .bool sc, .int .u64 sd, .slice pA pn pc], .int .u64 st] w fun e w' => e = .returned (.bool true) ∧ Below w.heap.size w w' := by
  obtain ⟨E0, hE0⟩ : ∃ E, E = w.alloc (.cells #[.int .i64 tr, .int .i64 lf, .int .i64 dp, .bool sc, .int .u64 sd, .slice pA pn pc] 54) := ⟨_, rfl⟩
  have b0 : Below w.heap.size w E0 := by rw [hE0]; exact (Below.refl _ w).alloc (Nat.le_refl _) _
  have s0 : w.heap.size < E0.heap.size := by rw [hE0]; simp
  have HP0 : Hid (Prx E0 w.heap.size tr lf dp sc sd pA pn pc) := by rw [hE0]; exact Prx.new w _ _ _ _ _ _ _ _
  have HE0 := Lib.hid hE0
  have HL := Lib.hid w1
  have BE0 := Lib.hid b0
  have HLN := Lib.hid w1.len
  have HST := Lib.hid (u64_in w3)
  clear w0 w1 w2 w3 hE0 b0
  go_enter Try.func5, Try.ntmps5
  go_wp2_with fail
  rw [← HE0.out]
  clear HE0
  refine (awakeX _).mono ?_
  rintro e w1 ⟨rfl, hb1⟩
  have B1 := Lib.hid (BE0.out.trans (hb1.mono BE0.out.size))
  have P1 := Lib.hid (HP0.out.below hb1)
  clear hb1 HP0
  go_wp2_with fail
  refine (fewD (HL.out.below B1.out)).mono ?_
  rintro e _ (⟨rfl, rfl⟩ | ⟨rfl, hn, rfl⟩)
  · go_wp2
    go_ret
    exact ⟨rfl, B1.out⟩
  by_cases hl0 : len1 = 0
  · subst hl0
    go_wp2
    go_ret
    exact ⟨rfl, B1.out⟩
  have hl1 : ((len1 : Int) == 0) = false := by simp; omega
  have FD0 := refCheckD (HL.out.below B1.out) (by unfold maxLen; omega) dim
  obtain ⟨cd, hcd⟩ : ∃ cd, cd = Dm.chks dim L := ⟨_, rfl⟩
  rw [← hcd] at FD0
  have FD := Lib.hid FD0
  have HCD := Lib.hid hcd
  clear hcd FD0
  by_cases g1 : cd = 0
  case neg =>
    have e1 : (cd != 0) = true := by simpa using g1
    go_wp2_with fail
    refine FD.out.mono ?_
    rintro e _ ⟨rfl, rfl⟩
    go_wp2
    go_ret
    exact ⟨rfl, B1.out⟩
  obtain ⟨ck, hck⟩ : ∃ ck, ck = Wm.chk tr lf dp := ⟨_, rfl⟩
  have FK0 := fun V => refChk13 (w := V) (tr := tr) (lf := lf) (dp := dp) (sc := sc) (sd := sd) (pA := pA) (pn := pn) (pc := pc)
  rw [← hck] at FK0
  have FK := Lib.hid FK0
  have HCK := Lib.hid hck
  clear hck FK0
  have q0 := P1.out.c0
  have q1 := P1.out.c1
  have q2 := P1.out.c2
  have q3 := P1.out.c3
  have q4 := P1.out.c4
  have q5 := P1.out.c5
  have HD0 := Lib.hid (show Dm.chks dim L = 0 from by rw [← HCD.out]; exact g1)
  subst g1
  by_cases g2 : ck = 0
  case neg =>
    have e1 : (ck != 0) = true := by simpa using g2
    go_wp2_with fail
    refine FD.out.mono ?_
    rintro e _ ⟨rfl, rfl⟩
    go_wp2_with fail
    refine (FK.out _).mono ?_
    rintro e w2 ⟨rfl, hb2⟩
    have B2 := Lib.hid (B1.out.trans (hb2.mono B1.out.size))
    clear hb2
    go_wp2
    go_ret
    exact ⟨rfl, B2.out⟩
  have hck := Wm.chk_ok (show Wm.chk tr lf dp = 0 from by rw [← HCK.out]; exact g2)
  subst g2
  go_wp2_with fail
  refine FD.out.mono ?_
  rintro e _ ⟨rfl, rfl⟩
  go_wp2_with fail
  refine (FK.out _).mono ?_
  rintro e w2 ⟨rfl, hb2⟩
  have B2 := Lib.hid (B1.out.trans (hb2.mono B1.out.size))
  have P2 := Lib.hid (P1.out.below hb2)
  clear hb2 FK FD q0 q1 q2 q3 q4 q5
  obtain ⟨d0, d1, hok⟩ := Dm.chks_zero HD0.out
  obtain ⟨lim, hlim⟩ : ∃ lim : Nat, lf = (lim : Int) := ⟨lf.toNat, by omega⟩
  obtain ⟨dn, hdn⟩ : ∃ dn : Nat, dp = (dn : Int) := ⟨dp.toNat, by omega⟩
  obtain ⟨dd, hdd⟩ : ∃ dd : Nat, dim = (dd : Int) := ⟨dim.toNat, by omega⟩
  subst hlim
  subst hdn
  subst hdd
  have hall := all_of HD0.out
  rw [Int.toNat_natCast] at hall
  have hlens : ∀ l ∈ L, l.length ≤ 10000 := fun l hl => by have := hall l hl; omega
  obtain ⟨G, hG⟩ : ∃ G, G = (Wm.grow L dd lim dn (Wm.upto len1) 0 (Rm.mixAt st)).1 := ⟨_, rfl⟩
  obtain ⟨v, hv, hmost, htw, hchk, htot, hgl, hgi⟩ := Xm.grown (by omega) (by omega) (by omega) hall HLN.out (by omega) (by omega) (by omega) hG
  obtain ⟨T, hT⟩ : ∃ T, T = G.map Xm.conv := ⟨_, rfl⟩
  have hTl : T.length = G.length := by rw [hT, List.length_map]
  rw [← hT] at hv htw hchk htot
  have sw : w.heap.size < w2.heap.size := P2.out.lt
  have FG0 : ∀ X, Below w.heap.size w X → Calls Try.prog 22 #[.slice a1 len1 cap1, .int .i64 (dd : Int), .agg #[.int .i64 tr, .int .i64 (lim : Int), .int .i64 (dn : Int), .bool sc, .int .u64 sd, .slice pA pn pc], .pointer (some ⟨X.heap.size, 0, none⟩)]
      (X.alloc (.cells #[.bool true, .int .u64 st, .slice none 0 0, .int .i64 0] 61)) fun e w' => ∃ A' c', e = .returned (.slice A' G.length c') ∧ Xds w' A' G.length c' T ∧ Below X.heap.size X w' := by
    intro X hX
    have hbx : Below X.heap.size X (X.alloc (.cells #[.bool true, .int .u64 st, .slice none 0 0, .int .i64 0] 61)) := (Below.refl _ _).alloc (Nat.le_refl _) _
    have hrf : Rfs (X.alloc (.cells #[.bool true, .int .u64 st, .slice none 0 0, .int .i64 0] 61)) w.heap.size X.heap.size (Rm.mixAt st) 0 :=
      ⟨true, st, none, 0, 0, [], HST.out.1, HST.out.2, by simp, hX.size, heap_alloc_new X _, Lst.nil _ _ _, by omega, rfl⟩
    refine (refTree (tr := tr) (sd := sd) (sc := sc) (pA := pA) (pn := pn) (pc := pc) (dd := dd) (lim := lim) (dp := dn) (by omega) (by omega) hlens (by omega) (by omega) (by omega) (by simp) hrf (by omega) w HL.out (hX.trans (hbx.mono hX.size)) hX.size).mono ?_
    rintro e w' ⟨A', c', he, h1, -, h3⟩
    rw [← hG] at he h1
    refine ⟨A', c', he, ?_, hbx.trans (h3.old (by simp) (Nat.le_refl _))⟩
    rw [hT]
    exact h1.xds hgi
  obtain ⟨gn, hgn⟩ : ∃ gn, gn = G.length := ⟨_, rfl⟩
  rw [← hgn] at FG0 htw hgl hTl
  obtain ⟨lv, hlv⟩ : ∃ lv, lv = Xm.leaves T := ⟨_, rfl⟩
  rw [← hlv] at htw
  obtain ⟨mo, hmo⟩ : ∃ mo, mo = Xm.most v := ⟨_, rfl⟩
  rw [← hmo] at hmost
  have HLV := Lib.hid hlv
  have HMO := Lib.hid hmo
  have HCH := Lib.hid hchk
  have HIS := Lib.hid hv
  have HTT := Lib.hid (show Xm.tot T ≤ 1000000 from htot)
  have FG := Lib.hid FG0
  have HTL := Lib.hid hTl
  have q0 := P2.out.c0
  have q1 := P2.out.c1
  have q2 := P2.out.c2
  have q3 := P2.out.c3
  have q4 := P2.out.c4
  have q5 := P2.out.c5
  have hmo2 : (mo : Int) ≤ (dn : Int) := by omega
  clear FG0 hG hT hall hlens hgi hgn hlv hmo hchk hv htot hTl hok
  go_wp2_with fail
  refine (FG.out w2 B2.out).mono ?_
  rintro e w3 ⟨A3, c3, rfl, hx3, hb3⟩
  have B3 := Lib.hid (B2.out.trans (hb3.mono B2.out.size))
  have P3 := Lib.hid (P2.out.below hb3)
  have X3 := Lib.hid hx3
  clear hb3 hx3 q0 q1 q2 q3 q4 q5
  have FC0 := countX X3.out (by omega)
  rw [← HLV.out] at FC0
  have FC := Lib.hid FC0
  clear FC0
  go_wp2_with fail
  refine FC.out.mono ?_
  rintro e w4 ⟨rfl, hb4⟩
  have B4 := Lib.hid (B3.out.trans (hb4.mono B3.out.size))
  have P4 := Lib.hid (P3.out.below hb4)
  have X4 := Lib.hid (X3.out.below hb4)
  clear hb4 FC
  have CP : Hid (∀ V, Below w4.heap.size w4 V → V.cell? ⟨w.heap.size, 0, none⟩ = some (.int .i64 tr) ∧ V.cell? ⟨w.heap.size, 1, none⟩ = some (.int .i64 (lim : Int)) ∧ V.cell? ⟨w.heap.size, 2, none⟩ = some (.int .i64 (dn : Int)) ∧
      V.cell? ⟨w.heap.size, 3, none⟩ = some (.bool sc) ∧ V.cell? ⟨w.heap.size, 4, none⟩ = some (.int .u64 sd) ∧ V.cell? ⟨w.heap.size, 5, none⟩ = some (.slice pA pn pc)) := Lib.hid fun V hV => by
    have h := P4.out.below hV
    exact ⟨h.c0, h.c1, h.c2, h.c3, h.c4, h.c5⟩
  have FK : Hid (∀ V, Below w4.heap.size w4 V → Calls Try.prog 10 #[.slice A3 gn c3, .int .i64 (len1 : Int), .int .i64 (dd : Int)] V fun e w' => e = .returned (.int .i64 0) ∧ Below w4.heap.size w4 w') := Lib.hid fun V hV => by
    have h := checkX (X4.out.below hV) (by omega) HTT.out (len1 : Int) (dd : Int)
    rw [HCH.out] at h
    exact h.mono fun _ w' ⟨h1, h2⟩ => ⟨h1, hV.trans (h2.mono hV.size)⟩
  have FDp : Hid (∀ V, Below w4.heap.size w4 V → Calls Try.prog 18 #[.slice A3 gn c3] V fun e w' => e = .returned (.int .i64 (mo : Int)) ∧ Below w4.heap.size w4 w') := Lib.hid fun V hV => by
    have h := depthX (X4.out.below hV) (by omega) HIS.out
    rw [← HMO.out] at h
    exact h.mono fun _ w' ⟨h1, h2⟩ => ⟨h1, hV.trans (h2.mono hV.size)⟩
  have FT : Hid (∀ X, Below w4.heap.size w4 X → Calls Try.prog 22 #[.slice a1 len1 cap1, .int .i64 (dd : Int), .agg #[.int .i64 tr, .int .i64 (lim : Int), .int .i64 (dn : Int), .bool sc, .int .u64 sd, .slice pA pn pc], .pointer (some ⟨X.heap.size, 0, none⟩)]
      (X.alloc (.cells #[.bool true, .int .u64 st, .slice none 0 0, .int .i64 0] 61)) fun e w' => ∃ A' c', e = .returned (.slice A' gn c') ∧ Xds w' A' gn c' T ∧ Below w4.heap.size w4 w') := Lib.hid fun X hX => by
    exact (FG.out X (B4.out.trans (hX.mono B4.out.size))).mono fun _ w' ⟨A', c', h1, h2, h3⟩ => ⟨A', c', h1, h2, hX.trans (h3.mono hX.size)⟩
  have FS : Hid (∀ V A' c', Below w4.heap.size w4 V → Xds V A' gn c' T → Calls Try.prog 23 #[.slice A3 gn c3, .slice A' gn c'] V fun e w' => e = .returned (.bool true) ∧ Below w4.heap.size w4 w') := Lib.hid fun V A' c' hV hx => by
    have h := sameX (X4.out.below hV) hx (by omega) (by omega) HTT.out HTT.out
    rw [Xm.eqT_true rfl] at h
    exact h.mono fun _ w' ⟨h1, h2⟩ => ⟨h1, hV.trans (h2.mono hV.size)⟩
  have B44 := Lib.hid (Below.refl w4.heap.size w4)
  have e2 : ((gn : Int) == 2 * (lv : Int) - 1) = true := by simp; omega
  have hw1 : IntKind.i64.wrap (2 * (lv : Int)) = 2 * (lv : Int) := IntWalk.i64_in _ ⟨by omega, by omega⟩
  have hw2 : IntKind.i64.wrap (2 * (lv : Int) - 1) = 2 * (lv : Int) - 1 := IntWalk.i64_in _ ⟨by omega, by omega⟩
  clear P2 P3 X3 B3 FG
  obtain ⟨q0, q1, q2, q3, q4, q5⟩ := CP.out w4 B44.out
  go_wp2_with fail
  have G0 := Lib.hid (Below.refl w4.heap.size w4).drew
  go_region_held3 (fun V => V.cell? ⟨w.heap.size, 0, none⟩ = some (.int .i64 tr) ∧ V.cell? ⟨w.heap.size, 1, none⟩ = some (.int .i64 (lim : Int)) ∧ V.cell? ⟨w.heap.size, 2, none⟩ = some (.int .i64 (dn : Int)) ∧ V.cell? ⟨w.heap.size, 3, none⟩ = some (.bool sc) ∧ V.cell? ⟨w.heap.size, 4, none⟩ = some (.int .u64 sd) ∧ V.cell? ⟨w.heap.size, 5, none⟩ = some (.slice pA pn pc)) (go_keep) (first
    | (go_at_call 10; (with_reducible refine (FK.out _ (by first | exact G0.out | exact B44.out)).mono ?_); rintro _ Y1 ⟨rfl, hb1⟩; have BY1 := Lib.hid hb1; obtain ⟨u0, u1, u2, u3, u4, u5⟩ := CP.out Y1 hb1; clear hb1)
    | (go_at_call 18; (with_reducible refine (FDp.out _ BY1.out).mono ?_); rintro _ Y2 ⟨rfl, hb2⟩; have BY2 := Lib.hid hb2; obtain ⟨v0, v1, v2, v3, v4, v5⟩ := CP.out Y2 hb2; clear hb2)
    | (go_at_call 22; (with_reducible refine (FT.out _ BY2.out).mono ?_); rintro _ Y3 ⟨A', c', rfl, hx, hb3⟩; have BY3 := Lib.hid hb3; have XY3 := Lib.hid hx; obtain ⟨x0, x1, x2, x3, x4, x5⟩ := CP.out Y3 hb3; clear hb3 hx)
    | (go_at_call 23; (with_reducible refine (FS.out _ _ _ BY3.out XY3.out).mono ?_); rintro _ Y4 ⟨rfl, hb4⟩; have BY4 := Lib.hid hb4; obtain ⟨y0, y1, y2, y3, y4, y5⟩ := CP.out Y4 hb4; clear hb4))
  all_goals
    have BF := Lib.hid (B4.out.trans (BY4.out.mono B4.out.size))
    go_wp2
    go_ret
    exact ⟨rfl, BF.out⟩
theorem own : ownKnob Try.prog.godebug = none := by kernel_rfl
theorem laidOut : laidOutB Try.prog = true := by kernel_rfl
set_option maxRecDepth 100000 in
theorem lifted (os : Os) (started : os.Started) (H : Type) (enc : TypeId × Value → H) :
    ReturnsInHanded {} Try.checked os 5 .any (Rows.shapeGrownSpec.pre6 enc Try.prog Try.f5 Rows.shapeGrownRow.domain false) (Rows.shapeGrownSpec.post enc Try.prog Try.f5 false true false false) := by
  refine returnsInHanded_of_change (C := Try.checked) own started (by kernel_rfl) Try.func5
    (ChangeSpec.witness6 (enc := enc) (C := Try.checked) false ⟨#[], #[.int .i64 0, .slice none 0 0, .agg #[.int .i64 0, .int .i64 0, .int .i64 0, .bool false, .int .u64 0, .slice none 0 0], .int .u64 0], []⟩ 8 (by kernel_rfl) (by kernel_rfl) (by kernel_rfl) (by kernel_rfl)) ?_
  intro W base args ds gs before hval0 hW hcnd _
  have hval : ∀ (j : Nat) t v, Try.f5.params[j]? = some t → args[j]? = some v → Value.okWide Try.prog W .any base t v := hval0
  have hW' := hW
  obtain ⟨p, q, hA0, hV, rfl, hfz, hnd⟩ := hW
  have hA : DataW.TrodAll enc Try.prog W 0 (fun _ => true) true Try.f5.params.toList args.toList ds p := hA0
  rw [Try.params5] at hA hval
  obtain ⟨v0, vs0, d0, ds0, p0, q0, hargs, rfl, rfl, h0, r0⟩ := trodAll_cons hA
  obtain ⟨v1, vs1, d1, ds1, p1, q1, rfl, rfl, rfl, h1, r1⟩ := trodAll_cons r0
  obtain ⟨v2, vs2, d2, ds2, p2, q2, rfl, rfl, rfl, h2, r2⟩ := trodAll_cons r1
  obtain ⟨v3, vs3, d3, ds3, p3, q3, rfl, rfl, rfl, h3, r3⟩ := trodAll_cons r2
  obtain ⟨rfl, rfl, rfl⟩ := trodAll_nil r3
  obtain rfl : args = #[v0, v1, v2, v3] := by cases args; simp_all
  obtain ⟨rfl, rfl⟩ := trodVars_none hV
  obtain ⟨a0, rfl, rfl, rfl, w0⟩ := open_int Try.underlying3 (hval 0 3 v0 rfl rfl) h0
  obtain ⟨a1, len1, cap1, rfl⟩ := okWide_slice Try.underlying48 (hval 1 48 v1 rfl rfl)
  have k1 := h1
  have lt1 : ∀ x ∈ p1, x.block < W.heap.size := by obtain ⟨m, hm⟩ := k1; exact DataW.trod_lt m _ _ _ hm
  obtain ⟨z1, w1⟩ : ∃ L, Lv W a1 len1 cap1 L := by
    obtain ⟨fuel, hf⟩ := h1
    rcases Go.Deep.open_int_rows Try.underlying48 Try.underlying64 Try.underlying21 (by kernel_rfl) (by kernel_rfl) hf with ⟨hcs, _⟩ | ⟨x, l, c, _, _, _, _, hcs, _, hl, _, _, hx⟩
    · simp [Value.cells] at hcs
      obtain ⟨rfl, rfl, rfl⟩ := hcs
      exact ⟨[], Lv.nil_ _⟩
    · simp [Value.cells] at hcs
      obtain ⟨rfl, rfl, rfl⟩ := hcs
      exact ⟨_, Lv.of_rows hl hx⟩
  have k2 := h2
  have lt2 : ∀ x ∈ p2, x.block < W.heap.size := by obtain ⟨m, hm⟩ := k2; exact DataW.trod_lt m _ _ _ hm
  obtain ⟨tr2, lf2, dp2, sc2, sd2, a2, len2, cap2, g2⟩ := params_open (hval 2 54 v2 rfl rfl) h2
  subst g2
  have w2 := trivial
  obtain ⟨a3, rfl, rfl, rfl, w3⟩ := open_int Try.underlying49 (hval 3 49 v3 rfl rfl) h3
  clear hA0 hval0
  refine (walk a0 a1 len1 cap1 z1 tr2 lf2 dp2 sc2 sd2 a2 len2 cap2 a3 W w0 w1 w2 w3).mono fun e W' ⟨he, bel⟩ => ?_
  subst he
  exact ⟨_, rfl, _, _, _, [], _, [], hW', trodAll_mk1 (shut_bool Try.underlying4 _), (trodAll_cons_mk (shut_int Try.underlying3 w0) (trodAll_cons_mk (Below.trod laidOut (by kernel_rfl) (of_decide_eq_true (by kernel_rfl)) k1 bel lt1) (trodAll_cons_mk (Below.trod laidOut (by kernel_rfl) (of_decide_eq_true (by kernel_rfl)) k2 bel lt2) (trodAll_cons_mk (shut_int Try.underlying49 w3) trodAll_mk0)))), rfl, bel.frame _, fun h => by cases h⟩
theorem over : Rows.shapeGrownRow.holds Try.pinned (OpenSpec.ofChange Rows.shapeGrownSpec) :=
  OpenClaim.holds_of_wide 5 Try.f5 rfl rfl rfl rfl rfl rfl rfl ⟨rfl, rfl, rfl, rfl, rfl⟩ rfl rfl rfl rfl rfl (by kernel_rfl) Try.func5 (by kernel_rfl)
    (of_decide_eq_true (by kernel_rfl)) (by unfold Func.isWrapper; first | (rw [if_pos (by decide +kernel)]; kernel_rfl) | (rw [if_neg (by decide +kernel)]; exact ⟨rfl, rfl⟩))
    (fun os started H enc _ => lifted os started H enc)
/-- the statement -/
theorem proved : Rows.ShapeGrownSaid := over
#print axioms proved
end Go.Proofs.Ytecdgpacofojeaa.shapeGrown
