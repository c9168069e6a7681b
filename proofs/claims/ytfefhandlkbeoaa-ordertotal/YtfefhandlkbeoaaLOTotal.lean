/-
  OrderTotal: of two results, or tasks, that aren't the same just one is first; of three it goes on. No condition.
-/
import Derived.Test.YtfefhandlkbeoaaOTot
import Derived.Test.YtfefhandlkbeoaaOArg
import Derived.Deep.RegionHeld3
import Derived.Deep.DeepCutAuto
import Derived.Deep.WholeRow
import Derived.BigRegion
namespace Go.Proofs.Ytfefhandlkbeoaa
open Go.RowKit Go.Joins Go.ChangeShapes Go.WideShapes Go.Deep
namespace orderTotal

set_option maxHeartbeats 3200000 in
theorem walk (a1 a2 b1 b2 c1 c2 : Int) (w : World) :
    Calls Try.prog 5 #[.agg #[.int .i64 a1, .int .i64 a2], .agg #[.int .i64 b1, .int .i64 b2], .agg #[.int .i64 c1, .int .i64 c2]] w fun e w' => e = .returned (.bool true) ∧ Below w.heap.size w w' := by
  obtain ⟨n, hn⟩ : ∃ n, Om.cmp Om.near (a1, a2) (b1, b2) = n := ⟨_, rfl⟩
  have hA := fun w => compareR a1 a2 b1 b2 w
  have hB := fun w => compareR b1 b2 a1 a2 w
  have hnn := Om.cmp_small (f := Om.near) (a1, a2) (b1, b2)
  have hE := Om.near_zero a1 a2 b1 b2
  rw [Om.cmp_back Om.near_ord (a1, a2), hn] at hB
  rw [hn] at hA hnn hE
  obtain ⟨n0, n1⟩ := hnn
  obtain ⟨E, hEE⟩ : ∃ E : Bool, decide (a1 = b1 ∧ a2 = b2) = E := ⟨_, rfl⟩
  rw [hEE] at hE
  have HA := Lib.hid hA
  have HB := Lib.hid hB
  have HE := Lib.hid hE
  have HEE := Lib.hid hEE
  have W0 : Hid (Below w.heap.size w (((w.alloc (.cells #[.int .i64 a1, .int .i64 a2] 23)).alloc (.cells #[.int .i64 b1, .int .i64 b2] 23)).alloc (.cells #[.int .i64 c1, .int .i64 c2] 23))) :=
    (below_two w _ _).alloc (by simp; omega) _
  have X0 := Lib.hid (((Box.new w a1 a2 23).alloc (.cells #[.int .i64 b1, .int .i64 b2] 23)).alloc (.cells #[.int .i64 c1, .int .i64 c2] 23))
  have Y0 : Hid (Box (((w.alloc (.cells #[.int .i64 a1, .int .i64 a2] 23)).alloc (.cells #[.int .i64 b1, .int .i64 b2] 23)).alloc (.cells #[.int .i64 c1, .int .i64 c2] 23)) (w.heap.size + 1) b1 b2) := by
    have := (Box.new (w.alloc (.cells #[.int .i64 a1, .int .i64 a2] 23)) b1 b2 23).alloc (.cells #[.int .i64 c1, .int .i64 c2] 23)
    rwa [show (w.alloc (.cells #[.int .i64 a1, .int .i64 a2] 23)).heap.size = w.heap.size + 1 from by simp] at this
  have Z0 : Hid (Box (((w.alloc (.cells #[.int .i64 a1, .int .i64 a2] 23)).alloc (.cells #[.int .i64 b1, .int .i64 b2] 23)).alloc (.cells #[.int .i64 c1, .int .i64 c2] 23)) (w.heap.size + 1 + 1) c1 c2) := by
    have := Box.new ((w.alloc (.cells #[.int .i64 a1, .int .i64 a2] 23)).alloc (.cells #[.int .i64 b1, .int .i64 b2] 23)) c1 c2 23
    rwa [show ((w.alloc (.cells #[.int .i64 a1, .int .i64 a2] 23)).alloc (.cells #[.int .i64 b1, .int .i64 b2] 23)).heap.size = w.heap.size + 1 + 1 from by simp] at this
  obtain ⟨kk, hk⟩ : ∃ kk, Om.cmp Om.ahead (a2, a1) (b2, b1) = kk := ⟨_, rfl⟩
  have tA := fun w => compareT a2 a1 b2 b1 w
  have tB := fun w => compareT b2 b1 a2 a1 w
  have hkk := Om.cmp_small (f := Om.ahead) (a2, a1) (b2, b1)
  have tE := Om.ahead_zero a2 a1 b2 b1
  rw [Om.cmp_back Om.ahead_ord (a2, a1), hk] at tB
  rw [hk] at tA hkk tE
  obtain ⟨kk0, kk1⟩ := hkk
  have tQ := fun W => eqlT a2 a1 b2 b1 W
  obtain ⟨F, hF⟩ : ∃ F : Bool, decide (a2 = b2 ∧ a1 = b1) = F := ⟨_, rfl⟩
  rw [hF] at tE tQ
  have tS := fun w => ahead_any a2 a1 a2 a1 w
  rw [Om.ahead_ord.irr] at tS
  have TA := Lib.hid tA
  have TB := Lib.hid tB
  have TE := Lib.hid tE
  have TQ := Lib.hid tQ
  have TS := Lib.hid tS
  have TG := Lib.hid (fun op x y W => guardT op x y a2 a1 b2 b1 W)
  clear tA tB tE tQ tS hk hF
  clear hn hA hB hE hEE
  go_enter Try.func5, Try.ntmps5
  go_wp2_with fail
  refine (awake_any _).mono ?_
  rintro _ w1 ⟨rfl, hb1⟩
  have B1 := Lib.hid (W0.out.trans (hb1.mono W0.out.size))
  have X1 := Lib.hid (X0.out.below hb1)
  have Y1 := Lib.hid (Y0.out.below hb1)
  have Z1 := Lib.hid (Z0.out.below hb1)
  clear hb1 W0 X0 Y0 Z0
  obtain ⟨x1, x2, x3⟩ := X1.out
  obtain ⟨y1, y2, y3⟩ := Y1.out
  go_wp2
  go_region_held3 (fun w' => w'.cell? ⟨w.heap.size, 0, none⟩ = some (.int .i64 a1) ∧ w'.cell? ⟨w.heap.size, 1, none⟩ = some (.int .i64 a2) ∧ w'.cell? ⟨w.heap.size + 1, 0, none⟩ = some (.int .i64 b1) ∧ w'.cell? ⟨w.heap.size + 1, 1, none⟩ = some (.int .i64 b2)) (go_keep)
    (first
      | (go_at_call 22; (with_reducible refine (HA.out _).mono ?_); rintro _ w2 ⟨rfl, hb2⟩; have B2 := Lib.hid (B1.out.drew.trans (hb2.mono B1.out.drew.size)); have X2 := Lib.hid (X1.out.drew.below hb2); have Y2 := Lib.hid (Y1.out.drew.below hb2); have Z2 := Lib.hid (Z1.out.drew.below hb2); obtain ⟨xa1, xa2, xa3⟩ := X2.out; obtain ⟨ya1, ya2, ya3⟩ := Y2.out; clear hb2)
      | (go_at_call 22; (with_reducible refine (HB.out _).mono ?_); rintro _ w3 ⟨rfl, hb3⟩; have B3 := Lib.hid (B2.out.trans (hb3.mono B2.out.size)); have X3 := Lib.hid (X2.out.below hb3); have Y3 := Lib.hid (Y2.out.below hb3); have Z3 := Lib.hid (Z2.out.below hb3); obtain ⟨xb1, xb2, xb3⟩ := X3.out; obtain ⟨yb1, yb2, yb3⟩ := Y3.out; clear hb3))
  clear xa1 xa2 xa3 ya1 ya2 ya3 X2 Y2 Z2 B2 x1 x2 x3 y1 y2 y3 X1 Y1 Z1 B1
  obtain ⟨zb1, zb2, zb3⟩ := Z3.out
  have hq := fun W => eqlR a1 a2 b1 b2 W
  rw [HEE.out] at hq
  have hg := fun op x y W => guardR op x y a1 a2 b1 b2 W
  have he := HE.out
  have hs := fun w => near_any a1 a2 a1 a2 w
  rw [Om.near_ord.irr] at hs
  have m1 : - -n = n := by omega
  go_wp2_with fail
  refine (hs _).mono ?_
  rintro _ w4 ⟨rfl, hb⟩
  have B4 := Lib.hid (B3.out.trans (hb.mono B3.out.size))
  have X4 := Lib.hid (X3.out.below hb)
  have Y4 := Lib.hid (Y3.out.below hb)
  have Z4 := Lib.hid (Z3.out.below hb)
  clear hb xb1 xb2 xb3 yb1 yb2 yb3 zb1 zb2 zb3 B3 X3 Y3 Z3 hq hg he hs m1 HA HB
  obtain ⟨xb1, xb2, xb3⟩ := X4.out
  obtain ⟨yb1, yb2, yb3⟩ := Y4.out
  obtain ⟨zb1, zb2, zb3⟩ := Z4.out
  have hP := fun w => near_any a1 a2 b1 b2 w
  cases hp : Om.near (a1, a2) (b1, b2) with
  | false =>
    rw [hp] at hP
    clear hp
    go_wp2_with fail
    refine (hP _).mono ?_
    rintro _ w5 ⟨rfl, hb⟩
    have B5 := Lib.hid (B4.out.trans (hb.mono B4.out.size))
    have X5 := Lib.hid (X4.out.below hb)
    have Y5 := Lib.hid (Y4.out.below hb)
    have Z5 := Lib.hid (Z4.out.below hb)
    clear hb xb1 xb2 xb3 yb1 yb2 yb3 zb1 zb2 zb3 B4 X4 Y4 Z4
    obtain ⟨xb1, xb2, xb3⟩ := X5.out
    obtain ⟨yb1, yb2, yb3⟩ := Y5.out
    obtain ⟨zb1, zb2, zb3⟩ := Z5.out
    go_wp2
    go_region_held3 (fun w' => w'.cell? ⟨w.heap.size, 0, none⟩ = some (.int .i64 a1) ∧ w'.cell? ⟨w.heap.size, 1, none⟩ = some (.int .i64 a2) ∧ w'.cell? ⟨w.heap.size + 1, 0, none⟩ = some (.int .i64 b1) ∧ w'.cell? ⟨w.heap.size + 1, 1, none⟩ = some (.int .i64 b2)) (go_keep) (fail)
    · obtain ⟨V, hV⟩ : ∃ V, V = ((w5.alloc (.cells #[.int .i64 a2, .int .i64 a1] 28)).alloc (.cells #[.int .i64 b2, .int .i64 b1] 28)).drew := ⟨_, rfl⟩
      rw [← hV]
      have BV : Hid (Below w.heap.size w V) := by rw [hV]; exact ((B5.out.alloc B5.out.size _).alloc (by have := B5.out.size; simp; omega) _).drew
      have XV : Hid (Box V w5.heap.size a2 a1) := by rw [hV]; exact ((Box.new w5 a2 a1 28).alloc (.cells #[.int .i64 b2, .int .i64 b1] 28)).drew
      have YV : Hid (Box V (w5.heap.size + 1) b2 b1) := by rw [hV]; exact boxNext w5 (.cells #[.int .i64 a2, .int .i64 a1] 28) b2 b1 28
      clear hV xb1 xb2 xb3 yb1 yb2 yb3 zb1 zb2 zb3 B5 X5 Y5 Z5
      obtain ⟨p1, p2, p3⟩ := XV.out
      obtain ⟨q1, q2, q3⟩ := YV.out
      go_wp2
      go_region_held3 (fun w' => w'.cell? ⟨w5.heap.size, 0, none⟩ = some (.int .i64 a2) ∧ w'.cell? ⟨w5.heap.size, 1, none⟩ = some (.int .i64 a1) ∧ w'.cell? ⟨(w5.heap.size + 1), 0, none⟩ = some (.int .i64 b2) ∧ w'.cell? ⟨(w5.heap.size + 1), 1, none⟩ = some (.int .i64 b1)) (go_keep) (first | (go_at_call 23; (with_reducible refine (TA.out _).mono ?_); rintro _ V2 ⟨rfl, hb2⟩; have BV2 := Lib.hid (BV.out.drew.trans (hb2.mono BV.out.drew.size)); have XV2 := Lib.hid (XV.out.drew.below hb2); have YV2 := Lib.hid (YV.out.drew.below hb2); obtain ⟨pa1, pa2, pa3⟩ := XV2.out; obtain ⟨qa1, qa2, qa3⟩ := YV2.out; clear hb2) | (go_at_call 23; (with_reducible refine (TB.out _).mono ?_); rintro _ V3 ⟨rfl, hb3⟩; have BV3 := Lib.hid (BV2.out.trans (hb3.mono BV2.out.size)); have XV3 := Lib.hid (XV2.out.below hb3); have YV3 := Lib.hid (YV2.out.below hb3); obtain ⟨pb1, pb2, pb3⟩ := XV3.out; obtain ⟨qb1, qb2, qb3⟩ := YV3.out; clear hb3))
      clear pa1 pa2 pa3 qa1 qa2 qa3 XV2 YV2 BV2 p1 p2 p3 q1 q2 q3 XV YV BV
      have hq := TQ.out
      have hg := TG.out
      have he := TE.out
      have hs := TS.out
      have m1 : - -kk = kk := by omega
      go_wp2_with fail
      refine (hs _).mono ?_
      rintro _ V4 ⟨rfl, hb4⟩
      have BV4 := Lib.hid (BV3.out.trans (hb4.mono BV3.out.size))
      clear hb4 BV3 hq hg he hs m1 pb1 pb2 pb3 qb1 qb2 qb3
      go_wp2
      go_ret
      exact ⟨rfl, BV4.out⟩
    · obtain ⟨V, hV⟩ : ∃ V, V = ((w5.alloc (.cells #[.int .i64 b2, .int .i64 b1] 28)).alloc (.cells #[.int .i64 a2, .int .i64 a1] 28)).drew := ⟨_, rfl⟩
      rw [← hV]
      have BV : Hid (Below w.heap.size w V) := by rw [hV]; exact ((B5.out.alloc B5.out.size _).alloc (by have := B5.out.size; simp; omega) _).drew
      have XV : Hid (Box V (w5.heap.size + 1) a2 a1) := by rw [hV]; exact boxNext w5 (.cells #[.int .i64 b2, .int .i64 b1] 28) a2 a1 28
      have YV : Hid (Box V w5.heap.size b2 b1) := by rw [hV]; exact ((Box.new w5 b2 b1 28).alloc (.cells #[.int .i64 a2, .int .i64 a1] 28)).drew
      clear hV xb1 xb2 xb3 yb1 yb2 yb3 zb1 zb2 zb3 B5 X5 Y5 Z5
      obtain ⟨p1, p2, p3⟩ := XV.out
      obtain ⟨q1, q2, q3⟩ := YV.out
      go_wp2
      go_region_held3 (fun w' => w'.cell? ⟨(w5.heap.size + 1), 0, none⟩ = some (.int .i64 a2) ∧ w'.cell? ⟨(w5.heap.size + 1), 1, none⟩ = some (.int .i64 a1) ∧ w'.cell? ⟨w5.heap.size, 0, none⟩ = some (.int .i64 b2) ∧ w'.cell? ⟨w5.heap.size, 1, none⟩ = some (.int .i64 b1)) (go_keep) (first | (go_at_call 23; (with_reducible refine (TA.out _).mono ?_); rintro _ V2 ⟨rfl, hb2⟩; have BV2 := Lib.hid (BV.out.drew.trans (hb2.mono BV.out.drew.size)); have XV2 := Lib.hid (XV.out.drew.below hb2); have YV2 := Lib.hid (YV.out.drew.below hb2); obtain ⟨pa1, pa2, pa3⟩ := XV2.out; obtain ⟨qa1, qa2, qa3⟩ := YV2.out; clear hb2) | (go_at_call 23; (with_reducible refine (TB.out _).mono ?_); rintro _ V3 ⟨rfl, hb3⟩; have BV3 := Lib.hid (BV2.out.trans (hb3.mono BV2.out.size)); have XV3 := Lib.hid (XV2.out.below hb3); have YV3 := Lib.hid (YV2.out.below hb3); obtain ⟨pb1, pb2, pb3⟩ := XV3.out; obtain ⟨qb1, qb2, qb3⟩ := YV3.out; clear hb3))
      clear pa1 pa2 pa3 qa1 qa2 qa3 XV2 YV2 BV2 p1 p2 p3 q1 q2 q3 XV YV BV
      have hq := TQ.out
      have hg := TG.out
      have he := TE.out
      have hs := TS.out
      have m1 : - -kk = kk := by omega
      go_wp2_with fail
      refine (hs _).mono ?_
      rintro _ V4 ⟨rfl, hb4⟩
      have BV4 := Lib.hid (BV3.out.trans (hb4.mono BV3.out.size))
      clear hb4 BV3 hq hg he hs m1 pb1 pb2 pb3 qb1 qb2 qb3
      go_wp2
      go_ret
      exact ⟨rfl, BV4.out⟩
  | true =>
    rw [hp] at hP
    have hQ := fun w => near_any b1 b2 c1 c2 w
    have hR := fun w => near_any a1 a2 c1 c2 w
    cases hr : Om.near (b1, b2) (c1, c2) with
    | false =>
      rw [hr] at hQ
      clear hp hr hR
      go_wp2_with fail
      refine (hP _).mono ?_
      rintro _ w5 ⟨rfl, hb⟩
      have B5 := Lib.hid (B4.out.trans (hb.mono B4.out.size))
      have X5 := Lib.hid (X4.out.below hb)
      have Y5 := Lib.hid (Y4.out.below hb)
      have Z5 := Lib.hid (Z4.out.below hb)
      clear hb xb1 xb2 xb3 yb1 yb2 yb3 zb1 zb2 zb3 B4 X4 Y4 Z4
      obtain ⟨xb1, xb2, xb3⟩ := X5.out
      obtain ⟨yb1, yb2, yb3⟩ := Y5.out
      obtain ⟨zb1, zb2, zb3⟩ := Z5.out
      go_wp2_with fail
      refine (hQ _).mono ?_
      rintro _ w6 ⟨rfl, hb⟩
      have B6 := Lib.hid (B5.out.trans (hb.mono B5.out.size))
      have X6 := Lib.hid (X5.out.below hb)
      have Y6 := Lib.hid (Y5.out.below hb)
      have Z6 := Lib.hid (Z5.out.below hb)
      clear hb xb1 xb2 xb3 yb1 yb2 yb3 zb1 zb2 zb3 B5 X5 Y5 Z5
      obtain ⟨xb1, xb2, xb3⟩ := X6.out
      obtain ⟨yb1, yb2, yb3⟩ := Y6.out
      obtain ⟨zb1, zb2, zb3⟩ := Z6.out
      go_wp2
      go_region_held3 (fun w' => w'.cell? ⟨w.heap.size, 0, none⟩ = some (.int .i64 a1) ∧ w'.cell? ⟨w.heap.size, 1, none⟩ = some (.int .i64 a2) ∧ w'.cell? ⟨w.heap.size + 1, 0, none⟩ = some (.int .i64 b1) ∧ w'.cell? ⟨w.heap.size + 1, 1, none⟩ = some (.int .i64 b2)) (go_keep) (fail)
      · obtain ⟨V, hV⟩ : ∃ V, V = ((w6.alloc (.cells #[.int .i64 a2, .int .i64 a1] 28)).alloc (.cells #[.int .i64 b2, .int .i64 b1] 28)).drew := ⟨_, rfl⟩
        rw [← hV]
        have BV : Hid (Below w.heap.size w V) := by rw [hV]; exact ((B6.out.alloc B6.out.size _).alloc (by have := B6.out.size; simp; omega) _).drew
        have XV : Hid (Box V w6.heap.size a2 a1) := by rw [hV]; exact ((Box.new w6 a2 a1 28).alloc (.cells #[.int .i64 b2, .int .i64 b1] 28)).drew
        have YV : Hid (Box V (w6.heap.size + 1) b2 b1) := by rw [hV]; exact boxNext w6 (.cells #[.int .i64 a2, .int .i64 a1] 28) b2 b1 28
        clear hV xb1 xb2 xb3 yb1 yb2 yb3 zb1 zb2 zb3 B6 X6 Y6 Z6
        obtain ⟨p1, p2, p3⟩ := XV.out
        obtain ⟨q1, q2, q3⟩ := YV.out
        go_wp2
        go_region_held3 (fun w' => w'.cell? ⟨w6.heap.size, 0, none⟩ = some (.int .i64 a2) ∧ w'.cell? ⟨w6.heap.size, 1, none⟩ = some (.int .i64 a1) ∧ w'.cell? ⟨(w6.heap.size + 1), 0, none⟩ = some (.int .i64 b2) ∧ w'.cell? ⟨(w6.heap.size + 1), 1, none⟩ = some (.int .i64 b1)) (go_keep) (first | (go_at_call 23; (with_reducible refine (TA.out _).mono ?_); rintro _ V2 ⟨rfl, hb2⟩; have BV2 := Lib.hid (BV.out.drew.trans (hb2.mono BV.out.drew.size)); have XV2 := Lib.hid (XV.out.drew.below hb2); have YV2 := Lib.hid (YV.out.drew.below hb2); obtain ⟨pa1, pa2, pa3⟩ := XV2.out; obtain ⟨qa1, qa2, qa3⟩ := YV2.out; clear hb2) | (go_at_call 23; (with_reducible refine (TB.out _).mono ?_); rintro _ V3 ⟨rfl, hb3⟩; have BV3 := Lib.hid (BV2.out.trans (hb3.mono BV2.out.size)); have XV3 := Lib.hid (XV2.out.below hb3); have YV3 := Lib.hid (YV2.out.below hb3); obtain ⟨pb1, pb2, pb3⟩ := XV3.out; obtain ⟨qb1, qb2, qb3⟩ := YV3.out; clear hb3))
        clear pa1 pa2 pa3 qa1 qa2 qa3 XV2 YV2 BV2 p1 p2 p3 q1 q2 q3 XV YV BV
        have hq := TQ.out
        have hg := TG.out
        have he := TE.out
        have hs := TS.out
        have m1 : - -kk = kk := by omega
        go_wp2_with fail
        refine (hs _).mono ?_
        rintro _ V4 ⟨rfl, hb4⟩
        have BV4 := Lib.hid (BV3.out.trans (hb4.mono BV3.out.size))
        clear hb4 BV3 hq hg he hs m1 pb1 pb2 pb3 qb1 qb2 qb3
        go_wp2
        go_ret
        exact ⟨rfl, BV4.out⟩
      · obtain ⟨V, hV⟩ : ∃ V, V = ((w6.alloc (.cells #[.int .i64 b2, .int .i64 b1] 28)).alloc (.cells #[.int .i64 a2, .int .i64 a1] 28)).drew := ⟨_, rfl⟩
        rw [← hV]
        have BV : Hid (Below w.heap.size w V) := by rw [hV]; exact ((B6.out.alloc B6.out.size _).alloc (by have := B6.out.size; simp; omega) _).drew
        have XV : Hid (Box V (w6.heap.size + 1) a2 a1) := by rw [hV]; exact boxNext w6 (.cells #[.int .i64 b2, .int .i64 b1] 28) a2 a1 28
        have YV : Hid (Box V w6.heap.size b2 b1) := by rw [hV]; exact ((Box.new w6 b2 b1 28).alloc (.cells #[.int .i64 a2, .int .i64 a1] 28)).drew
        clear hV xb1 xb2 xb3 yb1 yb2 yb3 zb1 zb2 zb3 B6 X6 Y6 Z6
        obtain ⟨p1, p2, p3⟩ := XV.out
        obtain ⟨q1, q2, q3⟩ := YV.out
        go_wp2
        go_region_held3 (fun w' => w'.cell? ⟨(w6.heap.size + 1), 0, none⟩ = some (.int .i64 a2) ∧ w'.cell? ⟨(w6.heap.size + 1), 1, none⟩ = some (.int .i64 a1) ∧ w'.cell? ⟨w6.heap.size, 0, none⟩ = some (.int .i64 b2) ∧ w'.cell? ⟨w6.heap.size, 1, none⟩ = some (.int .i64 b1)) (go_keep) (first | (go_at_call 23; (with_reducible refine (TA.out _).mono ?_); rintro _ V2 ⟨rfl, hb2⟩; have BV2 := Lib.hid (BV.out.drew.trans (hb2.mono BV.out.drew.size)); have XV2 := Lib.hid (XV.out.drew.below hb2); have YV2 := Lib.hid (YV.out.drew.below hb2); obtain ⟨pa1, pa2, pa3⟩ := XV2.out; obtain ⟨qa1, qa2, qa3⟩ := YV2.out; clear hb2) | (go_at_call 23; (with_reducible refine (TB.out _).mono ?_); rintro _ V3 ⟨rfl, hb3⟩; have BV3 := Lib.hid (BV2.out.trans (hb3.mono BV2.out.size)); have XV3 := Lib.hid (XV2.out.below hb3); have YV3 := Lib.hid (YV2.out.below hb3); obtain ⟨pb1, pb2, pb3⟩ := XV3.out; obtain ⟨qb1, qb2, qb3⟩ := YV3.out; clear hb3))
        clear pa1 pa2 pa3 qa1 qa2 qa3 XV2 YV2 BV2 p1 p2 p3 q1 q2 q3 XV YV BV
        have hq := TQ.out
        have hg := TG.out
        have he := TE.out
        have hs := TS.out
        have m1 : - -kk = kk := by omega
        go_wp2_with fail
        refine (hs _).mono ?_
        rintro _ V4 ⟨rfl, hb4⟩
        have BV4 := Lib.hid (BV3.out.trans (hb4.mono BV3.out.size))
        clear hb4 BV3 hq hg he hs m1 pb1 pb2 pb3 qb1 qb2 qb3
        go_wp2
        go_ret
        exact ⟨rfl, BV4.out⟩
    | true =>
      rw [hr] at hQ
      rw [Om.goes_on Om.near_ord hp hr] at hR
      clear hp hr
      go_wp2_with fail
      refine (hP _).mono ?_
      rintro _ w5 ⟨rfl, hb⟩
      have B5 := Lib.hid (B4.out.trans (hb.mono B4.out.size))
      have X5 := Lib.hid (X4.out.below hb)
      have Y5 := Lib.hid (Y4.out.below hb)
      have Z5 := Lib.hid (Z4.out.below hb)
      clear hb xb1 xb2 xb3 yb1 yb2 yb3 zb1 zb2 zb3 B4 X4 Y4 Z4
      obtain ⟨xb1, xb2, xb3⟩ := X5.out
      obtain ⟨yb1, yb2, yb3⟩ := Y5.out
      obtain ⟨zb1, zb2, zb3⟩ := Z5.out
      go_wp2_with fail
      refine (hQ _).mono ?_
      rintro _ w6 ⟨rfl, hb⟩
      have B6 := Lib.hid (B5.out.trans (hb.mono B5.out.size))
      have X6 := Lib.hid (X5.out.below hb)
      have Y6 := Lib.hid (Y5.out.below hb)
      have Z6 := Lib.hid (Z5.out.below hb)
      clear hb xb1 xb2 xb3 yb1 yb2 yb3 zb1 zb2 zb3 B5 X5 Y5 Z5
      obtain ⟨xb1, xb2, xb3⟩ := X6.out
      obtain ⟨yb1, yb2, yb3⟩ := Y6.out
      obtain ⟨zb1, zb2, zb3⟩ := Z6.out
      go_wp2_with fail
      refine (hR _).mono ?_
      rintro _ w7 ⟨rfl, hb⟩
      have B7 := Lib.hid (B6.out.trans (hb.mono B6.out.size))
      have X7 := Lib.hid (X6.out.below hb)
      have Y7 := Lib.hid (Y6.out.below hb)
      have Z7 := Lib.hid (Z6.out.below hb)
      clear hb xb1 xb2 xb3 yb1 yb2 yb3 zb1 zb2 zb3 B6 X6 Y6 Z6
      obtain ⟨xb1, xb2, xb3⟩ := X7.out
      obtain ⟨yb1, yb2, yb3⟩ := Y7.out
      obtain ⟨zb1, zb2, zb3⟩ := Z7.out
      go_wp2
      go_region_held3 (fun w' => w'.cell? ⟨w.heap.size, 0, none⟩ = some (.int .i64 a1) ∧ w'.cell? ⟨w.heap.size, 1, none⟩ = some (.int .i64 a2) ∧ w'.cell? ⟨w.heap.size + 1, 0, none⟩ = some (.int .i64 b1) ∧ w'.cell? ⟨w.heap.size + 1, 1, none⟩ = some (.int .i64 b2)) (go_keep) (fail)
      · obtain ⟨V, hV⟩ : ∃ V, V = ((w7.alloc (.cells #[.int .i64 a2, .int .i64 a1] 28)).alloc (.cells #[.int .i64 b2, .int .i64 b1] 28)).drew := ⟨_, rfl⟩
        rw [← hV]
        have BV : Hid (Below w.heap.size w V) := by rw [hV]; exact ((B7.out.alloc B7.out.size _).alloc (by have := B7.out.size; simp; omega) _).drew
        have XV : Hid (Box V w7.heap.size a2 a1) := by rw [hV]; exact ((Box.new w7 a2 a1 28).alloc (.cells #[.int .i64 b2, .int .i64 b1] 28)).drew
        have YV : Hid (Box V (w7.heap.size + 1) b2 b1) := by rw [hV]; exact boxNext w7 (.cells #[.int .i64 a2, .int .i64 a1] 28) b2 b1 28
        clear hV xb1 xb2 xb3 yb1 yb2 yb3 zb1 zb2 zb3 B7 X7 Y7 Z7
        obtain ⟨p1, p2, p3⟩ := XV.out
        obtain ⟨q1, q2, q3⟩ := YV.out
        go_wp2
        go_region_held3 (fun w' => w'.cell? ⟨w7.heap.size, 0, none⟩ = some (.int .i64 a2) ∧ w'.cell? ⟨w7.heap.size, 1, none⟩ = some (.int .i64 a1) ∧ w'.cell? ⟨(w7.heap.size + 1), 0, none⟩ = some (.int .i64 b2) ∧ w'.cell? ⟨(w7.heap.size + 1), 1, none⟩ = some (.int .i64 b1)) (go_keep) (first | (go_at_call 23; (with_reducible refine (TA.out _).mono ?_); rintro _ V2 ⟨rfl, hb2⟩; have BV2 := Lib.hid (BV.out.drew.trans (hb2.mono BV.out.drew.size)); have XV2 := Lib.hid (XV.out.drew.below hb2); have YV2 := Lib.hid (YV.out.drew.below hb2); obtain ⟨pa1, pa2, pa3⟩ := XV2.out; obtain ⟨qa1, qa2, qa3⟩ := YV2.out; clear hb2) | (go_at_call 23; (with_reducible refine (TB.out _).mono ?_); rintro _ V3 ⟨rfl, hb3⟩; have BV3 := Lib.hid (BV2.out.trans (hb3.mono BV2.out.size)); have XV3 := Lib.hid (XV2.out.below hb3); have YV3 := Lib.hid (YV2.out.below hb3); obtain ⟨pb1, pb2, pb3⟩ := XV3.out; obtain ⟨qb1, qb2, qb3⟩ := YV3.out; clear hb3))
        clear pa1 pa2 pa3 qa1 qa2 qa3 XV2 YV2 BV2 p1 p2 p3 q1 q2 q3 XV YV BV
        have hq := TQ.out
        have hg := TG.out
        have he := TE.out
        have hs := TS.out
        have m1 : - -kk = kk := by omega
        go_wp2_with fail
        refine (hs _).mono ?_
        rintro _ V4 ⟨rfl, hb4⟩
        have BV4 := Lib.hid (BV3.out.trans (hb4.mono BV3.out.size))
        clear hb4 BV3 hq hg he hs m1 pb1 pb2 pb3 qb1 qb2 qb3
        go_wp2
        go_ret
        exact ⟨rfl, BV4.out⟩
      · obtain ⟨V, hV⟩ : ∃ V, V = ((w7.alloc (.cells #[.int .i64 b2, .int .i64 b1] 28)).alloc (.cells #[.int .i64 a2, .int .i64 a1] 28)).drew := ⟨_, rfl⟩
        rw [← hV]
        have BV : Hid (Below w.heap.size w V) := by rw [hV]; exact ((B7.out.alloc B7.out.size _).alloc (by have := B7.out.size; simp; omega) _).drew
        have XV : Hid (Box V (w7.heap.size + 1) a2 a1) := by rw [hV]; exact boxNext w7 (.cells #[.int .i64 b2, .int .i64 b1] 28) a2 a1 28
        have YV : Hid (Box V w7.heap.size b2 b1) := by rw [hV]; exact ((Box.new w7 b2 b1 28).alloc (.cells #[.int .i64 a2, .int .i64 a1] 28)).drew
        clear hV xb1 xb2 xb3 yb1 yb2 yb3 zb1 zb2 zb3 B7 X7 Y7 Z7
        obtain ⟨p1, p2, p3⟩ := XV.out
        obtain ⟨q1, q2, q3⟩ := YV.out
        go_wp2
        go_region_held3 (fun w' => w'.cell? ⟨(w7.heap.size + 1), 0, none⟩ = some (.int .i64 a2) ∧ w'.cell? ⟨(w7.heap.size + 1), 1, none⟩ = some (.int .i64 a1) ∧ w'.cell? ⟨w7.heap.size, 0, none⟩ = some (.int .i64 b2) ∧ w'.cell? ⟨w7.heap.size, 1, none⟩ = some (.int .i64 b1)) (go_keep) (first | (go_at_call 23; (with_reducible refine (TA.out _).mono ?_); rintro _ V2 ⟨rfl, hb2⟩; have BV2 := Lib.hid (BV.out.drew.trans (hb2.mono BV.out.drew.size)); have XV2 := Lib.hid (XV.out.drew.below hb2); have YV2 := Lib.hid (YV.out.drew.below hb2); obtain ⟨pa1, pa2, pa3⟩ := XV2.out; obtain ⟨qa1, qa2, qa3⟩ := YV2.out; clear hb2) | (go_at_call 23; (with_reducible refine (TB.out _).mono ?_); rintro _ V3 ⟨rfl, hb3⟩; have BV3 := Lib.hid (BV2.out.trans (hb3.mono BV2.out.size)); have XV3 := Lib.hid (XV2.out.below hb3); have YV3 := Lib.hid (YV2.out.below hb3); obtain ⟨pb1, pb2, pb3⟩ := XV3.out; obtain ⟨qb1, qb2, qb3⟩ := YV3.out; clear hb3))
        clear pa1 pa2 pa3 qa1 qa2 qa3 XV2 YV2 BV2 p1 p2 p3 q1 q2 q3 XV YV BV
        have hq := TQ.out
        have hg := TG.out
        have he := TE.out
        have hs := TS.out
        have m1 : - -kk = kk := by omega
        go_wp2_with fail
        refine (hs _).mono ?_
        rintro _ V4 ⟨rfl, hb4⟩
        have BV4 := Lib.hid (BV3.out.trans (hb4.mono BV3.out.size))
        clear hb4 BV3 hq hg he hs m1 pb1 pb2 pb3 qb1 qb2 qb3
        go_wp2
        go_ret
        exact ⟨rfl, BV4.out⟩

theorem own : ownKnob Try.prog.godebug = none := by kernel_rfl
theorem laidOut : laidOutB Try.prog = true := by kernel_rfl
set_option maxRecDepth 100000 in
theorem lifted (os : Os) (started : os.Started) (H : Type) (enc : TypeId × Value → H) :
    ReturnsInHanded {} Try.checked os 5 .any (Rows.orderTotalSpec.pre6 enc Try.prog Try.f5 Rows.orderTotalRow.domain false) (Rows.orderTotalSpec.post enc Try.prog Try.f5 false true false false) := by
  refine returnsInHanded_of_change (C := Try.checked) own started (by kernel_rfl) Try.func5
    (ChangeSpec.witness6 (enc := enc) (C := Try.checked) false ⟨#[], #[.agg #[.int .i64 0, .int .i64 0], .agg #[.int .i64 0, .int .i64 0], .agg #[.int .i64 0, .int .i64 0]], []⟩ 8 (by kernel_rfl) (by kernel_rfl) (by kernel_rfl) (by kernel_rfl)) ?_
  intro W base args ds gs before hval0 hW hcnd _
  have hval : ∀ (j : Nat) t v, Try.f5.params[j]? = some t → args[j]? = some v → Value.okWide Try.prog W .any base t v := hval0
  have hW' := hW
  obtain ⟨p, q, hA0, hV, rfl, hfz, hnd⟩ := hW
  have hA : DataW.TrodAll enc Try.prog W 0 (fun _ => true) true Try.f5.params.toList args.toList ds p := hA0
  rw [Try.params5] at hA hval
  obtain ⟨v0, vs0, d0, ds0, p0, q0, hargs, rfl, rfl, h0, r0⟩ := trodAll_cons hA
  obtain ⟨v1, vs1, d1, ds1, p1, q1, rfl, rfl, rfl, h1, r1⟩ := trodAll_cons r0
  obtain ⟨v2, vs2, d2, ds2, p2, q2, rfl, rfl, rfl, h2, r2⟩ := trodAll_cons r1
  obtain ⟨rfl, rfl, rfl⟩ := trodAll_nil r2
  obtain rfl : args = #[v0, v1, v2] := by cases args; simp_all
  obtain ⟨rfl, rfl⟩ := trodVars_none hV
  have k0 := h0
  have lt0 : ∀ x ∈ p0, x.block < W.heap.size := by obtain ⟨m, hm⟩ := k0; exact DataW.trod_lt m _ _ _ hm
  obtain ⟨a0, b0, e0⟩ : ∃ a b : Int, v0 = .agg #[.int .i64 a, .int .i64 b] := by
    obtain ⟨u0, u1, y0, y1, n, rfl, -, -, t0, t1⟩ := open_agg2 Try.underlying23 (by kernel_rfl) (by kernel_rfl) (hval 0 23 v0 rfl rfl) h0
    obtain ⟨a, ha, -⟩ := DataW.trod_int Try.underlying3 t0
    obtain ⟨b, hb, -⟩ := DataW.trod_int Try.underlying2 t1
    simp at ha hb
    subst ha
    subst hb
    exact ⟨a, b, rfl⟩
  subst e0
  have k1 := h1
  have lt1 : ∀ x ∈ p1, x.block < W.heap.size := by obtain ⟨m, hm⟩ := k1; exact DataW.trod_lt m _ _ _ hm
  obtain ⟨a1, b1, e1⟩ : ∃ a b : Int, v1 = .agg #[.int .i64 a, .int .i64 b] := by
    obtain ⟨u0, u1, y0, y1, n, rfl, -, -, t0, t1⟩ := open_agg2 Try.underlying23 (by kernel_rfl) (by kernel_rfl) (hval 1 23 v1 rfl rfl) h1
    obtain ⟨a, ha, -⟩ := DataW.trod_int Try.underlying3 t0
    obtain ⟨b, hb, -⟩ := DataW.trod_int Try.underlying2 t1
    simp at ha hb
    subst ha
    subst hb
    exact ⟨a, b, rfl⟩
  subst e1
  have k2 := h2
  have lt2 : ∀ x ∈ p2, x.block < W.heap.size := by obtain ⟨m, hm⟩ := k2; exact DataW.trod_lt m _ _ _ hm
  obtain ⟨a2, b2, e2⟩ : ∃ a b : Int, v2 = .agg #[.int .i64 a, .int .i64 b] := by
    obtain ⟨u0, u1, y0, y1, n, rfl, -, -, t0, t1⟩ := open_agg2 Try.underlying23 (by kernel_rfl) (by kernel_rfl) (hval 2 23 v2 rfl rfl) h2
    obtain ⟨a, ha, -⟩ := DataW.trod_int Try.underlying3 t0
    obtain ⟨b, hb, -⟩ := DataW.trod_int Try.underlying2 t1
    simp at ha hb
    subst ha
    subst hb
    exact ⟨a, b, rfl⟩
  subst e2
  clear hA0 hval0
  refine (walk a0 b0 a1 b1 a2 b2 W).mono fun e W' ⟨he, bel⟩ => ?_
  subst he
  exact ⟨_, rfl, _, _, _, [], _, [], hW', trodAll_mk1 (shut_bool Try.underlying4 _), (trodAll_cons_mk (Below.trod laidOut (by kernel_rfl) (of_decide_eq_true (by kernel_rfl)) k0 bel lt0) (trodAll_cons_mk (Below.trod laidOut (by kernel_rfl) (of_decide_eq_true (by kernel_rfl)) k1 bel lt1) (trodAll_cons_mk (Below.trod laidOut (by kernel_rfl) (of_decide_eq_true (by kernel_rfl)) k2 bel lt2) trodAll_mk0))), rfl, bel.frame _, fun h => by cases h⟩
theorem over : Rows.orderTotalRow.holds Try.pinned (OpenSpec.ofChange Rows.orderTotalSpec) :=
  OpenClaim.holds_of_wide 5 Try.f5 rfl rfl rfl rfl rfl rfl rfl ⟨rfl, rfl, rfl, rfl, rfl⟩ rfl rfl rfl rfl rfl (by kernel_rfl) Try.func5 (by kernel_rfl)
    (of_decide_eq_true (by kernel_rfl)) (by unfold Func.isWrapper; first | (rw [if_pos (by decide +kernel)]; kernel_rfl) | (rw [if_neg (by decide +kernel)]; exact ⟨rfl, rfl⟩))
    (fun os started H enc _ => lifted os started H enc)
/-- the statement -/
theorem proved : Rows.OrderTotalSaid := over
#print axioms proved
end orderTotal
end Go.Proofs.Ytfefhandlkbeoaa
