/-
  OrderTells: which of any two results, or tasks, comes first, and any results in order, are just the document's; what was handed in is as it was. No condition.
-/
import Derived.Test.YtfefhandlkbeoaaOTot
import Derived.Test.YtfefhandlkbeoaaOMrgR
import Derived.Test.YtfefhandlkbeoaaORefR
import Derived.Test.YtfefhandlkbeoaaOArg
import Derived.Deep.RegionHeld3
import Derived.Deep.DeepCutAuto
import Derived.Deep.WholeRow
namespace Go.Proofs.Ytfefhandlkbeoaa
open Go.RowKit Go.Joins Go.ChangeShapes Go.WideShapes Go.Deep
namespace orderTells

/-- what the law keeps in variables, and what it was given, as a world holds them -/
structure All (w : World) (ga gb gc gd gx gy : Nat) (a1 a2 b1 b2 c1 c2 d1 d2 : Int) (A A' : Option Addr) (n : Nat) (l : List Om.E) : Prop where
  a : Box w ga a1 a2
  b : Box w gb b1 b2
  c : Box w gc c1 c2
  d : Box w gd d1 d2
  x : Box w gx c1 c2
  y : Box w gy d1 d2
  ls : VecE w A n l
  ol : VecE w A' n l
theorem All.below {w w' : World} {ga gb gc gd gx gy : Nat} {a1 a2 b1 b2 c1 c2 d1 d2 : Int} {A A' : Option Addr} {n : Nat} {l : List Om.E} (h : All w ga gb gc gd gx gy a1 a2 b1 b2 c1 c2 d1 d2 A A' n l) (hb : Below w.heap.size w w') :
    All w' ga gb gc gd gx gy a1 a2 b1 b2 c1 c2 d1 d2 A A' n l :=
  ⟨h.a.below hb, h.b.below hb, h.c.below hb, h.d.below hb, h.x.below hb, h.y.below hb, h.ls.below hb, h.ol.below hb⟩
theorem All.drew {w : World} {ga gb gc gd gx gy : Nat} {a1 a2 b1 b2 c1 c2 d1 d2 : Int} {A A' : Option Addr} {n : Nat} {l : List Om.E} (h : All w ga gb gc gd gx gy a1 a2 b1 b2 c1 c2 d1 d2 A A' n l) :
    All w.drew ga gb gc gd gx gy a1 a2 b1 b2 c1 c2 d1 d2 A A' n l := ⟨h.a.drew, h.b.drew, h.c.drew, h.d.drew, h.x.drew, h.y.drew, h.ls.drew, h.ol.drew⟩

set_option maxHeartbeats 6400000 in
theorem walk (a1 a2 b1 b2 c1 c2 d1 d2 : Int) (a4 : Option Addr) (len4 cap4 : Nat) (z4 : List Om.E) (w : World) (h4 : VecE w a4 len4 z4 ∧ len4 ≤ cap4 ∧ (a4 = none → cap4 = 0)) :
    Calls Try.prog 3 #[.agg #[.int .i64 a1, .int .i64 a2], .agg #[.int .i64 b1, .int .i64 b2], .agg #[.int .i64 c1, .int .i64 c2], .agg #[.int .i64 d1, .int .i64 d2], .slice a4 len4 cap4] w fun e w' => e = .returned (.bool true) ∧ Below w.heap.size w w' := by
  obtain ⟨i0, hi, hz0, hz1, hz2⟩ := info_parts Try.infoR
  obtain ⟨v4, k4, n4⟩ := h4
  have V4 := Lib.hid v4
  have N4 := Lib.hid n4
  clear v4 n4
  obtain ⟨P, hP⟩ : ∃ P, Om.near (a1, a2) (b1, b2) = P := ⟨_, rfl⟩
  obtain ⟨Q, hQ⟩ : ∃ Q, Om.ahead (c1, c2) (d1, d2) = Q := ⟨_, rfl⟩
  have hN := fun w => near_any a1 a2 b1 b2 w
  have hN' := fun w => refNear_any a1 a2 b1 b2 w
  have hA := fun w => ahead_any c1 c2 d1 d2 w
  have hA' := fun w => refAhead_any c1 c2 d1 d2 w
  rw [hP] at hN hN'
  rw [hQ] at hA hA'
  have FN := Lib.hid hN
  have FN' := Lib.hid hN'
  have FA := Lib.hid hA
  have FA' := Lib.hid hA'
  clear hP hQ hN hN' hA hA'
  have W0 : Hid (Below w.heap.size w ((((w.alloc (.cells #[.int .i64 a1, .int .i64 a2] 23)).alloc (.cells #[.int .i64 b1, .int .i64 b2] 23)).alloc (.cells #[.int .i64 c1, .int .i64 c2] 25)).alloc (.cells #[.int .i64 d1, .int .i64 d2] 25))) := ((below_two w _ _).alloc (by simp; omega) _).alloc (by simp; omega) _
  have X0 : Hid (Box ((((w.alloc (.cells #[.int .i64 a1, .int .i64 a2] 23)).alloc (.cells #[.int .i64 b1, .int .i64 b2] 23)).alloc (.cells #[.int .i64 c1, .int .i64 c2] 25)).alloc (.cells #[.int .i64 d1, .int .i64 d2] 25)) w.heap.size a1 a2) := (((Box.new w a1 a2 23).alloc _).alloc _).alloc _
  have X1 : Hid (Box ((((w.alloc (.cells #[.int .i64 a1, .int .i64 a2] 23)).alloc (.cells #[.int .i64 b1, .int .i64 b2] 23)).alloc (.cells #[.int .i64 c1, .int .i64 c2] 25)).alloc (.cells #[.int .i64 d1, .int .i64 d2] 25)) (w.heap.size + 1) b1 b2) := by
    have := ((Box.new (w.alloc (.cells #[.int .i64 a1, .int .i64 a2] 23)) b1 b2 23).alloc (.cells #[.int .i64 c1, .int .i64 c2] 25)).alloc (.cells #[.int .i64 d1, .int .i64 d2] 25)
    rwa [show (w.alloc (.cells #[.int .i64 a1, .int .i64 a2] 23)).heap.size = w.heap.size + 1 from by simp] at this
  have X2 : Hid (Box ((((w.alloc (.cells #[.int .i64 a1, .int .i64 a2] 23)).alloc (.cells #[.int .i64 b1, .int .i64 b2] 23)).alloc (.cells #[.int .i64 c1, .int .i64 c2] 25)).alloc (.cells #[.int .i64 d1, .int .i64 d2] 25)) (w.heap.size + 1 + 1) c1 c2) := by
    have := (Box.new ((w.alloc (.cells #[.int .i64 a1, .int .i64 a2] 23)).alloc (.cells #[.int .i64 b1, .int .i64 b2] 23)) c1 c2 25).alloc (.cells #[.int .i64 d1, .int .i64 d2] 25)
    rwa [show ((w.alloc (.cells #[.int .i64 a1, .int .i64 a2] 23)).alloc (.cells #[.int .i64 b1, .int .i64 b2] 23)).heap.size = w.heap.size + 1 + 1 from by simp] at this
  have X3 : Hid (Box ((((w.alloc (.cells #[.int .i64 a1, .int .i64 a2] 23)).alloc (.cells #[.int .i64 b1, .int .i64 b2] 23)).alloc (.cells #[.int .i64 c1, .int .i64 c2] 25)).alloc (.cells #[.int .i64 d1, .int .i64 d2] 25)) (w.heap.size + 1 + 1 + 1) d1 d2) := by
    have := Box.new (((w.alloc (.cells #[.int .i64 a1, .int .i64 a2] 23)).alloc (.cells #[.int .i64 b1, .int .i64 b2] 23)).alloc (.cells #[.int .i64 c1, .int .i64 c2] 25)) d1 d2 25
    rwa [show (((w.alloc (.cells #[.int .i64 a1, .int .i64 a2] 23)).alloc (.cells #[.int .i64 b1, .int .i64 b2] 23)).alloc (.cells #[.int .i64 c1, .int .i64 c2] 25)).heap.size = w.heap.size + 1 + 1 + 1 from by simp] at this
  go_enter Try.func3, Try.ntmps3
  go_wp2_with fail
  refine (awake_any _).mono ?_
  rintro _ w1 ⟨rfl, hb1⟩
  have B1 := Lib.hid (W0.out.trans (hb1.mono W0.out.size))
  have Xa := Lib.hid (X0.out.below hb1)
  have Xb := Lib.hid (X1.out.below hb1)
  have Xc := Lib.hid (X2.out.below hb1)
  have Xd := Lib.hid (X3.out.below hb1)
  clear hb1 W0 X0 X1 X2 X3
  by_cases q : 100 < len4
  · go_wp2
    go_ret
    exact ⟨rfl, B1.out⟩
  have q' : len4 ≤ 100 := by omega
  have s1 := B1.out.size
  have E5 := Lib.hid (own_none2 (base := w1.heap.size) (heap_alloc_new w1 (.cells #[] 23)) (Nat.le_refl _))
  have BE := Lib.hid (show Below w1.heap.size w1 (w1.alloc (.cells #[] 23)) from (Below.refl _ w1).alloc (Nat.le_refl _) _)
  go_wp2_with (at_builtin; refine append_vec _ rfl (.tmp 19) (.tmp 20) 26 rfl w1.heap.size 23 i0 (.agg #[.int .i64 0, .int .i64 0]) 16 Try.underlying26 hi hz0 hz1 hz2 rfl (.slice (some ⟨w1.heap.size, 0, none⟩) 0 0) 0 [] rfl E5.out a4 len4 cap4 z4 rfl N4.out ((V4.out.below B1.out).below BE.out) (by unfold maxLen; omega) (by omega) BE.out.size ?_; intro v1 w6 hown1 hg1; have B6 := Lib.hid (BE.out.grown hg1 BE.out.size (own_block2 E5.out)); obtain ⟨A6, c6, hv6, hn6, hc6⟩ := own_form2 hown1; subst hv6; have O6 := Lib.hid (VecE.of_own hown1); clear hown1 hg1 hn6)
  have V6 : Hid (VecE w6 A6 len4 z4) := by have := O6.out; rw [Nat.zero_add, List.nil_append] at this; exact this
  have L6 := Lib.hid ((V4.out.below B1.out).below B6.out)
  have Ya := Lib.hid (Xa.out.below B6.out)
  have Yb := Lib.hid (Xb.out.below B6.out)
  have Yc := Lib.hid (Xc.out.below B6.out)
  have Yd := Lib.hid (Xd.out.below B6.out)
  have B7 := Lib.hid (B1.out.trans (B6.out.mono s1))
  clear E5 BE O6 B6 Xa Xb Xc Xd B1 s1
  obtain ⟨e1, e2, e3⟩ := Yc.out
  obtain ⟨e4, e5, e6⟩ := Yd.out
  go_region_held3 (fun w' => w'.cell? ⟨w.heap.size + 1 + 1, 0, none⟩ = some (.int .i64 c1) ∧ w'.cell? ⟨w.heap.size + 1 + 1, 1, none⟩ = some (.int .i64 c2) ∧ w'.cell? ⟨w.heap.size + 1 + 1 + 1, 0, none⟩ = some (.int .i64 d1) ∧ w'.cell? ⟨w.heap.size + 1 + 1 + 1, 1, none⟩ = some (.int .i64 d2)) (go_keep) (fail)
  · obtain ⟨V, hV⟩ : ∃ V, V = ((w6.alloc (.cells #[.int .i64 c1, .int .i64 c2] 28)).alloc (.cells #[.int .i64 d1, .int .i64 d2] 28)).drew := ⟨_, rfl⟩
    rw [← hV]
    have b6 : Below w6.heap.size w6 V := by rw [hV]; exact (((Below.refl _ w6).alloc (Nat.le_refl _) _).alloc (by simp) _).drew
    have XV : Box V w6.heap.size c1 c2 := by rw [hV]; exact ((Box.new w6 c1 c2 28).alloc (.cells #[.int .i64 d1, .int .i64 d2] 28)).drew
    have YV : Box V (w6.heap.size + 1) d1 d2 := by rw [hV]; exact boxNext w6 (.cells #[.int .i64 c1, .int .i64 c2] 28) d1 d2 28
    have S0 : Hid (All V w.heap.size (w.heap.size + 1) (w.heap.size + 1 + 1) (w.heap.size + 1 + 1 + 1) w6.heap.size (w6.heap.size + 1) a1 a2 b1 b2 c1 c2 d1 d2 a4 A6 len4 z4) := ⟨Ya.out.below b6, Yb.out.below b6, Yc.out.below b6, Yd.out.below b6, XV, YV, L6.out.below b6, V6.out.below b6⟩
    have D0 := Lib.hid (B7.out.trans (b6.mono B7.out.size))
    clear hV b6 XV YV e1 e2 e3 e4 e5 e6 Ya Yb Yc Yd B7 L6 V6
    have R0 := Lib.hid S0.out.drew
    have C0 := Lib.hid D0.out.drew
    obtain ⟨ua1, ua2, -⟩ := S0.out.a; obtain ⟨ua3, ua4, -⟩ := S0.out.b; obtain ⟨ua5, ua6, -⟩ := S0.out.c; obtain ⟨ua7, ua8, -⟩ := S0.out.d; obtain ⟨ua9, ua10, -⟩ := S0.out.x; obtain ⟨ua11, ua12, -⟩ := S0.out.y
    go_wp2
    go_region_held3 (fun w' => w'.cell? ⟨w.heap.size, 0, none⟩ = some (.int .i64 a1) ∧ w'.cell? ⟨w.heap.size, 1, none⟩ = some (.int .i64 a2) ∧ w'.cell? ⟨w.heap.size + 1, 0, none⟩ = some (.int .i64 b1) ∧ w'.cell? ⟨w.heap.size + 1, 1, none⟩ = some (.int .i64 b2) ∧ w'.cell? ⟨w.heap.size + 1 + 1, 0, none⟩ = some (.int .i64 c1) ∧ w'.cell? ⟨w.heap.size + 1 + 1, 1, none⟩ = some (.int .i64 c2) ∧ w'.cell? ⟨w.heap.size + 1 + 1 + 1, 0, none⟩ = some (.int .i64 d1) ∧ w'.cell? ⟨w.heap.size + 1 + 1 + 1, 1, none⟩ = some (.int .i64 d2) ∧ w'.cell? ⟨w6.heap.size, 0, none⟩ = some (.int .i64 c1) ∧ w'.cell? ⟨w6.heap.size, 1, none⟩ = some (.int .i64 c2) ∧ w'.cell? ⟨w6.heap.size + 1, 0, none⟩ = some (.int .i64 d1) ∧ w'.cell? ⟨w6.heap.size + 1, 1, none⟩ = some (.int .i64 d2)) (go_keep) (first | (go_at_call 8; (with_reducible refine (FN.out _).mono ?_); rintro _ U1 ⟨rfl, hb⟩; have R1 := Lib.hid (R0.out.below hb); have C1 := Lib.hid (C0.out.trans (hb.mono C0.out.size)); obtain ⟨ub1, ub2, -⟩ := R1.out.a; obtain ⟨ub3, ub4, -⟩ := R1.out.b; obtain ⟨ub5, ub6, -⟩ := R1.out.c; obtain ⟨ub7, ub8, -⟩ := R1.out.d; obtain ⟨ub9, ub10, -⟩ := R1.out.x; obtain ⟨ub11, ub12, -⟩ := R1.out.y; clear hb) | (go_at_call 9; (with_reducible refine (FN'.out _).mono ?_); rintro _ U2 ⟨rfl, hb⟩; have R2 := Lib.hid (R1.out.below hb); have C2 := Lib.hid (C1.out.trans (hb.mono C1.out.size)); obtain ⟨uc1, uc2, -⟩ := R2.out.a; obtain ⟨uc3, uc4, -⟩ := R2.out.b; obtain ⟨uc5, uc6, -⟩ := R2.out.c; obtain ⟨uc7, uc8, -⟩ := R2.out.d; obtain ⟨uc9, uc10, -⟩ := R2.out.x; obtain ⟨uc11, uc12, -⟩ := R2.out.y; clear hb) | (go_at_call 10; (with_reducible refine (FA.out _).mono ?_); rintro _ U3 ⟨rfl, hb⟩; have R3 := Lib.hid (R2.out.below hb); have C3 := Lib.hid (C2.out.trans (hb.mono C2.out.size)); obtain ⟨ud1, ud2, -⟩ := R3.out.a; obtain ⟨ud3, ud4, -⟩ := R3.out.b; obtain ⟨ud5, ud6, -⟩ := R3.out.c; obtain ⟨ud7, ud8, -⟩ := R3.out.d; obtain ⟨ud9, ud10, -⟩ := R3.out.x; obtain ⟨ud11, ud12, -⟩ := R3.out.y; clear hb) | (go_at_call 11; (with_reducible refine (FA'.out _).mono ?_); rintro _ U4 ⟨rfl, hb⟩; have R4 := Lib.hid (R3.out.below hb); have C4 := Lib.hid (C3.out.trans (hb.mono C3.out.size)); obtain ⟨ue1, ue2, -⟩ := R4.out.a; obtain ⟨ue3, ue4, -⟩ := R4.out.b; obtain ⟨ue5, ue6, -⟩ := R4.out.c; obtain ⟨ue7, ue8, -⟩ := R4.out.d; obtain ⟨ue9, ue10, -⟩ := R4.out.x; obtain ⟨ue11, ue12, -⟩ := R4.out.y; clear hb) | (go_at_call 13; (with_reducible refine (sortR a4 len4 cap4 z4 _ R4.out.ls N4.out (by omega)).mono ?_); rintro _ U5 ⟨gs, rfl, -, hs, hb⟩; have T5 := Lib.hid (hs.vec (n := len4) (by rw [Om.isort_length]; exact V4.out.1)); clear hs; have R5 := Lib.hid (R4.out.below hb); have C5 := Lib.hid (C4.out.trans (hb.mono C4.out.size)); obtain ⟨uf1, uf2, -⟩ := R5.out.a; obtain ⟨uf3, uf4, -⟩ := R5.out.b; obtain ⟨uf5, uf6, -⟩ := R5.out.c; obtain ⟨uf7, uf8, -⟩ := R5.out.d; obtain ⟨uf9, uf10, -⟩ := R5.out.x; obtain ⟨uf11, uf12, -⟩ := R5.out.y; clear hb) | (go_at_call 14; (with_reducible refine (refR a4 len4 cap4 z4 _ R5.out.ls (by omega)).mono ?_); rintro _ U6 ⟨Ar, cr, rfl, hr, hb⟩; have T6 := Lib.hid (T5.out.below hb); have U6 := Lib.hid hr; clear hr; have R6 := Lib.hid (R5.out.below hb); have C6 := Lib.hid (C5.out.trans (hb.mono C5.out.size)); obtain ⟨ug1, ug2, -⟩ := R6.out.a; obtain ⟨ug3, ug4, -⟩ := R6.out.b; obtain ⟨ug5, ug6, -⟩ := R6.out.c; obtain ⟨ug7, ug8, -⟩ := R6.out.d; obtain ⟨ug9, ug10, -⟩ := R6.out.x; obtain ⟨ug11, ug12, -⟩ := R6.out.y; clear hb) | (go_at_call 12; (with_reducible refine (sameR _ _ len4 len4 _ _ _ _ _ T6.out U6.out (by omega) (by omega)).mono ?_); rintro _ U7 ⟨he, hb⟩; rw [decide_eq_true rfl] at he; subst he; have R7 := Lib.hid (R6.out.below hb); have C7 := Lib.hid (C6.out.trans (hb.mono C6.out.size)); obtain ⟨uh1, uh2, -⟩ := R7.out.a; obtain ⟨uh3, uh4, -⟩ := R7.out.b; obtain ⟨uh5, uh6, -⟩ := R7.out.c; obtain ⟨uh7, uh8, -⟩ := R7.out.d; obtain ⟨uh9, uh10, -⟩ := R7.out.x; obtain ⟨uh11, uh12, -⟩ := R7.out.y; clear hb) | (go_at_call 12; (with_reducible refine (sameR _ _ len4 len4 _ _ _ _ _ R7.out.ls R7.out.ol (by omega) (by omega)).mono ?_); rintro _ U8 ⟨he, hb⟩; rw [decide_eq_true rfl] at he; subst he; have R8 := Lib.hid (R7.out.below hb); have C8 := Lib.hid (C7.out.trans (hb.mono C7.out.size)); obtain ⟨ui1, ui2, -⟩ := R8.out.a; obtain ⟨ui3, ui4, -⟩ := R8.out.b; obtain ⟨ui5, ui6, -⟩ := R8.out.c; obtain ⟨ui7, ui8, -⟩ := R8.out.d; obtain ⟨ui9, ui10, -⟩ := R8.out.x; obtain ⟨ui11, ui12, -⟩ := R8.out.y; clear hb))
    go_wp2
    go_ret
    exact ⟨rfl, C8.out⟩
  · obtain ⟨V, hV⟩ : ∃ V, V = ((w6.alloc (.cells #[.int .i64 d1, .int .i64 d2] 28)).alloc (.cells #[.int .i64 c1, .int .i64 c2] 28)).drew := ⟨_, rfl⟩
    rw [← hV]
    have b6 : Below w6.heap.size w6 V := by rw [hV]; exact (((Below.refl _ w6).alloc (Nat.le_refl _) _).alloc (by simp) _).drew
    have XV : Box V (w6.heap.size + 1) c1 c2 := by rw [hV]; exact boxNext w6 (.cells #[.int .i64 d1, .int .i64 d2] 28) c1 c2 28
    have YV : Box V w6.heap.size d1 d2 := by rw [hV]; exact ((Box.new w6 d1 d2 28).alloc (.cells #[.int .i64 c1, .int .i64 c2] 28)).drew
    have S0 : Hid (All V w.heap.size (w.heap.size + 1) (w.heap.size + 1 + 1) (w.heap.size + 1 + 1 + 1) (w6.heap.size + 1) w6.heap.size a1 a2 b1 b2 c1 c2 d1 d2 a4 A6 len4 z4) := ⟨Ya.out.below b6, Yb.out.below b6, Yc.out.below b6, Yd.out.below b6, XV, YV, L6.out.below b6, V6.out.below b6⟩
    have D0 := Lib.hid (B7.out.trans (b6.mono B7.out.size))
    clear hV b6 XV YV e1 e2 e3 e4 e5 e6 Ya Yb Yc Yd B7 L6 V6
    have R0 := Lib.hid S0.out.drew
    have C0 := Lib.hid D0.out.drew
    obtain ⟨ua1, ua2, -⟩ := S0.out.a; obtain ⟨ua3, ua4, -⟩ := S0.out.b; obtain ⟨ua5, ua6, -⟩ := S0.out.c; obtain ⟨ua7, ua8, -⟩ := S0.out.d; obtain ⟨ua9, ua10, -⟩ := S0.out.x; obtain ⟨ua11, ua12, -⟩ := S0.out.y
    go_wp2
    go_region_held3 (fun w' => w'.cell? ⟨w.heap.size, 0, none⟩ = some (.int .i64 a1) ∧ w'.cell? ⟨w.heap.size, 1, none⟩ = some (.int .i64 a2) ∧ w'.cell? ⟨w.heap.size + 1, 0, none⟩ = some (.int .i64 b1) ∧ w'.cell? ⟨w.heap.size + 1, 1, none⟩ = some (.int .i64 b2) ∧ w'.cell? ⟨w.heap.size + 1 + 1, 0, none⟩ = some (.int .i64 c1) ∧ w'.cell? ⟨w.heap.size + 1 + 1, 1, none⟩ = some (.int .i64 c2) ∧ w'.cell? ⟨w.heap.size + 1 + 1 + 1, 0, none⟩ = some (.int .i64 d1) ∧ w'.cell? ⟨w.heap.size + 1 + 1 + 1, 1, none⟩ = some (.int .i64 d2) ∧ w'.cell? ⟨w6.heap.size + 1, 0, none⟩ = some (.int .i64 c1) ∧ w'.cell? ⟨w6.heap.size + 1, 1, none⟩ = some (.int .i64 c2) ∧ w'.cell? ⟨w6.heap.size, 0, none⟩ = some (.int .i64 d1) ∧ w'.cell? ⟨w6.heap.size, 1, none⟩ = some (.int .i64 d2)) (go_keep) (first | (go_at_call 8; (with_reducible refine (FN.out _).mono ?_); rintro _ U1 ⟨rfl, hb⟩; have R1 := Lib.hid (R0.out.below hb); have C1 := Lib.hid (C0.out.trans (hb.mono C0.out.size)); obtain ⟨ub1, ub2, -⟩ := R1.out.a; obtain ⟨ub3, ub4, -⟩ := R1.out.b; obtain ⟨ub5, ub6, -⟩ := R1.out.c; obtain ⟨ub7, ub8, -⟩ := R1.out.d; obtain ⟨ub9, ub10, -⟩ := R1.out.x; obtain ⟨ub11, ub12, -⟩ := R1.out.y; clear hb) | (go_at_call 9; (with_reducible refine (FN'.out _).mono ?_); rintro _ U2 ⟨rfl, hb⟩; have R2 := Lib.hid (R1.out.below hb); have C2 := Lib.hid (C1.out.trans (hb.mono C1.out.size)); obtain ⟨uc1, uc2, -⟩ := R2.out.a; obtain ⟨uc3, uc4, -⟩ := R2.out.b; obtain ⟨uc5, uc6, -⟩ := R2.out.c; obtain ⟨uc7, uc8, -⟩ := R2.out.d; obtain ⟨uc9, uc10, -⟩ := R2.out.x; obtain ⟨uc11, uc12, -⟩ := R2.out.y; clear hb) | (go_at_call 10; (with_reducible refine (FA.out _).mono ?_); rintro _ U3 ⟨rfl, hb⟩; have R3 := Lib.hid (R2.out.below hb); have C3 := Lib.hid (C2.out.trans (hb.mono C2.out.size)); obtain ⟨ud1, ud2, -⟩ := R3.out.a; obtain ⟨ud3, ud4, -⟩ := R3.out.b; obtain ⟨ud5, ud6, -⟩ := R3.out.c; obtain ⟨ud7, ud8, -⟩ := R3.out.d; obtain ⟨ud9, ud10, -⟩ := R3.out.x; obtain ⟨ud11, ud12, -⟩ := R3.out.y; clear hb) | (go_at_call 11; (with_reducible refine (FA'.out _).mono ?_); rintro _ U4 ⟨rfl, hb⟩; have R4 := Lib.hid (R3.out.below hb); have C4 := Lib.hid (C3.out.trans (hb.mono C3.out.size)); obtain ⟨ue1, ue2, -⟩ := R4.out.a; obtain ⟨ue3, ue4, -⟩ := R4.out.b; obtain ⟨ue5, ue6, -⟩ := R4.out.c; obtain ⟨ue7, ue8, -⟩ := R4.out.d; obtain ⟨ue9, ue10, -⟩ := R4.out.x; obtain ⟨ue11, ue12, -⟩ := R4.out.y; clear hb) | (go_at_call 13; (with_reducible refine (sortR a4 len4 cap4 z4 _ R4.out.ls N4.out (by omega)).mono ?_); rintro _ U5 ⟨gs, rfl, -, hs, hb⟩; have T5 := Lib.hid (hs.vec (n := len4) (by rw [Om.isort_length]; exact V4.out.1)); clear hs; have R5 := Lib.hid (R4.out.below hb); have C5 := Lib.hid (C4.out.trans (hb.mono C4.out.size)); obtain ⟨uf1, uf2, -⟩ := R5.out.a; obtain ⟨uf3, uf4, -⟩ := R5.out.b; obtain ⟨uf5, uf6, -⟩ := R5.out.c; obtain ⟨uf7, uf8, -⟩ := R5.out.d; obtain ⟨uf9, uf10, -⟩ := R5.out.x; obtain ⟨uf11, uf12, -⟩ := R5.out.y; clear hb) | (go_at_call 14; (with_reducible refine (refR a4 len4 cap4 z4 _ R5.out.ls (by omega)).mono ?_); rintro _ U6 ⟨Ar, cr, rfl, hr, hb⟩; have T6 := Lib.hid (T5.out.below hb); have U6 := Lib.hid hr; clear hr; have R6 := Lib.hid (R5.out.below hb); have C6 := Lib.hid (C5.out.trans (hb.mono C5.out.size)); obtain ⟨ug1, ug2, -⟩ := R6.out.a; obtain ⟨ug3, ug4, -⟩ := R6.out.b; obtain ⟨ug5, ug6, -⟩ := R6.out.c; obtain ⟨ug7, ug8, -⟩ := R6.out.d; obtain ⟨ug9, ug10, -⟩ := R6.out.x; obtain ⟨ug11, ug12, -⟩ := R6.out.y; clear hb) | (go_at_call 12; (with_reducible refine (sameR _ _ len4 len4 _ _ _ _ _ T6.out U6.out (by omega) (by omega)).mono ?_); rintro _ U7 ⟨he, hb⟩; rw [decide_eq_true rfl] at he; subst he; have R7 := Lib.hid (R6.out.below hb); have C7 := Lib.hid (C6.out.trans (hb.mono C6.out.size)); obtain ⟨uh1, uh2, -⟩ := R7.out.a; obtain ⟨uh3, uh4, -⟩ := R7.out.b; obtain ⟨uh5, uh6, -⟩ := R7.out.c; obtain ⟨uh7, uh8, -⟩ := R7.out.d; obtain ⟨uh9, uh10, -⟩ := R7.out.x; obtain ⟨uh11, uh12, -⟩ := R7.out.y; clear hb) | (go_at_call 12; (with_reducible refine (sameR _ _ len4 len4 _ _ _ _ _ R7.out.ls R7.out.ol (by omega) (by omega)).mono ?_); rintro _ U8 ⟨he, hb⟩; rw [decide_eq_true rfl] at he; subst he; have R8 := Lib.hid (R7.out.below hb); have C8 := Lib.hid (C7.out.trans (hb.mono C7.out.size)); obtain ⟨ui1, ui2, -⟩ := R8.out.a; obtain ⟨ui3, ui4, -⟩ := R8.out.b; obtain ⟨ui5, ui6, -⟩ := R8.out.c; obtain ⟨ui7, ui8, -⟩ := R8.out.d; obtain ⟨ui9, ui10, -⟩ := R8.out.x; obtain ⟨ui11, ui12, -⟩ := R8.out.y; clear hb))
    go_wp2
    go_ret
    exact ⟨rfl, C8.out⟩

theorem own : ownKnob Try.prog.godebug = none := by kernel_rfl
theorem laidOut : laidOutB Try.prog = true := by kernel_rfl
set_option maxRecDepth 100000 in
theorem lifted (os : Os) (started : os.Started) (H : Type) (enc : TypeId × Value → H) :
    ReturnsInHanded {} Try.checked os 3 .any (Rows.orderTellsSpec.pre6 enc Try.prog Try.f3 Rows.orderTellsRow.domain false) (Rows.orderTellsSpec.post enc Try.prog Try.f3 false true false false) := by
  refine returnsInHanded_of_change (C := Try.checked) own started (by kernel_rfl) Try.func3
    (ChangeSpec.witness6 (enc := enc) (C := Try.checked) false ⟨#[], #[.agg #[.int .i64 0, .int .i64 0], .agg #[.int .i64 0, .int .i64 0], .agg #[.int .i64 0, .int .i64 0], .agg #[.int .i64 0, .int .i64 0], .slice none 0 0], []⟩ 8 (by kernel_rfl) (by kernel_rfl) (by kernel_rfl) (by kernel_rfl)) ?_
  intro W base args ds gs before hval0 hW hcnd _
  have hval : ∀ (j : Nat) t v, Try.f3.params[j]? = some t → args[j]? = some v → Value.okWide Try.prog W .any base t v := hval0
  have hW' := hW
  obtain ⟨p, q, hA0, hV, rfl, hfz, hnd⟩ := hW
  have hA : DataW.TrodAll enc Try.prog W 0 (fun _ => true) true Try.f3.params.toList args.toList ds p := hA0
  rw [Try.params3] at hA hval
  obtain ⟨v0, vs0, d0, ds0, p0, q0, hargs, rfl, rfl, h0, r0⟩ := trodAll_cons hA
  obtain ⟨v1, vs1, d1, ds1, p1, q1, rfl, rfl, rfl, h1, r1⟩ := trodAll_cons r0
  obtain ⟨v2, vs2, d2, ds2, p2, q2, rfl, rfl, rfl, h2, r2⟩ := trodAll_cons r1
  obtain ⟨v3, vs3, d3, ds3, p3, q3, rfl, rfl, rfl, h3, r3⟩ := trodAll_cons r2
  obtain ⟨v4, vs4, d4, ds4, p4, q4, rfl, rfl, rfl, h4, r4⟩ := trodAll_cons r3
  obtain ⟨rfl, rfl, rfl⟩ := trodAll_nil r4
  obtain rfl : args = #[v0, v1, v2, v3, v4] := by cases args; simp_all
  obtain ⟨rfl, rfl⟩ := trodVars_none hV
  have k0 := h0
  have lt0 : ∀ x ∈ p0, x.block < W.heap.size := by obtain ⟨m, hm⟩ := k0; exact DataW.trod_lt m _ _ _ hm
  obtain ⟨a0, b0, e0⟩ : ∃ a b : Int, v0 = .agg #[.int .i64 a, .int .i64 b] := by
    obtain ⟨u0, u1, y0, y1, n, rfl, -, -, t0, t1⟩ := open_agg2 Try.underlying23 (by kernel_rfl) (by kernel_rfl) (hval 0 23 v0 rfl rfl) h0
    obtain ⟨a, ha, -⟩ := DataW.trod_int Try.underlying3 t0
    obtain ⟨b, hb, -⟩ := DataW.trod_int Try.underlying2 t1
    simp at ha hb
    subst ha
    subst hb
    exact ⟨a, b, rfl⟩
  subst e0
  have k1 := h1
  have lt1 : ∀ x ∈ p1, x.block < W.heap.size := by obtain ⟨m, hm⟩ := k1; exact DataW.trod_lt m _ _ _ hm
  obtain ⟨a1, b1, e1⟩ : ∃ a b : Int, v1 = .agg #[.int .i64 a, .int .i64 b] := by
    obtain ⟨u0, u1, y0, y1, n, rfl, -, -, t0, t1⟩ := open_agg2 Try.underlying23 (by kernel_rfl) (by kernel_rfl) (hval 1 23 v1 rfl rfl) h1
    obtain ⟨a, ha, -⟩ := DataW.trod_int Try.underlying3 t0
    obtain ⟨b, hb, -⟩ := DataW.trod_int Try.underlying2 t1
    simp at ha hb
    subst ha
    subst hb
    exact ⟨a, b, rfl⟩
  subst e1
  have k2 := h2
  have lt2 : ∀ x ∈ p2, x.block < W.heap.size := by obtain ⟨m, hm⟩ := k2; exact DataW.trod_lt m _ _ _ hm
  obtain ⟨a2, b2, e2⟩ : ∃ a b : Int, v2 = .agg #[.int .i64 a, .int .i64 b] := by
    obtain ⟨u0, u1, y0, y1, n, rfl, -, -, t0, t1⟩ := open_agg2 Try.underlying25 (by kernel_rfl) (by kernel_rfl) (hval 2 25 v2 rfl rfl) h2
    obtain ⟨a, ha, -⟩ := DataW.trod_int Try.underlying2 t0
    obtain ⟨b, hb, -⟩ := DataW.trod_int Try.underlying3 t1
    simp at ha hb
    subst ha
    subst hb
    exact ⟨a, b, rfl⟩
  subst e2
  have k3 := h3
  have lt3 : ∀ x ∈ p3, x.block < W.heap.size := by obtain ⟨m, hm⟩ := k3; exact DataW.trod_lt m _ _ _ hm
  obtain ⟨a3, b3, e3⟩ : ∃ a b : Int, v3 = .agg #[.int .i64 a, .int .i64 b] := by
    obtain ⟨u0, u1, y0, y1, n, rfl, -, -, t0, t1⟩ := open_agg2 Try.underlying25 (by kernel_rfl) (by kernel_rfl) (hval 3 25 v3 rfl rfl) h3
    obtain ⟨a, ha, -⟩ := DataW.trod_int Try.underlying2 t0
    obtain ⟨b, hb, -⟩ := DataW.trod_int Try.underlying3 t1
    simp at ha hb
    subst ha
    subst hb
    exact ⟨a, b, rfl⟩
  subst e3
  obtain ⟨a4, len4, cap4, rfl⟩ := okWide_slice Try.underlying26 (hval 4 26 v4 rfl rfl)
  have k4 := h4
  have lt4 : ∀ x ∈ p4, x.block < W.heap.size := by obtain ⟨m, hm⟩ := k4; exact DataW.trod_lt m _ _ _ hm
  obtain ⟨z4, w4⟩ : ∃ l, VecE W a4 len4 l ∧ len4 ≤ cap4 ∧ (a4 = none → cap4 = 0) := by
    obtain ⟨fuel, hf⟩ := h4
    rcases Go.Deep.open_slice_pairs Try.underlying26 Try.underlying23 (by kernel_rfl) rfl rfl (by kernel_rfl) (by kernel_rfl) hf with ⟨hcs, _⟩ | ⟨x, len, cap, m, n, V0, V1, D0, D1, P0, P1, hcs, _, hl, _, hmm, _, hcell⟩
    · simp [Value.cells] at hcs
      obtain ⟨rfl, rfl, rfl⟩ := hcs
      exact ⟨[], VecE.nil_ _ _, Nat.le_refl _, fun _ => rfl⟩
    · simp [Value.cells] at hcs
      obtain ⟨rfl, rfl, rfl⟩ := hcs
      obtain ⟨l, hv⟩ := VecE.of_each (w := W) (x := x) len4 (fun j hj => by
        obtain ⟨h1, h2, h3, h4⟩ := hcell j (by simp at hmm; omega)
        obtain ⟨p, hp, -⟩ := DataW.trod_int Try.underlying3 h3
        obtain ⟨q, hq, -⟩ := DataW.trod_int Try.underlying2 h4
        simp at hp hq
        exact ⟨(p, q), by rw [h1, hp], by rw [h2, hq]⟩)
      exact ⟨l, hv, hl, fun h => by cases h⟩
  clear hA0 hval0
  refine (walk a0 b0 a1 b1 a2 b2 a3 b3 a4 len4 cap4 z4 W w4).mono fun e W' ⟨he, bel⟩ => ?_
  subst he
  exact ⟨_, rfl, _, _, _, [], _, [], hW', trodAll_mk1 (shut_bool Try.underlying4 _), (trodAll_cons_mk (Below.trod laidOut (by kernel_rfl) (of_decide_eq_true (by kernel_rfl)) k0 bel lt0) (trodAll_cons_mk (Below.trod laidOut (by kernel_rfl) (of_decide_eq_true (by kernel_rfl)) k1 bel lt1) (trodAll_cons_mk (Below.trod laidOut (by kernel_rfl) (of_decide_eq_true (by kernel_rfl)) k2 bel lt2) (trodAll_cons_mk (Below.trod laidOut (by kernel_rfl) (of_decide_eq_true (by kernel_rfl)) k3 bel lt3) (trodAll_cons_mk (Below.trod laidOut (by kernel_rfl) (of_decide_eq_true (by kernel_rfl)) k4 bel lt4) trodAll_mk0))))), rfl, bel.frame _, fun h => by cases h⟩
theorem over : Rows.orderTellsRow.holds Try.pinned (OpenSpec.ofChange Rows.orderTellsSpec) :=
  OpenClaim.holds_of_wide 3 Try.f3 rfl rfl rfl rfl rfl rfl rfl ⟨rfl, rfl, rfl, rfl, rfl⟩ rfl rfl rfl rfl rfl (by kernel_rfl) Try.func3 (by kernel_rfl)
    (of_decide_eq_true (by kernel_rfl)) (by unfold Func.isWrapper; first | (rw [if_pos (by decide +kernel)]; kernel_rfl) | (rw [if_neg (by decide +kernel)]; exact ⟨rfl, rfl⟩))
    (fun os started H enc _ => lifted os started H enc)
/-- the statement -/
theorem proved : Rows.OrderTellsSaid := over
#print axioms proved
end orderTells
end Go.Proofs.Ytfefhandlkbeoaa
