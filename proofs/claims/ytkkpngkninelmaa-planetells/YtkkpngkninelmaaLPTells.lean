/-
  PlaneTells holds for every input: whether any plane may be, the plane between any two, any vector's margin and side, and whether two are the same, are just the document's, or refused. No condition.
-/
import Derived.Test.YtkkpngkninelmaaPArg
import Derived.ProofKit
import Derived.Lib.SmallJoins
import Derived.OpenShut
import Derived.ShutString
import Derived.ChangeOld
import Derived.WalkSmall
import Derived.Deep.DeepCutAuto
namespace Go.Proofs.Ytkkpngkninelmaa.planeTells
open Go.ChangeShapes Go.WideShapes Go.ChangeAt Go.RowKit Go.Joins
open Go.ChangeMaps (open_string shut_string)
set_option linter.unusedVariables false

theorem two_boxes (w : World) (A B : Option Addr) (n c m d : Nat) (o p : Int) : ∃ D, D = (w.alloc (.cells #[.slice A n c, .int .i64 o] 24)).alloc (.cells #[.slice B m d, .int .i64 p] 24) ∧ Below w.heap.size w D ∧ Pbx D w.heap.size A n c o ∧ Pbx D (w.heap.size + 1) B m d p := by
  refine ⟨_, rfl, ((Below.refl _ w).alloc (Nat.le_refl _) _).alloc (by simp) _, (Pbx.new w A n c o).below ((Below.refl _ _).alloc (Nat.le_refl _) _), ?_⟩
  have := Pbx.new (w.alloc (.cells #[.slice A n c, .int .i64 o] 24)) B m d p
  rwa [show (w.alloc (.cells #[.slice A n c, .int .i64 o] 24)).heap.size = w.heap.size + 1 from by simp] at this

/-- a plane put into its variable, whether that is there already or is made for it -/
theorem put_plane {B : Nat} {D W : World} {A A' : Option Addr} {n c m c' q : Nat} {o o' : Int} {l : List Int} (h : Pbx W q A n c o) (v : Vec W A' m l) (hb : Below B D W) (hq : B ≤ q) :
    Below B D ((W.setCell ⟨q, 0, none⟩ (.slice A' m c')).setCell ⟨q, 1, none⟩ (.int .i64 o')) ∧ Pbx ((W.setCell ⟨q, 0, none⟩ (.slice A' m c')).setCell ⟨q, 1, none⟩ (.int .i64 o')) q A' m c' o' ∧ Vec ((W.setCell ⟨q, 0, none⟩ (.slice A' m c')).setCell ⟨q, 1, none⟩ (.int .i64 o')) A' m l :=
  ⟨(hb.setCell hq _).setCell hq _, by unfold Pbx; rw [heap_setCell_same _ _ _ _ _ _ (heap_setCell_same _ _ _ _ _ _ h)]; rfl, v.off_plane h _ _⟩
theorem put_far {W : World} {g q : Nat} {A : Option Addr} {n c : Nat} {o : Int} (h : W.cell? ⟨g, 0, none⟩ = some (.slice A n c) ∧ W.cell? ⟨g, 1, none⟩ = some (.int .i64 o)) (hg : g < q) (u0 u1 : Value) :
    ((W.setCell ⟨q, 0, none⟩ u0).setCell ⟨q, 1, none⟩ u1).cell? ⟨g, 0, none⟩ = some (.slice A n c) ∧ ((W.setCell ⟨q, 0, none⟩ u0).setCell ⟨q, 1, none⟩ u1).cell? ⟨g, 1, none⟩ = some (.int .i64 o) := by
  have hk : ∀ j, ((W.setCell ⟨q, 0, none⟩ u0).setCell ⟨q, 1, none⟩ u1).cell? ⟨g, j, none⟩ = W.cell? ⟨g, j, none⟩ := fun j =>
    World.cell?_of_block (by show _ = W.heap[g]?; rw [heap_setCell_other _ _ _ _ (by show g ≠ q; omega), heap_setCell_other _ _ _ _ (by show g ≠ q; omega)])
  rw [hk, hk]; exact h
theorem new_plane {B : Nat} {D W : World} {A' : Option Addr} {m c' : Nat} {o' : Int} {l : List Int} (v : Vec W A' m l) (hb : Below B D W) (hq : B ≤ W.heap.size) :
    Below B D (W.alloc (.cells #[.slice A' m c', .int .i64 o'] 24)) ∧ Pbx (W.alloc (.cells #[.slice A' m c', .int .i64 o'] 24)) W.heap.size A' m c' o' ∧ Vec (W.alloc (.cells #[.slice A' m c', .int .i64 o'] 24)) A' m l :=
  ⟨hb.alloc hq _, Pbx.new _ _ _ _ _, v.below ((Below.refl _ _).alloc (Nat.le_refl _) _)⟩
set_option maxHeartbeats 6400000 in
set_option maxRecDepth 100000 in
theorem good_walk (a0 : Option Addr) (len0 cap0 : Nat) (o0 : Int) (a1 : Option Addr) (len1 cap1 : Nat) (o1 : Int) (a2 a3 : Option Addr) (len2 cap2 len3 cap3 : Nat) (dim fv : Int) (nf : Nat) (l0 l1 l2 l3 : List Int) (w : World)
    (V0 : Hid (Vec w a0 len0 l0)) (V1 : Hid (Vec w a1 len1 l1)) (V2 : Hid (Vec w a2 len2 l2)) (V3 : Hid (Vec w a3 len3 l3)) (h0 : len0 ≤ 1100) (h1 : len1 ≤ 1100) (h2 : len2 ≤ 1100) (h3 : len3 ≤ 1100)
    (hf : nf ≤ 1024) (HF : Hid ((nf : Int) = if dim < 0 ∨ 1024 < dim then 0 else dim)) (HFV : Hid (fv = (nf : Int))) (hc : (dim < 0 ∧ fv = 0) ∨ (¬ dim < 0 ∧ 1024 < dim ∧ fv = 0) ∨ (¬ dim < 0 ∧ ¬ 1024 < dim ∧ dim = fv)) :
    Calls Try.prog 3 #[.agg #[.slice a0 len0 cap0, .int .i64 o0], .agg #[.slice a1 len1 cap1, .int .i64 o1], .slice a2 len2 cap2, .slice a3 len3 cap3, .int .i64 dim] w fun e w' => e = .returned (.bool true) ∧ Below w.heap.size w w' := by
  obtain ⟨D, hD, hb, hp, hq⟩ := two_boxes w a0 a1 len0 cap0 len1 cap1 o0 o1
  have U0 := Lib.hid (V0.out.below hb)
  have U1 := Lib.hid (V1.out.below hb)
  have U2 := Lib.hid (V2.out.below hb)
  have U3 := Lib.hid (V3.out.below hb)
  have P := Lib.hid hp
  have Q := Lib.hid hq
  have HB := Lib.hid hb
  have HD := Lib.hid hD
  obtain ⟨K, hK⟩ : ∃ K, Pm.chk l0 o0 dim = K := ⟨_, rfl⟩
  obtain ⟨N, hN⟩ : ∃ N, Pm.mar l0 o0 l2 = N := ⟨_, rfl⟩
  obtain ⟨b, hbq⟩ : ∃ b, decide (o0 = o1 ∧ l0 = l1) = b := ⟨_, rfl⟩
  have FR : Hid (∀ W, Below W.heap.size W W → Calls Try.prog 19 #[.int .i64 fv] W fun e w' => ∃ A c, e = .returned (.agg #[.slice A nf c, .int .i64 0]) ∧ Vec w' A nf (Pm.flat nf) ∧ Below W.heap.size W w') := Lib.hid fun W _ => by
    rw [HFV.out]; exact refFlat_any nf W hf
  clear HFV V0 V1 V2 V3 hb hp hq hD
  rcases hc with ⟨q, rfl⟩ | ⟨q, q2, rfl⟩ | ⟨q, q2, rfl⟩
  all_goals
    go_enter Try.func3, Try.ntmps3
    go_wp2_with fail
    rw [← HD.out]
    refine (awake_c (w0 := D) (Below.refl _ _)).mono ?_
    rintro e w1 ⟨rfl, hb1⟩
    have B1 := Lib.hid hb1
    have B1' := Lib.hid hb1.drew
    have k0 := (P.out.below hb1).c0
    have k1 := (P.out.below hb1).c1
    have k2 := (Q.out.below hb1).c0
    have k3 := (Q.out.below hb1).c1
    clear hb1
    obtain ⟨Nm, hNm⟩ : ∃ Nm, Nm = min len2 len3 := ⟨_, rfl⟩
    have HNm := Lib.hid hNm
    have hNl : Nm ≤ 1100 := by omega
    clear hNm
    have FB : Hid (∀ W, Below D.heap.size D W → Calls Try.prog 9 #[.slice a2 len2 cap2, .slice a3 len3 cap3] W fun e w' => ∃ g, e = .returned (.agg #[.slice (some ⟨g, 0, none⟩) Nm Nm, .int .i64 (Pm.off l2 l3)]) ∧ Vec w' (some ⟨g, 0, none⟩) Nm (Vm.less l2 l3) ∧ Below D.heap.size D w' ∧ Below W.heap.size W w') := Lib.hid fun W hb =>
      (betw_c U2.out U3.out hb (by omega) (by omega)).mono fun _ _ ⟨g, h1, _, _, h4, h5, h6⟩ => ⟨g, by rw [h1, HNm.out], by rw [HNm.out]; exact h4, h5, h6⟩
    have FM : Hid (∀ W, Below D.heap.size D W → Calls Try.prog 10 #[.agg #[.slice a0 len0 cap0, .int .i64 o0], .slice a2 len2 cap2] W fun e w' => e = .returned (.int .i64 N) ∧ Below D.heap.size D w' ∧ Below W.heap.size W w') := Lib.hid fun W hb =>
      (refMarg_any a0 a2 len0 len2 cap0 cap2 o0 l0 l2 W (U0.out.below hb) (U2.out.below hb) (by omega) (by omega)).mono fun _ _ h => ⟨by rw [h.1, hN], hb.trans (h.2.mono hb.size), h.2⟩
    have CP : Hid (∀ W, Below D.heap.size D W → W.cell? ⟨w.heap.size, 0, none⟩ = some (.slice a0 len0 cap0) ∧ W.cell? ⟨w.heap.size, 1, none⟩ = some (.int .i64 o0)) := Lib.hid fun W hb => ⟨(P.out.below hb).c0, (P.out.below hb).c1⟩
    go_upto_region 8 with fail
    go_cut [12, 13] from 43 to 48 (fun x y wx => ∃ A c' q, x = .pointer (some ⟨q, 0, none⟩) ∧ y = .int .i64 N ∧ Below D.heap.size D wx ∧ Pbx wx q A Nm c' (Pm.off l2 l3) ∧ Vec wx A Nm (Vm.less l2 l3))
    case first =>
      go_region_held3 (fun w' => w'.cell? ⟨w.heap.size, 0, none⟩ = some (.slice a0 len0 cap0) ∧ w'.cell? ⟨w.heap.size, 1, none⟩ = some (.int .i64 o0)) (first | go_keep | exact HSN.out _ _) (first
        | (go_at_call 9; (with_reducible refine (FB.out _ (by first | exact B1'.out | exact B1'.out.alloc B1'.out.size _ | exact (B1.out.alloc B1.out.size _).drew)).mono ?_); rintro _ Y1 ⟨g, rfl, hv, hb, hb0⟩; obtain ⟨ua0, ua1⟩ := CP.out Y1 hb; have C1 := Lib.hid hb; have HV := Lib.hid hv; (first | (have hq0 : Pbx Y1 w1.heap.size none 0 0 0 := (show Pbx (w1.drew.alloc (.cells #[.slice none 0 0, .int .i64 0] 24)) w1.heap.size none 0 0 0 from Pbx.new w1.drew none 0 0 0).below hb0; have PQ := Lib.hid hq0; clear hq0) | skip); clear hv hb hb0)
        | (go_at_call 10; (with_reducible refine (FM.out _ (by first | exact C1.out | exact C1.out.alloc C1.out.size _)).mono ?_); rintro _ Y2 ⟨rfl, hb, hb12⟩; obtain ⟨ub0, ub1⟩ := CP.out Y2 hb; have C2 := Lib.hid hb; have HV2 : Hid (Vec Y2 (some ⟨g, 0, none⟩) Nm (Vm.less l2 l3)) := Lib.hid (by first | exact HV.out.below hb12 | exact (HV.out.below ((Below.refl _ _).alloc (Nat.le_refl _) _)).below hb12); (first | (have hq0 : Pbx Y2 Y1.heap.size none 0 0 0 := (Pbx.new Y1 none 0 0 0).below hb12; have q0 := hq0.c0; have q1 := hq0.c1; have f0 := frozen_of_row Y2 Y1.heap.size 0 _ _ hq0; have f1 := frozen_of_row Y2 Y1.heap.size 1 _ _ hq0; have HSN := Lib.hid (fun u0 u1 => put_far ⟨ub0, ub1⟩ (show w.heap.size < Y1.heap.size from Nat.lt_of_lt_of_le P.out.lt C1.out.size) u0 u1); have PQ2 := Lib.hid hq0; clear hq0) | (have hq0 : Pbx Y2 w1.heap.size none 0 0 0 := PQ.out.below hb12; have q0 := hq0.c0; have q1 := hq0.c1; have f0 := frozen_of_row Y2 w1.heap.size 0 _ _ hq0; have f1 := frozen_of_row Y2 w1.heap.size 1 _ _ hq0; have HSN := Lib.hid (fun u0 u1 => put_far ⟨ub0, ub1⟩ (show w.heap.size < w1.heap.size from Nat.lt_of_lt_of_le P.out.lt B1.out.size) u0 u1); have PQ2 := Lib.hid hq0; clear hq0) | skip); clear hb hb12))
      all_goals
        go_wp2_with fail
        go_meet
        first
          | exact ⟨_, _, _, rfl, rfl, new_plane HV2.out C2.out C2.out.size⟩
          | exact ⟨_, _, _, rfl, rfl, put_plane PQ2.out HV2.out C2.out C1.out.size⟩
          | exact ⟨_, _, _, rfl, rfl, put_plane PQ2.out HV2.out C2.out B1.out.size⟩
    case rest =>
      obtain ⟨A, c', q', rfl, rfl, hwb, hwp, hwv⟩ := hcut
      clear FB FM CP k0 k1 k2 k3
      have X0 := Lib.hid (U0.out.below hwb)
      have X1 := Lib.hid (U1.out.below hwb)
      have X2 := Lib.hid (U2.out.below hwb)
      have X3 := Lib.hid (U3.out.below hwb)
      have XV := Lib.hid hwv
      have XP := Lib.hid hwp
      have PP := Lib.hid (P.out.below hwb)
      have QQ := Lib.hid (Q.out.below hwb)
      have HWB := Lib.hid (HB.out.trans (hwb.mono HB.out.size))
      clear hwb hwp hwv U0 U1 U2 U3 P Q B1 B1' HB HD
      have F1 : Hid (∀ W, Below wc.heap.size wc W → Calls Try.prog 11 #[.agg #[.slice a0 len0 cap0, .int .i64 o0], .int .i64 dim] W fun e w' => e = .returned (.int .i64 K) ∧ Below wc.heap.size wc w') := Lib.hid fun W hb => by
        have := chkP_c (c := cap0) (o := o0) (dim := dim) X0.out hb (by unfold maxLen; omega); rwa [hK] at this
      have F2 : Hid (∀ W, Below wc.heap.size wc W → Calls Try.prog 12 #[.agg #[.slice a0 len0 cap0, .int .i64 o0], .int .i64 dim] W fun e w' => e = .returned (.int .i64 K) ∧ Below wc.heap.size wc w') := Lib.hid fun W hb => by
        have := refChkP_c (c := cap0) (o := o0) (dim := dim) X0.out hb (by unfold maxLen; omega); rwa [hK] at this
      have F3 : Hid (∀ W, Below wc.heap.size wc W → Calls Try.prog 14 #[.slice a2 len2 cap2, .slice a3 len3 cap3] W fun e w' => ∃ A' c', e = .returned (.agg #[.slice A' Nm c', .int .i64 (Pm.off l2 l3)]) ∧ Vec w' A' Nm (Vm.less l2 l3) ∧ Below wc.heap.size wc w') := Lib.hid fun W hb =>
        (refBetw_c (c := cap2) (d := cap3) X2.out X3.out hb (by omega) (by omega)).mono fun _ _ ⟨A', c', h1, h4, h5, _⟩ => ⟨A', c', by rw [h1, HNm.out], by rw [HNm.out]; exact h4, h5⟩
      have F4 : Hid (∀ W A'' c'', Below wc.heap.size wc W → Vec W A'' Nm (Vm.less l2 l3) → Calls Try.prog 13 #[.agg #[.slice A Nm c', .int .i64 (Pm.off l2 l3)], .agg #[.slice A'' Nm c'', .int .i64 (Pm.off l2 l3)]] W fun e w' => e = .returned (.bool true) ∧ Below wc.heap.size wc w') := Lib.hid fun W A'' c'' hb hv =>
        (refSameP_any A A'' Nm Nm c' c'' _ _ _ _ W (XV.out.below hb) hv (by omega) (by omega)).mono fun _ _ h => ⟨by rw [h.1, decide_eq_true ⟨rfl, rfl⟩], hb.trans (h.2.mono hb.size)⟩
      have F5 : Hid (∀ W, Below wc.heap.size wc W → Calls Try.prog 15 #[.agg #[.slice a0 len0 cap0, .int .i64 o0], .slice a2 len2 cap2] W fun e w' => e = .returned (.int .i64 N) ∧ Below wc.heap.size wc w') := Lib.hid fun W hb => by
        have := marg_c (c := cap0) (d := cap2) (o := o0) X0.out X2.out hb (by omega) (by omega); rwa [hN] at this
      have F6 : Hid (∀ W, Below wc.heap.size wc W → Calls Try.prog 16 #[.agg #[.slice a0 len0 cap0, .int .i64 o0], .slice a2 len2 cap2] W fun e w' => e = .returned (.bool (decide (0 ≤ N))) ∧ Below wc.heap.size wc w') := Lib.hid fun W hb => by
        have := side_c (c := cap0) (d := cap2) (o := o0) X0.out X2.out hb (by omega) (by omega); rwa [hN] at this
      have F7 : Hid (∀ W, Below wc.heap.size wc W → Calls Try.prog 17 #[.agg #[.slice a0 len0 cap0, .int .i64 o0], .agg #[.slice a1 len1 cap1, .int .i64 o1]] W fun e w' => e = .returned (.bool b) ∧ Below wc.heap.size wc w') := Lib.hid fun W hb => by
        have := sameP_c (c := cap0) (d := cap1) (o := o0) (p := o1) X0.out X1.out hb (by omega) (by omega); rwa [hbq] at this
      have F8 : Hid (∀ W, Below wc.heap.size wc W → Calls Try.prog 13 #[.agg #[.slice a0 len0 cap0, .int .i64 o0], .agg #[.slice a1 len1 cap1, .int .i64 o1]] W fun e w' => e = .returned (.bool b) ∧ Below wc.heap.size wc w') := Lib.hid fun W hb => by
        have := refSameP_c (c := cap0) (d := cap1) (o := o0) (p := o1) X0.out X1.out hb (by omega) (by omega); rwa [hbq] at this
      have F9 : Hid (∀ W, Below wc.heap.size wc W → Calls Try.prog 18 #[.int .i64 dim] W fun e w' => ∃ g, e = .returned (.agg #[.slice (some ⟨g, 0, none⟩) nf nf, .int .i64 0]) ∧ Vec w' (some ⟨g, 0, none⟩) nf (Pm.flat nf) ∧ Below wc.heap.size wc w') := Lib.hid fun W hb =>
        (flat_c (dim := dim) hb hf HF.out).mono fun _ _ ⟨g, h1, h2, h3, _⟩ => ⟨g, h1, h2, h3⟩
      have F11 : Hid (∀ W Ax cx Ay cy, Below wc.heap.size wc W → Vec W Ax nf (Pm.flat nf) → Vec W Ay nf (Pm.flat nf) → Calls Try.prog 13 #[.agg #[.slice Ax nf cx, .int .i64 0], .agg #[.slice Ay nf cy, .int .i64 0]] W fun e w' => e = .returned (.bool true) ∧ Below wc.heap.size wc w') := Lib.hid fun W Ax cx Ay cy hb hx hy =>
        (refSameP_any Ax Ay nf nf cx cy 0 0 _ _ W hx hy (by omega) (by omega)).mono fun _ _ h => ⟨by rw [h.1, decide_eq_true ⟨rfl, rfl⟩], hb.trans (h.2.mono hb.size)⟩
      have CL : Hid (∀ W, Below wc.heap.size wc W → W.cell? ⟨w.heap.size, 0, none⟩ = some (.slice a0 len0 cap0) ∧ W.cell? ⟨w.heap.size, 1, none⟩ = some (.int .i64 o0) ∧ W.cell? ⟨w.heap.size + 1, 0, none⟩ = some (.slice a1 len1 cap1) ∧ W.cell? ⟨w.heap.size + 1, 1, none⟩ = some (.int .i64 o1) ∧ W.cell? ⟨q', 0, none⟩ = some (.slice A Nm c') ∧ W.cell? ⟨q', 1, none⟩ = some (.int .i64 (Pm.off l2 l3))) :=
        Lib.hid fun W hb => ⟨(PP.out.below hb).c0, (PP.out.below hb).c1, (QQ.out.below hb).c0, (QQ.out.below hb).c1, (XP.out.below hb).c0, (XP.out.below hb).c1⟩
      have G0 := Lib.hid (Below.refl wc.heap.size wc).drew
      obtain ⟨k0, k1, k2, k3, k4, k5⟩ := CL.out wc (Below.refl _ _)
      go_wp2_with fail
      go_region_held3 (fun W => W.cell? ⟨w.heap.size, 0, none⟩ = some (.slice a0 len0 cap0) ∧ W.cell? ⟨w.heap.size, 1, none⟩ = some (.int .i64 o0) ∧ W.cell? ⟨w.heap.size + 1, 0, none⟩ = some (.slice a1 len1 cap1) ∧ W.cell? ⟨w.heap.size + 1, 1, none⟩ = some (.int .i64 o1) ∧ W.cell? ⟨q', 0, none⟩ = some (.slice A Nm c') ∧ W.cell? ⟨q', 1, none⟩ = some (.int .i64 (Pm.off l2 l3))) (go_keep) (first
        | (go_at_call 11; (with_reducible refine (F1.out _ G0.out).mono ?_); rintro _ Y1 ⟨rfl, hb⟩; obtain ⟨va0, va1, va2, va3, va4, va5⟩ := CL.out Y1 hb; have G1 := Lib.hid hb; clear hb)
        | (go_at_call 12; (with_reducible refine (F2.out _ G1.out).mono ?_); rintro _ Y2 ⟨rfl, hb⟩; obtain ⟨vb0, vb1, vb2, vb3, vb4, vb5⟩ := CL.out Y2 hb; have G2 := Lib.hid hb; clear hb)
        | (go_at_call 14; (with_reducible refine (F3.out _ G2.out).mono ?_); rintro _ Y3 ⟨A3, c3, rfl, hv, hb⟩; obtain ⟨vc0, vc1, vc2, vc3, vc4, vc5⟩ := CL.out Y3 hb; have G3 := Lib.hid hb; have HV3 := Lib.hid hv; clear hv; clear hb)
        | (go_at_call 13; (with_reducible refine (F4.out _ A3 c3 G3.out HV3.out).mono ?_); rintro _ Y4 ⟨rfl, hb⟩; obtain ⟨vd0, vd1, vd2, vd3, vd4, vd5⟩ := CL.out Y4 hb; have G4 := Lib.hid hb; clear hb)
        | (go_at_call 15; (with_reducible refine (F5.out _ G4.out).mono ?_); rintro _ Y5 ⟨rfl, hb⟩; obtain ⟨ve0, ve1, ve2, ve3, ve4, ve5⟩ := CL.out Y5 hb; have G5 := Lib.hid hb; clear hb)
        | (go_at_call 16; (with_reducible refine (F6.out _ G5.out).mono ?_); rintro _ Y6 ⟨rfl, hb⟩; obtain ⟨vf0, vf1, vf2, vf3, vf4, vf5⟩ := CL.out Y6 hb; have G6 := Lib.hid hb; clear hb)
        | (go_at_call 17; (with_reducible refine (F7.out _ G6.out).mono ?_); rintro _ Y7 ⟨rfl, hb⟩; obtain ⟨vg0, vg1, vg2, vg3, vg4, vg5⟩ := CL.out Y7 hb; have G7 := Lib.hid hb; clear hb)
        | (go_at_call 13; (with_reducible refine (F8.out _ G7.out).mono ?_); rintro _ Y8 ⟨rfl, hb⟩; obtain ⟨vh0, vh1, vh2, vh3, vh4, vh5⟩ := CL.out Y8 hb; have G8 := Lib.hid hb; clear hb)
        | (go_at_call 18; (with_reducible refine (F9.out _ G8.out).mono ?_); rintro _ Y9 ⟨g9, rfl, hv, hb⟩; obtain ⟨vi0, vi1, vi2, vi3, vi4, vi5⟩ := CL.out Y9 hb; have G9 := Lib.hid hb; have HV9 := Lib.hid hv; clear hv; clear hb)
        | (go_at_call 19; (with_reducible refine (FR.out _ (Below.refl _ _)).mono ?_); rintro _ Y10 ⟨A10, c10, rfl, hv, hb2⟩; have hb := G9.out.trans (hb2.mono G9.out.size); obtain ⟨vj0, vj1, vj2, vj3, vj4, vj5⟩ := CL.out Y10 hb; have G10 := Lib.hid hb; have HV10 := Lib.hid hv; have HV9' := Lib.hid (HV9.out.below hb2); clear hv hb2; clear hb)
        | (go_at_call 13; (with_reducible refine (F11.out _ _ _ _ _ G10.out HV9'.out HV10.out).mono ?_); rintro _ Y11 ⟨rfl, hb⟩; obtain ⟨vk0, vk1, vk2, vk3, vk4, vk5⟩ := CL.out Y11 hb; have G11 := Lib.hid hb; clear hb))
      go_wp2
      go_ret
      exact ⟨rfl, HWB.out.trans (G11.out.mono HWB.out.size)⟩

set_option maxHeartbeats 1600000 in
set_option maxRecDepth 100000 in
theorem walk (a0 : Option Addr) (len0 cap0 : Nat) (z0 : List Int) (o0 : Int) (a1 : Option Addr) (len1 cap1 : Nat) (z1 : List Int) (o1 : Int) (a2 : Option Addr) (len2 cap2 : Nat) (z2 : List Int) (a3 : Option Addr) (len3 cap3 : Nat) (z3 : List Int) (dim : Int) (w : World)
    (w0 : (Lit.int .i64 o0).wf = true ∧ IsRow .i32 w a0 len0 cap0 z0) (w1 : (Lit.int .i64 o1).wf = true ∧ IsRow .i32 w a1 len1 cap1 z1) (w2 : IsRow .i32 w a2 len2 cap2 z2) (w3 : IsRow .i32 w a3 len3 cap3 z3) (w4 : (Lit.int .i64 dim).wf = true) :
    Calls Try.prog 3 #[.agg #[.slice a0 len0 cap0, .int .i64 o0], .agg #[.slice a1 len1 cap1, .int .i64 o1], .slice a2 len2 cap2, .slice a3 len3 cap3, .int .i64 dim] w fun e w' => e = .returned (.bool true) ∧ Below w.heap.size w w' := by
  obtain ⟨l0, v0, m0, -⟩ := w0.2.vec
  obtain ⟨l1, v1, m1, -⟩ := w1.2.vec
  obtain ⟨l2, v2, m2, -⟩ := w2.vec
  obtain ⟨l3, v3, m3, -⟩ := w3.vec
  have V0 := Lib.hid v0
  have V1 := Lib.hid v1
  have V2 := Lib.hid v2
  have V3 := Lib.hid v3
  clear w0 w1 w2 w3 w4 v0 v1 v2 v3 m0 m1 m2 m3
  by_cases g : 1100 < len0 ∨ 1100 < len1 ∨ 1100 < len2 ∨ 1100 < len3
  case neg =>
    obtain ⟨f, hf⟩ : ∃ f : Int, f = if dim < 0 ∨ 1024 < dim then 0 else dim := ⟨_, rfl⟩
    have hfb : 0 ≤ f ∧ f ≤ 1024 ∧ ((dim < 0 ∧ f = 0) ∨ (¬ dim < 0 ∧ 1024 < dim ∧ f = 0) ∨ (¬ dim < 0 ∧ ¬ 1024 < dim ∧ dim = f)) := by
      by_cases q : dim < 0 ∨ 1024 < dim
      · rw [if_pos q] at hf; omega
      · rw [if_neg q] at hf; omega
    have hn : ((f.toNat : Nat) : Int) = f := by omega
    exact good_walk a0 len0 cap0 o0 a1 len1 cap1 o1 a2 a3 len2 cap2 len3 cap3 dim f f.toNat l0 l1 l2 l3 w V0 V1 V2 V3 (by omega) (by omega) (by omega) (by omega) (by omega) (Lib.hid (by rw [hn]; exact hf)) (Lib.hid hn.symm) hfb.2.2
  obtain ⟨D, hD, hb, hp, hq⟩ := two_boxes w a0 a1 len0 cap0 len1 cap1 o0 o1
  have P := Lib.hid hp
  have Q := Lib.hid hq
  have HB := Lib.hid hb
  have HD := Lib.hid hD
  clear V0 V1 V2 V3 hb hp hq hD
  have hg : 1100 < len0 ∨ (¬ 1100 < len0 ∧ 1100 < len1) ∨ (¬ 1100 < len0 ∧ ¬ 1100 < len1 ∧ 1100 < len2) ∨ (¬ 1100 < len0 ∧ ¬ 1100 < len1 ∧ ¬ 1100 < len2 ∧ 1100 < len3) := by omega
  clear g
  rcases hg with g0 | ⟨g0, g1⟩ | ⟨g0, g1, g2⟩ | ⟨g0, g1, g2, g3⟩
  all_goals
    go_enter Try.func3, Try.ntmps3
    go_wp2_with fail
    rw [← HD.out]
    refine (awake_c (w0 := D) (Below.refl _ _)).mono ?_
    rintro e w1 ⟨rfl, hb1⟩
    have B1 := Lib.hid (HB.out.trans (hb1.mono HB.out.size))
    have k0 := (P.out.below hb1).c0
    have k1 := (P.out.below hb1).c1
    have k2 := (Q.out.below hb1).c0
    have k3 := (Q.out.below hb1).c1
    clear hb1
    go_wp2
    go_ret
    exact ⟨rfl, B1.out⟩
theorem own : ownKnob Try.prog.godebug = none := by kernel_rfl
theorem laidOut : laidOutB Try.prog = true := by kernel_rfl
set_option maxRecDepth 100000 in
theorem lifted (os : Os) (started : os.Started) (H : Type) (enc : TypeId × Value → H) :
    ReturnsInHanded {} Try.checked os 3 .any (Rows.planeTellsSpec.pre6 enc Try.prog Try.f3 Rows.planeTellsRow.domain false) (Rows.planeTellsSpec.post enc Try.prog Try.f3 false true false false) := by
  refine returnsInHanded_of_change (C := Try.checked) own started (by kernel_rfl) Try.func3
    (ChangeSpec.witness6 (enc := enc) (C := Try.checked) false ⟨#[], #[.agg #[.slice none 0 0, .int .i64 0], .agg #[.slice none 0 0, .int .i64 0], .slice none 0 0, .slice none 0 0, .int .i64 0], []⟩ 8 (by kernel_rfl) (by kernel_rfl) (by kernel_rfl) (by kernel_rfl)) ?_
  intro W base args ds gs before hval0 hW hcnd _
  have hval : ∀ (j : Nat) t v, Try.f3.params[j]? = some t → args[j]? = some v → Value.okWide Try.prog W .any base t v := hval0
  have hW' := hW
  obtain ⟨p, q, hA0, hV, rfl, hfz, hnd⟩ := hW
  have hA : DataW.TrodAll enc Try.prog W 0 (fun _ => true) true Try.f3.params.toList args.toList ds p := hA0
  rw [Try.params3] at hA hval
  obtain ⟨v0, vs0, d0, ds0, p0, q0, hargs, rfl, rfl, h0, r0⟩ := trodAll_cons hA
  obtain ⟨v1, vs1, d1, ds1, p1, q1, rfl, rfl, rfl, h1, r1⟩ := trodAll_cons r0
  obtain ⟨v2, vs2, d2, ds2, p2, q2, rfl, rfl, rfl, h2, r2⟩ := trodAll_cons r1
  obtain ⟨v3, vs3, d3, ds3, p3, q3, rfl, rfl, rfl, h3, r3⟩ := trodAll_cons r2
  obtain ⟨v4, vs4, d4, ds4, p4, q4, rfl, rfl, rfl, h4, r4⟩ := trodAll_cons r3
  obtain ⟨rfl, rfl, rfl⟩ := trodAll_nil r4
  obtain rfl : args = #[v0, v1, v2, v3, v4] := by cases args; simp_all
  obtain ⟨rfl, rfl⟩ := trodVars_none hV
  have k0 := h0
  have lt0 : ∀ x ∈ p0, x.block < W.heap.size := by obtain ⟨m, hm⟩ := k0; exact DataW.trod_lt m _ _ _ hm
  obtain ⟨a0, len0, cap0, z0, o0, g0, w0⟩ : ∃ (a : Option Addr) (len cap : Nat) (zs : List Int) (o : Int), v0 = .agg #[.slice a len cap, .int .i64 o] ∧ (Lit.int .i64 o).wf = true ∧ IsRow .i32 W a len cap zs := by
    obtain ⟨u0, u1, y0, y1, n, rfl, -, -, t0, t1⟩ := open_agg2 Try.underlying24 (by kernel_rfl) (by kernel_rfl) (hval 0 24 v0 rfl rfl) h0
    obtain ⟨o, ho, -, hw⟩ := DataW.trod_int Try.underlying2 t1
    simp at ho
    subst ho
    rcases open_ints Try.underlying22 Try.underlying21 (by kernel_rfl) t0 with ⟨hcs, _⟩ | ⟨x, l, c, zs, hcs, _, hl, hm, hz, _, hcell, hwz⟩
    · simp at hcs
      subst hcs
      exact ⟨none, 0, 0, [], o, rfl, hw, .inl ⟨rfl, rfl, rfl, rfl⟩⟩
    · simp at hcs
      subst hcs
      exact ⟨some x, l, c, zs, o, rfl, hw, .inr ⟨_, rfl, hl, hm, by simpa using hz, hcell, hwz⟩⟩
  subst g0
  have k1 := h1
  have lt1 : ∀ x ∈ p1, x.block < W.heap.size := by obtain ⟨m, hm⟩ := k1; exact DataW.trod_lt m _ _ _ hm
  obtain ⟨a1, len1, cap1, z1, o1, g1, w1⟩ : ∃ (a : Option Addr) (len cap : Nat) (zs : List Int) (o : Int), v1 = .agg #[.slice a len cap, .int .i64 o] ∧ (Lit.int .i64 o).wf = true ∧ IsRow .i32 W a len cap zs := by
    obtain ⟨u0, u1, y0, y1, n, rfl, -, -, t0, t1⟩ := open_agg2 Try.underlying24 (by kernel_rfl) (by kernel_rfl) (hval 1 24 v1 rfl rfl) h1
    obtain ⟨o, ho, -, hw⟩ := DataW.trod_int Try.underlying2 t1
    simp at ho
    subst ho
    rcases open_ints Try.underlying22 Try.underlying21 (by kernel_rfl) t0 with ⟨hcs, _⟩ | ⟨x, l, c, zs, hcs, _, hl, hm, hz, _, hcell, hwz⟩
    · simp at hcs
      subst hcs
      exact ⟨none, 0, 0, [], o, rfl, hw, .inl ⟨rfl, rfl, rfl, rfl⟩⟩
    · simp at hcs
      subst hcs
      exact ⟨some x, l, c, zs, o, rfl, hw, .inr ⟨_, rfl, hl, hm, by simpa using hz, hcell, hwz⟩⟩
  subst g1
  obtain ⟨a2, len2, cap2, rfl⟩ := okWide_slice Try.underlying22 (hval 2 22 v2 rfl rfl)
  have k2 := h2
  have lt2 : ∀ x ∈ p2, x.block < W.heap.size := by obtain ⟨m, hm⟩ := k2; exact DataW.trod_lt m _ _ _ hm
  obtain ⟨z2, w2⟩ : ∃ zs, IsRow .i32 W a2 len2 cap2 zs := by
    obtain ⟨fuel, hf⟩ := h2
    rcases open_ints Try.underlying22 Try.underlying21 (by kernel_rfl) hf with ⟨hcs, _⟩ | ⟨x, l, c, zs, hcs, _, hl, hm, hz, _, hcell, hwz⟩
    · simp [Value.cells] at hcs
      obtain ⟨rfl, rfl, rfl⟩ := hcs
      exact ⟨[], .inl ⟨rfl, rfl, rfl, rfl⟩⟩
    · simp [Value.cells] at hcs
      obtain ⟨rfl, rfl, rfl⟩ := hcs
      exact ⟨zs, .inr ⟨_, rfl, hl, hm, by simpa using hz, hcell, hwz⟩⟩
  obtain ⟨a3, len3, cap3, rfl⟩ := okWide_slice Try.underlying22 (hval 3 22 v3 rfl rfl)
  have k3 := h3
  have lt3 : ∀ x ∈ p3, x.block < W.heap.size := by obtain ⟨m, hm⟩ := k3; exact DataW.trod_lt m _ _ _ hm
  obtain ⟨z3, w3⟩ : ∃ zs, IsRow .i32 W a3 len3 cap3 zs := by
    obtain ⟨fuel, hf⟩ := h3
    rcases open_ints Try.underlying22 Try.underlying21 (by kernel_rfl) hf with ⟨hcs, _⟩ | ⟨x, l, c, zs, hcs, _, hl, hm, hz, _, hcell, hwz⟩
    · simp [Value.cells] at hcs
      obtain ⟨rfl, rfl, rfl⟩ := hcs
      exact ⟨[], .inl ⟨rfl, rfl, rfl, rfl⟩⟩
    · simp [Value.cells] at hcs
      obtain ⟨rfl, rfl, rfl⟩ := hcs
      exact ⟨zs, .inr ⟨_, rfl, hl, hm, by simpa using hz, hcell, hwz⟩⟩
  obtain ⟨a4, rfl, rfl, rfl, w4⟩ := open_int Try.underlying3 (hval 4 3 v4 rfl rfl) h4
  clear hA0 hval0
  refine (walk a0 len0 cap0 z0 o0 a1 len1 cap1 z1 o1 a2 len2 cap2 z2 a3 len3 cap3 z3 a4 W w0 w1 w2 w3 w4).mono fun e W' ⟨he, bel⟩ => ?_
  subst he
  exact ⟨_, rfl, _, _, _, [], _, [], hW', trodAll_mk1 (shut_bool Try.underlying4 _), (trodAll_cons_mk (Below.trod laidOut (by kernel_rfl) (of_decide_eq_true (by kernel_rfl)) k0 bel lt0) (trodAll_cons_mk (Below.trod laidOut (by kernel_rfl) (of_decide_eq_true (by kernel_rfl)) k1 bel lt1) (trodAll_cons_mk (Below.trod laidOut (by kernel_rfl) (of_decide_eq_true (by kernel_rfl)) k2 bel lt2) (trodAll_cons_mk (Below.trod laidOut (by kernel_rfl) (of_decide_eq_true (by kernel_rfl)) k3 bel lt3) (trodAll_cons_mk (shut_int Try.underlying3 w4) trodAll_mk0))))), rfl, bel.frame _, fun h => by cases h⟩
theorem over : Rows.planeTellsRow.holds Try.pinned (OpenSpec.ofChange Rows.planeTellsSpec) :=
  OpenClaim.holds_of_wide 3 Try.f3 rfl rfl rfl rfl rfl rfl rfl ⟨rfl, rfl, rfl, rfl, rfl⟩ rfl rfl rfl rfl rfl (by kernel_rfl) Try.func3 (by kernel_rfl)
    (of_decide_eq_true (by kernel_rfl)) (by unfold Func.isWrapper; first | (rw [if_pos (by decide +kernel)]; kernel_rfl) | (rw [if_neg (by decide +kernel)]; exact ⟨rfl, rfl⟩))
    (fun os started H enc _ => lifted os started H enc)
/-- the statement -/
theorem proved : Rows.PlaneTellsSaid := over
#print axioms proved
end Go.Proofs.Ytkkpngkninelmaa.planeTells
