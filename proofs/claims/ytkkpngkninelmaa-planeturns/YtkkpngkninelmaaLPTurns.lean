/-
  PlaneTurns holds for every input: the plane the other way round has just the other margins; what was handed in is as it was. No condition.
-/
import Derived.Test.YtkkpngkninelmaaPArg
import Derived.ProofKit
import Derived.OpenShut
import Derived.ShutString
import Derived.ChangeOld
import Derived.WalkSmall
import Derived.Deep.DeepCutAuto
import Derived.Deep.WholeRow
namespace Go.Proofs.Ytkkpngkninelmaa.planeTurns
open Go.ChangeShapes Go.WideShapes Go.ChangeAt Go.RowKit
open Go.ChangeMaps (open_string shut_string)
set_option linter.unusedVariables false

theorem grown_below {w0 w w' : World} {B : Nat} {row : Option Nat} (hb : Below B w0 w) (hg : w.grownBy w' row) (hB : B ≤ w.heap.size) (hr : ∀ k, row = some k → B ≤ k) : Below B w0 w' := hb.grown hg hB hr
theorem built_ge {B b : Nat} (h : B ≤ b) : ∀ k, (Value.slice (some ⟨b, 0, none⟩) 0 0).ownBlock = some k → B ≤ k := by
  intro k hk
  simp [Value.ownBlock] at hk
  omega
theorem of_own {w : World} {base : Nat} {A : Option Addr} {n c : Nat} {l : List Int} (h : w.ownsRow base 21 1 (.slice A n c) n (l.map (Value.int .i32)))
    (hl : ∀ x ∈ l, -2147483648 ≤ x ∧ x ≤ 2147483647) : Vec w A n l := ⟨Lst.of_own h, hl⟩

/-- what three vectors that may be tell -/
theorem facts {a b v : List Int} {n : Nat} (hn : n ≤ 1024) (c0 : Vm.chk a (n : Int) = 0) (c1 : Vm.chk b (n : Int) = 0) (c2 : Vm.chk v (n : Int) = 0) :
    ∃ M : Int, Pm.mar (Vm.less b a) (Pm.off b a) v = M ∧ Pm.mar (Vm.less a b) (Pm.off a b) v = -M ∧ -4503599627370496 ≤ M ∧ M ≤ 4503599627370496 ∧
      decide (Pm.off a b = Pm.off b a ∧ Vm.less a b = Vm.less b a) = decide (a = b) ∧ 1 ≤ n ∧ (Vm.less a b).length = n := by
  obtain ⟨d0, d1, e0, g0⟩ := Vm.chk_ok c0
  obtain ⟨-, -, e1, g1⟩ := Vm.chk_ok c1
  obtain ⟨-, -, e2, g2⟩ := Vm.chk_ok c2
  have T : Pm.Two a b n := ⟨hn, by omega, by omega, g0, g1⟩
  have K : Pm.Two a v n := ⟨hn, by omega, by omega, g0, g2⟩
  have K' : Pm.Two b v n := ⟨hn, by omega, by omega, g1, g2⟩
  obtain ⟨m1, m2, m3, m4, m5, m6, m7⟩ := T.flip.mar K'
  refine ⟨_, rfl, T.turn K, by omega, by omega, decide_eq_decide.2 T.same, by omega, ?_⟩
  rw [less_len T.la T.lb, Nat.min_self]

set_option maxHeartbeats 3200000 in
set_option maxRecDepth 100000 in
theorem good_walk (a0 a1 a2 : Option Addr) (n cap0 cap1 cap2 : Nat) (l r s : List Int) (w : World) (V : Hid (Vec w a0 n l)) (V' : Hid (Vec w a1 n r)) (V2 : Hid (Vec w a2 n s)) (A0 : Hid (a0 = none → cap0 = 0)) (A1 : Hid (a1 = none → cap1 = 0)) (hn : n ≤ 1024) (c0 : Vm.chk l (n : Int) = 0) (c1 : Vm.chk r (n : Int) = 0) (c2 : Vm.chk s (n : Int) = 0) :
    Calls Try.prog 6 #[.slice a0 n cap0, .slice a1 n cap1, .slice a2 n cap2] w fun e w' => e = .returned (.bool true) ∧ Below w.heap.size w w' := by
  obtain ⟨M, k1, k2, b0, b1, k3, hn1, k4⟩ := facts hn c0 c1 c2
  obtain ⟨i0, hi, hz0, hz1, hz2⟩ := info_parts Try.infoI32
  have C0 := Lib.hid c0
  have C1 := Lib.hid c1
  have C2 := Lib.hid c2
  have K1 := Lib.hid k1
  have K2 := Lib.hid k2
  have K3 := Lib.hid k3
  have K4 := Lib.hid k4
  have m0 : n ≤ maxLen := by unfold maxLen; omega
  clear c0 c1 c2 k1 k2 k3 k4
  go_enter Try.func6, Try.ntmps6
  go_wp2_with fail
  refine (awake_any _).mono ?_
  rintro e w1 ⟨rfl, hb1⟩
  have HB1 := Lib.hid hb1
  have hs1 := hb1.size
  clear hb1
  go_wp2_with fail
  refine (check_c V.out HB1.out m0).mono ?_
  rintro e w2 ⟨rfl, rfl⟩
  rw [C0.out]
  go_wp2_with fail
  refine (check_c V'.out HB1.out m0).mono ?_
  rintro e w2 ⟨rfl, rfl⟩
  rw [C1.out]
  go_wp2_with fail
  refine (check_c V2.out HB1.out m0).mono ?_
  rintro e w2 ⟨rfl, rfl⟩
  rw [C2.out]
  have HBE := Lib.hid (HB1.out.alloc hs1 (.cells #[] 21))
  go_wp2_with (first
    | (at_builtin; refine append_lst _ rfl (.tmp 37) (.tmp 38) 22 rfl w1.heap.size 21 i0 (.int .i32 0) 4 Try.underlying22 hi hz0 hz1 hz2 rfl (.slice (some ⟨w1.heap.size, 0, none⟩) 0 0) 0 [] rfl (own_empty w1 21) w.heap.size a0 n cap0 (l.map (Value.int .i32)) rfl A0.out (V.out.1.below HBE.out) (ints_one .i32 l) (by unfold maxLen; omega) (by omega) (by simp) ?_; intro v1 w2 hown1 hg1; have HB2 := Lib.hid (grown_below HBE.out hg1 (by simp; omega) (built_ge hs1)); rw [Nat.zero_add, List.nil_append] at hown1; obtain ⟨A, c, hv1⟩ := vown_form hown1; subst hv1; have W2 := Lib.hid (of_own hown1 V.out.2); have hs2 := HB2.out.size; have HBE2 := Lib.hid (HB2.out.alloc hs2 (.cells #[] 21)); have HBW2 := Lib.hid ((Below.refl _ w2).alloc (Nat.le_refl _) (.cells #[] 21)); clear hown1 hg1)
    | (at_builtin; refine append_lst _ rfl (.tmp 40) (.tmp 41) 22 rfl w2.heap.size 21 i0 (.int .i32 0) 4 Try.underlying22 hi hz0 hz1 hz2 rfl (.slice (some ⟨w2.heap.size, 0, none⟩) 0 0) 0 [] rfl (own_empty w2 21) w.heap.size a1 n cap1 (r.map (Value.int .i32)) rfl A1.out (V'.out.1.below HBE2.out) (ints_one .i32 r) (by unfold maxLen; omega) (by omega) (by simp) ?_; intro v2 w3 hown2 hg2; have HB3 := Lib.hid (grown_below HBE2.out hg2 (by simp; omega) (built_ge hs2)); have HBW3 := Lib.hid (grown_below HBW2.out hg2 (by simp) (built_ge (Nat.le_refl _))); rw [Nat.zero_add, List.nil_append] at hown2; obtain ⟨A', c', hv2⟩ := vown_form hown2; subst hv2; have R3 := Lib.hid (of_own hown2 V'.out.2); have W3 := Lib.hid (W2.out.below HBW3.out); have hs3 := HB3.out.size; clear hown2 hg2 W2 HBW2 HBW3 HBE2 HB2 HBE HB1))
  have U0 := Lib.hid (V.out.below HB3.out)
  have U1 := Lib.hid (V'.out.below HB3.out)
  have U2 := Lib.hid (V2.out.below HB3.out)
  clear V V' V2 A0 A1 hi hz0 hz1 hz2 hs1 hs2
  refine (betw_c U0.out U1.out (Below.refl _ _) (by omega) (by omega)).mono ?_
  rintro e w4 ⟨g, rfl, hg4, hk4, hv4, hb4, -⟩
  rw [Nat.min_self] at hv4 ⊢
  have HK4 := Lib.hid hk4
  have HV4 := Lib.hid hv4
  have HB4 := Lib.hid hb4
  clear hk4 hv4 hb4
  go_wp2_with fail
  refine (betw_c U1.out U0.out HB4.out (by omega) (by omega)).mono ?_
  rintro e w5 ⟨g', rfl, hg5, hk5, hv5, hb5, hb45⟩
  rw [Nat.min_self] at hv5 ⊢
  obtain ⟨E, hE⟩ : ∃ E, E = (w5.alloc (.cells #[.slice (some ⟨g, 0, none⟩) n n, .int .i64 (Pm.off l r)] 24)).alloc (.cells #[.slice (some ⟨g', 0, none⟩) n n, .int .i64 (Pm.off r l)] 24) := ⟨_, rfl⟩
  have hbE : Below w5.heap.size w5 E := by rw [hE]; exact ((Below.refl _ _).alloc (Nat.le_refl _) _).alloc (by simp) _
  have hpE : Pbx E w5.heap.size (some ⟨g, 0, none⟩) n n (Pm.off l r) := by rw [hE]; exact (Pbx.new _ _ _ _ _).below ((Below.refl _ _).alloc (Nat.le_refl _) _)
  have hqE : Pbx E (w5.heap.size + 1) (some ⟨g', 0, none⟩) n n (Pm.off r l) := by
    rw [hE]
    have := Pbx.new (w5.alloc (.cells #[.slice (some ⟨g, 0, none⟩) n n, .int .i64 (Pm.off l r)] 24)) (some ⟨g', 0, none⟩) n n (Pm.off r l)
    rwa [show (w5.alloc (.cells #[.slice (some ⟨g, 0, none⟩) n n, .int .i64 (Pm.off l r)] 24)).heap.size = w5.heap.size + 1 from by simp] at this
  have HBE := Lib.hid (hb5.trans (hbE.mono hb5.size))
  have NP := Lib.hid ((HV4.out.below hb45).below hbE)
  have NQ := Lib.hid (hv5.below hbE)
  have KP : Hid (Blk E g (Vm.less l r)) := Lib.hid ((HK4.out.below hb45).below hbE)
  have X0 := Lib.hid (U0.out.below HBE.out)
  have X1 := Lib.hid (U1.out.below HBE.out)
  have X2 := Lib.hid (U2.out.below HBE.out)
  have P := Lib.hid hpE
  have Q := Lib.hid hqE
  have HE := Lib.hid hE
  clear hk5 hv5 hb5 hb45 hbE hpE hqE hE HK4 HV4 HB4
  go_wp2_with fail
  rw [← HE.out]
  obtain ⟨b, hbq⟩ : ∃ b, decide (l = r) = b := ⟨_, rfl⟩
  have F1 : Hid (∀ W, Below E.heap.size E W → Calls Try.prog 15 #[.agg #[.slice (some ⟨g, 0, none⟩) n n, .int .i64 (Pm.off l r)], .slice a2 n cap2] W fun e w' => e = .returned (.int .i64 (-M)) ∧ Below E.heap.size E w') := Lib.hid fun W hb => by
    have := marg_c (c := n) (d := cap2) (o := Pm.off l r) NP.out X2.out hb (by omega) (by omega); rwa [K2.out] at this
  have F2 : Hid (∀ W, Below E.heap.size E W → Calls Try.prog 15 #[.agg #[.slice (some ⟨g', 0, none⟩) n n, .int .i64 (Pm.off r l)], .slice a2 n cap2] W fun e w' => e = .returned (.int .i64 M) ∧ Below E.heap.size E w') := Lib.hid fun W hb => by
    have := marg_c (c := n) (d := cap2) (o := Pm.off r l) NQ.out X2.out hb (by omega) (by omega); rwa [K1.out] at this
  have F3 : Hid (∀ W, Below E.heap.size E W → Calls Try.prog 17 #[.agg #[.slice (some ⟨g, 0, none⟩) n n, .int .i64 (Pm.off l r)], .agg #[.slice (some ⟨g', 0, none⟩) n n, .int .i64 (Pm.off r l)]] W fun e w' => e = .returned (.bool b) ∧ Below E.heap.size E w') := Lib.hid fun W hb => by
    have := sameP_c (c := n) (d := n) (o := Pm.off l r) (p := Pm.off r l) NP.out NQ.out hb (by omega) (by omega); rwa [K3.out, hbq] at this
  have F4 : Hid (∀ W, Below E.heap.size E W → Calls Try.prog 22 #[.slice a0 n cap0, .slice a1 n cap1] W fun e w' => e = .returned (.bool b) ∧ Below E.heap.size E w') := Lib.hid fun W hb => by
    have := same_c (c := cap0) (d := cap1) X0.out X1.out hb (by omega) (by omega); rwa [hbq] at this
  have F5 : Hid (∀ W, Below E.heap.size E W → Calls Try.prog 17 #[.agg #[.slice (some ⟨g, 0, none⟩) n n, .int .i64 (Pm.off l r)], .agg #[.slice (some ⟨g, 0, none⟩) n n, .int .i64 (Pm.off l r)]] W fun e w' => e = .returned (.bool true) ∧ Below E.heap.size E w') := Lib.hid fun W hb => by
    have := sameP_c (c := n) (d := n) (o := Pm.off l r) (p := Pm.off l r) NP.out NP.out hb (by omega) (by omega); rwa [decide_eq_true ⟨rfl, rfl⟩] at this
  have CL : Hid (∀ W, Below E.heap.size E W → W.cell? ⟨w5.heap.size, 0, none⟩ = some (.slice (some ⟨g, 0, none⟩) n n) ∧ W.cell? ⟨w5.heap.size, 1, none⟩ = some (.int .i64 (Pm.off l r)) ∧ W.cell? ⟨w5.heap.size + 1, 0, none⟩ = some (.slice (some ⟨g', 0, none⟩) n n) ∧ W.cell? ⟨w5.heap.size + 1, 1, none⟩ = some (.int .i64 (Pm.off r l))) :=
    Lib.hid fun W hb => ⟨(P.out.below hb).c0, (P.out.below hb).c1, (Q.out.below hb).c0, (Q.out.below hb).c1⟩
  have C0 := Lib.hid (Below.refl E.heap.size E).drew
  obtain ⟨k0, k1, k2, k3⟩ := CL.out E (Below.refl _ _)
  have hneg : IntKind.i64.wrap (-M) = -M := IntWalk.i64_in _ ⟨by omega, by omega⟩
  clear hbq HE K1 K2 K3
  go_region_held3 (fun w' => w'.cell? ⟨w5.heap.size, 0, none⟩ = some (.slice (some ⟨g, 0, none⟩) n n) ∧ w'.cell? ⟨w5.heap.size, 1, none⟩ = some (.int .i64 (Pm.off l r)) ∧ w'.cell? ⟨w5.heap.size + 1, 0, none⟩ = some (.slice (some ⟨g', 0, none⟩) n n) ∧ w'.cell? ⟨w5.heap.size + 1, 1, none⟩ = some (.int .i64 (Pm.off r l))) (go_keep) (first
    | (go_at_call 15; (with_reducible refine (F1.out _ C0.out).mono ?_); rintro _ Y1 ⟨rfl, hb⟩; obtain ⟨ua0, ua1, ua2, ua3⟩ := CL.out Y1 hb; have C1 := Lib.hid hb; clear hb)
    | (go_at_call 15; (with_reducible refine (F2.out _ C1.out).mono ?_); rintro _ Y2 ⟨rfl, hb⟩; obtain ⟨ub0, ub1, ub2, ub3⟩ := CL.out Y2 hb; have C2' := Lib.hid hb; clear hb)
    | (go_at_call 17; (with_reducible refine (F3.out _ C2'.out).mono ?_); rintro _ Y3 ⟨rfl, hb⟩; obtain ⟨uc0, uc1, uc2, uc3⟩ := CL.out Y3 hb; have C3 := Lib.hid hb; clear hb)
    | (go_at_call 22; (with_reducible refine (F4.out _ C3.out).mono ?_); rintro _ Y4 ⟨rfl, hb⟩; obtain ⟨ud0, ud1, ud2, ud3⟩ := CL.out Y4 hb; have C4 := Lib.hid hb; clear hb)
    | (go_at_call 17; (with_reducible refine (F5.out _ C4.out).mono ?_); rintro _ Y5 ⟨rfl, hb⟩; obtain ⟨ue0, ue1, ue2, ue3⟩ := CL.out Y5 hb; have C5 := Lib.hid hb; clear hb))
  clear ua0 ua1 ua2 ua3 ub0 ub1 ub2 ub3 uc0 uc1 uc2 uc3 ud0 ud1 ud2 ud3 k0 k1 k2 k3 F1 F2 F3 F4 F5 C0 C1 C2' C3 C4 hneg
  obtain ⟨x, tl, hx⟩ : ∃ x tl, Vm.less l r = x :: tl := by
    have h4 := K4.out
    cases hq : Vm.less l r with
    | nil => rw [hq] at h4; simp at h4; omega
    | cons x tl => exact ⟨x, tl, rfl⟩
  have hbx := Vm.less_in l r x (by rw [hx]; exact .head _)
  obtain ⟨x0, x1⟩ := hbx
  have hrow := KP.out.below C5.out
  rw [hx] at hrow
  have kg : Y5.cell? ⟨g, 0, none⟩ = some (.int .i32 x) := by rw [cell_of_row _ _ _ _ _ _ hrow]; rfl
  have fg := frozen_of_row Y5 g 0 _ _ hrow
  obtain ⟨z, hz⟩ : ∃ z, IntKind.i32.wrap (x + 1) = z := ⟨_, rfl⟩
  clear hx hrow
  go_wp2
  go_region
  have HZ := Lib.hid (show Below w3.heap.size w3 ((Y5.setCell ⟨g, 0, none⟩ (.int .i32 z)).drew) from ((HBE.out.trans (C5.out.mono HBE.out.size)).setCell hg4 _).drew)
  obtain ⟨Z, hZ⟩ : ∃ Z, Z = (Y5.setCell ⟨g, 0, none⟩ (.int .i32 z)).drew := ⟨_, rfl⟩
  rw [← hZ] at HZ ⊢
  clear hZ kg fg ue0 ue1 ue2 ue3 C5 hz
  go_wp2_with fail
  refine (refSame_c U0.out W3.out HZ.out (by omega) (by omega)).mono ?_
  rintro e x1 ⟨rfl, hb⟩
  have D1 := Lib.hid hb
  clear hb
  rw [decide_eq_true rfl]
  go_wp2_with fail
  refine (refSame_c U1.out R3.out D1.out (by omega) (by omega)).mono ?_
  rintro e x2 ⟨rfl, hb⟩
  have D2 := Lib.hid hb
  clear hb D1
  rw [decide_eq_true rfl]
  go_wp2
  go_ret
  exact ⟨rfl, HB3.out.trans (D2.out.mono hs3)⟩

set_option maxHeartbeats 1600000 in
set_option maxRecDepth 100000 in
theorem walk (a0 : Option Addr) (len0 cap0 : Nat) (z0 : List Int) (a1 : Option Addr) (len1 cap1 : Nat) (z1 : List Int) (a2 : Option Addr) (len2 cap2 : Nat) (z2 : List Int) (w : World) (w0 : IsRow .i32 w a0 len0 cap0 z0) (w1 : IsRow .i32 w a1 len1 cap1 z1) (w2 : IsRow .i32 w a2 len2 cap2 z2) :
    Calls Try.prog 6 #[.slice a0 len0 cap0, .slice a1 len1 cap1, .slice a2 len2 cap2] w fun e w' => e = .returned (.bool true) ∧ Below w.heap.size w w' := by
  obtain ⟨l, hV, m0, hA0⟩ := w0.vec
  obtain ⟨r, hV', m1, hA1⟩ := w1.vec
  obtain ⟨s, hV2, m2, -⟩ := w2.vec
  have V := Lib.hid hV
  have V' := Lib.hid hV'
  have V2 := Lib.hid hV2
  clear w0 w1 w2 hV hV' hV2
  by_cases g : 1024 < len0
  · go_enter Try.func6, Try.ntmps6
    go_wp2_with fail
    refine (awake_any _).mono ?_
    rintro e w1 ⟨rfl, hb1⟩
    have HB1 := Lib.hid hb1
    clear hb1
    go_wp2
    go_ret
    exact ⟨rfl, HB1.out⟩
  have l0 : len0 ≤ 1024 := by omega
  clear g
  obtain ⟨p, hp⟩ : ∃ p, Vm.chk l (len0 : Int) = p := ⟨_, rfl⟩
  have HP := Lib.hid hp
  clear hp
  by_cases c0 : p = 0
  case neg =>
    have q := ne_bool c0
    clear c0
    go_enter Try.func6, Try.ntmps6
    go_wp2_with fail
    refine (awake_any _).mono ?_
    rintro e w1 ⟨rfl, hb1⟩
    have HB1 := Lib.hid hb1
    clear hb1
    go_wp2_with fail
    refine (check_c V.out HB1.out m0).mono ?_
    rintro e w2 ⟨rfl, rfl⟩
    rw [HP.out]
    go_wp2
    go_ret
    exact ⟨rfl, HB1.out⟩
  subst c0
  obtain ⟨p, hp⟩ : ∃ p, Vm.chk r (len0 : Int) = p := ⟨_, rfl⟩
  have HP' := Lib.hid hp
  clear hp
  by_cases c0 : p = 0
  case neg =>
    have q := ne_bool c0
    clear c0
    go_enter Try.func6, Try.ntmps6
    go_wp2_with fail
    refine (awake_any _).mono ?_
    rintro e w1 ⟨rfl, hb1⟩
    have HB1 := Lib.hid hb1
    clear hb1
    go_wp2_with fail
    refine (check_c V.out HB1.out m0).mono ?_
    rintro e w2 ⟨rfl, rfl⟩
    rw [HP.out]
    go_wp2_with fail
    refine (check_c V'.out HB1.out m1).mono ?_
    rintro e w2 ⟨rfl, rfl⟩
    rw [HP'.out]
    go_wp2
    go_ret
    exact ⟨rfl, HB1.out⟩
  subst c0
  obtain ⟨p, hp⟩ : ∃ p, Vm.chk s (len0 : Int) = p := ⟨_, rfl⟩
  have HP2 := Lib.hid hp
  clear hp
  by_cases c0 : p = 0
  case neg =>
    have q := ne_bool c0
    clear c0
    go_enter Try.func6, Try.ntmps6
    go_wp2_with fail
    refine (awake_any _).mono ?_
    rintro e w1 ⟨rfl, hb1⟩
    have HB1 := Lib.hid hb1
    clear hb1
    go_wp2_with fail
    refine (check_c V.out HB1.out m0).mono ?_
    rintro e w2 ⟨rfl, rfl⟩
    rw [HP.out]
    go_wp2_with fail
    refine (check_c V'.out HB1.out m1).mono ?_
    rintro e w2 ⟨rfl, rfl⟩
    rw [HP'.out]
    go_wp2_with fail
    refine (check_c V2.out HB1.out m2).mono ?_
    rintro e w2 ⟨rfl, rfl⟩
    rw [HP2.out]
    go_wp2
    go_ret
    exact ⟨rfl, HB1.out⟩
  subst c0
  have e1 : len1 = len0 := by have := V'.out.length; have := (Vm.chk_ok HP'.out).2.2.1; omega
  have e2 : len2 = len0 := by have := V2.out.length; have := (Vm.chk_ok HP2.out).2.2.1; omega
  subst e1
  subst e2
  exact good_walk a0 a1 a2 _ cap0 cap1 cap2 l r s w V V' V2 (Lib.hid hA0) (Lib.hid hA1) l0 HP.out HP'.out HP2.out
theorem own : ownKnob Try.prog.godebug = none := by kernel_rfl
theorem laidOut : laidOutB Try.prog = true := by kernel_rfl
set_option maxRecDepth 100000 in
theorem lifted (os : Os) (started : os.Started) (H : Type) (enc : TypeId × Value → H) :
    ReturnsInHanded {} Try.checked os 6 .any (Rows.planeTurnsSpec.pre6 enc Try.prog Try.f6 Rows.planeTurnsRow.domain false) (Rows.planeTurnsSpec.post enc Try.prog Try.f6 false true false false) := by
  refine returnsInHanded_of_change (C := Try.checked) own started (by kernel_rfl) Try.func6
    (ChangeSpec.witness6 (enc := enc) (C := Try.checked) false ⟨#[], #[.slice none 0 0, .slice none 0 0, .slice none 0 0], []⟩ 8 (by kernel_rfl) (by kernel_rfl) (by kernel_rfl) (by kernel_rfl)) ?_
  intro W base args ds gs before hval0 hW hcnd _
  have hval : ∀ (j : Nat) t v, Try.f6.params[j]? = some t → args[j]? = some v → Value.okWide Try.prog W .any base t v := hval0
  have hW' := hW
  obtain ⟨p, q, hA0, hV, rfl, hfz, hnd⟩ := hW
  have hA : DataW.TrodAll enc Try.prog W 0 (fun _ => true) true Try.f6.params.toList args.toList ds p := hA0
  rw [Try.params6] at hA hval
  obtain ⟨v0, vs0, d0, ds0, p0, q0, hargs, rfl, rfl, h0, r0⟩ := trodAll_cons hA
  obtain ⟨v1, vs1, d1, ds1, p1, q1, rfl, rfl, rfl, h1, r1⟩ := trodAll_cons r0
  obtain ⟨v2, vs2, d2, ds2, p2, q2, rfl, rfl, rfl, h2, r2⟩ := trodAll_cons r1
  obtain ⟨rfl, rfl, rfl⟩ := trodAll_nil r2
  obtain rfl : args = #[v0, v1, v2] := by cases args; simp_all
  obtain ⟨rfl, rfl⟩ := trodVars_none hV
  obtain ⟨a0, len0, cap0, rfl⟩ := okWide_slice Try.underlying22 (hval 0 22 v0 rfl rfl)
  have k0 := h0
  have lt0 : ∀ x ∈ p0, x.block < W.heap.size := by obtain ⟨m, hm⟩ := k0; exact DataW.trod_lt m _ _ _ hm
  obtain ⟨z0, w0⟩ : ∃ zs, IsRow .i32 W a0 len0 cap0 zs := by
    obtain ⟨fuel, hf⟩ := h0
    rcases open_ints Try.underlying22 Try.underlying21 (by kernel_rfl) hf with ⟨hcs, _⟩ | ⟨x, l, c, zs, hcs, _, hl, hm, hz, _, hcell, hwz⟩
    · simp [Value.cells] at hcs
      obtain ⟨rfl, rfl, rfl⟩ := hcs
      exact ⟨[], .inl ⟨rfl, rfl, rfl, rfl⟩⟩
    · simp [Value.cells] at hcs
      obtain ⟨rfl, rfl, rfl⟩ := hcs
      exact ⟨zs, .inr ⟨_, rfl, hl, hm, by simpa using hz, hcell, hwz⟩⟩
  obtain ⟨a1, len1, cap1, rfl⟩ := okWide_slice Try.underlying22 (hval 1 22 v1 rfl rfl)
  have k1 := h1
  have lt1 : ∀ x ∈ p1, x.block < W.heap.size := by obtain ⟨m, hm⟩ := k1; exact DataW.trod_lt m _ _ _ hm
  obtain ⟨z1, w1⟩ : ∃ zs, IsRow .i32 W a1 len1 cap1 zs := by
    obtain ⟨fuel, hf⟩ := h1
    rcases open_ints Try.underlying22 Try.underlying21 (by kernel_rfl) hf with ⟨hcs, _⟩ | ⟨x, l, c, zs, hcs, _, hl, hm, hz, _, hcell, hwz⟩
    · simp [Value.cells] at hcs
      obtain ⟨rfl, rfl, rfl⟩ := hcs
      exact ⟨[], .inl ⟨rfl, rfl, rfl, rfl⟩⟩
    · simp [Value.cells] at hcs
      obtain ⟨rfl, rfl, rfl⟩ := hcs
      exact ⟨zs, .inr ⟨_, rfl, hl, hm, by simpa using hz, hcell, hwz⟩⟩
  obtain ⟨a2, len2, cap2, rfl⟩ := okWide_slice Try.underlying22 (hval 2 22 v2 rfl rfl)
  have k2 := h2
  have lt2 : ∀ x ∈ p2, x.block < W.heap.size := by obtain ⟨m, hm⟩ := k2; exact DataW.trod_lt m _ _ _ hm
  obtain ⟨z2, w2⟩ : ∃ zs, IsRow .i32 W a2 len2 cap2 zs := by
    obtain ⟨fuel, hf⟩ := h2
    rcases open_ints Try.underlying22 Try.underlying21 (by kernel_rfl) hf with ⟨hcs, _⟩ | ⟨x, l, c, zs, hcs, _, hl, hm, hz, _, hcell, hwz⟩
    · simp [Value.cells] at hcs
      obtain ⟨rfl, rfl, rfl⟩ := hcs
      exact ⟨[], .inl ⟨rfl, rfl, rfl, rfl⟩⟩
    · simp [Value.cells] at hcs
      obtain ⟨rfl, rfl, rfl⟩ := hcs
      exact ⟨zs, .inr ⟨_, rfl, hl, hm, by simpa using hz, hcell, hwz⟩⟩
  clear hA0 hval0
  refine (walk a0 len0 cap0 z0 a1 len1 cap1 z1 a2 len2 cap2 z2 W w0 w1 w2).mono fun e W' ⟨he, bel⟩ => ?_
  subst he
  exact ⟨_, rfl, _, _, _, [], _, [], hW', trodAll_mk1 (shut_bool Try.underlying4 _), (trodAll_cons_mk (Below.trod laidOut (by kernel_rfl) (of_decide_eq_true (by kernel_rfl)) k0 bel lt0) (trodAll_cons_mk (Below.trod laidOut (by kernel_rfl) (of_decide_eq_true (by kernel_rfl)) k1 bel lt1) (trodAll_cons_mk (Below.trod laidOut (by kernel_rfl) (of_decide_eq_true (by kernel_rfl)) k2 bel lt2) trodAll_mk0))), rfl, bel.frame _, fun h => by cases h⟩
theorem over : Rows.planeTurnsRow.holds Try.pinned (OpenSpec.ofChange Rows.planeTurnsSpec) :=
  OpenClaim.holds_of_wide 6 Try.f6 rfl rfl rfl rfl rfl rfl rfl ⟨rfl, rfl, rfl, rfl, rfl⟩ rfl rfl rfl rfl rfl (by kernel_rfl) Try.func6 (by kernel_rfl)
    (of_decide_eq_true (by kernel_rfl)) (by unfold Func.isWrapper; first | (rw [if_pos (by decide +kernel)]; kernel_rfl) | (rw [if_neg (by decide +kernel)]; exact ⟨rfl, rfl⟩))
    (fun os started H enc _ => lifted os started H enc)
/-- the statement -/
theorem proved : Rows.PlaneTurnsSaid := over
#print axioms proved
end Go.Proofs.Ytkkpngkninelmaa.planeTurns
