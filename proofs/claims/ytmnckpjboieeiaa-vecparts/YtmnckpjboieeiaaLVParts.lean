/-
  VecParts holds for every input: of vectors that are put together of two parts the sum of products, and how far they are, are both parts' together. No condition.
-/
import Derived.Test.YtmnckpjboieeiaaVAll
import Derived.ProofKit
import Derived.OpenShut
import Derived.ShutString
import Derived.ChangeOld
import Derived.WalkSmall
namespace Go.Proofs.Ytmnckpjboieeiaa.vecParts
open Go.ChangeShapes Go.WideShapes Go.ChangeAt Go.RowKit
open Go.ChangeMaps (open_string shut_string)
set_option linter.unusedVariables false

theorem grown_below {w0 w w' : World} {B : Nat} {row : Option Nat} (hb : Below B w0 w) (hg : w.grownBy w' row) (hB : B ≤ w.heap.size) (hr : ∀ k, row = some k → B ≤ k) : Below B w0 w' := hb.grown hg hB hr
theorem built_ge {B b : Nat} (h : B ≤ b) : ∀ k, (Value.slice (some ⟨b, 0, none⟩) 0 0).ownBlock = some k → B ≤ k := by
  intro k hk
  simp [Value.ownBlock] at hk
  omega
theorem of_own {w : World} {base : Nat} {A : Option Addr} {n c : Nat} {l r : List Int} (h : w.ownsRow base 21 1 (.slice A n c) n (l.map (Value.int .i32) ++ r.map (Value.int .i32)))
    (hl : ∀ x ∈ l, -2147483648 ≤ x ∧ x ≤ 2147483647) (hr : ∀ x ∈ r, -2147483648 ≤ x ∧ x ≤ 2147483647) : Vec w A n (l ++ r) := by
  rw [← List.map_append] at h
  exact ⟨Lst.of_own h, fun x hx => (List.mem_append.1 hx).elim (hl x) (hr x)⟩

set_option maxHeartbeats 1600000 in
set_option maxRecDepth 100000 in
theorem good_walk (a0 a1 a2 a3 : Option Addr) (n m cap0 cap1 cap2 cap3 : Nat) (l r t u : List Int) (w : World) (V0 : Hid (Vec w a0 n l)) (V1 : Hid (Vec w a1 n r)) (V2 : Hid (Vec w a2 m t)) (V3 : Hid (Vec w a3 m u))
    (A0 : Hid (a0 = none → cap0 = 0)) (A1 : Hid (a1 = none → cap1 = 0)) (A2 : Hid (a2 = none → cap2 = 0)) (A3 : Hid (a3 = none → cap3 = 0)) (ln : n ≤ 1100) (lm : m ≤ 1100) :
    Calls Try.prog 7 #[.slice a0 n cap0, .slice a1 n cap1, .slice a2 m cap2, .slice a3 m cap3] w fun e w' => e = .returned (.bool true) ∧ Below w.heap.size w w' := by
  obtain ⟨i0, hi, hz0, hz1, hz2⟩ := info_parts Try.infoI32
  have hlr : l.length = r.length := by rw [V0.out.length, V1.out.length]
  obtain ⟨p, hp⟩ : ∃ p, Vm.dot l r = p := ⟨_, rfl⟩
  obtain ⟨q, hq⟩ : ∃ q, Vm.dot t u = q := ⟨_, rfl⟩
  obtain ⟨f, hf⟩ : ∃ f, Vm.far l r = f := ⟨_, rfl⟩
  obtain ⟨g, hg⟩ : ∃ g, Vm.far t u = g := ⟨_, rfl⟩
  have p0 := Vm.dot_lo l r
  have p1 := Vm.dot_hi l r
  have q0 := Vm.dot_lo t u
  have q1 := Vm.dot_hi t u
  have f0 := Vm.far_lo l r
  have f1 := Vm.far_hi l r
  have g0 := Vm.far_lo t u
  have g1 := Vm.far_hi t u
  have k1 := Vm.dot_app l r t u hlr
  have k2 := Vm.far_app l r t u hlr
  rw [hp, hq] at k1
  rw [hf, hg] at k2
  rw [hp] at p0 p1
  rw [hq] at q0 q1
  rw [hf] at f0 f1
  rw [hg] at g0 g1
  have K1 := Lib.hid k1
  have K2 := Lib.hid k2
  have KP := Lib.hid hp
  have KQ := Lib.hid hq
  have KF := Lib.hid hf
  have KG := Lib.hid hg
  have KS := Lib.hid (Vm.app_inj l r t u hlr)
  clear hlr hp hq hf hg k1 k2
  go_enter Try.func7, Try.ntmps7
  go_wp2_with fail
  refine (awake_any _).mono ?_
  rintro e w1 ⟨rfl, hb1⟩
  have HB1 := Lib.hid hb1
  have hs1 := hb1.size
  clear hb1
  go_wp2_with fail
  refine (few_yes _ _ _ _ _ _ _ ln lm).mono ?_
  rintro e w2 ⟨rfl, rfl⟩
  have HBE := Lib.hid (HB1.out.alloc hs1 (.cells #[] 21))
  go_wp2_with (first
    | (at_builtin; refine append_lst _ rfl (.tmp 31) (.tmp 32) 22 rfl w1.heap.size 21 i0 (.int .i32 0) 4 Try.underlying22 hi hz0 hz1 hz2 rfl (.slice (some ⟨w1.heap.size, 0, none⟩) 0 0) 0 [] rfl (own_empty w1 21) w.heap.size a0 n cap0 (l.map (Value.int .i32)) rfl A0.out (V0.out.1.below HBE.out) (ints_one .i32 l) (by unfold maxLen; omega) (by omega) (by simp) ?_; intro v1 w2 hown1 hg1; have HB2 := Lib.hid (grown_below HBE.out hg1 (by simp; omega) (built_ge hs1)); rw [Nat.zero_add, List.nil_append] at hown1; have hs2 := hg1.size; have HO1 := Lib.hid hown1; clear hown1 hg1)
    | (at_builtin; refine append_lst _ rfl (.tmp 33) (.tmp 34) 22 rfl w1.heap.size 21 i0 (.int .i32 0) 4 Try.underlying22 hi hz0 hz1 hz2 rfl v1 n (l.map (Value.int .i32)) rfl HO1.out w.heap.size a2 m cap2 (t.map (Value.int .i32)) rfl A2.out (V2.out.1.below HB2.out) (ints_one .i32 t) (by unfold maxLen; omega) (by omega) (by simp at hs2; omega) ?_; intro v2 w3 hown2 hg2; have HB3 := Lib.hid (grown_below HB2.out hg2 (HB2.out.size) (fun k hk => Nat.le_trans hs1 (ownBlock_ge HO1.out k hk))); obtain ⟨A, c, hv2⟩ := own_form hown2; subst hv2; have HX3 := Lib.hid (of_own hown2 V0.out.2 V2.out.2); have hs3 := HB3.out.size; have HBE3 := Lib.hid (HB3.out.alloc hs3 (.cells #[] 21)); have HBW3 := Lib.hid ((Below.refl _ w3).alloc (Nat.le_refl _) (.cells #[] 21)); clear hown2 hg2 HB2 HO1 hs2)
    | (at_builtin; refine append_lst _ rfl (.tmp 36) (.tmp 37) 22 rfl w3.heap.size 21 i0 (.int .i32 0) 4 Try.underlying22 hi hz0 hz1 hz2 rfl (.slice (some ⟨w3.heap.size, 0, none⟩) 0 0) 0 [] rfl (own_empty w3 21) w.heap.size a1 n cap1 (r.map (Value.int .i32)) rfl A1.out (V1.out.1.below HBE3.out) (ints_one .i32 r) (by unfold maxLen; omega) (by omega) (by simp) ?_; intro v3 w4 hown3 hg3; have HB4 := Lib.hid (grown_below HBE3.out hg3 (by simp; omega) (built_ge hs3)); have HBW4 := Lib.hid (grown_below HBW3.out hg3 (by simp) (built_ge (Nat.le_refl _))); rw [Nat.zero_add, List.nil_append] at hown3; have hs4 := hg3.size; have HO3 := Lib.hid hown3; clear hown3 hg3)
    | (at_builtin; refine append_lst _ rfl (.tmp 38) (.tmp 39) 22 rfl w3.heap.size 21 i0 (.int .i32 0) 4 Try.underlying22 hi hz0 hz1 hz2 rfl v3 n (r.map (Value.int .i32)) rfl HO3.out w.heap.size a3 m cap3 (u.map (Value.int .i32)) rfl A3.out (V3.out.1.below HB4.out) (ints_one .i32 u) (by unfold maxLen; omega) (by omega) (by simp at hs4; omega) ?_; intro v4 w5 hown4 hg4; have HB5 := Lib.hid (grown_below HB4.out hg4 (HB4.out.size) (fun k hk => Nat.le_trans hs3 (ownBlock_ge HO3.out k hk))); have HBW5 := Lib.hid (grown_below HBW4.out hg4 (HBW4.out.size) (fun k hk => ownBlock_ge HO3.out k hk)); obtain ⟨A', c', hv4⟩ := own_form hown4; subst hv4; have HY := Lib.hid (of_own hown4 V1.out.2 V3.out.2); have HX := Lib.hid (HX3.out.below HBW5.out); clear hown4 hg4 HB4 HBW4 HO3 hs4 HX3 HBW3 HBW5 HBE3 HB3 HBE HB1))
  have U0 := Lib.hid (V0.out.below HB5.out)
  have U1 := Lib.hid (V1.out.below HB5.out)
  have U2 := Lib.hid (V2.out.below HB5.out)
  have U3 := Lib.hid (V3.out.below HB5.out)
  have hs5 := HB5.out.size
  clear V0 V1 V2 V3 A0 A1 A2 A3 hi hz0 hz1 hz2 hs1 hs3
  refine (dot_c HX.out HY.out (Below.refl _ _) (by omega) (by omega)).mono ?_
  rintro e x1 ⟨rfl, hb⟩
  rw [K1.out]
  have C1 := Lib.hid hb
  clear hb 
  go_wp2_with fail
  refine (dot_c U0.out U1.out C1.out (by omega) (by omega)).mono ?_
  rintro e x2 ⟨rfl, hb⟩
  rw [KP.out]
  have C2 := Lib.hid hb
  clear hb C1
  go_wp2_with fail
  refine (dot_c U2.out U3.out C2.out (by omega) (by omega)).mono ?_
  rintro e x3 ⟨rfl, hb⟩
  rw [KQ.out]
  have C3 := Lib.hid hb
  clear hb C2
  go_wp2_with fail
  refine (far_c HX.out HY.out C3.out (by omega) (by omega)).mono ?_
  rintro e x4 ⟨rfl, hb⟩
  rw [K2.out]
  have C4 := Lib.hid hb
  clear hb C3
  go_wp2_with fail
  refine (far_c U0.out U1.out C4.out (by omega) (by omega)).mono ?_
  rintro e x5 ⟨rfl, hb⟩
  rw [KF.out]
  have C5 := Lib.hid hb
  clear hb C4
  go_wp2_with fail
  refine (far_c U2.out U3.out C5.out (by omega) (by omega)).mono ?_
  rintro e x6 ⟨rfl, hb⟩
  rw [KG.out]
  have C6 := Lib.hid hb
  clear hb C5
  by_cases e : l = r
  · have ed := Lib.hid (show decide (l = r) = true from by simp [e])
    have es : Hid (decide (l ++ t = r ++ u) = decide (t = u)) := by
      show decide (l ++ t = r ++ u) = decide (t = u)
      simp [e]
    clear e
    go_wp2_with fail
    refine (same_c HX.out HY.out C6.out (by omega) (by omega)).mono ?_
    rintro e x7 ⟨rfl, hb⟩
    rw [es.out]
    have C7 := Lib.hid hb
    clear hb C6
    go_wp2_with fail
    refine (same_c U0.out U1.out C7.out (by omega) (by omega)).mono ?_
    rintro e x8 ⟨rfl, hb⟩
    rw [ed.out]
    have C8 := Lib.hid hb
    clear hb C7
    go_wp2_with fail
    refine (same_c U2.out U3.out C8.out (by omega) (by omega)).mono ?_
    rintro e x9 ⟨rfl, hb⟩
    have C9 := Lib.hid hb
    clear hb C8
    go_wp2
    go_ret
    exact ⟨ret_bool (by simp), HB5.out.trans (C9.out.mono hs5)⟩
  · have ed := Lib.hid (show decide (l = r) = false from by simp [e])
    have es : Hid (decide (l ++ t = r ++ u) = false) := by
      show decide (l ++ t = r ++ u) = false
      simp only [decide_eq_false_iff_not]
      exact fun h => e (KS.out.1 h).1
    clear e
    go_wp2_with fail
    refine (same_c HX.out HY.out C6.out (by omega) (by omega)).mono ?_
    rintro e x7 ⟨rfl, hb⟩
    rw [es.out]
    have C7 := Lib.hid hb
    clear hb C6
    go_wp2_with fail
    refine (same_c U0.out U1.out C7.out (by omega) (by omega)).mono ?_
    rintro e x8 ⟨rfl, hb⟩
    rw [ed.out]
    have C8 := Lib.hid hb
    clear hb C7
    go_wp2
    go_ret
    exact ⟨ret_bool (by simp), HB5.out.trans (C8.out.mono hs5)⟩

set_option maxHeartbeats 1600000 in
set_option maxRecDepth 100000 in
theorem walk (a0 : Option Addr) (len0 cap0 : Nat) (z0 : List Int) (a1 : Option Addr) (len1 cap1 : Nat) (z1 : List Int) (a2 : Option Addr) (len2 cap2 : Nat) (z2 : List Int) (a3 : Option Addr) (len3 cap3 : Nat) (z3 : List Int) (w : World)
    (w0 : IsRow .i32 w a0 len0 cap0 z0) (w1 : IsRow .i32 w a1 len1 cap1 z1) (w2 : IsRow .i32 w a2 len2 cap2 z2) (w3 : IsRow .i32 w a3 len3 cap3 z3) :
    Calls Try.prog 7 #[.slice a0 len0 cap0, .slice a1 len1 cap1, .slice a2 len2 cap2, .slice a3 len3 cap3] w fun e w' => e = .returned (.bool true) ∧ Below w.heap.size w w' := by
  obtain ⟨l, hV0, m0, A0⟩ := w0.vec
  obtain ⟨r, hV1, m1, A1⟩ := w1.vec
  obtain ⟨t, hV2, m2, A2⟩ := w2.vec
  obtain ⟨u, hV3, m3, A3⟩ := w3.vec
  clear w0 w1 w2 w3
  by_cases g : len0 = len1
  case neg =>
    have q : ((len0 : Int) != (len1 : Int)) = true := by simp; omega
    clear g hV0 hV1 hV2 hV3 A0 A1 A2 A3
    go_enter Try.func7, Try.ntmps7
    go_wp2_with fail
    refine (awake_any _).mono ?_
    rintro e w1 ⟨rfl, hb1⟩
    have HB1 := Lib.hid hb1
    clear hb1
    go_wp2
    go_ret
    exact ⟨rfl, HB1.out⟩
  by_cases g2 : len2 = len3
  case neg =>
    have q : ((len2 : Int) != (len3 : Int)) = true := by simp; omega
    clear g2 hV0 hV1 hV2 hV3 A0 A1 A2 A3
    rw [← g]
    clear g
    go_enter Try.func7, Try.ntmps7
    go_wp2_with fail
    refine (awake_any _).mono ?_
    rintro e w1 ⟨rfl, hb1⟩
    have HB1 := Lib.hid hb1
    clear hb1
    go_wp2
    go_ret
    exact ⟨rfl, HB1.out⟩
  rw [← g] at hV1
  rw [← g2] at hV3
  rw [← g, ← g2]
  clear g g2
  by_cases g : 1100 < len0 ∨ 1100 < len2
  · clear hV0 hV1 hV2 hV3 A0 A1 A2 A3
    go_enter Try.func7, Try.ntmps7
    go_wp2_with fail
    refine (awake_any _).mono ?_
    rintro e w1 ⟨rfl, hb1⟩
    have HB1 := Lib.hid hb1
    clear hb1
    go_wp2_with fail
    refine (few_no _ _ _ _ _ _ _ g).mono ?_
    rintro e w2 ⟨rfl, rfl⟩
    go_wp2
    go_ret
    exact ⟨rfl, HB1.out⟩
  exact good_walk a0 a1 a2 a3 len0 len2 cap0 cap1 cap2 cap3 l r t u w (Lib.hid hV0) (Lib.hid hV1) (Lib.hid hV2) (Lib.hid hV3) (Lib.hid A0) (Lib.hid A1) (Lib.hid A2) (Lib.hid A3) (by omega) (by omega)
theorem own : ownKnob Try.prog.godebug = none := by kernel_rfl
theorem laidOut : laidOutB Try.prog = true := by kernel_rfl
set_option maxRecDepth 100000 in
theorem lifted (os : Os) (started : os.Started) (H : Type) (enc : TypeId × Value → H) :
    ReturnsInHanded {} Try.checked os 7 .any (Rows.vecPartsSpec.pre6 enc Try.prog Try.f7 Rows.vecPartsRow.domain false) (Rows.vecPartsSpec.post enc Try.prog Try.f7 false true false false) := by
  refine returnsInHanded_of_change (C := Try.checked) own started (by kernel_rfl) Try.func7
    (ChangeSpec.witness6 (enc := enc) (C := Try.checked) false ⟨#[], #[.slice none 0 0, .slice none 0 0, .slice none 0 0, .slice none 0 0], []⟩ 8 (by kernel_rfl) (by kernel_rfl) (by kernel_rfl) (by kernel_rfl)) ?_
  intro W base args ds gs before hval0 hW hcnd _
  have hval : ∀ (j : Nat) t v, Try.f7.params[j]? = some t → args[j]? = some v → Value.okWide Try.prog W .any base t v := hval0
  have hW' := hW
  obtain ⟨p, q, hA0, hV, rfl, hfz, hnd⟩ := hW
  have hA : DataW.TrodAll enc Try.prog W 0 (fun _ => true) true Try.f7.params.toList args.toList ds p := hA0
  rw [Try.params7] at hA hval
  obtain ⟨v0, vs0, d0, ds0, p0, q0, hargs, rfl, rfl, h0, r0⟩ := trodAll_cons hA
  obtain ⟨v1, vs1, d1, ds1, p1, q1, rfl, rfl, rfl, h1, r1⟩ := trodAll_cons r0
  obtain ⟨v2, vs2, d2, ds2, p2, q2, rfl, rfl, rfl, h2, r2⟩ := trodAll_cons r1
  obtain ⟨v3, vs3, d3, ds3, p3, q3, rfl, rfl, rfl, h3, r3⟩ := trodAll_cons r2
  obtain ⟨rfl, rfl, rfl⟩ := trodAll_nil r3
  obtain rfl : args = #[v0, v1, v2, v3] := by cases args; simp_all
  obtain ⟨rfl, rfl⟩ := trodVars_none hV
  obtain ⟨a0, len0, cap0, rfl⟩ := okWide_slice Try.underlying22 (hval 0 22 v0 rfl rfl)
  have k0 := h0
  have lt0 : ∀ x ∈ p0, x.block < W.heap.size := by obtain ⟨m, hm⟩ := k0; exact DataW.trod_lt m _ _ _ hm
  obtain ⟨z0, w0⟩ : ∃ zs, IsRow .i32 W a0 len0 cap0 zs := by
    obtain ⟨fuel, hf⟩ := h0
    rcases open_ints Try.underlying22 Try.underlying21 (by kernel_rfl) hf with ⟨hcs, _⟩ | ⟨x, l, c, zs, hcs, _, hl, hm, hz, _, hcell, hwz⟩
    · simp [Value.cells] at hcs
      obtain ⟨rfl, rfl, rfl⟩ := hcs
      exact ⟨[], .inl ⟨rfl, rfl, rfl, rfl⟩⟩
    · simp [Value.cells] at hcs
      obtain ⟨rfl, rfl, rfl⟩ := hcs
      exact ⟨zs, .inr ⟨_, rfl, hl, hm, by simpa using hz, hcell, hwz⟩⟩
  obtain ⟨a1, len1, cap1, rfl⟩ := okWide_slice Try.underlying22 (hval 1 22 v1 rfl rfl)
  have k1 := h1
  have lt1 : ∀ x ∈ p1, x.block < W.heap.size := by obtain ⟨m, hm⟩ := k1; exact DataW.trod_lt m _ _ _ hm
  obtain ⟨z1, w1⟩ : ∃ zs, IsRow .i32 W a1 len1 cap1 zs := by
    obtain ⟨fuel, hf⟩ := h1
    rcases open_ints Try.underlying22 Try.underlying21 (by kernel_rfl) hf with ⟨hcs, _⟩ | ⟨x, l, c, zs, hcs, _, hl, hm, hz, _, hcell, hwz⟩
    · simp [Value.cells] at hcs
      obtain ⟨rfl, rfl, rfl⟩ := hcs
      exact ⟨[], .inl ⟨rfl, rfl, rfl, rfl⟩⟩
    · simp [Value.cells] at hcs
      obtain ⟨rfl, rfl, rfl⟩ := hcs
      exact ⟨zs, .inr ⟨_, rfl, hl, hm, by simpa using hz, hcell, hwz⟩⟩
  obtain ⟨a2, len2, cap2, rfl⟩ := okWide_slice Try.underlying22 (hval 2 22 v2 rfl rfl)
  have k2 := h2
  have lt2 : ∀ x ∈ p2, x.block < W.heap.size := by obtain ⟨m, hm⟩ := k2; exact DataW.trod_lt m _ _ _ hm
  obtain ⟨z2, w2⟩ : ∃ zs, IsRow .i32 W a2 len2 cap2 zs := by
    obtain ⟨fuel, hf⟩ := h2
    rcases open_ints Try.underlying22 Try.underlying21 (by kernel_rfl) hf with ⟨hcs, _⟩ | ⟨x, l, c, zs, hcs, _, hl, hm, hz, _, hcell, hwz⟩
    · simp [Value.cells] at hcs
      obtain ⟨rfl, rfl, rfl⟩ := hcs
      exact ⟨[], .inl ⟨rfl, rfl, rfl, rfl⟩⟩
    · simp [Value.cells] at hcs
      obtain ⟨rfl, rfl, rfl⟩ := hcs
      exact ⟨zs, .inr ⟨_, rfl, hl, hm, by simpa using hz, hcell, hwz⟩⟩
  obtain ⟨a3, len3, cap3, rfl⟩ := okWide_slice Try.underlying22 (hval 3 22 v3 rfl rfl)
  have k3 := h3
  have lt3 : ∀ x ∈ p3, x.block < W.heap.size := by obtain ⟨m, hm⟩ := k3; exact DataW.trod_lt m _ _ _ hm
  obtain ⟨z3, w3⟩ : ∃ zs, IsRow .i32 W a3 len3 cap3 zs := by
    obtain ⟨fuel, hf⟩ := h3
    rcases open_ints Try.underlying22 Try.underlying21 (by kernel_rfl) hf with ⟨hcs, _⟩ | ⟨x, l, c, zs, hcs, _, hl, hm, hz, _, hcell, hwz⟩
    · simp [Value.cells] at hcs
      obtain ⟨rfl, rfl, rfl⟩ := hcs
      exact ⟨[], .inl ⟨rfl, rfl, rfl, rfl⟩⟩
    · simp [Value.cells] at hcs
      obtain ⟨rfl, rfl, rfl⟩ := hcs
      exact ⟨zs, .inr ⟨_, rfl, hl, hm, by simpa using hz, hcell, hwz⟩⟩
  clear hA0 hval0
  refine (walk a0 len0 cap0 z0 a1 len1 cap1 z1 a2 len2 cap2 z2 a3 len3 cap3 z3 W w0 w1 w2 w3).mono fun e W' ⟨he, bel⟩ => ?_
  subst he
  exact ⟨_, rfl, _, _, _, [], _, [], hW', trodAll_mk1 (shut_bool Try.underlying4 _), (trodAll_cons_mk (Below.trod laidOut (by kernel_rfl) (of_decide_eq_true (by kernel_rfl)) k0 bel lt0) (trodAll_cons_mk (Below.trod laidOut (by kernel_rfl) (of_decide_eq_true (by kernel_rfl)) k1 bel lt1) (trodAll_cons_mk (Below.trod laidOut (by kernel_rfl) (of_decide_eq_true (by kernel_rfl)) k2 bel lt2) (trodAll_cons_mk (Below.trod laidOut (by kernel_rfl) (of_decide_eq_true (by kernel_rfl)) k3 bel lt3) trodAll_mk0)))), rfl, bel.frame _, fun h => by cases h⟩
theorem over : Rows.vecPartsRow.holds Try.pinned (OpenSpec.ofChange Rows.vecPartsSpec) :=
  OpenClaim.holds_of_wide 7 Try.f7 rfl rfl rfl rfl rfl rfl rfl ⟨rfl, rfl, rfl, rfl, rfl⟩ rfl rfl rfl rfl rfl (by kernel_rfl) Try.func7 (by kernel_rfl)
    (of_decide_eq_true (by kernel_rfl)) (by unfold Func.isWrapper; first | (rw [if_pos (by decide +kernel)]; kernel_rfl) | (rw [if_neg (by decide +kernel)]; exact ⟨rfl, rfl⟩))
    (fun os started H enc _ => lifted os started H enc)
/-- the statement -/
theorem proved : Rows.VecPartsSaid := over
#print axioms proved
end Go.Proofs.Ytmnckpjboieeiaa.vecParts
