/-
  GrowFew holds for every input: of as many items as a leaf holds, or at the depth 0, a tree is one leaf, and nothing is drawn; of more, and deeper, it isn't, and something is. No condition.
-/
import Derived.Test.YtafkbagjjknhlaaWAwk
import Derived.Test.YtafkbagjjknhlaaWArg
import Derived.ProofKit
import Derived.Lib.SmallJoins
import Derived.OpenShut
import Derived.ShutString
import Derived.ChangeOld
import Derived.WalkSmall
import Derived.Deep.RegionHeld3
namespace Go.Proofs.Ytafkbagjjknhlaa.growFew
open Go.ChangeShapes Go.WideShapes Go.ChangeAt Go.RowKit Go.Joins
open Go.ChangeMaps (open_string shut_string)
set_option linter.unusedVariables false

theorem u64_in {n : Int} (h : (Lit.int .u64 n).wf = true) : 0 ≤ n ∧ n < 18446744073709551616 := by have := bounds_u64 h; omega

set_option maxHeartbeats 3200000 in
set_option maxRecDepth 100000 in
theorem walk (dim : Int) (a1 : Option Addr) (len1 cap1 : Nat) (L : List (List Int)) (tr lf dp : Int) (sc : Bool) (sd : Int) (pA : Option Addr) (pn pc : Nat) (st : Int) (w : World)
    (w0 : (Lit.int .i64 dim).wf = true) (w1 : Lv w a1 len1 cap1 L) (w2 : True) (w3 : (Lit.int .u64 st).wf = true) :
    Calls Try.prog 6 #[.int .i64 dim, .slice a1 len1 cap1, .agg #[.int .i64 tr, .int .i64 lf, .int .i64 dp, .bool sc, .int .u64 sd, .slice pA pn pc], .int .u64 st] w fun e w' => e = .returned (.bool true) ∧ Below w.heap.size w w' := by
  obtain ⟨t0, t1⟩ := u64_in w3
  obtain ⟨E0, hE0⟩ : ∃ E, E = w.alloc (.cells #[.int .i64 tr, .int .i64 lf, .int .i64 dp, .bool sc, .int .u64 sd, .slice pA pn pc] 28) := ⟨_, rfl⟩
  have b0 : Below w.heap.size w E0 := by rw [hE0]; exact (Below.refl _ w).alloc (Nat.le_refl _) _
  have HP0 : Hid (Prx E0 w.heap.size tr lf dp sc sd pA pn pc) := by rw [hE0]; exact Prx.new w _ _ _ _ _ _ _ _
  have HE0 := Lib.hid hE0
  have HL := Lib.hid w1
  have BE0 := Lib.hid b0
  have HLN := Lib.hid w1.len
  clear w0 w1 w2 w3 hE0 b0
  go_enter Try.func6, Try.ntmps6
  go_wp2_with fail
  rw [← HE0.out]
  clear HE0
  refine (awakeW _).mono ?_
  rintro e w1 ⟨rfl, hb1⟩
  have B1 := Lib.hid (BE0.out.trans (hb1.mono BE0.out.size))
  have P1 := Lib.hid (HP0.out.below hb1)
  clear hb1 HP0
  go_wp2_with fail
  refine (someW (HL.out.below B1.out) dim).mono ?_
  rintro e w2 (⟨rfl, hb2⟩ | ⟨s, S, rfl, hit, hSn, hb2, hck, h301⟩)
  · have B2 := Lib.hid (B1.out.trans (hb2.mono B1.out.size))
    clear hb2
    go_wp2
    go_ret
    exact ⟨rfl, B2.out⟩
  have B2 := Lib.hid (B1.out.trans (hb2.mono B1.out.size))
  have P2 := Lib.hid (P1.out.below hb2)
  have HI := Lib.hid hit
  have HD := Lib.hid (Dm.chks_zero hck)
  have hpw : w.heap.size < w2.heap.size := P2.out.lt
  clear hb2 hit hSn hck B1 P1
  have hsw := B2.out.size
  go_wp2_with fail
  refine (mix_new st w2 t0 t1).mono ?_
  rintro e w3 ⟨b, rfl, hbas, hb3⟩
  have BAS := Lib.hid hbas
  have B23 := Lib.hid hb3
  clear hbas hb3 t0 t1
  go_wp2_with fail
  refine (count_new BAS.out).mono ?_
  rintro e w4 ⟨q, rfl, hctr, hb4⟩
  have CE := Lib.hid hctr
  have BE := Lib.hid (B23.out.trans (hb4.mono B23.out.size))
  have BW := Lib.hid (B2.out.trans (BE.out.mono B2.out.size))
  have PE := Lib.hid (P2.out.below BE.out)
  have hlo := CE.out.size
  have q0 := PE.out.c0
  have q1 := PE.out.c1
  have q2 := PE.out.c2
  have q3 := PE.out.c3
  have q4 := PE.out.c4
  have q5 := PE.out.c5
  clear hctr hb4 BAS B23
  obtain ⟨ck, hck⟩ : ∃ ck, ck = Wm.chk tr lf dp := ⟨_, rfl⟩
  have HCK := Lib.hid hck
  clear hck
  by_cases hbad : ck ≠ 0 ∨ L = []
  · have FN0 := treeW_no (tr := tr) (lf := lf) (dp := dp) (sc := sc) (sd := sd) (pA := pA) (pn := pn) (pc := pc) (v := .iface 32 (.pointer (some ⟨q, 0, none⟩))) (HI.out.below BE.out) (by rw [← HCK.out]; exact hbad)
    obtain ⟨er, her⟩ : ∃ er, er = (if Wm.chk tr lf dp = 0 then 15 else Wm.chk tr lf dp) := ⟨_, rfl⟩
    have her0 : er ≠ 0 := by rw [her]; split <;> omega
    rw [← her] at FN0
    have FN := Lib.hid FN0
    have hcb2 : (er != 0) = true := by simpa using her0
    clear FN0 her hbad
    go_wp2_with fail
    refine FN.out.mono ?_
    rintro e w5 ⟨At, ct, rfl, hb5⟩
    have B5 := Lib.hid (BW.out.trans (hb5.mono BW.out.size))
    have FD := Lib.hid (drawn_any (CE.out.below hb5))
    clear FN hb5 q0 q1 q2 q3 q4 q5
    go_wp2_with fail
    refine FD.out.mono ?_
    rintro e w8 ⟨rfl, rfl⟩
    clear FD
    go_wp2
    go_ret
    exact ⟨rfl, B5.out⟩
  have hc0 : ck = 0 := by omega
  have hL0 : len1 ≠ 0 := fun h => hbad (.inr (List.eq_nil_of_length_eq_zero (by rw [HLN.out]; exact h)))
  clear hbad
  have hck := Wm.chk_ok (show Wm.chk tr lf dp = 0 from by rw [← HCK.out]; exact hc0)
  obtain ⟨lim, hlim⟩ : ∃ lim : Nat, lf = (lim : Int) := ⟨lf.toNat, by omega⟩
  obtain ⟨dn, hdn⟩ : ∃ dn : Nat, dp = (dn : Int) := ⟨dp.toNat, by omega⟩
  obtain ⟨dd, hdd⟩ : ∃ dd : Nat, dim = (dd : Int) := ⟨dim.toNat, by have := HD.out.1; omega⟩
  subst hlim
  subst hdn
  have hLn : L.length = len1 := HLN.out
  have FT0 := treeW (tr := tr) (sc := sc) (sd := sd) (pA := pA) (pn := pn) (pc := pc) (lim := lim) (dp := dn) (HI.out.below BE.out) (lo := w2.heap.size) (hi := w4.heap.size) (fun k hk => .inl (HI.out.lt k hk)) CE.out.src (N := 0) (by omega) (by omega) (by omega) (by rw [← HCK.out]; exact hc0)
  unfold growT at FT0
  rw [hdd, Int.toNat_natCast, hLn] at FT0
  obtain ⟨dt, htr⟩ := Wm.grow_tr (L := L) (d := dd) (lim := lim) (by omega) dn (Wm.upto len1) 0 (Rm.mixAt st)
  by_cases hone : len1 ≤ lim ∨ dn = 0
  · rw [Wm.grow_leaf (by rw [Wm.upto_length]; exact hone)] at FT0
    have FT := Lib.hid FT0
    clear FT0 htr
    subst hdd
    have hX : ((Wm.upto len1)[0]? : Option Int) = some 0 := by
      rw [List.getElem?_eq_getElem (by rw [Wm.upto_length]; omega)]
      simp [Wm.upto]
    have HX := Lib.hid hX
    clear hX
    go_wp2_with fail
    refine FT.out.mono ?_
    rintro e w5 ⟨At, ct, rfl, hnt, hsrc, hbt⟩
    have P5 := PE.out.btw (.inl hpw) hbt
    have B5 := Lib.hid (BW.out.trans (hbt.old (B := w.heap.size) BW.out.size hsw))
    have FD := Lib.hid (drawn_any hsrc.ctr)
    obtain ⟨b0, o0, rfl, hb0, -, A1, n1, c1, A2, n2, c2, na, a0, a1, -, -, -, -⟩ := hnt.at_ (k := 0) rfl
    obtain ⟨b2, o2, rfl, hb2, x0⟩ := na.ids.at_ HX.out
    have hn1 : n1 = len1 := by rw [← na.ids.length]; exact Wm.upto_length _
    subst hn1
    have qq1 := P5.c1
    have qq2 := P5.c2
    simp only [Nat.zero_mul, Nat.add_zero] at a0 a1 x0
    clear FT hnt hsrc hbt q0 q1 q2 q3 q4 q5 P5 na
    by_cases hle : n1 ≤ lim
    · go_wp2_with fail
      refine FD.out.mono ?_
      rintro e w8 ⟨rfl, rfl⟩
      clear FD
      go_wp2
      go_ret
      exact ⟨rfl, B5.out⟩
    · have hd0 : dn = 0 := by omega
      subst hd0
      go_wp2_with fail
      refine FD.out.mono ?_
      rintro e w8 ⟨rfl, rfl⟩
      clear FD
      go_wp2
      go_ret
      exact ⟨rfl, B5.out⟩
  · obtain ⟨hs1, hs2⟩ := htr.single
    rw [Wm.upto_length] at hs1 hs2
    have hp := htr.pos
    have hfew := htr.few (by rw [Wm.upto_length]; omega)
    have htw := htr.twice
    rw [Wm.upto_length] at hfew
    obtain ⟨G, hG⟩ : ∃ G, G = Wm.grow L dd lim dn (Wm.upto len1) 0 (Rm.mixAt st) := ⟨_, rfl⟩
    rw [← hG] at FT0 hs1 hs2 hp hfew htw
    obtain ⟨gn, hgn⟩ : ∃ gn, gn = G.1.length := ⟨_, rfl⟩
    obtain ⟨gk, hgk⟩ : ∃ gk, gk = G.2 := ⟨_, rfl⟩
    rw [← hgn, ← hgk] at FT0
    have FT := Lib.hid FT0
    have g1 : gn ≠ 1 := by omega
    have g2 : gk ≠ 0 := by omega
    have g3 : gn ≤ 1000 := by omega
    have g4 : gk ≤ 3000 := by omega
    have g5 : ¬ len1 ≤ lim := fun h => hone (.inl h)
    have g6 : ¬ dn = 0 := fun h => hone (.inr h)
    have g7 : ((gn : Int) == 1) = false := by simp; omega
    have g8 : ((gk : Int) == 0) = false := by simp; omega
    clear FT0 htr hs1 hs2 hp hG hone hgn hgk hfew htw
    subst hdd
    go_wp2_with fail
    refine FT.out.mono ?_
    rintro e w5 ⟨At, ct, rfl, hnt, hsrc, hbt⟩
    have P5 := PE.out.btw (.inl hpw) hbt
    have B5 := Lib.hid (BW.out.trans (hbt.old (B := w.heap.size) BW.out.size hsw))
    have FD0 := drawn_any hsrc.ctr
    rw [Nat.zero_add] at FD0
    have FD := Lib.hid FD0
    have qq1 := P5.c1
    have qq2 := P5.c2
    clear FT hnt hsrc hbt q0 q1 q2 q3 q4 q5 P5 FD0
    go_wp2_with fail
    refine FD.out.mono ?_
    rintro e w8 ⟨rfl, rfl⟩
    clear FD
    go_wp2
    go_ret
    exact ⟨rfl, B5.out⟩
theorem own : ownKnob Try.prog.godebug = none := by kernel_rfl
theorem laidOut : laidOutB Try.prog = true := by kernel_rfl
set_option maxRecDepth 100000 in
theorem lifted (os : Os) (started : os.Started) (H : Type) (enc : TypeId × Value → H) :
    ReturnsInHanded {} Try.checked os 6 .any (Rows.growFewSpec.pre6 enc Try.prog Try.f6 Rows.growFewRow.domain false) (Rows.growFewSpec.post enc Try.prog Try.f6 false true false false) := by
  refine returnsInHanded_of_change (C := Try.checked) own started (by kernel_rfl) Try.func6
    (ChangeSpec.witness6 (enc := enc) (C := Try.checked) false ⟨#[], #[.int .i64 0, .slice none 0 0, .agg #[.int .i64 0, .int .i64 0, .int .i64 0, .bool false, .int .u64 0, .slice none 0 0], .int .u64 0], []⟩ 8 (by kernel_rfl) (by kernel_rfl) (by kernel_rfl) (by kernel_rfl)) ?_
  intro W base args ds gs before hval0 hW hcnd _
  have hval : ∀ (j : Nat) t v, Try.f6.params[j]? = some t → args[j]? = some v → Value.okWide Try.prog W .any base t v := hval0
  have hW' := hW
  obtain ⟨p, q, hA0, hV, rfl, hfz, hnd⟩ := hW
  have hA : DataW.TrodAll enc Try.prog W 0 (fun _ => true) true Try.f6.params.toList args.toList ds p := hA0
  rw [Try.params6] at hA hval
  obtain ⟨v0, vs0, d0, ds0, p0, q0, hargs, rfl, rfl, h0, r0⟩ := trodAll_cons hA
  obtain ⟨v1, vs1, d1, ds1, p1, q1, rfl, rfl, rfl, h1, r1⟩ := trodAll_cons r0
  obtain ⟨v2, vs2, d2, ds2, p2, q2, rfl, rfl, rfl, h2, r2⟩ := trodAll_cons r1
  obtain ⟨v3, vs3, d3, ds3, p3, q3, rfl, rfl, rfl, h3, r3⟩ := trodAll_cons r2
  obtain ⟨rfl, rfl, rfl⟩ := trodAll_nil r3
  obtain rfl : args = #[v0, v1, v2, v3] := by cases args; simp_all
  obtain ⟨rfl, rfl⟩ := trodVars_none hV
  obtain ⟨a0, rfl, rfl, rfl, w0⟩ := open_int Try.underlying3 (hval 0 3 v0 rfl rfl) h0
  obtain ⟨a1, len1, cap1, rfl⟩ := okWide_slice Try.underlying22 (hval 1 22 v1 rfl rfl)
  have k1 := h1
  have lt1 : ∀ x ∈ p1, x.block < W.heap.size := by obtain ⟨m, hm⟩ := k1; exact DataW.trod_lt m _ _ _ hm
  obtain ⟨z1, w1⟩ : ∃ L, Lv W a1 len1 cap1 L := by
    obtain ⟨fuel, hf⟩ := h1
    rcases Go.Deep.open_int_rows Try.underlying22 Try.underlying55 Try.underlying21 (by kernel_rfl) (by kernel_rfl) hf with ⟨hcs, _⟩ | ⟨x, l, c, _, _, _, _, hcs, _, hl, _, _, hx⟩
    · simp [Value.cells] at hcs
      obtain ⟨rfl, rfl, rfl⟩ := hcs
      exact ⟨[], Lv.nil_ _⟩
    · simp [Value.cells] at hcs
      obtain ⟨rfl, rfl, rfl⟩ := hcs
      exact ⟨_, Lv.of_rows hl hx⟩
  have k2 := h2
  have lt2 : ∀ x ∈ p2, x.block < W.heap.size := by obtain ⟨m, hm⟩ := k2; exact DataW.trod_lt m _ _ _ hm
  obtain ⟨tr2, lf2, dp2, sc2, sd2, a2, len2, cap2, g2⟩ := params_open (hval 2 28 v2 rfl rfl) h2
  subst g2
  have w2 := trivial
  obtain ⟨a3, rfl, rfl, rfl, w3⟩ := open_int Try.underlying23 (hval 3 23 v3 rfl rfl) h3
  clear hA0 hval0
  refine (walk a0 a1 len1 cap1 z1 tr2 lf2 dp2 sc2 sd2 a2 len2 cap2 a3 W w0 w1 w2 w3).mono fun e W' ⟨he, bel⟩ => ?_
  subst he
  exact ⟨_, rfl, _, _, _, [], _, [], hW', trodAll_mk1 (shut_bool Try.underlying4 _), (trodAll_cons_mk (shut_int Try.underlying3 w0) (trodAll_cons_mk (Below.trod laidOut (by kernel_rfl) (of_decide_eq_true (by kernel_rfl)) k1 bel lt1) (trodAll_cons_mk (Below.trod laidOut (by kernel_rfl) (of_decide_eq_true (by kernel_rfl)) k2 bel lt2) (trodAll_cons_mk (shut_int Try.underlying23 w3) trodAll_mk0)))), rfl, bel.frame _, fun h => by cases h⟩
theorem over : Rows.growFewRow.holds Try.pinned (OpenSpec.ofChange Rows.growFewSpec) :=
  OpenClaim.holds_of_wide 6 Try.f6 rfl rfl rfl rfl rfl rfl rfl ⟨rfl, rfl, rfl, rfl, rfl⟩ rfl rfl rfl rfl rfl (by kernel_rfl) Try.func6 (by kernel_rfl)
    (of_decide_eq_true (by kernel_rfl)) (by unfold Func.isWrapper; first | (rw [if_pos (by decide +kernel)]; kernel_rfl) | (rw [if_neg (by decide +kernel)]; exact ⟨rfl, rfl⟩))
    (fun os started H enc _ => lifted os started H enc)
/-- the statement -/
theorem proved : Rows.GrowFewSaid := over
#print axioms proved
end Go.Proofs.Ytafkbagjjknhlaa.growFew
