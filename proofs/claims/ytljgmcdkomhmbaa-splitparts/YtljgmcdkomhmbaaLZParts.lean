/-
  SplitParts holds for every input: any ids, of any items, parted by any plane, and by halves, and whether that is good, are just the document's. No condition.
-/
import Derived.Test.YtljgmcdkomhmbaaZAwk
import Derived.ProofKit
import Derived.Lib.SmallJoins
import Derived.OpenShut
import Derived.ShutString
import Derived.ChangeOld
import Derived.WalkSmall
namespace Go.Proofs.Ytljgmcdkomhmbaa.splitParts
open Go.ChangeShapes Go.WideShapes Go.ChangeAt Go.RowKit Go.Joins
open Go.ChangeMaps (open_string shut_string)
set_option linter.unusedVariables false

theorem row_len {k : IntKind} {w : World} {a : Option Addr} {len cap : Nat} {zs : List Int} (h : IsRow k w a len cap zs) : len ≤ maxLen := by
  rcases h with ⟨rfl, rfl, rfl, rfl⟩ | ⟨x, rfl, hl, hm, _⟩
  · exact Nat.zero_le _
  · omega

set_option maxHeartbeats 3200000 in
set_option maxRecDepth 100000 in
theorem walk (dim : Int) (a1 : Option Addr) (len1 cap1 : Nat) (L : List (List Int)) (a2 : Option Addr) (len2 cap2 : Nat) (z2 : List Int) (a3 : Option Addr) (len3 cap3 : Nat) (z3 : List Int) (o : Int) (w : World)
    (w0 : (Lit.int .i64 dim).wf = true) (w1 : Lv w a1 len1 cap1 L) (w2 : IsRow .i64 w a2 len2 cap2 z2) (w3 : (Lit.int .i64 o).wf = true ∧ IsRow .i32 w a3 len3 cap3 z3) :
    Calls Try.prog 3 #[.int .i64 dim, .slice a1 len1 cap1, .slice a2 len2 cap2, .agg #[.slice a3 len3 cap3, .int .i64 o]] w fun e w' => e = .returned (.bool true) ∧ Below w.heap.size w w' := by
  obtain ⟨i0, hi, hz0, hz1, hz2⟩ := info_parts Try.infoI
  obtain ⟨lp, hV, m3, -⟩ := w3.2.vec
  have hml := row_len w2
  have hS := Sl.of_row w2
  obtain ⟨ids, hids⟩ : ∃ ids, ids = z2.take len2 := ⟨_, rfl⟩
  rw [← hids] at hS
  obtain ⟨D, hD⟩ : ∃ D, D = w.alloc (.cells #[.slice a3 len3 cap3, .int .i64 o] 26) := ⟨_, rfl⟩
  have hb : Below w.heap.size w D := by rw [hD]; exact (Below.refl _ w).alloc (Nat.le_refl _) _
  have hp : Pbx D w.heap.size a3 len3 cap3 o := by rw [hD]; exact Pbx.new w _ _ _ _
  have HL := Lib.hid (w1.below hb)
  have HS := Lib.hid (hS.below hb)
  have HV := Lib.hid (hV.below hb)
  have P := Lib.hid hp
  have HB := Lib.hid hb
  have HD := Lib.hid hD
  clear w0 w1 w2 w3 hV hS hids hb hp hD
  go_enter Try.func3, Try.ntmps3
  go_wp2_with fail
  rw [← HD.out]
  refine (awakeZ _).mono ?_
  rintro e w1 ⟨rfl, hb1⟩
  have B1 := Lib.hid hb1
  clear hb1 HD
  go_wp2_with fail
  refine (someZ (HL.out.below B1.out) dim (HS.out.below B1.out) hml).mono ?_
  rintro e w2 (⟨rfl, hb2⟩ | ⟨s, S, rfl, hit, hSn, hb2, hck, h301, h200⟩)
  · have B2 := Lib.hid (HB.out.trans ((B1.out.trans (hb2.mono B1.out.size)).mono HB.out.size))
    clear hb2
    go_wp2
    go_ret
    exact ⟨rfl, B2.out⟩
  have B2 := Lib.hid (B1.out.trans (hb2.mono B1.out.size))
  have HI := Lib.hid hit
  have HC := Lib.hid (chks_lens hck)
  clear hb2 hit hSn hck hml B1
  have k0 := (P.out.below B2.out).c0
  have k1 := (P.out.below B2.out).c1
  by_cases g : 1100 < len3
  · go_wp2
    go_ret
    exact ⟨rfl, HB.out.trans (B2.out.mono HB.out.size)⟩
  have g' : len3 ≤ 1100 := by omega
  clear g
  have hcap := HS.out.cap
  have HN := Lib.hid HS.out.nil
  have hs2 := B2.out.size
  have BE := Lib.hid (B2.out.alloc hs2 (.cells #[] 3))
  go_wp2_with (at_builtin; refine append_lst _ rfl (.tmp 30) (.tmp 31) 23 rfl w2.heap.size 3 i0 (.int .i64 0) 8 Try.underlying23 hi hz0 hz1 hz2 rfl (.slice (some ⟨w2.heap.size, 0, none⟩) 0 0) 0 [] rfl (own_none (heap_alloc_new w2 _) (Nat.le_refl _)) D.heap.size a2 len2 cap2 (ci ids) rfl HN.out (HS.out.lst.below BE.out) (ints_one .i64 ids) (by unfold maxLen; omega) (by omega) (by simp) ?_; intro v1 w3 hown1 hg1; have B3 := Lib.hid (BE.out.grown hg1 (by simp; omega) (by intro k hk; simp [Value.ownBlock] at hk; omega)); have BW := Lib.hid (((Below.refl w2.heap.size w2).alloc (Nat.le_refl _) (.cells #[] 3)).grown hg1 (by simp) (by intro k hk; simp [Value.ownBlock] at hk; omega)); rw [Nat.zero_add, List.nil_append] at hown1; obtain ⟨A4, c4, hv1, -, -⟩ := own_form hown1; subst hv1; have W3 := Lib.hid (Sl.of_own hown1); have p0 := (P.out.below B3.out).c0; have p1 := (P.out.below B3.out).c1; clear hown1 hg1 k0 k1)
  obtain ⟨S0, hS0⟩ : ∃ S0, S0 = Zm.side L lp o false ids := ⟨_, rfl⟩
  obtain ⟨S1, hS1⟩ : ∃ S1, S1 = Zm.side L lp o true ids := ⟨_, rfl⟩
  have hlen : ids.length = len2 := HS.out.length
  have l0 : S0.length ≤ 200 := by rw [hS0]; have := Zm.side_le L lp o false ids; omega
  have l1 : S1.length ≤ 200 := by rw [hS1]; have := Zm.side_le L lp o true ids; omega
  have FP := Lib.hid (partZ (cp := cap3) (o := o) (HI.out.below BW.out) (HS.out.below B3.out) (by omega) (HV.out.below B3.out) (by omega))
  have HS0 := Lib.hid hS0
  have HS1 := Lib.hid hS1
  have HLEN := Lib.hid hlen
  clear hS0 hS1 hlen hi hz0 hz1 hz2 hs2
  refine FP.out.mono ?_
  rw [← HS0.out, ← HS1.out]
  rintro e w4 ⟨A5, c5, A6, c6, rfl, h5, h6, hb4⟩
  have B4 := Lib.hid (B3.out.trans (hb4.mono B3.out.size))
  have W4 := Lib.hid (W3.out.below hb4)
  have Q5 := Lib.hid h5
  have Q6 := Lib.hid h6
  clear h5 h6 hb4 FP p0 p1
  go_wp2_with fail
  refine (halvesZ (HS.out.below B4.out) (by omega)).mono ?_
  rintro e w5 ⟨A7, c7, A8, c8, rfl, h7, h8, hb5⟩
  have B5 := Lib.hid (B4.out.trans (hb5.mono B4.out.size))
  have W5 := Lib.hid (W4.out.below hb5)
  have R5 := Lib.hid (Q5.out.below hb5)
  have R6 := Lib.hid (Q6.out.below hb5)
  have R7 := Lib.hid h7
  have R8 := Lib.hid h8
  clear h7 h8 hb5
  obtain ⟨H, hH⟩ : ∃ H, H = Zm.half ids := ⟨_, rfl⟩
  have hHe : H = len2 - len2 / 2 := by rw [hH]; unfold Zm.half; rw [HLEN.out]
  rw [← hH] at R7 R8 ⊢
  obtain ⟨hn, hhn⟩ : ∃ hn, hn = len2 / 2 := ⟨_, rfl⟩
  have hq2 : (len2 : Int).tdiv 2 = (hn : Int) := by rw [hhn]; rfl
  have hH1 : (len2 : Int) - (hn : Int) = (H : Int) := by omega
  have hHm : H ≤ len2 := by omega
  obtain ⟨AS, hAS⟩ : ∃ AS, (if cap2 = H then a2 else Option.map (fun x => x.add H) a2) = AS := ⟨_, rfl⟩
  have HAS := Lib.hid hAS
  have k4 : (0 : Int) ≤ (H : Int) := by omega
  have k5 : (H : Int) ≤ (len2 : Int) := by omega
  have k6 : (H : Int) ≤ (cap2 : Int) := by omega
  have k7 : (len2 : Int) ≤ (cap2 : Int) := by omega
  have p0 := (P.out.below B5.out).c0
  have p1 := (P.out.below B5.out).c1
  have FS0 : Hid (∀ V, Below D.heap.size D V → Calls Try.prog 13 #[.slice a1 len1 cap1, .slice a2 len2 cap2, .agg #[.slice a3 len3 cap3, .int .i64 o], .bool false] V fun e w' => ∃ A' c', e = .returned (.slice A' S0.length c') ∧ Sl w' A' S0.length c' S0 ∧ Below D.heap.size D w' ∧ Below V.heap.size V w') := Lib.hid fun V hb => by
    have := refSide_any a1 a2 a3 len1 cap1 len2 cap2 len3 cap3 o L ids lp false V (HL.out.below hb) (by unfold maxLen; omega) HC.out (HS.out.below hb) (by omega) (HV.out.below hb) (by omega)
    rw [← HS0.out] at this
    exact this.mono fun _ _ ⟨A', c', h1, h2, h3, _⟩ => ⟨A', c', h1, h2, hb.trans (h3.mono hb.size), h3⟩
  have FS1 : Hid (∀ V, Below D.heap.size D V → Calls Try.prog 13 #[.slice a1 len1 cap1, .slice a2 len2 cap2, .agg #[.slice a3 len3 cap3, .int .i64 o], .bool true] V fun e w' => ∃ A' c', e = .returned (.slice A' S1.length c') ∧ Sl w' A' S1.length c' S1 ∧ Below D.heap.size D w' ∧ Below V.heap.size V w') := Lib.hid fun V hb => by
    have := refSide_any a1 a2 a3 len1 cap1 len2 cap2 len3 cap3 o L ids lp true V (HL.out.below hb) (by unfold maxLen; omega) HC.out (HS.out.below hb) (by omega) (HV.out.below hb) (by omega)
    rw [← HS1.out] at this
    exact this.mono fun _ _ ⟨A', c', h1, h2, h3, _⟩ => ⟨A', c', h1, h2, hb.trans (h3.mono hb.size), h3⟩
  clear hH hHe hhn
  go_wp2_with fail
  refine (FS0.out _ B5.out).mono ?_
  rintro e w6 ⟨A9, c9, rfl, h9, hb6, hb56⟩
  have R9 := Lib.hid h9
  have B6 := Lib.hid hb6
  have B56 := Lib.hid hb56
  clear h9 hb6 hb56
  go_wp2_with fail
  refine (refSame _ _ _ _ _ _ _ _ _ (R5.out.below B56.out) R9.out (by omega)).mono ?_
  rintro e w7 ⟨rfl, hb7⟩
  rw [decide_eq_true rfl]
  have B7 := Lib.hid (B6.out.trans (hb7.mono B6.out.size))
  have B57 := Lib.hid (show Below w5.heap.size w5 w7 from B56.out.trans (hb7.mono B56.out.size))
  have q0 := (P.out.below B7.out).c0
  have q1 := (P.out.below B7.out).c1
  clear hb7 R9 B6 B56 p0 p1
  go_wp2_with fail
  refine (FS1.out _ B7.out).mono ?_
  rintro e w8 ⟨A9, c9, rfl, h9, hb8, hb78⟩
  have R9 := Lib.hid h9
  have B8 := Lib.hid hb8
  have B58 := Lib.hid (show Below w5.heap.size w5 w8 from B57.out.trans (hb78.mono B57.out.size))
  clear h9 hb8 hb78 q0 q1
  go_wp2_with fail
  refine (refSame _ _ _ _ _ _ _ _ _ (R6.out.below B58.out) R9.out (by omega)).mono ?_
  rintro e w9 ⟨rfl, hb9⟩
  rw [decide_eq_true rfl]
  have B9 := Lib.hid (B8.out.trans (hb9.mono B8.out.size))
  have B59 := Lib.hid (show Below w5.heap.size w5 w9 from B58.out.trans (hb9.mono B58.out.size))
  clear hb9 R9 B8 B58 B57 B7
  go_wp2_with fail
  refine (refSame _ _ _ _ _ _ _ _ _ (R7.out.below B59.out) (sl_to (HS.out.below B9.out) hHm) (by omega)).mono ?_
  rintro e w10 ⟨rfl, hb10⟩
  rw [decide_eq_true rfl]
  have B10 := Lib.hid (B9.out.trans (hb10.mono B9.out.size))
  have B510 := Lib.hid (show Below w5.heap.size w5 w10 from B59.out.trans (hb10.mono B59.out.size))
  clear hb10 B9 B59
  go_wp2_with fail
  refine (refSame _ _ _ _ _ _ _ _ _ (R8.out.below B510.out) (lst_from (HS.out.below B10.out) hHm HAS.out) (by omega)).mono ?_
  rintro e w11 ⟨rfl, hb11⟩
  rw [decide_eq_true rfl]
  have B11 := Lib.hid (B10.out.trans (hb11.mono B10.out.size))
  have B511 := Lib.hid (show Below w5.heap.size w5 w11 from B510.out.trans (hb11.mono B510.out.size))
  clear hb11 B10 B510 hAS
  go_wp2_with fail
  refine (goodZ (by omega) (by omega)).mono ?_
  rintro e w12 ⟨rfl, rfl⟩
  obtain ⟨gd, hgd⟩ : ∃ gd, gd = Zm.good S0.length S1.length := ⟨_, rfl⟩
  rw [← hgd]
  have HGD := Lib.hid hgd
  clear hgd
  go_wp2_with fail
  refine (refGood_any _ _ _ (by omega) (by omega)).mono ?_
  rintro e w12 ⟨rfl, rfl⟩
  rw [← HGD.out]
  have hgg : (gd == gd) = true := by simp
  go_wp2_with fail
  refine (refSame _ _ _ _ _ _ _ _ _ (HS.out.below B11.out) (W5.out.below B511.out) (by omega)).mono ?_
  rintro e w13 ⟨rfl, hb13⟩
  rw [decide_eq_true rfl]
  have B13 := Lib.hid (B11.out.trans (hb13.mono B11.out.size))
  clear hb13
  go_wp2
  go_ret
  exact ⟨rfl, HB.out.trans (B13.out.mono HB.out.size)⟩
theorem own : ownKnob Try.prog.godebug = none := by kernel_rfl
theorem laidOut : laidOutB Try.prog = true := by kernel_rfl
set_option maxRecDepth 100000 in
theorem lifted (os : Os) (started : os.Started) (H : Type) (enc : TypeId × Value → H) :
    ReturnsInHanded {} Try.checked os 3 .any (Rows.splitPartsSpec.pre6 enc Try.prog Try.f3 Rows.splitPartsRow.domain false) (Rows.splitPartsSpec.post enc Try.prog Try.f3 false true false false) := by
  refine returnsInHanded_of_change (C := Try.checked) own started (by kernel_rfl) Try.func3
    (ChangeSpec.witness6 (enc := enc) (C := Try.checked) false ⟨#[], #[.int .i64 0, .slice none 0 0, .slice none 0 0, .agg #[.slice none 0 0, .int .i64 0]], []⟩ 8 (by kernel_rfl) (by kernel_rfl) (by kernel_rfl) (by kernel_rfl)) ?_
  intro W base args ds gs before hval0 hW hcnd _
  have hval : ∀ (j : Nat) t v, Try.f3.params[j]? = some t → args[j]? = some v → Value.okWide Try.prog W .any base t v := hval0
  have hW' := hW
  obtain ⟨p, q, hA0, hV, rfl, hfz, hnd⟩ := hW
  have hA : DataW.TrodAll enc Try.prog W 0 (fun _ => true) true Try.f3.params.toList args.toList ds p := hA0
  rw [Try.params3] at hA hval
  obtain ⟨v0, vs0, d0, ds0, p0, q0, hargs, rfl, rfl, h0, r0⟩ := trodAll_cons hA
  obtain ⟨v1, vs1, d1, ds1, p1, q1, rfl, rfl, rfl, h1, r1⟩ := trodAll_cons r0
  obtain ⟨v2, vs2, d2, ds2, p2, q2, rfl, rfl, rfl, h2, r2⟩ := trodAll_cons r1
  obtain ⟨v3, vs3, d3, ds3, p3, q3, rfl, rfl, rfl, h3, r3⟩ := trodAll_cons r2
  obtain ⟨rfl, rfl, rfl⟩ := trodAll_nil r3
  obtain rfl : args = #[v0, v1, v2, v3] := by cases args; simp_all
  obtain ⟨rfl, rfl⟩ := trodVars_none hV
  obtain ⟨a0, rfl, rfl, rfl, w0⟩ := open_int Try.underlying3 (hval 0 3 v0 rfl rfl) h0
  obtain ⟨a1, len1, cap1, rfl⟩ := okWide_slice Try.underlying22 (hval 1 22 v1 rfl rfl)
  have k1 := h1
  have lt1 : ∀ x ∈ p1, x.block < W.heap.size := by obtain ⟨m, hm⟩ := k1; exact DataW.trod_lt m _ _ _ hm
  obtain ⟨z1, w1⟩ : ∃ L, Lv W a1 len1 cap1 L := by
    obtain ⟨fuel, hf⟩ := h1
    rcases Go.Deep.open_int_rows Try.underlying22 Try.underlying24 Try.underlying21 (by kernel_rfl) (by kernel_rfl) hf with ⟨hcs, _⟩ | ⟨x, l, c, _, _, _, _, hcs, _, hl, _, _, hx⟩
    · simp [Value.cells] at hcs
      obtain ⟨rfl, rfl, rfl⟩ := hcs
      exact ⟨[], Lv.nil_ _⟩
    · simp [Value.cells] at hcs
      obtain ⟨rfl, rfl, rfl⟩ := hcs
      exact ⟨_, Lv.of_rows hl hx⟩
  obtain ⟨a2, len2, cap2, rfl⟩ := okWide_slice Try.underlying23 (hval 2 23 v2 rfl rfl)
  have k2 := h2
  have lt2 : ∀ x ∈ p2, x.block < W.heap.size := by obtain ⟨m, hm⟩ := k2; exact DataW.trod_lt m _ _ _ hm
  obtain ⟨z2, w2⟩ : ∃ zs, IsRow .i64 W a2 len2 cap2 zs := by
    obtain ⟨fuel, hf⟩ := h2
    rcases open_ints Try.underlying23 Try.underlying3 (by kernel_rfl) hf with ⟨hcs, _⟩ | ⟨x, l, c, zs, hcs, _, hl, hm, hz, _, hcell, hwz⟩
    · simp [Value.cells] at hcs
      obtain ⟨rfl, rfl, rfl⟩ := hcs
      exact ⟨[], .inl ⟨rfl, rfl, rfl, rfl⟩⟩
    · simp [Value.cells] at hcs
      obtain ⟨rfl, rfl, rfl⟩ := hcs
      exact ⟨zs, .inr ⟨_, rfl, hl, hm, by simpa using hz, hcell, hwz⟩⟩
  have k3 := h3
  have lt3 : ∀ x ∈ p3, x.block < W.heap.size := by obtain ⟨m, hm⟩ := k3; exact DataW.trod_lt m _ _ _ hm
  obtain ⟨a3, len3, cap3, z3, o3, g3, w3⟩ : ∃ (a : Option Addr) (len cap : Nat) (zs : List Int) (o : Int), v3 = .agg #[.slice a len cap, .int .i64 o] ∧ (Lit.int .i64 o).wf = true ∧ IsRow .i32 W a len cap zs := by
    obtain ⟨u0, u1, y0, y1, n, rfl, -, -, t0, t1⟩ := open_agg2 Try.underlying26 (by kernel_rfl) (by kernel_rfl) (hval 3 26 v3 rfl rfl) h3
    obtain ⟨o, ho, -, hw⟩ := DataW.trod_int Try.underlying2 t1
    simp at ho
    subst ho
    rcases open_ints Try.underlying24 Try.underlying21 (by kernel_rfl) t0 with ⟨hcs, _⟩ | ⟨x, l, c, zs, hcs, _, hl, hm, hz, _, hcell, hwz⟩
    · simp at hcs
      subst hcs
      exact ⟨none, 0, 0, [], o, rfl, hw, .inl ⟨rfl, rfl, rfl, rfl⟩⟩
    · simp at hcs
      subst hcs
      exact ⟨some x, l, c, zs, o, rfl, hw, .inr ⟨_, rfl, hl, hm, by simpa using hz, hcell, hwz⟩⟩
  subst g3
  clear hA0 hval0
  refine (walk a0 a1 len1 cap1 z1 a2 len2 cap2 z2 a3 len3 cap3 z3 o3 W w0 w1 w2 w3).mono fun e W' ⟨he, bel⟩ => ?_
  subst he
  exact ⟨_, rfl, _, _, _, [], _, [], hW', trodAll_mk1 (shut_bool Try.underlying4 _), (trodAll_cons_mk (shut_int Try.underlying3 w0) (trodAll_cons_mk (Below.trod laidOut (by kernel_rfl) (of_decide_eq_true (by kernel_rfl)) k1 bel lt1) (trodAll_cons_mk (Below.trod laidOut (by kernel_rfl) (of_decide_eq_true (by kernel_rfl)) k2 bel lt2) (trodAll_cons_mk (Below.trod laidOut (by kernel_rfl) (of_decide_eq_true (by kernel_rfl)) k3 bel lt3) trodAll_mk0)))), rfl, bel.frame _, fun h => by cases h⟩
theorem over : Rows.splitPartsRow.holds Try.pinned (OpenSpec.ofChange Rows.splitPartsSpec) :=
  OpenClaim.holds_of_wide 3 Try.f3 rfl rfl rfl rfl rfl rfl rfl ⟨rfl, rfl, rfl, rfl, rfl⟩ rfl rfl rfl rfl rfl (by kernel_rfl) Try.func3 (by kernel_rfl)
    (of_decide_eq_true (by kernel_rfl)) (by unfold Func.isWrapper; first | (rw [if_pos (by decide +kernel)]; kernel_rfl) | (rw [if_neg (by decide +kernel)]; exact ⟨rfl, rfl⟩))
    (fun os started H enc _ => lifted os started H enc)
/-- the statement -/
theorem proved : Rows.SplitPartsSaid := over
#print axioms proved
end Go.Proofs.Ytljgmcdkomhmbaa.splitParts
