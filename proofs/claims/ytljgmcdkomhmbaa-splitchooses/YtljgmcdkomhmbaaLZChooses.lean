/-
  SplitChooses holds for every input: any ids, of any items, are split by any draws just as the document says: the plane, both sides, how many times it was tried, how many draws that took. No condition.
-/
import Derived.Test.YtljgmcdkomhmbaaZAwk
import Derived.ProofKit
import Derived.Lib.SmallJoins
import Derived.OpenShut
import Derived.ShutString
import Derived.ChangeOld
import Derived.WalkSmall
namespace Go.Proofs.Ytljgmcdkomhmbaa.splitChooses
open Go.ChangeShapes Go.WideShapes Go.ChangeAt Go.RowKit Go.Joins
open Go.ChangeMaps (open_string shut_string)
set_option linter.unusedVariables false

theorem row_len {k : IntKind} {w : World} {a : Option Addr} {len cap : Nat} {zs : List Int} (h : IsRow k w a len cap zs) : len ≤ maxLen := by
  rcases h with ⟨rfl, rfl, rfl, rfl⟩ | ⟨x, rfl, hl, hm, _⟩
  · exact Nat.zero_le _
  · omega
theorem u64_in {n : Int} (h : (Lit.int .u64 n).wf = true) : 0 ≤ n ∧ n < 18446744073709551616 := by have := bounds_u64 h; omega

set_option maxHeartbeats 3200000 in
set_option maxRecDepth 100000 in
theorem walk (dim : Int) (a1 : Option Addr) (len1 cap1 : Nat) (L : List (List Int)) (a2 : Option Addr) (len2 cap2 : Nat) (z2 : List Int) (a3 : Option Addr) (len3 cap3 : Nat) (z3 : List Int) (w : World)
    (w0 : (Lit.int .i64 dim).wf = true) (w1 : Lv w a1 len1 cap1 L) (w2 : IsRow .i64 w a2 len2 cap2 z2) (w3 : IsRow .u64 w a3 len3 cap3 z3) :
    Calls Try.prog 4 #[.int .i64 dim, .slice a1 len1 cap1, .slice a2 len2 cap2, .slice a3 len3 cap3] w fun e w' => e = .returned (.bool true) ∧ Below w.heap.size w w' := by
  have hml := row_len w2
  have hS := Sl.of_row w2
  obtain ⟨ids, hids⟩ : ∃ ids, ids = z2.take len2 := ⟨_, rfl⟩
  rw [← hids] at hS
  obtain ⟨d1, -, -, d4, d5⟩ := w3.lst
  obtain ⟨ds, hds⟩ : ∃ ds, ds = z3.take len3 := ⟨_, rfl⟩
  rw [← hds] at d1 d4
  have HL := Lib.hid w1
  have HS := Lib.hid hS
  have D1 := Lib.hid d1
  have D4 := Lib.hid (show ∀ x ∈ ds, 0 ≤ x ∧ x < 18446744073709551616 from fun x hx => u64_in (d4 x hx))
  have D5 := Lib.hid d5
  have BR := Lib.hid (Below.refl w.heap.size w)
  clear w0 w1 w2 w3 hS hids d1 d4 d5 hds
  go_enter Try.func4, Try.ntmps4
  go_wp2_with fail
  refine (awakeZ _).mono ?_
  rintro e w1 ⟨rfl, hb1⟩
  have B1 := Lib.hid hb1
  clear hb1
  go_wp2_with fail
  refine (someZ (HL.out.below B1.out) dim (HS.out.below B1.out) hml).mono ?_
  rintro e w2 (⟨rfl, hb2⟩ | ⟨s, S, rfl, hit, hSn, hb2, hck, h301, h200⟩)
  · have B2 := Lib.hid (B1.out.trans (hb2.mono B1.out.size))
    clear hb2
    go_wp2
    go_ret
    exact ⟨rfl, B2.out⟩
  have B2 := Lib.hid (B1.out.trans (hb2.mono B1.out.size))
  have HI := Lib.hid hit
  have HC := Lib.hid (chks_lens hck)
  have HD := Lib.hid (Dm.chks_zero hck)
  clear hb2 hit hSn hck hml B1
  by_cases g : 200 < len3
  · go_wp2
    go_ret
    exact ⟨rfl, B2.out⟩
  have g' : len3 ≤ 200 := by omega
  clear g
  have hsw := B2.out.size
  go_wp2_with fail
  refine (script_new a3 len3 cap3 ds w2 ((D1.out.below B2.out).more B2.out.size) D5.out (by omega) D4.out).mono ?_
  rintro e w3 ⟨b, rfl, hbas, hb3⟩
  have BAS := Lib.hid hbas
  have B23 := Lib.hid hb3
  clear hbas hb3
  go_wp2_with fail
  refine (count_new BAS.out).mono ?_
  rintro e w4 ⟨q, rfl, hctr, hb4⟩
  have CTR := Lib.hid hctr
  have B24 := Lib.hid (B23.out.trans (hb4.mono B23.out.size))
  have B4 := Lib.hid (B2.out.trans (B24.out.mono B2.out.size))
  clear hctr hb4 BAS B23
  obtain ⟨E, hE⟩ : ∃ E, E = w4.alloc (.cells #[.bool false, .int .u64 0, .slice a3 len3 cap3, .int .i64 0] 46) := ⟨_, rfl⟩
  have bE : Below w4.heap.size w4 E := by rw [hE]; exact (Below.refl _ _).alloc (Nat.le_refl _) _
  have sE : E.heap.size = w4.heap.size + 1 := by rw [hE]; simp
  have RF : Hid (Rfs E w.heap.size w4.heap.size (lstF ds) 0) := Lib.hid (by
    have h0 : Rfs E w.heap.size w4.heap.size (Rm.dr (ofF false 0 ds) 0) 0 :=
      ⟨false, 0, a3, len3, cap3, ds, by omega, by omega, D4.out, B4.out.size, by rw [hE]; exact heap_new _ _ _, (D1.out.below B4.out).keep (fun p hp => World.cell?_of_block (bE.block p.block (Nat.lt_of_lt_of_le hp B4.out.size))), by omega, rfl⟩
    exact h0)
  have HE := Lib.hid hE
  have BE := Lib.hid (B24.out.trans (bE.mono B24.out.size))
  have CE := Lib.hid (CTR.out.below bE)
  have BW := Lib.hid (B2.out.trans (BE.out.mono B2.out.size))
  clear hE bE
  go_wp2_with fail
  rw [← HE.out]
  have hlo := CE.out.size
  have hlen : ids.length = len2 := HS.out.length
  obtain ⟨dn, hdn⟩ : ∃ dn : Nat, dim = (dn : Int) := ⟨dim.toNat, by have := HD.out.1; omega⟩
  have hd1 : dn ≤ 1024 := by have := HD.out.2.1; omega
  obtain ⟨P, hP⟩ : ∃ P, P = refP (lstF ds) len2 := ⟨_, rfl⟩
  obtain ⟨Q, hQ⟩ : ∃ Q, Q = refQ (lstF ds) len2 := ⟨_, rfl⟩
  have FC := chooseZ (HI.out.below BE.out) (HS.out.below BW.out) (lo := w2.heap.size) (hi := w4.heap.size) (fun k hk => .inl (HI.out.lt k hk)) (HS.out.out hsw) CE.out.src (by omega) (N := 0) (by omega)
  have FR := fun V => refChoose_any a1 a2 len1 cap1 len2 cap2 w4.heap.size 0 w.heap.size dn L ids (lstF ds) w V HL.out
  rw [← hP, ← hQ, hdn, Int.toNat_natCast] at FC
  rw [← hP, ← hQ] at FR
  obtain ⟨PO, hPO⟩ : ∃ PO, Zm.poOf L ids P Q = PO := ⟨_, rfl⟩
  obtain ⟨PN, hPN⟩ : ∃ PN, Zm.pnOf L ids P Q dn = PN := ⟨_, rfl⟩
  obtain ⟨LF, hLF⟩ : ∃ LF, Zm.lfOf L ids P Q = LF := ⟨_, rfl⟩
  obtain ⟨RG, hRG⟩ : ∃ RG, Zm.rgOf L ids P Q = RG := ⟨_, rfl⟩
  obtain ⟨T, hT⟩ : ∃ T, Zm.tries L ids P Q = T := ⟨_, rfl⟩
  have hT4 : T ≤ 4 := by rw [← hT]; exact Zm.tries_le
  have hll : LF.length + RG.length = len2 := by rw [← hLF, ← hRG, ← hlen]; exact Zm.of_length
  rw [hPO, hPN, hLF, hRG, hT] at FC FR
  have FC' := Lib.hid FC
  have FR' := Lib.hid FR
  clear FC FR hP hQ hPO hPN hLF hRG hT
  subst hdn
  refine FC'.out.mono ?_
  rintro e w5 ⟨Ap, np, cp, A1, c1, A3, c3, rfl, hv, hnp, hl, hr, hsrc, hbt, hnw, ho1, ho3⟩
  have C5 := Lib.hid hsrc.ctr
  have BT5 := Lib.hid hbt
  have B5 := Lib.hid (BW.out.trans (hbt.old (B := w.heap.size) BW.out.size hsw))
  have RF5 := Lib.hid (RF.out.other hbt hsw (Nat.le_refl _))
  have V5 := Lib.hid hv
  have L5 := Lib.hid hl
  have R5 := Lib.hid hr
  have O0 := Lib.hid (hnw.out (lo := w4.heap.size) (hi := w4.heap.size + 1) (n := np) (by omega))
  have O1 := Lib.hid (ho1 w4.heap.size (w4.heap.size + 1) (by omega) (HS.out.out B4.out.size))
  have O3 := Lib.hid (ho3 w4.heap.size (w4.heap.size + 1) (by omega) (HS.out.out B4.out.size))
  clear hv hl hr hsrc hbt hnw ho1 ho3 FC' HE
  go_wp2_with fail
  refine (FR'.out w5 B5.out B4.out.size (by unfold maxLen; omega) HC.out (HS.out.below B5.out) (HS.out.out B4.out.size) (by omega) RF5.out (by omega) hd1).mono ?_
  rintro e w6 ⟨Bp, mp, dp, A4, c4, A6, c6, rfl, hv, hmp, hl, hr, hrf, hbt⟩
  have L6 := L5.out.btw O1.out hbt
  have R6 := R5.out.btw O3.out hbt
  have V6 := V5.out.btw O0.out hbt
  have C6 := C5.out.other hbt (.inl (Nat.le_refl _))
  have BW6 := B5.out.trans (hbt.old (B := w.heap.size) B5.out.size B4.out.size)
  obtain ⟨F1w, hF1⟩ : ∃ F1w, F1w = w6.alloc (.cells #[.slice Ap np cp, .int .i64 PO, .slice A1 LF.length c1, .slice A3 RG.length c3, .int .i64 (T : Int)] 48) := ⟨_, rfl⟩
  obtain ⟨F, hF⟩ : ∃ F, F = F1w.alloc (.cells #[.slice Bp mp dp, .int .i64 PO, .slice A4 LF.length c4, .slice A6 RG.length c6, .int .i64 (T : Int)] 50) := ⟨_, rfl⟩
  have s1 : F1w.heap.size = w6.heap.size + 1 := by rw [hF1]; simp
  have b1 : Below w6.heap.size w6 F1w := by rw [hF1]; exact (Below.refl _ _).alloc (Nat.le_refl _) _
  have b2 : Below F1w.heap.size F1w F := by rw [hF]; exact (Below.refl _ _).alloc (Nat.le_refl _) _
  have b6 : Below w6.heap.size w6 F := b1.trans (b2.mono b1.size)
  have r1 : F.heap[w6.heap.size]? = some (.cells #[.slice Ap np cp, .int .i64 PO, .slice A1 LF.length c1, .slice A3 RG.length c3, .int .i64 (T : Int)] 48 (0, 0)) := (b2.block w6.heap.size (by omega)).trans (by rw [hF1]; exact heap_alloc_new _ _)
  have r2 : F.heap[w6.heap.size + 1]? = some (.cells #[.slice Bp mp dp, .int .i64 PO, .slice A4 LF.length c4, .slice A6 RG.length c6, .int .i64 (T : Int)] 50 (0, 0)) := by rw [← s1, hF]; exact heap_alloc_new _ _
  have hX : ((0 + 2 * T : Nat) : Int) = 2 * (T : Int) := by omega
  obtain ⟨mx, sx, Ax, nx, cx, xx, -, -, -, -, r3, -⟩ := hrf
  rw [hX] at r3
  have r3F := (b6.block w4.heap.size (lt_of_block r3)).trans r3
  have FD0 : ∀ V, Below F.heap.size F V → Calls Try.prog 21 #[.pointer (some ⟨q, 0, none⟩)] V fun e w' => e = .returned (.int .i64 (2 * (T : Int))) ∧ V = w' := fun V hb => by
    have := drawn_any ((C6.below b6).below hb); rwa [hX] at this
  have FD := Lib.hid FD0
  have FP : Hid (∀ V, Below F.heap.size F V → Calls Try.prog 20 #[.agg #[.slice Ap np cp, .int .i64 PO], .agg #[.slice Bp mp dp, .int .i64 PO]] V fun e w' => e = .returned (.bool true) ∧ Below F.heap.size F w') := Lib.hid fun V hb =>
    (refSameP_any Ap Bp np mp cp dp PO PO PN PN V ((V6.below b6).below hb) ((hv.below b6).below hb) hnp hmp).mono fun _ _ h => ⟨by rw [h.1, decide_eq_true ⟨rfl, rfl⟩], hb.trans (h.2.mono hb.size)⟩
  have FL : Hid (∀ V, Below F.heap.size F V → Calls Try.prog 12 #[.slice A1 LF.length c1, .slice A4 LF.length c4] V fun e w' => e = .returned (.bool true) ∧ Below F.heap.size F w') := Lib.hid fun V hb =>
    (refSame _ _ _ _ _ _ _ _ V ((L6.below b6).below hb) ((hl.below b6).below hb) (by omega)).mono fun _ _ h => ⟨by rw [h.1, decide_eq_true rfl], hb.trans (h.2.mono hb.size)⟩
  have FG : Hid (∀ V, Below F.heap.size F V → Calls Try.prog 12 #[.slice A3 RG.length c3, .slice A6 RG.length c6] V fun e w' => e = .returned (.bool true) ∧ Below F.heap.size F w') := Lib.hid fun V hb =>
    (refSame _ _ _ _ _ _ _ _ V ((R6.below b6).below hb) ((hr.below b6).below hb) (by omega)).mono fun _ _ h => ⟨by rw [h.1, decide_eq_true rfl], hb.trans (h.2.mono hb.size)⟩
  have CL : Hid (∀ V, Below F.heap.size F V → V.cell? ⟨w6.heap.size, 0, none⟩ = some (.slice Ap np cp) ∧ V.cell? ⟨w6.heap.size, 1, none⟩ = some (.int .i64 PO) ∧ V.cell? ⟨w6.heap.size, 2, none⟩ = some (.slice A1 LF.length c1) ∧ V.cell? ⟨w6.heap.size, 3, none⟩ = some (.slice A3 RG.length c3) ∧ V.cell? ⟨w6.heap.size, 4, none⟩ = some (.int .i64 (T : Int)) ∧ V.cell? ⟨w6.heap.size + 1, 0, none⟩ = some (.slice Bp mp dp) ∧ V.cell? ⟨w6.heap.size + 1, 1, none⟩ = some (.int .i64 PO) ∧ V.cell? ⟨w6.heap.size + 1, 2, none⟩ = some (.slice A4 LF.length c4) ∧ V.cell? ⟨w6.heap.size + 1, 3, none⟩ = some (.slice A6 RG.length c6) ∧ V.cell? ⟨w6.heap.size + 1, 4, none⟩ = some (.int .i64 (T : Int)) ∧ V.cell? ⟨w4.heap.size, 3, none⟩ = some (.int .i64 (2 * (T : Int)))) := Lib.hid fun V hb => by
    have e1 := (hb.block w6.heap.size (lt_of_block r1)).trans r1
    have e2 := (hb.block (w6.heap.size + 1) (lt_of_block r2)).trans r2
    have e3 := (hb.block w4.heap.size (lt_of_block r3F)).trans r3F
    refine ⟨?_, ?_, ?_, ?_, ?_, ?_, ?_, ?_, ?_, ?_, ?_⟩
    all_goals first | (rw [cell_of_row _ _ _ _ _ _ e1]; rfl) | (rw [cell_of_row _ _ _ _ _ _ e2]; rfl) | (rw [cell_of_row _ _ _ _ _ _ e3]; rfl)
  have HF := Lib.hid (show F = (w6.alloc (.cells #[.slice Ap np cp, .int .i64 PO, .slice A1 LF.length c1, .slice A3 RG.length c3, .int .i64 (T : Int)] 48)).alloc (.cells #[.slice Bp mp dp, .int .i64 PO, .slice A4 LF.length c4, .slice A6 RG.length c6, .int .i64 (T : Int)] 50) from by rw [hF, hF1])
  have BF := Lib.hid (BW6.trans (b6.mono BW6.size))
  have G0 := Lib.hid (Below.refl F.heap.size F).drew
  have hwr : IntKind.i64.wrap (2 * (T : Int)) = 2 * (T : Int) := IntWalk.i64_in _ ⟨by omega, by omega⟩
  obtain ⟨k0, k1, k2, k3, k4, k5, k6, k7, k8, k9, k10⟩ := CL.out F (Below.refl _ _)
  clear hF hF1 s1 b1 b2 b6 r1 r2 r3 r3F FD0 L6 R6 V6 C6 hv hl hr hbt hX BW6
  go_wp2
  rw [← HF.out]
  go_region_held3 (fun V => V.cell? ⟨w6.heap.size, 0, none⟩ = some (.slice Ap np cp) ∧ V.cell? ⟨w6.heap.size, 1, none⟩ = some (.int .i64 PO) ∧ V.cell? ⟨w6.heap.size, 2, none⟩ = some (.slice A1 LF.length c1) ∧ V.cell? ⟨w6.heap.size, 3, none⟩ = some (.slice A3 RG.length c3) ∧ V.cell? ⟨w6.heap.size, 4, none⟩ = some (.int .i64 (T : Int)) ∧ V.cell? ⟨w6.heap.size + 1, 0, none⟩ = some (.slice Bp mp dp) ∧ V.cell? ⟨w6.heap.size + 1, 1, none⟩ = some (.int .i64 PO) ∧ V.cell? ⟨w6.heap.size + 1, 2, none⟩ = some (.slice A4 LF.length c4) ∧ V.cell? ⟨w6.heap.size + 1, 3, none⟩ = some (.slice A6 RG.length c6) ∧ V.cell? ⟨w6.heap.size + 1, 4, none⟩ = some (.int .i64 (T : Int)) ∧ V.cell? ⟨w4.heap.size, 3, none⟩ = some (.int .i64 (2 * (T : Int)))) (go_keep) (first
    | (go_at_call 20; (with_reducible refine (FP.out _ G0.out).mono ?_); rintro _ Y1 ⟨rfl, hb⟩; obtain ⟨u0, u1, u2, u3, u4, u5, u6x, u7x, u8x, u9x, u10x⟩ := CL.out Y1 hb; have G1 := Lib.hid hb; clear hb)
    | (go_at_call 12; (with_reducible refine (FL.out _ G1.out).mono ?_); rintro _ Y2 ⟨rfl, hb⟩; obtain ⟨v0, v1, v2, v3, v4, v5, v6, v7, v8, v9, v10⟩ := CL.out Y2 hb; have G2 := Lib.hid hb; clear hb)
    | (go_at_call 12; (with_reducible refine (FG.out _ G2.out).mono ?_); rintro _ Y3 ⟨rfl, hb⟩; obtain ⟨x0, x1, x2, x3, x4, x5, x6, x7, x8, x9, x10⟩ := CL.out Y3 hb; have G3 := Lib.hid hb; clear hb)
    | (go_at_call 21; (with_reducible refine (FD.out _ G3.out).mono ?_); rintro _ Y4 ⟨rfl, rfl⟩))
  go_wp2
  go_ret
  exact ⟨rfl, BF.out.trans (G3.out.mono BF.out.size)⟩
theorem own : ownKnob Try.prog.godebug = none := by kernel_rfl
theorem laidOut : laidOutB Try.prog = true := by kernel_rfl
set_option maxRecDepth 100000 in
theorem lifted (os : Os) (started : os.Started) (H : Type) (enc : TypeId × Value → H) :
    ReturnsInHanded {} Try.checked os 4 .any (Rows.splitChoosesSpec.pre6 enc Try.prog Try.f4 Rows.splitChoosesRow.domain false) (Rows.splitChoosesSpec.post enc Try.prog Try.f4 false true false false) := by
  refine returnsInHanded_of_change (C := Try.checked) own started (by kernel_rfl) Try.func4
    (ChangeSpec.witness6 (enc := enc) (C := Try.checked) false ⟨#[], #[.int .i64 0, .slice none 0 0, .slice none 0 0, .slice none 0 0], []⟩ 8 (by kernel_rfl) (by kernel_rfl) (by kernel_rfl) (by kernel_rfl)) ?_
  intro W base args ds gs before hval0 hW hcnd _
  have hval : ∀ (j : Nat) t v, Try.f4.params[j]? = some t → args[j]? = some v → Value.okWide Try.prog W .any base t v := hval0
  have hW' := hW
  obtain ⟨p, q, hA0, hV, rfl, hfz, hnd⟩ := hW
  have hA : DataW.TrodAll enc Try.prog W 0 (fun _ => true) true Try.f4.params.toList args.toList ds p := hA0
  rw [Try.params4] at hA hval
  obtain ⟨v0, vs0, d0, ds0, p0, q0, hargs, rfl, rfl, h0, r0⟩ := trodAll_cons hA
  obtain ⟨v1, vs1, d1, ds1, p1, q1, rfl, rfl, rfl, h1, r1⟩ := trodAll_cons r0
  obtain ⟨v2, vs2, d2, ds2, p2, q2, rfl, rfl, rfl, h2, r2⟩ := trodAll_cons r1
  obtain ⟨v3, vs3, d3, ds3, p3, q3, rfl, rfl, rfl, h3, r3⟩ := trodAll_cons r2
  obtain ⟨rfl, rfl, rfl⟩ := trodAll_nil r3
  obtain rfl : args = #[v0, v1, v2, v3] := by cases args; simp_all
  obtain ⟨rfl, rfl⟩ := trodVars_none hV
  obtain ⟨a0, rfl, rfl, rfl, w0⟩ := open_int Try.underlying3 (hval 0 3 v0 rfl rfl) h0
  obtain ⟨a1, len1, cap1, rfl⟩ := okWide_slice Try.underlying22 (hval 1 22 v1 rfl rfl)
  have k1 := h1
  have lt1 : ∀ x ∈ p1, x.block < W.heap.size := by obtain ⟨m, hm⟩ := k1; exact DataW.trod_lt m _ _ _ hm
  obtain ⟨z1, w1⟩ : ∃ L, Lv W a1 len1 cap1 L := by
    obtain ⟨fuel, hf⟩ := h1
    rcases Go.Deep.open_int_rows Try.underlying22 Try.underlying24 Try.underlying21 (by kernel_rfl) (by kernel_rfl) hf with ⟨hcs, _⟩ | ⟨x, l, c, _, _, _, _, hcs, _, hl, _, _, hx⟩
    · simp [Value.cells] at hcs
      obtain ⟨rfl, rfl, rfl⟩ := hcs
      exact ⟨[], Lv.nil_ _⟩
    · simp [Value.cells] at hcs
      obtain ⟨rfl, rfl, rfl⟩ := hcs
      exact ⟨_, Lv.of_rows hl hx⟩
  obtain ⟨a2, len2, cap2, rfl⟩ := okWide_slice Try.underlying23 (hval 2 23 v2 rfl rfl)
  have k2 := h2
  have lt2 : ∀ x ∈ p2, x.block < W.heap.size := by obtain ⟨m, hm⟩ := k2; exact DataW.trod_lt m _ _ _ hm
  obtain ⟨z2, w2⟩ : ∃ zs, IsRow .i64 W a2 len2 cap2 zs := by
    obtain ⟨fuel, hf⟩ := h2
    rcases open_ints Try.underlying23 Try.underlying3 (by kernel_rfl) hf with ⟨hcs, _⟩ | ⟨x, l, c, zs, hcs, _, hl, hm, hz, _, hcell, hwz⟩
    · simp [Value.cells] at hcs
      obtain ⟨rfl, rfl, rfl⟩ := hcs
      exact ⟨[], .inl ⟨rfl, rfl, rfl, rfl⟩⟩
    · simp [Value.cells] at hcs
      obtain ⟨rfl, rfl, rfl⟩ := hcs
      exact ⟨zs, .inr ⟨_, rfl, hl, hm, by simpa using hz, hcell, hwz⟩⟩
  obtain ⟨a3, len3, cap3, rfl⟩ := okWide_slice Try.underlying37 (hval 3 37 v3 rfl rfl)
  have k3 := h3
  have lt3 : ∀ x ∈ p3, x.block < W.heap.size := by obtain ⟨m, hm⟩ := k3; exact DataW.trod_lt m _ _ _ hm
  obtain ⟨z3, w3⟩ : ∃ zs, IsRow .u64 W a3 len3 cap3 zs := by
    obtain ⟨fuel, hf⟩ := h3
    rcases open_ints Try.underlying37 Try.underlying44 (by kernel_rfl) hf with ⟨hcs, _⟩ | ⟨x, l, c, zs, hcs, _, hl, hm, hz, _, hcell, hwz⟩
    · simp [Value.cells] at hcs
      obtain ⟨rfl, rfl, rfl⟩ := hcs
      exact ⟨[], .inl ⟨rfl, rfl, rfl, rfl⟩⟩
    · simp [Value.cells] at hcs
      obtain ⟨rfl, rfl, rfl⟩ := hcs
      exact ⟨zs, .inr ⟨_, rfl, hl, hm, by simpa using hz, hcell, hwz⟩⟩
  clear hA0 hval0
  refine (walk a0 a1 len1 cap1 z1 a2 len2 cap2 z2 a3 len3 cap3 z3 W w0 w1 w2 w3).mono fun e W' ⟨he, bel⟩ => ?_
  subst he
  exact ⟨_, rfl, _, _, _, [], _, [], hW', trodAll_mk1 (shut_bool Try.underlying4 _), (trodAll_cons_mk (shut_int Try.underlying3 w0) (trodAll_cons_mk (Below.trod laidOut (by kernel_rfl) (of_decide_eq_true (by kernel_rfl)) k1 bel lt1) (trodAll_cons_mk (Below.trod laidOut (by kernel_rfl) (of_decide_eq_true (by kernel_rfl)) k2 bel lt2) (trodAll_cons_mk (Below.trod laidOut (by kernel_rfl) (of_decide_eq_true (by kernel_rfl)) k3 bel lt3) trodAll_mk0)))), rfl, bel.frame _, fun h => by cases h⟩
theorem over : Rows.splitChoosesRow.holds Try.pinned (OpenSpec.ofChange Rows.splitChoosesSpec) :=
  OpenClaim.holds_of_wide 4 Try.f4 rfl rfl rfl rfl rfl rfl rfl ⟨rfl, rfl, rfl, rfl, rfl⟩ rfl rfl rfl rfl rfl (by kernel_rfl) Try.func4 (by kernel_rfl)
    (of_decide_eq_true (by kernel_rfl)) (by unfold Func.isWrapper; first | (rw [if_pos (by decide +kernel)]; kernel_rfl) | (rw [if_neg (by decide +kernel)]; exact ⟨rfl, rfl⟩))
    (fun os started H enc _ => lifted os started H enc)
/-- the statement -/
theorem proved : Rows.SplitChoosesSaid := over
#print axioms proved
end Go.Proofs.Ytljgmcdkomhmbaa.splitChooses
