/-
  GrowTree holds for every input: the tree of any items, by any numbers, and any draws, is just the one that is defined; or why there is none; as many draws are made. No condition.
-/
import Derived.Test.YtafkbagjjknhlaaWAwk
import Derived.Test.YtafkbagjjknhlaaWArg
import Derived.ProofKit
import Derived.Lib.SmallJoins
import Derived.OpenShut
import Derived.ShutString
import Derived.ChangeOld
import Derived.WalkSmall
import Derived.Deep.RegionHeld3
namespace Go.Proofs.Ytafkbagjjknhlaa.growTree
open Go.ChangeShapes Go.WideShapes Go.ChangeAt Go.RowKit Go.Joins
open Go.ChangeMaps (open_string shut_string)
set_option linter.unusedVariables false

theorem row_len {k : IntKind} {w : World} {a : Option Addr} {len cap : Nat} {zs : List Int} (h : IsRow k w a len cap zs) : len ≤ maxLen := by
  rcases h with ⟨rfl, rfl, rfl, rfl⟩ | ⟨x, rfl, hl, hm, _⟩
  · exact Nat.zero_le _
  · omega
theorem u64_in {n : Int} (h : (Lit.int .u64 n).wf = true) : 0 ≤ n ∧ n < 18446744073709551616 := by have := bounds_u64 h; omega

set_option maxHeartbeats 3200000 in
set_option maxRecDepth 100000 in
theorem walk (dim : Int) (a1 : Option Addr) (len1 cap1 : Nat) (L : List (List Int)) (tr lf dp : Int) (sc : Bool) (sd : Int) (pA : Option Addr) (pn pc : Nat) (a3 : Option Addr) (len3 cap3 : Nat) (z3 : List Int) (w : World)
    (w0 : (Lit.int .i64 dim).wf = true) (w1 : Lv w a1 len1 cap1 L) (w2 : True) (w3 : IsRow .u64 w a3 len3 cap3 z3) :
    Calls Try.prog 3 #[.int .i64 dim, .slice a1 len1 cap1, .agg #[.int .i64 tr, .int .i64 lf, .int .i64 dp, .bool sc, .int .u64 sd, .slice pA pn pc], .slice a3 len3 cap3] w fun e w' => e = .returned (.bool true) ∧ Below w.heap.size w w' := by
  obtain ⟨d1, -, -, d4, d5⟩ := w3.lst
  obtain ⟨ds, hds⟩ : ∃ ds, ds = z3.take len3 := ⟨_, rfl⟩
  rw [← hds] at d1 d4
  have hml := row_len w3
  obtain ⟨E0, hE0⟩ : ∃ E, E = w.alloc (.cells #[.int .i64 tr, .int .i64 lf, .int .i64 dp, .bool sc, .int .u64 sd, .slice pA pn pc] 28) := ⟨_, rfl⟩
  have b0 : Below w.heap.size w E0 := by rw [hE0]; exact (Below.refl _ w).alloc (Nat.le_refl _) _
  have s0 : w.heap.size < E0.heap.size := by rw [hE0]; simp
  have HP0 : Hid (Prx E0 w.heap.size tr lf dp sc sd pA pn pc) := by rw [hE0]; exact Prx.new w _ _ _ _ _ _ _ _
  have HE0 := Lib.hid hE0
  have HL := Lib.hid w1
  have D1 := Lib.hid d1
  have D4 := Lib.hid (show ∀ x ∈ ds, 0 ≤ x ∧ x < 18446744073709551616 from fun x hx => u64_in (d4 x hx))
  have D5 := Lib.hid d5
  have BE0 := Lib.hid b0
  have HLN := Lib.hid w1.len
  clear w0 w1 w2 w3 hds d1 d4 d5 hE0 b0
  go_enter Try.func3, Try.ntmps3
  go_wp2_with fail
  rw [← HE0.out]
  clear HE0
  refine (awakeW _).mono ?_
  rintro e w1 ⟨rfl, hb1⟩
  have B1 := Lib.hid (BE0.out.trans (hb1.mono BE0.out.size))
  have P1 := Lib.hid (HP0.out.below hb1)
  clear hb1 HP0
  go_wp2_with fail
  refine (someW (HL.out.below B1.out) dim).mono ?_
  rintro e w2 (⟨rfl, hb2⟩ | ⟨s, S, rfl, hit, hSn, hb2, hck, h301⟩)
  · have B2 := Lib.hid (B1.out.trans (hb2.mono B1.out.size))
    clear hb2
    go_wp2
    go_ret
    exact ⟨rfl, B2.out⟩
  have B2 := Lib.hid (B1.out.trans (hb2.mono B1.out.size))
  have P2 := Lib.hid (P1.out.below hb2)
  have HI := Lib.hid hit
  have HC := Lib.hid (chks_lensW hck)
  have HD := Lib.hid (Dm.chks_zero hck)
  have hpw : w.heap.size < w2.heap.size := P2.out.lt
  clear hb2 hit hSn hck B1 P1
  by_cases g : 500 < len3
  · go_wp2
    go_ret
    exact ⟨rfl, B2.out⟩
  have g' : len3 ≤ 500 := by omega
  clear g
  have hsw := B2.out.size
  go_wp2_with fail
  refine (script_new a3 len3 cap3 ds w2 ((D1.out.below B2.out).more B2.out.size) D5.out (by omega) D4.out).mono ?_
  rintro e w3 ⟨b, rfl, hbas, hb3⟩
  have BAS := Lib.hid hbas
  have B23 := Lib.hid hb3
  clear hbas hb3
  go_wp2_with fail
  refine (count_new BAS.out).mono ?_
  rintro e w4 ⟨q, rfl, hctr, hb4⟩
  have CTR := Lib.hid hctr
  have B24 := Lib.hid (B23.out.trans (hb4.mono B23.out.size))
  have B4 := Lib.hid (B2.out.trans (B24.out.mono B2.out.size))
  clear hctr hb4 BAS B23
  obtain ⟨E, hE⟩ : ∃ E, E = w4.alloc (.cells #[.bool false, .int .u64 0, .slice a3 len3 cap3, .int .i64 0] 39) := ⟨_, rfl⟩
  have bE : Below w4.heap.size w4 E := by rw [hE]; exact (Below.refl _ _).alloc (Nat.le_refl _) _
  have sE : E.heap.size = w4.heap.size + 1 := by rw [hE]; simp
  have RF : Hid (Rfs E w.heap.size w4.heap.size (lstF ds) 0) := Lib.hid (by
    have h0 : Rfs E w.heap.size w4.heap.size (Rm.dr (ofF false 0 ds) 0) 0 :=
      ⟨false, 0, a3, len3, cap3, ds, by omega, by omega, D4.out, B4.out.size, by rw [hE]; exact heap_new _ _ _, (D1.out.below B4.out).keep (fun p hp => World.cell?_of_block (bE.block p.block (Nat.lt_of_lt_of_le hp B4.out.size))), by omega, rfl⟩
    exact h0)
  have BE := Lib.hid (B24.out.trans (bE.mono B24.out.size))
  have CE := Lib.hid (CTR.out.below bE)
  have BW := Lib.hid (B2.out.trans (BE.out.mono B2.out.size))
  have PE := Lib.hid (P2.out.below BE.out)
  have hlo := CE.out.size
  have q0 := PE.out.c0
  have q1 := PE.out.c1
  have q2 := PE.out.c2
  have q3 := PE.out.c3
  have q4 := PE.out.c4
  have q5 := PE.out.c5
  rw [hE] at q0 q1 q2 q3 q4 q5
  have HE := Lib.hid hE
  have hmm : w2.heap.size ≤ w4.heap.size := B24.out.size
  clear hE bE
  obtain ⟨ck, hck⟩ : ∃ ck, ck = Wm.chk tr lf dp := ⟨_, rfl⟩
  have HCK := Lib.hid hck
  clear hck
  by_cases hc0 : ck = 0
  case neg =>
    have FN0 := treeW_no (tr := tr) (lf := lf) (dp := dp) (sc := sc) (sd := sd) (pA := pA) (pn := pn) (pc := pc) (v := .iface 32 (.pointer (some ⟨q, 0, none⟩))) (HI.out.below BE.out) (.inl (by rw [← HCK.out]; exact hc0))
    rw [← HCK.out, if_neg hc0] at FN0
    have FN := Lib.hid FN0
    have hcb : (ck == 0) = false := by simpa using hc0
    have hcb2 : (ck != 0) = true := by simpa using hc0
    clear FN0
    go_wp2_with fail
    rw [← HE.out]
    clear HE q0 q1 q2 q3 q4 q5
    refine FN.out.mono ?_
    rintro e w5 ⟨At, ct, rfl, hb5⟩
    have P5 := Lib.hid (PE.out.below hb5)
    have C5 := Lib.hid (CE.out.below hb5)
    have B5 := Lib.hid (BW.out.trans (hb5.mono BW.out.size))
    have q0 := P5.out.c0
    have q1 := P5.out.c1
    have q2 := P5.out.c2
    have q3 := P5.out.c3
    have q4 := P5.out.c4
    have q5 := P5.out.c5
    have FR0 := refChk13 (w := w5) (tr := tr) (lf := lf) (dp := dp) (sc := sc) (sd := sd) (pA := pA) (pn := pn) (pc := pc)
    rw [← HCK.out] at FR0
    have FR := Lib.hid FR0
    clear FN hb5 FR0
    go_wp2_with fail
    refine FR.out.mono ?_
    rintro e w6 ⟨rfl, hb6⟩
    have P6 := Lib.hid (P5.out.below hb6)
    have C6 := Lib.hid (C5.out.below hb6)
    have B6 := Lib.hid (B5.out.trans (hb6.mono B5.out.size))
    have FR0 := chkW tr lf dp sc sd pA pn pc w6
    rw [← HCK.out] at FR0
    have FC := Lib.hid FR0
    clear hb6 FR0 FR q0 q1 q2 q3 q4 q5
    have q0 := P6.out.c0
    have q1 := P6.out.c1
    have q2 := P6.out.c2
    have q3 := P6.out.c3
    have q4 := P6.out.c4
    have q5 := P6.out.c5
    go_wp2_with fail
    refine FC.out.mono ?_
    rintro e w7 ⟨rfl, hb7⟩
    have B7 := Lib.hid (B6.out.trans (hb7.mono B6.out.size))
    have FD := Lib.hid (drawn_any (C6.out.below hb7))
    clear hb7 FC q0 q1 q2 q3 q4 q5
    go_wp2_with fail
    refine FD.out.mono ?_
    rintro e w8 ⟨rfl, rfl⟩
    clear FD
    go_wp2
    go_ret
    exact ⟨rfl, B7.out⟩
  by_cases hl0 : len1 = 0
  · have hLn : L = [] := List.eq_nil_of_length_eq_zero (by rw [HLN.out]; exact hl0)
    subst hl0
    have FN0 := treeW_no (tr := tr) (lf := lf) (dp := dp) (sc := sc) (sd := sd) (pA := pA) (pn := pn) (pc := pc) (v := .iface 32 (.pointer (some ⟨q, 0, none⟩))) (HI.out.below BE.out) (.inr hLn)
    rw [← HCK.out, if_pos hc0] at FN0
    have FN := Lib.hid FN0
    clear FN0 hLn
    go_wp2_with fail
    rw [← HE.out]
    clear HE q0 q1 q2 q3 q4 q5
    refine FN.out.mono ?_
    rintro e w5 ⟨At, ct, rfl, hb5⟩
    have P5 := Lib.hid (PE.out.below hb5)
    have C5 := Lib.hid (CE.out.below hb5)
    have B5 := Lib.hid (BW.out.trans (hb5.mono BW.out.size))
    have q0 := P5.out.c0
    have q1 := P5.out.c1
    have q2 := P5.out.c2
    have q3 := P5.out.c3
    have q4 := P5.out.c4
    have q5 := P5.out.c5
    have FR0 := refChk13 (w := w5) (tr := tr) (lf := lf) (dp := dp) (sc := sc) (sd := sd) (pA := pA) (pn := pn) (pc := pc)
    rw [← HCK.out, hc0] at FR0
    have FR := Lib.hid FR0
    clear FN hb5 FR0
    go_wp2_with fail
    refine FR.out.mono ?_
    rintro e w6 ⟨rfl, hb6⟩
    have P6 := Lib.hid (P5.out.below hb6)
    have C6 := Lib.hid (C5.out.below hb6)
    have B6 := Lib.hid (B5.out.trans (hb6.mono B5.out.size))
    have FR0 := chkW tr lf dp sc sd pA pn pc w6
    rw [← HCK.out, hc0] at FR0
    have FC := Lib.hid FR0
    clear hb6 FR0 FR q0 q1 q2 q3 q4 q5
    have q0 := P6.out.c0
    have q1 := P6.out.c1
    have q2 := P6.out.c2
    have q3 := P6.out.c3
    have q4 := P6.out.c4
    have q5 := P6.out.c5
    go_wp2_with fail
    refine FC.out.mono ?_
    rintro e w7 ⟨rfl, hb7⟩
    have B7 := Lib.hid (B6.out.trans (hb7.mono B6.out.size))
    have FD := Lib.hid (drawn_any (C6.out.below hb7))
    clear hb7 FC q0 q1 q2 q3 q4 q5
    go_wp2_with fail
    refine FD.out.mono ?_
    rintro e w8 ⟨rfl, rfl⟩
    clear FD
    go_wp2
    go_ret
    exact ⟨rfl, B7.out⟩
  have hck := Wm.chk_ok (show Wm.chk tr lf dp = 0 from by rw [← HCK.out]; exact hc0)
  obtain ⟨lim, hlim⟩ : ∃ lim : Nat, lf = (lim : Int) := ⟨lf.toNat, by omega⟩
  obtain ⟨dn, hdn⟩ : ∃ dn : Nat, dp = (dn : Int) := ⟨dp.toNat, by omega⟩
  obtain ⟨dd, hdd⟩ : ∃ dd : Nat, dim = (dd : Int) := ⟨dim.toNat, by have := HD.out.1; omega⟩
  subst hlim
  subst hdn
  have hdd1 : dd ≤ 1024 := by have := HD.out.2.1; omega
  have hLn : L.length = len1 := HLN.out
  have FT0 := treeW (tr := tr) (sc := sc) (sd := sd) (pA := pA) (pn := pn) (pc := pc) (lim := lim) (dp := dn) (HI.out.below BE.out) (lo := w2.heap.size) (hi := w4.heap.size) (fun k hk => .inl (HI.out.lt k hk)) CE.out.src (N := 0) (by omega) (by omega) (by omega) (by rw [← HCK.out]; exact hc0)
  unfold growT at FT0
  rw [hdd, Int.toNat_natCast, hLn] at FT0
  have FG0 := fun V hV hr => refTree (tr := tr) (sd := sd) (sc := sc) (pA := pA) (pn := pn) (pc := pc) (dd := dd) (lim := lim) (dp := dn) (w := V) (f := lstF ds) (N := 0) (B := w.heap.size) (mm := w4.heap.size) (n := len1) (by omega) (by omega) HC.out hdd1 (by omega) (by omega) (Nat.lt_of_lt_of_le (Nat.lt_succ_self _) hV) hr (by omega) w HL.out
  obtain ⟨dt, htr⟩ := Wm.grow_tr (L := L) (d := dd) (lim := lim) (by omega) dn (Wm.upto len1) 0 (lstF ds)
  have hfew := htr.few (by rw [Wm.upto_length]; omega)
  have htw := htr.twice
  have hper := htr.perm.length_eq
  rw [Wm.upto_length] at hfew hper
  obtain ⟨G, hG⟩ : ∃ G, G = Wm.grow L dd lim dn (Wm.upto len1) 0 (lstF ds) := ⟨_, rfl⟩
  rw [← hG] at FT0 FG0 hfew htw hper
  have hid : ∀ t ∈ G.1, t.ids.length ≤ 1000000 := fun t ht => by
    have h1 := Wm.held_le ht
    omega
  have HID := Lib.hid hid
  have FT := Lib.hid FT0
  have FG := Lib.hid FG0
  have hg1 : G.1.length ≤ 1000 := by omega
  have hg2 : G.2 ≤ 3000 := by omega
  clear FT0 FG0 htr hfew htw hper hG hid
  subst hdd
  go_wp2_with fail
  rw [← HE.out]
  clear HE q0 q1 q2 q3 q4 q5
  refine FT.out.mono ?_
  rintro e w5 ⟨At, ct, rfl, hnt, hsrc, hbt⟩
  have P5 := Lib.hid (PE.out.btw (.inl hpw) hbt)
  have C5 := Lib.hid hsrc.ctr
  have B5 := Lib.hid (BW.out.trans (hbt.old (B := w.heap.size) BW.out.size hsw))
  have RF5 := Lib.hid (RF.out.other hbt hsw (Nat.le_refl _))
  have NT5 := Lib.hid hnt
  have s5 := hbt.size
  have q0 := P5.out.c0
  have q1 := P5.out.c1
  have q2 := P5.out.c2
  have q3 := P5.out.c3
  have q4 := P5.out.c4
  have q5 := P5.out.c5
  have FR0 := refChk13 (w := w5) (tr := tr) (lf := (lim : Int)) (dp := (dn : Int)) (sc := sc) (sd := sd) (pA := pA) (pn := pn) (pc := pc)
  rw [← HCK.out, hc0] at FR0
  have FR := Lib.hid FR0
  clear FT hnt hsrc hbt FR0
  go_wp2_with fail
  refine FR.out.mono ?_
  rintro e w6 ⟨rfl, hb6⟩
  have P6 := Lib.hid (P5.out.below hb6)
  have B56 := Lib.hid hb6
  have s6 := hb6.size
  have FR0 := chkW tr (lim : Int) (dn : Int) sc sd pA pn pc w6
  rw [← HCK.out, hc0] at FR0
  have FC := Lib.hid FR0
  clear hb6 FR0 FR q0 q1 q2 q3 q4 q5
  have q0 := P6.out.c0
  have q1 := P6.out.c1
  have q2 := P6.out.c2
  have q3 := P6.out.c3
  have q4 := P6.out.c4
  have q5 := P6.out.c5
  go_wp2_with fail
  refine FC.out.mono ?_
  rintro e w7 ⟨rfl, hb7⟩
  have s7 := hb7.size
  have B57 : Hid (Below w5.heap.size w5 w7) := Lib.hid (B56.out.trans (hb7.mono B56.out.size))
  have P7 := P6.out.below hb7
  clear hb7 FC q0 q1 q2 q3 q4 q5
  have q0 := P7.c0
  have q1 := P7.c1
  have q2 := P7.c2
  have q3 := P7.c3
  have q4 := P7.c4
  have q5 := P7.c5
  have HP7 := Lib.hid P7
  clear P7
  have FR : Hid (∀ V, Below w7.heap.size w7 V → Calls Try.prog 17 #[.slice a1 len1 cap1, .int .i64 (dd : Int), .agg #[.int .i64 tr, .int .i64 (lim : Int), .int .i64 (dn : Int), .bool sc, .int .u64 sd, .slice pA pn pc], .pointer (some ⟨w4.heap.size, 0, none⟩)] V fun e w' => ∃ A' c', e = .returned (.slice A' G.1.length c') ∧
      Nds (fun k => k ≠ w4.heap.size) w' A' G.1.length c' G.1 ∧ Nds (fun k => E.heap.size ≤ k) w' At G.1.length ct G.1 ∧ Ctr w' w2.heap.size w4.heap.size q (Rm.dr (lstF ds) G.2) (0 + G.2) ∧ w'.cell? ⟨w4.heap.size, 3, none⟩ = some (.int .i64 (G.2 : Int)) ∧ Prx w' w.heap.size tr (lim : Int) (dn : Int) sc sd pA pn pc ∧ Below w.heap.size w w') := Lib.hid fun V hV => by
    have hbV : Below w5.heap.size w5 V := B57.out.trans (hV.mono B57.out.size)
    have hsV := hbV.size
    refine (FG.out V (by omega) (RF5.out.keep fun k hk => hbV.block k (by omega)) (B5.out.trans (hbV.mono B5.out.size)) B4.out.size).mono ?_
    rintro e w' ⟨A', c', rfl, h1, h2, h3⟩
    refine ⟨A', c', rfl, h1, (NT5.out.below hbV).btw (lo := w4.heap.size) (hi := w4.heap.size + 1) (fun k hk => by omega) h3, (C5.out.below hbV).other h3 (.inl (Nat.le_refl _)), ?_, (P5.out.below hbV).btw (.inl (by omega)) h3, (B5.out.trans (hbV.mono B5.out.size)).trans (h3.old (B := w.heap.size) (by have := B5.out.size; omega) B4.out.size)⟩
    obtain ⟨mx, sx, Ax, nx, cx, xx, -, -, -, -, r3, -⟩ := h2
    rw [cell_of_row _ _ _ _ _ _ r3, Nat.zero_add]; rfl
  have G0 := Lib.hid (Below.refl w7.heap.size w7).drew
  have GA := Lib.hid (Below.refl w7.heap.size w7)
  clear FG NT5 RF5 C5 P5 P6 B5 B56 B57 RF BE CE PE CTR D1 D4 D5 HC HD HI P2 BE0
  go_wp2
  go_region_with (first
    | (go_at_call 17; (with_reducible refine (FR.out _ (by first | exact G0.out | exact GA.out)).mono ?_); rintro _ Y1 ⟨A', c', rfl, hn1, hn2, hctr, hz, hpx, hby⟩; have u0 := hpx.c0; have u1 := hpx.c1; have u2 := hpx.c2; have u3 := hpx.c3; have u4 := hpx.c4; have u5 := hpx.c5; have FS := Lib.hid (fun V (hV : Below Y1.heap.size Y1 V) => refSameT (hn2.below hV) (hn1.below hV) (by omega) HID.out); have HX := Lib.hid hpx; have HZ := Lib.hid hz; have HCT := Lib.hid hctr; have HBY := Lib.hid hby; have G1 := Lib.hid (Below.refl Y1.heap.size Y1); clear hn1 hn2 hctr hz hpx hby)
    | (go_at_call 16; (with_reducible refine (FS.out _ G1.out).mono ?_); rintro _ Y2 ⟨rfl, hb⟩; have hpx := HX.out.below hb; have v0 := hpx.c0; have v1 := hpx.c1; have v2 := hpx.c2; have v3 := hpx.c3; have v4 := hpx.c4; have v5 := hpx.c5; have v6 : Y2.cell? ⟨w4.heap.size, 3, none⟩ = some (.int .i64 (G.2 : Int)) := (hb.cell (p := ⟨w4.heap.size, 3, none⟩) (cell_block_lt HZ.out)).trans HZ.out; have FD := Lib.hid (drawn_any (HCT.out.below hb)); have HB2 := Lib.hid (HBY.out.trans (hb.mono HBY.out.size)); clear hpx hb)
    | (go_at_call 15; (with_reducible refine FD.out.mono ?_); rintro _ Y4 ⟨rfl, rfl⟩))
  all_goals
    go_wp2
    go_ret
    exact ⟨rfl, HB2.out⟩
theorem own : ownKnob Try.prog.godebug = none := by kernel_rfl
theorem laidOut : laidOutB Try.prog = true := by kernel_rfl
set_option maxRecDepth 100000 in
theorem lifted (os : Os) (started : os.Started) (H : Type) (enc : TypeId × Value → H) :
    ReturnsInHanded {} Try.checked os 3 .any (Rows.growTreeSpec.pre6 enc Try.prog Try.f3 Rows.growTreeRow.domain false) (Rows.growTreeSpec.post enc Try.prog Try.f3 false true false false) := by
  refine returnsInHanded_of_change (C := Try.checked) own started (by kernel_rfl) Try.func3
    (ChangeSpec.witness6 (enc := enc) (C := Try.checked) false ⟨#[], #[.int .i64 0, .slice none 0 0, .agg #[.int .i64 0, .int .i64 0, .int .i64 0, .bool false, .int .u64 0, .slice none 0 0], .slice none 0 0], []⟩ 8 (by kernel_rfl) (by kernel_rfl) (by kernel_rfl) (by kernel_rfl)) ?_
  intro W base args ds gs before hval0 hW hcnd _
  have hval : ∀ (j : Nat) t v, Try.f3.params[j]? = some t → args[j]? = some v → Value.okWide Try.prog W .any base t v := hval0
  have hW' := hW
  obtain ⟨p, q, hA0, hV, rfl, hfz, hnd⟩ := hW
  have hA : DataW.TrodAll enc Try.prog W 0 (fun _ => true) true Try.f3.params.toList args.toList ds p := hA0
  rw [Try.params3] at hA hval
  obtain ⟨v0, vs0, d0, ds0, p0, q0, hargs, rfl, rfl, h0, r0⟩ := trodAll_cons hA
  obtain ⟨v1, vs1, d1, ds1, p1, q1, rfl, rfl, rfl, h1, r1⟩ := trodAll_cons r0
  obtain ⟨v2, vs2, d2, ds2, p2, q2, rfl, rfl, rfl, h2, r2⟩ := trodAll_cons r1
  obtain ⟨v3, vs3, d3, ds3, p3, q3, rfl, rfl, rfl, h3, r3⟩ := trodAll_cons r2
  obtain ⟨rfl, rfl, rfl⟩ := trodAll_nil r3
  obtain rfl : args = #[v0, v1, v2, v3] := by cases args; simp_all
  obtain ⟨rfl, rfl⟩ := trodVars_none hV
  obtain ⟨a0, rfl, rfl, rfl, w0⟩ := open_int Try.underlying3 (hval 0 3 v0 rfl rfl) h0
  obtain ⟨a1, len1, cap1, rfl⟩ := okWide_slice Try.underlying22 (hval 1 22 v1 rfl rfl)
  have k1 := h1
  have lt1 : ∀ x ∈ p1, x.block < W.heap.size := by obtain ⟨m, hm⟩ := k1; exact DataW.trod_lt m _ _ _ hm
  obtain ⟨z1, w1⟩ : ∃ L, Lv W a1 len1 cap1 L := by
    obtain ⟨fuel, hf⟩ := h1
    rcases Go.Deep.open_int_rows Try.underlying22 Try.underlying55 Try.underlying21 (by kernel_rfl) (by kernel_rfl) hf with ⟨hcs, _⟩ | ⟨x, l, c, _, _, _, _, hcs, _, hl, _, _, hx⟩
    · simp [Value.cells] at hcs
      obtain ⟨rfl, rfl, rfl⟩ := hcs
      exact ⟨[], Lv.nil_ _⟩
    · simp [Value.cells] at hcs
      obtain ⟨rfl, rfl, rfl⟩ := hcs
      exact ⟨_, Lv.of_rows hl hx⟩
  have k2 := h2
  have lt2 : ∀ x ∈ p2, x.block < W.heap.size := by obtain ⟨m, hm⟩ := k2; exact DataW.trod_lt m _ _ _ hm
  obtain ⟨tr2, lf2, dp2, sc2, sd2, a2, len2, cap2, g2⟩ := params_open (hval 2 28 v2 rfl rfl) h2
  subst g2
  have w2 := trivial
  obtain ⟨a3, len3, cap3, rfl⟩ := okWide_slice Try.underlying24 (hval 3 24 v3 rfl rfl)
  have k3 := h3
  have lt3 : ∀ x ∈ p3, x.block < W.heap.size := by obtain ⟨m, hm⟩ := k3; exact DataW.trod_lt m _ _ _ hm
  obtain ⟨z3, w3⟩ : ∃ zs, IsRow .u64 W a3 len3 cap3 zs := by
    obtain ⟨fuel, hf⟩ := h3
    rcases open_ints Try.underlying24 Try.underlying23 (by kernel_rfl) hf with ⟨hcs, _⟩ | ⟨x, l, c, zs, hcs, _, hl, hm, hz, _, hcell, hwz⟩
    · simp [Value.cells] at hcs
      obtain ⟨rfl, rfl, rfl⟩ := hcs
      exact ⟨[], .inl ⟨rfl, rfl, rfl, rfl⟩⟩
    · simp [Value.cells] at hcs
      obtain ⟨rfl, rfl, rfl⟩ := hcs
      exact ⟨zs, .inr ⟨_, rfl, hl, hm, by simpa using hz, hcell, hwz⟩⟩
  clear hA0 hval0
  refine (walk a0 a1 len1 cap1 z1 tr2 lf2 dp2 sc2 sd2 a2 len2 cap2 a3 len3 cap3 z3 W w0 w1 w2 w3).mono fun e W' ⟨he, bel⟩ => ?_
  subst he
  exact ⟨_, rfl, _, _, _, [], _, [], hW', trodAll_mk1 (shut_bool Try.underlying4 _), (trodAll_cons_mk (shut_int Try.underlying3 w0) (trodAll_cons_mk (Below.trod laidOut (by kernel_rfl) (of_decide_eq_true (by kernel_rfl)) k1 bel lt1) (trodAll_cons_mk (Below.trod laidOut (by kernel_rfl) (of_decide_eq_true (by kernel_rfl)) k2 bel lt2) (trodAll_cons_mk (Below.trod laidOut (by kernel_rfl) (of_decide_eq_true (by kernel_rfl)) k3 bel lt3) trodAll_mk0)))), rfl, bel.frame _, fun h => by cases h⟩
theorem over : Rows.growTreeRow.holds Try.pinned (OpenSpec.ofChange Rows.growTreeSpec) :=
  OpenClaim.holds_of_wide 3 Try.f3 rfl rfl rfl rfl rfl rfl rfl ⟨rfl, rfl, rfl, rfl, rfl⟩ rfl rfl rfl rfl rfl (by kernel_rfl) Try.func3 (by kernel_rfl)
    (of_decide_eq_true (by kernel_rfl)) (by unfold Func.isWrapper; first | (rw [if_pos (by decide +kernel)]; kernel_rfl) | (rw [if_neg (by decide +kernel)]; exact ⟨rfl, rfl⟩))
    (fun os started H enc _ => lifted os started H enc)
/-- the statement -/
theorem proved : Rows.GrowTreeSaid := over
#print axioms proved
end Go.Proofs.Ytafkbagjjknhlaa.growTree
