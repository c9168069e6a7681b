/-
  StreamTells: any tree's stream, of any draws, tells just the document's draws; so does any seed's draw of any number. No condition.
-/
import Derived.Test.YtggbclkinndpnaaMAwk
import Derived.Test.YtggbclkinndpnaaMRef
import Derived.Lib.SmallJoins
import Derived.Deep.RegionHeld3
import Derived.Deep.DeepCutAuto
import Derived.Deep.WholeRow
import Derived.OpenShut
namespace Go.Proofs.Ytggbclkinndpnaa
open Go.RowKit Go.Joins Go.ChangeShapes Go.WideShapes Go.Deep
namespace streamTells

/-- what the loop keeps: the stream and the document's have told the same N draws -/
structure Both (w wr : World) (T lo hi b m ho : Nat) (F : Nat → Int) (N : Nat) : Prop where
  s : Bas T wr lo hi b (Rm.dr F N)
  r : Rdr wr m ho (Rm.dr F N) N
  u : Below w.heap.size w wr
/-- the stream has drawn, the document's not yet -/
structure Half (w wr : World) (T lo hi b m ho : Nat) (F : Nat → Int) (N : Nat) : Prop where
  s : Bas T wr lo hi b (Rm.dr F (N + 1))
  r : Rdr wr m ho (Rm.dr F N) N
  u : Below w.heap.size w wr
theorem Both.half {w wr w' : World} {T lo hi b m ho : Nat} {F : Nat → Int} {N : Nat} (h : Both w wr T lo hi b m ho F N) (hs : Bas T w' lo hi b (Rm.dr (Rm.dr F N) 1)) (hb : Btw lo hi wr w') (h1 : w.heap.size ≤ lo) (h2 : hi ≤ m) : Half w w' T lo hi b m ho F N :=
  ⟨by rw [Rm.dr_dr] at hs; exact hs, h.r.other hb (.inr h2), h.u.trans (hb.old h.u.size h1)⟩
theorem Half.both {w wr w' : World} {T lo hi b m ho : Nat} {F : Nat → Int} {N : Nat} (h : Half w wr T lo hi b m ho F N) (hr : Rdr w' m ho (Rm.dr (Rm.dr F N) 1) (N + 1)) (hb : Btw m ho wr w') (h1 : w.heap.size ≤ lo) (h2 : hi ≤ m) (hl : lo ≤ hi) : Both w w' T lo hi b m ho F (N + 1) :=
  ⟨h.s.keep hb.size fun k q1 q2 => hb.block k (by have := h.s.size; omega) (by omega), by rw [Rm.dr_dr] at hr; exact hr, h.u.trans (hb.old h.u.size (by omega))⟩

set_option maxHeartbeats 1600000 in
set_option maxRecDepth 100000 in
theorem walk (sc : Bool) (s : Int) (A : Option Addr) (len cap : Nat) (z : List Int) (tree trees n seed : Int) (w : World) (wd : (Lit.int .u64 s).wf = true ∧ IsRow .u64 w A len cap z) (w1 : (Lit.int .i64 tree).wf = true) (w2 : (Lit.int .i64 trees).wf = true) (w3 : (Lit.int .i64 n).wf = true) (w4 : (Lit.int .u64 seed).wf = true) :
    Calls Try.prog 3 #[.agg #[.bool sc, .int .u64 s, .slice A len cap], .int .i64 tree, .int .i64 trees, .int .i64 n, .int .u64 seed] w fun e w' => e = .returned (.bool true) ∧ Below w.heap.size w w' := by
  have q1 := iface_eql
  obtain ⟨D, hD⟩ : ∃ D, D = w.alloc (.cells #[.bool sc, .int .u64 s, .slice A len cap] 25) := ⟨_, rfl⟩
  have HBD : Hid (Below w.heap.size w D) := by rw [hD]; exact (Below.refl _ _).alloc (Nat.le_refl _) _
  have G := Lib.hid ((Dws.of_row wd.1 wd.2).below HBD.out)
  have hds : w.heap.size < D.heap.size := by rw [hD]; simp
  have hrow := heap_new w #[.bool sc, .int .u64 s, .slice A len cap] 25
  rw [← hD] at hrow
  have C0 := Lib.hid (show D.cell? ⟨w.heap.size, 0, none⟩ = some (.bool sc) from by rw [cell_of_row _ _ _ _ _ _ hrow]; rfl)
  have C1 := Lib.hid (show D.cell? ⟨w.heap.size, 1, none⟩ = some (.int .u64 s) from by rw [cell_of_row _ _ _ _ _ _ hrow]; rfl)
  have C2 := Lib.hid (show D.cell? ⟨w.heap.size, 2, none⟩ = some (.slice A len cap) from by rw [cell_of_row _ _ _ _ _ _ hrow]; rfl)
  have b1 := bounds_i64 w1
  have b2 := bounds_i64 w2
  have b3 := bounds_i64 w3
  clear wd w1 w2 w3 w4 hrow
  go_enter Try.func3, Try.ntmps3
  go_wp2_with fail
  rw [← hD]
  refine (awake_any _).mono ?_
  rintro _ W1 ⟨rfl, hb1⟩
  have HB1 := Lib.hid (HBD.out.trans (hb1.mono HBD.out.size))
  have c0 := (hb1.cell (p := ⟨w.heap.size, 0, none⟩) hds).trans C0.out
  have c1 := (hb1.cell (p := ⟨w.heap.size, 1, none⟩) hds).trans C1.out
  have c2 := (hb1.cell (p := ⟨w.heap.size, 2, none⟩) hds).trans C2.out
  have hs1 := hb1.size
  have HE1 := Lib.hid hb1
  have hlt1 : w.heap.size < W1.heap.size := by omega
  clear hb1 hD
  by_cases hl : 500 < len
  · go_wp2
    go_ret
    exact ⟨rfl, HB1.out⟩
  by_cases ht : 1000 < trees
  · go_wp2
    go_ret
    exact ⟨rfl, HB1.out⟩
  by_cases hn : 1000000 < n
  · go_wp2
    go_ret
    exact ⟨rfl, HB1.out⟩
  have G1 : Hid (Dws W1.drew w.heap.size s A len cap (z.take len)) := G.out.below (HE1.out.mono (by omega)).drew
  have K1 := Lib.hid (strOf_any sc s A len cap (z.take len) tree trees W1.drew (G1.out.more (Nat.le_of_lt hlt1)) (by omega) (by omega))
  obtain ⟨T, hT⟩ : ∃ T, T = strT sc tree trees := ⟨_, rfl⟩
  obtain ⟨F, hF⟩ : ∃ F, F = Sm.strF sc s (z.take len) tree trees := ⟨_, rfl⟩
  have K2 := Lib.hid (fun (W2 : World) (h2 : Dws W2 W2.heap.size s A len cap (z.take len)) => refOf_any sc s A len cap (z.take len) tree trees W2 h2 (by omega) (by omega))
  rw [← hT, ← hF] at K1
  rw [← hF] at K2
  clear hT hF
  go_wp2
  go_region_held3 (fun w' => w'.cell? ⟨w.heap.size, 0, none⟩ = some (.bool sc) ∧ w'.cell? ⟨w.heap.size, 1, none⟩ = some (.int .u64 s) ∧ w'.cell? ⟨w.heap.size, 2, none⟩ = some (.slice A len cap)) (go_keep) (first
    | (go_at_call 8; (with_reducible refine K1.out.mono ?_); rintro _ W2 ⟨b, rfl, hbas, hb2⟩; have HB2 := Lib.hid (HB1.out.drew.trans (hb2.mono (Nat.le_of_lt hlt1))); have HS2 := Lib.hid hbas; have e0 := (hb2.cell (p := ⟨w.heap.size, 0, none⟩) hlt1).trans c0; have e1 := (hb2.cell (p := ⟨w.heap.size, 1, none⟩) hlt1).trans c1; have e2 := (hb2.cell (p := ⟨w.heap.size, 2, none⟩) hlt1).trans c2; have G2 := Lib.hid (G1.out.below (hb2.mono (Nat.le_of_lt hlt1))); have hs2 : W1.heap.size ≤ W2.heap.size := hb2.size; clear hbas hb2)
    | (go_at_call 9; (with_reducible refine (K2.out W2 (G2.out.more (Nat.le_of_lt (Nat.lt_of_lt_of_le hlt1 hs2)))).mono ?_); rintro _ W3 ⟨m, rfl, hm, hrdr, hb3⟩; have HB3 := Lib.hid (HB2.out.trans (hb3.mono HB2.out.size)); have HS3 := Lib.hid (HS2.out.below hb3); have HR3 := Lib.hid hrdr; have g0 := (hb3.cell (p := ⟨w.heap.size, 0, none⟩) (Nat.lt_of_lt_of_le hlt1 hs2)).trans e0; have g1 := (hb3.cell (p := ⟨w.heap.size, 1, none⟩) (Nat.lt_of_lt_of_le hlt1 hs2)).trans e1; have g2 := (hb3.cell (p := ⟨w.heap.size, 2, none⟩) (Nat.lt_of_lt_of_le hlt1 hs2)).trans e2; clear hrdr hb3))
  have HA : Hid (Both w W3 T W1.heap.size W2.heap.size b m W3.heap.size F 0) := ⟨HS3.out, HR3.out, HB3.out⟩
  obtain ⟨m1, m2, m3⟩ := HS3.out.meth
  clear K1 K2 G G1 G2 HS2 HS3 HR3 HB1 HB2 HB3 HE1 C0 C1 C2 c0 c1 c2 e0 e1 e2 g0 g1 g2 HBD
  go_wp2
  go_loopw [13] (fun I wr => ∃ N : Nat, I = .int .i64 (N : Int) ∧ N ≤ 20 ∧ Both w wr T W1.heap.size W2.heap.size b m W3.heap.size F N) (fun i _ => 20 - (intOf i).toNat)
  case atStart => exact ⟨0, rfl, by omega, HA.out⟩
  case round =>
    clear HA
    obtain ⟨N, rfl, hN, hA⟩ := hrel
    have HA := Lib.hid hA
    clear hA
    by_cases hlt : N < 20
    · have K1 := bas_draw HA.out.s
      obtain ⟨x, hx⟩ : ∃ x, x = Rm.dr F N 0 := ⟨_, rfl⟩
      rw [← hx] at K1
      have HK1 := Lib.hid K1
      have HX := Lib.hid hx
      clear K1 hx
      go_wp2_with fail
      refine HK1.out.mono ?_
      rintro _ U1 ⟨rfl, hc1, hb1⟩
      have HH := Lib.hid (HA.out.half hc1 hb1 (Nat.le_of_lt hlt1) hm)
      have K2 := refDraw_any HH.out.r (by omega)
      rw [← HX.out] at K2
      have HK2 := Lib.hid K2
      clear hc1 hb1 K2 HA HK1
      go_wp2_with fail
      refine HK2.out.mono ?_
      rintro _ U2 ⟨rfl, hr2, hb2⟩
      have HA2 := Lib.hid (HH.out.both hr2 hb2 (Nat.le_of_lt hlt1) hm hs2)
      clear HH HK2 hr2 hb2
      go_wp2
      go_roundw
      case rel => exact ⟨N + 1, congrArg (Value.int .i64) (by omega), by omega, HA2.out⟩
      case measure => simp [intOf]; omega
    · have HU := Lib.hid HA.out.u
      clear HA m1 m2 m3
      have K3 := Lib.hid (fun W => strNth_any seed n W b3.2)
      by_cases hneg : n < 0
      · rw [if_pos hneg] at K3
        go_wp2_with fail
        refine (K3.out _).mono ?_
        rintro _ U1 ⟨rfl, hb1⟩
        have HU1 := Lib.hid (HU.out.trans (hb1.mono HU.out.size))
        clear hb1 K3
        go_wp2
        go_ret
        exact ⟨rfl, HU1.out⟩
      · rw [if_neg hneg] at K3
        obtain ⟨k, rfl⟩ : ∃ k : Nat, n = k := ⟨n.toNat, by omega⟩
        have K4 := Lib.hid (fun W => nth_any seed k W (by omega))
        rw [show (k : Int).toNat = k from rfl] at K3
        obtain ⟨x, hx⟩ : ∃ x, x = Rm.mixAt seed k := ⟨_, rfl⟩
        rw [← hx] at K3 K4
        clear hx
        go_wp2_with fail
        refine (K3.out _).mono ?_
        rintro _ U1 ⟨rfl, hb1⟩
        have HU1 := Lib.hid (HU.out.trans (hb1.mono HU.out.size))
        clear hb1 K3
        go_wp2_with fail
        refine (K4.out _).mono ?_
        rintro _ _ ⟨rfl, rfl⟩
        go_wp2
        go_ret
        exact ⟨rfl, HU1.out⟩

theorem own : ownKnob Try.prog.godebug = none := by kernel_rfl
theorem laidOut : laidOutB Try.prog = true := by kernel_rfl
set_option maxRecDepth 100000 in
theorem lifted (os : Os) (started : os.Started) (H : Type) (enc : TypeId × Value → H) :
    ReturnsInHanded {} Try.checked os 3 .any (Rows.streamTellsSpec.pre6 enc Try.prog Try.f3 Rows.streamTellsRow.domain false) (Rows.streamTellsSpec.post enc Try.prog Try.f3 false true false false) := by
  refine returnsInHanded_of_change (C := Try.checked) own started (by kernel_rfl) Try.func3
    (ChangeSpec.witness6 (enc := enc) (C := Try.checked) false ⟨#[], #[.agg #[.bool false, .int .u64 0, .slice none 0 0], .int .i64 0, .int .i64 0, .int .i64 0, .int .u64 0], []⟩ 8 (by kernel_rfl) (by kernel_rfl) (by kernel_rfl) (by kernel_rfl)) ?_
  intro W base args ds gs before hval0 hW hcnd _
  have hval : ∀ (j : Nat) t v, Try.f3.params[j]? = some t → args[j]? = some v → Value.okWide Try.prog W .any base t v := hval0
  have hW' := hW
  obtain ⟨p, q, hA0, hV, rfl, hfz, hnd⟩ := hW
  have hA : DataW.TrodAll enc Try.prog W 0 (fun _ => true) true Try.f3.params.toList args.toList ds p := hA0
  rw [Try.params3] at hA hval
  obtain ⟨v0, vs0, d0, ds0, p0, q0, hargs, rfl, rfl, h0, r0⟩ := trodAll_cons hA
  obtain ⟨v1, vs1, d1, ds1, p1, q1, rfl, rfl, rfl, h1, r1⟩ := trodAll_cons r0
  obtain ⟨v2, vs2, d2, ds2, p2, q2, rfl, rfl, rfl, h2, r2⟩ := trodAll_cons r1
  obtain ⟨v3, vs3, d3, ds3, p3, q3, rfl, rfl, rfl, h3, r3⟩ := trodAll_cons r2
  obtain ⟨v4, vs4, d4, ds4, p4, q4, rfl, rfl, rfl, h4, r4⟩ := trodAll_cons r3
  obtain ⟨rfl, rfl, rfl⟩ := trodAll_nil r4
  obtain rfl : args = #[v0, v1, v2, v3, v4] := by cases args; simp_all
  obtain ⟨rfl, rfl⟩ := trodVars_none hV
  have k0 := h0
  have lt0 : ∀ x ∈ p0, x.block < W.heap.size := by obtain ⟨m, hm⟩ := k0; exact DataW.trod_lt m _ _ _ hm
  obtain ⟨s0, e0, a0, len0, cap0, z0, g0, w0⟩ : ∃ (sc : Bool) (se : Int) (a : Option Addr) (len cap : Nat) (zs : List Int), v0 = .agg #[.bool sc, .int .u64 se, .slice a len cap] ∧ (Lit.int .u64 se).wf = true ∧ IsRow .u64 W a len cap zs := by
    obtain ⟨u0, u1, u2, y0, y1, y2, n, rfl, -, -, t0, t1, t2⟩ := open_agg3 Try.underlying25 (by kernel_rfl) (by kernel_rfl) (hval 0 25 v0 rfl rfl) h0
    obtain ⟨sc, hsc, -⟩ := DataW.trod_bool Try.underlying4 t0
    obtain ⟨se, hse, -, hw⟩ := DataW.trod_int Try.underlying22 t1
    simp at hsc hse
    subst hsc
    subst hse
    rcases open_ints Try.underlying23 Try.underlying22 (by kernel_rfl) t2 with ⟨hcs, _⟩ | ⟨x, l, c, zs, hcs, _, hl, hm, hz, _, hcell, hwz⟩
    · simp at hcs
      subst hcs
      exact ⟨sc, se, none, 0, 0, [], rfl, hw, .inl ⟨rfl, rfl, rfl, rfl⟩⟩
    · simp at hcs
      subst hcs
      exact ⟨sc, se, some x, l, c, zs, rfl, hw, .inr ⟨_, rfl, hl, hm, by simpa using hz, hcell, hwz⟩⟩
  subst g0
  obtain ⟨a1, rfl, rfl, rfl, w1⟩ := open_int Try.underlying3 (hval 1 3 v1 rfl rfl) h1
  obtain ⟨a2, rfl, rfl, rfl, w2⟩ := open_int Try.underlying3 (hval 2 3 v2 rfl rfl) h2
  obtain ⟨a3, rfl, rfl, rfl, w3⟩ := open_int Try.underlying3 (hval 3 3 v3 rfl rfl) h3
  obtain ⟨a4, rfl, rfl, rfl, w4⟩ := open_int Try.underlying22 (hval 4 22 v4 rfl rfl) h4
  clear hA0 hval0
  refine (walk s0 e0 a0 len0 cap0 z0 a1 a2 a3 a4 W w0 w1 w2 w3 w4).mono fun e W' ⟨he, bel⟩ => ?_
  subst he
  exact ⟨_, rfl, _, _, _, [], _, [], hW', trodAll_mk1 (shut_bool Try.underlying4 _), (trodAll_cons_mk (Below.trod laidOut (by kernel_rfl) (of_decide_eq_true (by kernel_rfl)) k0 bel lt0) (trodAll_cons_mk (shut_int Try.underlying3 w1) (trodAll_cons_mk (shut_int Try.underlying3 w2) (trodAll_cons_mk (shut_int Try.underlying3 w3) (trodAll_cons_mk (shut_int Try.underlying22 w4) trodAll_mk0))))), rfl, bel.frame _, fun h => by cases h⟩
theorem over : Rows.streamTellsRow.holds Try.pinned (OpenSpec.ofChange Rows.streamTellsSpec) :=
  OpenClaim.holds_of_wide 3 Try.f3 rfl rfl rfl rfl rfl rfl rfl ⟨rfl, rfl, rfl, rfl, rfl⟩ rfl rfl rfl rfl rfl (by kernel_rfl) Try.func3 (by kernel_rfl)
    (of_decide_eq_true (by kernel_rfl)) (by unfold Func.isWrapper; first | (rw [if_pos (by decide +kernel)]; kernel_rfl) | (rw [if_neg (by decide +kernel)]; exact ⟨rfl, rfl⟩))
    (fun os started H enc _ => lifted os started H enc)
/-- the statement -/
theorem proved : Rows.StreamTellsSaid := over
#print axioms proved
end streamTells
end Go.Proofs.Ytggbclkinndpnaa
