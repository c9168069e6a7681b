/-
  RngTells: whatever is drawn of any source, plain, below a number, or by pairs, is just the document's; as many draws are counted. No condition.
-/
import Derived.Test.YtnhlicfjdnmjcaaRArg
import Derived.Test.YtnhlicfjdnmjcaaRRef
import Derived.Lib.SmallJoins
import Derived.Deep.RegionHeld3
import Derived.Deep.DeepCutAuto
import Derived.Deep.WholeRow
namespace Go.Proofs.Ytnhlicfjdnmjcaa
open Go.RowKit Go.Joins Go.ChangeShapes Go.WideShapes Go.Deep
namespace rngTells

/-- what the loop keeps: the counter and the document's source have told the same N draws -/
structure All (w wr : World) (lo hi q m : Nat) (F : Nat → Int) (N : Nat) : Prop where
  c : Ctr wr lo hi q (Rm.dr F N) N
  r : Rfs wr w.heap.size m (Rm.dr F N) N
  b : Below w.heap.size w wr

theorem All.drew {w wr : World} {lo hi q m : Nat} {F : Nat → Int} {N : Nat} (h : All w wr lo hi q m F N) : All w wr.drew lo hi q m F N := ⟨h.c.drew, h.r, h.b.drew⟩
theorem All.cell {w wr : World} {lo hi q m : Nat} {F : Nat → Int} {N : Nat} (h : All w wr lo hi q m F N) : wr.cell? ⟨m, 3, none⟩ = some (.int .i64 (N : Int)) := by
  obtain ⟨_, _, _, _, _, _, _, _, _, _, hb, _⟩ := h.r
  rw [cell_of_row _ _ _ _ _ _ hb]; rfl
/-- the counter has drawn k, the document's source not yet -/
structure Half (w wr : World) (lo hi q m : Nat) (F : Nat → Int) (N k : Nat) : Prop where
  c : Ctr wr lo hi q (Rm.dr F (N + k)) (N + k)
  r : Rfs wr w.heap.size m (Rm.dr F N) N
  b : Below w.heap.size w wr
theorem All.half {w wr w' : World} {lo hi q m : Nat} {F : Nat → Int} {N k : Nat} (h : All w wr lo hi q m F N) (hc : Ctr w' lo hi q (Rm.dr (Rm.dr F N) k) (N + k)) (hb : Btw lo hi wr w') (h1 : w.heap.size ≤ lo) (h2 : hi ≤ m) : Half w w' lo hi q m F N k :=
  ⟨by rw [Rm.dr_dr] at hc; exact hc, h.r.other hb h1 h2, h.b.trans (hb.old h.b.size h1)⟩
theorem Half.all {w wr w' : World} {lo hi q m : Nat} {F : Nat → Int} {N k : Nat} (h : Half w wr lo hi q m F N k) (hr : Rfs w' w.heap.size m (Rm.dr (Rm.dr F N) k) (N + k)) (hb : Btw m (m + 1) wr w') (h1 : w.heap.size ≤ lo) (h2 : hi ≤ m) (hl : lo ≤ hi) : All w w' lo hi q m F (N + k) :=
  ⟨h.c.other hb (.inl h2), by rw [Rm.dr_dr] at hr; exact hr, h.b.trans (hb.old h.b.size (by omega))⟩

theorem ref_new {w : World} {B : Nat} {s : Int} {A : Option Addr} {n c : Nat} {xs : List Int} (mixed : Bool) (h : Arg w B s A n c xs) (hB : B ≤ w.heap.size) (hn : n ≤ 1000) :
    Rfs (w.alloc (.cells #[.bool mixed, .int .u64 s, .slice A n c, .int .i64 0] 33)) B w.heap.size (Rm.dr (ofF mixed s xs) 0) 0 :=
  ⟨mixed, s, A, n, c, xs, h.s0, h.s1, h.x, hB, heap_new _ _ _, h.l.keep fun p hp => World.cell?_of_block (Below.heap_alloc _ _ _ (by omega)), hn, rfl⟩

set_option maxHeartbeats 1600000 in
set_option maxRecDepth 100000 in
theorem walk (mixed : Bool) (s : Int) (A : Option Addr) (len cap : Nat) (z : List Int) (A' : Option Addr) (len' cap' : Nat) (z' : List Int) (w : World) (ws : (Lit.int .u64 s).wf = true) (wl : IsRow .u64 w A len cap z) (wa : IsRow .i64 w A' len' cap' z') :
    Calls Try.prog 3 #[.bool mixed, .int .u64 s, .slice A len cap, .slice A' len' cap'] w fun e w' => e = .returned (.bool true) ∧ Below w.heap.size w w' := by
  have G := Lib.hid (Arg.of_row ws wl)
  obtain ⟨la, -, -, xa, -⟩ := wa.lst
  have LA := Lib.hid la
  have XA := Lib.hid xa
  clear ws wl wa la xa
  go_enter Try.func3, Try.ntmps3
  go_wp2_with fail
  refine (awake_any _).mono ?_
  rintro _ w1 ⟨rfl, b1⟩
  have B1 := Lib.hid b1
  clear b1
  by_cases hl : 200 < len
  · go_wp2
    go_ret
    exact ⟨rfl, B1.out⟩
  by_cases hl' : 200 < len'
  · go_wp2
    go_ret
    exact ⟨rfl, B1.out⟩
  have hO := Lib.hid ((G.out.below B1.out).of_ mixed B1.out.size (by omega))
  go_wp2_with fail
  refine hO.out.mono ?_
  rintro _ w2 ⟨b, rfl, h2, b2⟩
  have B2 := Lib.hid (B1.out.trans (b2.mono B1.out.size))
  have HC := Lib.hid (count_new h2)
  have s1 := B1.out.size
  have s2 := b2.size
  clear hO h2 b2 B1
  go_wp2_with fail
  refine HC.out.mono ?_
  rintro _ w3 ⟨q, rfl, h3, b3⟩
  have B3 := Lib.hid (B2.out.trans (b3.mono B2.out.size))
  have H3 := Lib.hid h3
  have s23 := b3.size
  clear HC h3 b3 B2
  obtain ⟨F, hF⟩ : ∃ F, F = ofF mixed s (z.take len) := ⟨_, rfl⟩
  have A0 : Hid (All w (w3.alloc (.cells #[.bool mixed, .int .u64 s, .slice A len cap, .int .i64 0] 33)) w1.heap.size w3.heap.size q w3.heap.size F 0) := by
    rw [hF]
    exact ⟨H3.out.below ((Below.refl _ _).alloc (Nat.le_refl _) _), ref_new mixed (G.out.below B3.out) B3.out.size (by omega), B3.out.alloc B3.out.size _⟩
  have s3 := B3.out.size
  clear G H3 B3 hF
  go_wp2
  go_loopw [11] (fun I wr => ∃ i N : Nat, I = .int .i64 (i : Int) ∧ i ≤ len' ∧ N ≤ 2 * i ∧ All w wr w1.heap.size w3.heap.size q w3.heap.size F N) (fun i _ => len' - (intOf i).toNat)
  case atStart => exact ⟨0, 0, rfl, by omega, by omega, A0.out⟩
  case round =>
    clear A0
    obtain ⟨i, N, rfl, hi, hN, hA⟩ := hrel
    have HA := Lib.hid hA
    clear hA
    by_cases hlt : i < len'
    · obtain ⟨ab, ao, rfl, hab, hcell⟩ := LA.out.at_ hlt
      have hzl : i < (z'.take len').length := by have := LA.out.1; simp at this; simp; omega
      obtain ⟨x, hx⟩ : ∃ x, x = (z'.take len')[i] := ⟨_, rfl⟩
      have bx : x ≤ 9223372036854775807 := by rw [hx]; exact (bounds_i64 (XA.out _ (List.getElem_mem _))).2
      have hc1 : w.cell? ⟨ab, ao + i, none⟩ = some (.int .i64 x) := by rw [hcell, List.getElem?_map, List.getElem?_eq_getElem hzl, hx]; rfl
      have HC1 := Lib.hid hc1
      have hc2 := (HA.out.b.cell (p := ⟨ab, ao + i, none⟩) hab).trans hc1
      clear hcell hzl hx hc1
      have h3 : i % 3 = 0 ∨ i % 3 = 1 ∨ i % 3 = 2 := by omega
      rcases h3 with h3 | h3 | h3
      · have h3' : (i : Int) % 3 = 0 := by omega
        have nb2 : Rm.nb x ≤ 1 := by unfold Rm.nb; split <;> omega
        have K1 := Lib.hid (below_any HA.out.drew.c.src x (by omega) bx)
        go_wp2
        go_region_held3 (fun w' => w'.cell? ⟨ab, ao + i, none⟩ = some (.int .i64 x)) (go_keep) (first
          | (go_at_call 11; (with_reducible refine K1.out.mono ?_); rintro _ U1 ⟨rfl, hc1, hb1⟩; have HH := Lib.hid (HA.out.drew.half hc1.ctr hb1 (by omega) (by omega)); have uc1 := (HH.out.b.cell (p := ⟨ab, ao + i, none⟩) hab).trans HC1.out; clear hc1 hb1)
          | (go_at_call 12; (with_reducible refine (refBelow_any HH.out.r x (by omega) bx).mono ?_); rintro _ U2 ⟨rfl, hr2, hb2⟩; have HA2 := Lib.hid (HH.out.all hr2 hb2 (by omega) (by omega) (by omega)); have uc2 := (HA2.out.b.cell (p := ⟨ab, ao + i, none⟩) hab).trans HC1.out; clear hr2 hb2))
        have ud := HA2.out.cell
        have HD := Lib.hid (drawn_any HA2.out.drew.c)
        clear HA HH uc1 uc2 K1 hc2
        go_wp2
        go_region_held3 (fun w' => w'.cell? ⟨w3.heap.size, 3, none⟩ = some (.int .i64 ((N + Rm.nb x : Nat) : Int))) (go_keep) (first
          | (go_at_call 17; (with_reducible refine HD.out.mono ?_); rintro _ U3 ⟨rfl, rfl⟩))
        have HA3 := Lib.hid HA2.out.drew
        clear HA2 HD ud h3 h3' bx
        go_wp2
        go_roundw
        case rel => exact ⟨i + 1, N + Rm.nb x, congrArg (Value.int .i64) (by omega), by omega, by omega, HA3.out⟩
        case measure => simp [intOf]; omega
      · have h3' : (i : Int) % 3 = 1 := by omega
        have np2 : Rm.np x ≤ 2 := by unfold Rm.np; split <;> omega
        have K1 := Lib.hid (pair_any HA.out.c.src x (by omega) bx)
        obtain ⟨p, hp⟩ : ∃ p, p = Rm.fst (Rm.dr F N) x := ⟨_, rfl⟩
        obtain ⟨r, hr⟩ : ∃ r, r = Rm.snd (Rm.dr F N) x := ⟨_, rfl⟩
        rw [← hp, ← hr] at K1
        go_wp2_with fail
        refine K1.out.mono ?_
        rintro _ U1 ⟨rfl, hc1, hb1⟩
        have HH := Lib.hid (HA.out.half hc1.ctr hb1 (by omega) (by omega))
        have uc1 := (HH.out.b.cell (p := ⟨ab, ao + i, none⟩) hab).trans HC1.out
        have K2 := refPair_any HH.out.r x (by omega) bx
        rw [← hp, ← hr] at K2
        have HK2 := Lib.hid K2
        clear hc1 hb1 K2 HA hc2 K1 hp hr
        go_wp2_with fail
        refine HK2.out.mono ?_
        rintro _ U2 ⟨rfl, hr2, hb2⟩
        have HA2 := Lib.hid (HH.out.all hr2 hb2 (by omega) (by omega) (by omega))
        have ud := HA2.out.cell
        have HD := Lib.hid (drawn_any HA2.out.drew.c)
        clear HH uc1 HK2 hr2 hb2
        go_wp2
        go_region_held3 (fun w' => w'.cell? ⟨w3.heap.size, 3, none⟩ = some (.int .i64 ((N + Rm.np x : Nat) : Int))) (go_keep) (first
          | (go_at_call 17; (with_reducible refine HD.out.mono ?_); rintro _ U3 ⟨rfl, rfl⟩))
        have HA3 := Lib.hid HA2.out.drew
        clear HA2 HD ud h3 h3' bx
        go_wp2
        go_roundw
        case rel => exact ⟨i + 1, N + Rm.np x, congrArg (Value.int .i64) (by omega), by omega, by omega, HA3.out⟩
        case measure => simp [intOf]; omega
      · have h3' : (i : Int) % 3 = 2 := by omega
        have K1 := Lib.hid (ctr_draw HA.out.c (by omega))
        obtain ⟨p, hp⟩ : ∃ p, p = Rm.dr F N 0 := ⟨_, rfl⟩
        rw [← hp] at K1
        go_wp2_with fail
        refine K1.out.mono ?_
        rintro _ U1 ⟨rfl, hc1, hb1⟩
        have HH := Lib.hid (HA.out.half hc1 hb1 (by omega) (by omega))
        have K2 := refDraw_any HH.out.r (by omega)
        rw [← hp] at K2
        have HK2 := Lib.hid K2
        clear hc1 hb1 K2 HA hc2 K1 hp
        go_wp2_with fail
        refine HK2.out.mono ?_
        rintro _ U2 ⟨rfl, hr2, hb2⟩
        have HA2 := Lib.hid (HH.out.all hr2 hb2 (by omega) (by omega) (by omega))
        have ud := HA2.out.cell
        have HD := Lib.hid (drawn_any HA2.out.drew.c)
        clear HH HK2 hr2 hb2
        go_wp2
        go_region_held3 (fun w' => w'.cell? ⟨w3.heap.size, 3, none⟩ = some (.int .i64 ((N + 1 : Nat) : Int))) (go_keep) (first
          | (go_at_call 17; (with_reducible refine HD.out.mono ?_); rintro _ U3 ⟨rfl, rfl⟩))
        have HA3 := Lib.hid HA2.out.drew
        clear HA2 HD ud h3 h3' bx
        go_wp2
        go_roundw
        case rel => exact ⟨i + 1, N + 1, congrArg (Value.int .i64) (by omega), by omega, by omega, HA3.out⟩
        case measure => simp [intOf]; omega
    · go_wp2
      go_ret
      exact ⟨rfl, HA.out.b⟩

theorem own : ownKnob Try.prog.godebug = none := by kernel_rfl
theorem laidOut : laidOutB Try.prog = true := by kernel_rfl
set_option maxRecDepth 100000 in
theorem lifted (os : Os) (started : os.Started) (H : Type) (enc : TypeId × Value → H) :
    ReturnsInHanded {} Try.checked os 3 .any (Rows.rngTellsSpec.pre6 enc Try.prog Try.f3 Rows.rngTellsRow.domain false) (Rows.rngTellsSpec.post enc Try.prog Try.f3 false true false false) := by
  refine returnsInHanded_of_change (C := Try.checked) own started (by kernel_rfl) Try.func3
    (ChangeSpec.witness6 (enc := enc) (C := Try.checked) false ⟨#[], #[.bool false, .int .u64 0, .slice none 0 0, .slice none 0 0], []⟩ 8 (by kernel_rfl) (by kernel_rfl) (by kernel_rfl) (by kernel_rfl)) ?_
  intro W base args ds gs before hval0 hW hcnd _
  have hval : ∀ (j : Nat) t v, Try.f3.params[j]? = some t → args[j]? = some v → Value.okWide Try.prog W .any base t v := hval0
  have hW' := hW
  obtain ⟨p, q, hA0, hV, rfl, hfz, hnd⟩ := hW
  have hA : DataW.TrodAll enc Try.prog W 0 (fun _ => true) true Try.f3.params.toList args.toList ds p := hA0
  rw [Try.params3] at hA hval
  obtain ⟨v0, vs0, d0, ds0, p0, q0, hargs, rfl, rfl, h0, r0⟩ := trodAll_cons hA
  obtain ⟨v1, vs1, d1, ds1, p1, q1, rfl, rfl, rfl, h1, r1⟩ := trodAll_cons r0
  obtain ⟨v2, vs2, d2, ds2, p2, q2, rfl, rfl, rfl, h2, r2⟩ := trodAll_cons r1
  obtain ⟨v3, vs3, d3, ds3, p3, q3, rfl, rfl, rfl, h3, r3⟩ := trodAll_cons r2
  obtain ⟨rfl, rfl, rfl⟩ := trodAll_nil r3
  obtain rfl : args = #[v0, v1, v2, v3] := by cases args; simp_all
  obtain ⟨rfl, rfl⟩ := trodVars_none hV
  obtain ⟨a0, rfl, rfl, rfl⟩ := open_bool Try.underlying4 (hval 0 4 v0 rfl rfl) h0
  obtain ⟨a1, rfl, rfl, rfl, w1⟩ := open_int Try.underlying22 (hval 1 22 v1 rfl rfl) h1
  obtain ⟨a2, len2, cap2, rfl⟩ := okWide_slice Try.underlying23 (hval 2 23 v2 rfl rfl)
  have k2 := h2
  have lt2 : ∀ x ∈ p2, x.block < W.heap.size := by obtain ⟨m, hm⟩ := k2; exact DataW.trod_lt m _ _ _ hm
  obtain ⟨z2, w2⟩ : ∃ zs, IsRow .u64 W a2 len2 cap2 zs := by
    obtain ⟨fuel, hf⟩ := h2
    rcases open_ints Try.underlying23 Try.underlying22 (by kernel_rfl) hf with ⟨hcs, _⟩ | ⟨x, l, c, zs, hcs, _, hl, hm, hz, _, hcell, hwz⟩
    · simp [Value.cells] at hcs
      obtain ⟨rfl, rfl, rfl⟩ := hcs
      exact ⟨[], .inl ⟨rfl, rfl, rfl, rfl⟩⟩
    · simp [Value.cells] at hcs
      obtain ⟨rfl, rfl, rfl⟩ := hcs
      exact ⟨zs, .inr ⟨_, rfl, hl, hm, by simpa using hz, hcell, hwz⟩⟩
  obtain ⟨a3, len3, cap3, rfl⟩ := okWide_slice Try.underlying24 (hval 3 24 v3 rfl rfl)
  have k3 := h3
  have lt3 : ∀ x ∈ p3, x.block < W.heap.size := by obtain ⟨m, hm⟩ := k3; exact DataW.trod_lt m _ _ _ hm
  obtain ⟨z3, w3⟩ : ∃ zs, IsRow .i64 W a3 len3 cap3 zs := by
    obtain ⟨fuel, hf⟩ := h3
    rcases open_ints Try.underlying24 Try.underlying3 (by kernel_rfl) hf with ⟨hcs, _⟩ | ⟨x, l, c, zs, hcs, _, hl, hm, hz, _, hcell, hwz⟩
    · simp [Value.cells] at hcs
      obtain ⟨rfl, rfl, rfl⟩ := hcs
      exact ⟨[], .inl ⟨rfl, rfl, rfl, rfl⟩⟩
    · simp [Value.cells] at hcs
      obtain ⟨rfl, rfl, rfl⟩ := hcs
      exact ⟨zs, .inr ⟨_, rfl, hl, hm, by simpa using hz, hcell, hwz⟩⟩
  clear hA0 hval0
  refine (walk a0 a1 a2 len2 cap2 z2 a3 len3 cap3 z3 W w1 w2 w3).mono fun e W' ⟨he, bel⟩ => ?_
  subst he
  exact ⟨_, rfl, _, _, _, [], _, [], hW', trodAll_mk1 (shut_bool Try.underlying4 _), (trodAll_cons_mk (shut_bool Try.underlying4 a0) (trodAll_cons_mk (shut_int Try.underlying22 w1) (trodAll_cons_mk (Below.trod laidOut (by kernel_rfl) (of_decide_eq_true (by kernel_rfl)) k2 bel lt2) (trodAll_cons_mk (Below.trod laidOut (by kernel_rfl) (of_decide_eq_true (by kernel_rfl)) k3 bel lt3) trodAll_mk0)))), rfl, bel.frame _, fun h => by cases h⟩
theorem over : Rows.rngTellsRow.holds Try.pinned (OpenSpec.ofChange Rows.rngTellsSpec) :=
  OpenClaim.holds_of_wide 3 Try.f3 rfl rfl rfl rfl rfl rfl rfl ⟨rfl, rfl, rfl, rfl, rfl⟩ rfl rfl rfl rfl rfl (by kernel_rfl) Try.func3 (by kernel_rfl)
    (of_decide_eq_true (by kernel_rfl)) (by unfold Func.isWrapper; first | (rw [if_pos (by decide +kernel)]; kernel_rfl) | (rw [if_neg (by decide +kernel)]; exact ⟨rfl, rfl⟩))
    (fun os started H enc _ => lifted os started H enc)
/-- the statement -/
theorem proved : Rows.RngTellsSaid := over
#print axioms proved
end rngTells
end Go.Proofs.Ytnhlicfjdnmjcaa
