/-
  SplitSame holds for every input: items that are all the same are halved, behind four tries, whatever is drawn. No condition.
-/
import Derived.Test.YtljgmcdkomhmbaaZAwk
import Derived.ProofKit
import Derived.Lib.SmallJoins
import Derived.OpenShut
import Derived.ShutString
import Derived.ChangeOld
import Derived.WalkSmall
namespace Go.Proofs.Ytljgmcdkomhmbaa.splitSame
open Go.ChangeShapes Go.WideShapes Go.ChangeAt Go.RowKit Go.Joins
open Go.ChangeMaps (open_string shut_string)
set_option linter.unusedVariables false

theorem u64_in {n : Int} (h : (Lit.int .u64 n).wf = true) : 0 ≤ n ∧ n < 18446744073709551616 := by have := bounds_u64 h; omega
theorem u8_bd {n : Int} (h : (Lit.int .u8 n).wf = true) : 0 ≤ n ∧ n ≤ 255 := by have := bounds_u8 h; omega
/-- rows of unlike elements stand in unlike blocks -/
theorem own_ne {w : World} {B B' : Nat} {e e' : TypeId} {v v' : Value} {n n' : Nat} {xs xs' : List Value} (h : w.ownsRow B e 1 v n xs) (h' : w.ownsRow B' e' 1 v' n' xs') (he : e ≠ e') : v.ownBlock = none ∨ v.ownBlock ≠ v'.ownBlock := by
  cases hb : v.ownBlock with
  | none => exact .inl rfl
  | some k =>
    refine .inr fun hk => ?_
    obtain ⟨cs, h1⟩ := own_at h hb
    obtain ⟨cs', h2⟩ := own_at h' hk.symm
    rw [h1] at h2
    injection h2 with h2
    injection h2 with _ h2 _
    exact he h2
/-- the numbers below k -/
def upto (k : Nat) : List Int := (List.range k).map fun (j : Nat) => (j : Int)
theorem upto_succ (k : Nat) : upto (k + 1) = upto k ++ [(k : Int)] := by unfold upto; rw [List.range_succ, List.map_append]; rfl
theorem upto_length (k : Nat) : (upto k).length = k := by simp [upto]
theorem upto_in {k : Nat} {x : Int} (h : x ∈ upto k) : 0 ≤ x ∧ x < (k : Int) := by
  unfold upto at h
  obtain ⟨j, hj, rfl⟩ := List.mem_map.1 h
  have := List.mem_range.1 hj
  omega
theorem rep_succ {α : Type} (k : Nat) (x : α) : List.replicate (k + 1) x = List.replicate k x ++ [x] := List.replicate_succ'
theorem vl_rep {w : World} {A : Option Addr} {n c : Nat} {l : List Int} (h : Vec w A n l) (hn : n ≤ maxLen) (k : Nat) : Vl w (List.replicate k (.slice A n c)) (List.replicate k l) := by
  induction k with
  | zero => exact Vl.nil w
  | succ k ih => rw [rep_succ, rep_succ]; exact ih.snoc h hn
/-- items that are all the same are never parted -/
theorem same_none {v : List Int} {N : Nat} {f : Nat → Int} (h2 : 2 ≤ N) : Zm.pick (List.replicate N v) (upto N) (refP f N) (refQ f N) = none := by
  refine Zm.pick_none (.inr fun t ht => ?_)
  obtain ⟨p0, p1, q0, q1, -⟩ := Rm.pair_ok (Rm.dr f (2 * t)) (N : Int) (by omega)
  have hit : ∀ x ∈ upto N, Zm.item (List.replicate N v) x = v := fun x hx => by
    obtain ⟨h0, h1⟩ := upto_in hx
    obtain ⟨k, rfl⟩ : ∃ k : Nat, x = k := ⟨x.toNat, by omega⟩
    rw [Zm.item_in (by simp; omega)]; simp
  exact Zm.same_bad (hit _ (Zm.at_mem (i := refP f N t) p0 (by rw [upto_length]; exact p1))) (hit _ (Zm.at_mem (i := refQ f N t) q0 (by rw [upto_length]; exact q1)))

set_option maxHeartbeats 3200000 in
set_option maxRecDepth 100000 in
theorem good_walk (a0 : Option Addr) (len0 cap0 : Nat) (v : List Int) (n : Int) (a3 : Option Addr) (len3 cap3 : Nat) (ds : List Int) (w : World) (V : Hid (Vec w a0 len0 v)) (h0 : len0 ≤ 100) (n0 : 2 ≤ n) (n1 : n ≤ 255) (D1 : Hid (Lst w w.heap.size a3 len3 (ds.map (Value.int .u64)))) (D4 : Hid (∀ x ∈ ds, 0 ≤ x ∧ x < 18446744073709551616)) (D5 : Hid (a3 = none → cap3 = 0)) (h3 : len3 ≤ 200) :
    Calls Try.prog 6 #[.slice a0 len0 cap0, .int .u8 n, .slice a3 len3 cap3] w fun e w' => e = .returned (.bool true) ∧ Below w.heap.size w w' := by
  obtain ⟨i0, hi, hz0, hz1, hz2⟩ := info_parts Try.infoI
  obtain ⟨iv, gi, gz0, gz1, gz2⟩ := info_parts Try.infoV
  obtain ⟨M, hM⟩ : ∃ M : Nat, n.tmod 60 = (M : Int) := ⟨(n % 60).toNat, by rw [Int.tmod_eq_emod_of_nonneg (by omega)]; omega⟩
  have hM60 : M < 60 := by have : n.tmod 60 = n % 60 := Int.tmod_eq_emod_of_nonneg (by omega); omega
  go_enter Try.func6, Try.ntmps6
  go_wp2_with fail
  refine (awakeZ _).mono ?_
  rintro e w1 ⟨rfl, hb1⟩
  have B1 := Lib.hid hb1
  clear hb1
  go_wp2_with fail
  go_loopw [7, 8, 9] (fun l d i wr => ∃ k : Nat, k ≤ M + 2 ∧ i = .int .i64 k ∧ wr.ownsRow w1.heap.size 24 1 l k (List.replicate k (.slice a0 len0 cap0)) ∧ wr.ownsRow w1.heap.size 3 1 d k (ci (upto k)) ∧ Below w1.heap.size w1 wr) (fun _ _ i _ => M + 2 - (intOf i).toNat)
  case atStart => exact ⟨0, by omega, rfl, World.ownsRow_nil _ _ _ _, by simpa [upto, ci] using World.ownsRow_nil w1 w1.heap.size 3 1, Below.refl _ _⟩
  case round =>
    obtain ⟨k, hk, rfl, ol, od, hb⟩ := hrel
    have OL := Lib.hid ol
    have OD := Lib.hid od
    have HB := Lib.hid hb
    have hsz := hb.size
    clear ol od hb
    by_cases hlt : k < M + 2
    · have hcut := upto_succ k
      have HCUT := Lib.hid hcut
      have HLK := Lib.hid (upto_length k)
      have nOL := Lib.hid (own_ne OD.out OL.out (by decide))
      clear hcut
      go_wp2_with (first
        | (at_builtin; refine wpList_append_own _ rfl (.tmp 37) (.tmp 39) 22 rfl w1.heap.size 24 iv (.slice none 0 0) 1 24 Try.underlying22 gi gz0 gz1 gz2 rfl (by decide) u7 k (List.replicate k (.slice a0 len0 cap0)) rfl (OL.out.alloc _) ⟨wr.heap.size, 0, none⟩ 1 1 [.slice a0 len0 cap0] rfl rfl (World.news_of_block (heap_alloc_new wr _)) (by intro u hu; simp at hu; subst hu; rfl) (by unfold maxLen; omega) (by omega) (by simp; omega) ?_; intro vA wA hownA hgA _; have OA := Lib.hid hownA; have DA := Lib.hid ((OD.out.alloc (.cells #[.slice a0 len0 cap0] 24)).kept hgA nOL.out); have BA := Lib.hid ((HB.out.alloc hsz (.cells #[.slice a0 len0 cap0] 24)).grown hgA (by simp; omega) (own_block OL.out)); have hsA := BA.out.size; have nOD := Lib.hid (own_ne OA.out DA.out (by decide)); clear hownA hgA)
        | (at_builtin; refine wpList_append_own _ rfl (.tmp 41) (.tmp 43) 23 rfl w1.heap.size 3 i0 (.int .i64 0) 1 8 Try.underlying23 hi hz0 hz1 hz2 rfl (by decide) u8 k (ci (upto k)) rfl (DA.out.alloc _) ⟨wA.heap.size, 0, none⟩ 1 1 [.int .i64 (k : Int)] rfl rfl (World.news_of_block (heap_alloc_new wA _)) (by intro u hu; simp at hu; subst hu; rfl) (by unfold maxLen; omega) (by omega) (by simp; omega) ?_; intro vB wB hownB hgB _; have OB := Lib.hid hownB; have AB := Lib.hid ((OA.out.alloc (.cells #[.int .i64 (k : Int)] 3)).kept hgB nOD.out); have BB := Lib.hid ((BA.out.alloc hsA (.cells #[.int .i64 (k : Int)] 3)).grown hgB (by simp; omega) (own_block DA.out)); clear hownB hgB))
      refine ⟨⟨k + 1, by omega, by go_num, ?_, ?_, BB.out⟩, by simp [intOf]; omega⟩
      · rw [rep_succ]; exact AB.out
      · rw [HCUT.out, ← ci_app]; exact OB.out
    · obtain rfl : k = M + 2 := by omega
      obtain ⟨AL, cL, rfl, hAL, hcL⟩ := own_form OL.out
      obtain ⟨AI, cI, rfl, -, -⟩ := own_form OD.out
      have LV := Lib.hid (Lv.of_own OL.out (vl_rep (V.out.below (B1.out.trans (HB.out.mono B1.out.size))) (by unfold maxLen; omega) (M + 2)))
      have SI := Lib.hid (Sl.of_own OD.out)
      have BWR := Lib.hid (B1.out.trans (HB.out.mono B1.out.size))
      clear OL OD HB B1 gi gz0 gz1 gz2 hi hz0 hz1 hz2
      by_cases hck : Dm.chks (len0 : Int) (List.replicate (M + 2) v) = 0
      case neg =>
        obtain ⟨p, hp⟩ : ∃ p, Dm.chks (len0 : Int) (List.replicate (M + 2) v) = p := ⟨_, rfl⟩
        have q := ne_bool hck
        rw [hp] at q
        have HP := Lib.hid hp
        have HC := Lib.hid hck
        clear hp hck
        go_wp2_with fail
        refine (ofD_no LV.out (by omega) _ HC.out).mono ?_
        rintro _ w2 ⟨rfl, hb⟩
        rw [HP.out]
        have B2 := Lib.hid (BWR.out.trans (hb.mono BWR.out.size))
        clear hb
        go_wp2
        go_ret
        exact ⟨rfl, B2.out⟩
      have HC := Lib.hid hck
      have HD := Lib.hid (Dm.chks_zero hck)
      clear hck
      go_wp2_with fail
      refine (ofD LV.out (by omega) _ HC.out).mono ?_
      rintro _ w2 ⟨s, S, rfl, hit, hSn, hb2⟩
      have HI := Lib.hid hit
      have B2 := Lib.hid (BWR.out.trans (hb2.mono BWR.out.size))
      have S2 := Lib.hid (SI.out.below hb2)
      clear hit hSn hb2
      go_wp2_with fail
      refine (script_new a3 len3 cap3 ds w2 ((D1.out.below B2.out).more B2.out.size) D5.out (by omega) D4.out).mono ?_
      rintro e w3 ⟨b, rfl, hbas, hb3⟩
      have BAS := Lib.hid hbas
      have B23 := Lib.hid hb3
      clear hbas hb3
      have hsz2 := B23.out.size
      have FC := chooseZ (HI.out.below B23.out) (S2.out.below B23.out) (lo := w2.heap.size) (hi := w3.heap.size) (fun k hk => .inl (HI.out.lt k hk)) (S2.out.out (Nat.le_refl _)) (.inl BAS.out) (by omega) (N := 0) (by omega)
      obtain ⟨o1, o2, o3, o4, o5⟩ := Zm.of_none (same_none (v := v) (N := M + 2) (f := lstF ds) (by omega)) len0
      obtain ⟨H, hH⟩ : ∃ H, Zm.half (upto (M + 2)) = H := ⟨_, rfl⟩
      have hHe : H = M + 2 - (M + 2) / 2 := by rw [← hH]; unfold Zm.half; rw [upto_length]
      have hHm : H ≤ M + 2 := by omega
      have hla : ((upto (M + 2)).take H).length = H := by rw [List.length_take, upto_length]; omega
      have hlb : ((upto (M + 2)).drop H).length = M + 2 - H := by rw [List.length_drop, upto_length]
      rw [upto_length, if_neg (by omega)] at o5
      rw [Int.toNat_natCast, o1, o2, o3, o4, o5, hH, hla, hlb] at FC
      have FC' := Lib.hid FC
      have HHF := Lib.hid hH
      clear FC o1 o2 o3 o4 o5 hla hlb hH hHe
      go_wp2_with fail
      refine FC'.out.mono ?_
      rintro e w6 ⟨Ap, np, cp, A1, c1, A3, c3, rfl, hv, hnp, hl, hr, -, hbt, -, -, -⟩
      have B6 := hbt.old (B := w2.heap.size) B23.out.size (Nat.le_refl _)
      obtain ⟨F, hF⟩ : ∃ F, F = w6.alloc (.cells #[.slice Ap np cp, .int .i64 0, .slice A1 H c1, .slice A3 (M + 2 - H) c3, .int .i64 4] 48) := ⟨_, rfl⟩
      have bF : Below w6.heap.size w6 F := by rw [hF]; exact (Below.refl _ _).alloc (Nat.le_refl _) _
      have r1 : F.heap[w6.heap.size]? = some (.cells #[.slice Ap np cp, .int .i64 0, .slice A1 H c1, .slice A3 (M + 2 - H) c3, .int .i64 4] 48 (0, 0)) := by rw [hF]; exact heap_alloc_new _ _
      have R1 := Lib.hid r1
      have VF := Lib.hid (hv.below bF)
      have LF := Lib.hid (hl.below bF)
      have RF := Lib.hid (hr.below bF)
      have BF2 := Lib.hid (show Below w2.heap.size w2 F from B23.out.trans (B6.trans (bF.mono (Nat.le_trans hsz2 hbt.size))))
      have BF := Lib.hid (B2.out.trans (BF2.out.mono B2.out.size))
      have SF := Lib.hid (S2.out.below BF2.out)
      have HF := Lib.hid hF
      clear hv hl hr hbt B6 bF r1 hF FC'
      go_wp2_with fail
      rw [← HF.out]
      refine (halvesZ SF.out (by omega)).mono ?_
      rintro e w7 ⟨A7, c7, A8, c8, rfl, h7, h8, hb7⟩
      rw [HHF.out] at h7 h8 ⊢
      have B7 := Lib.hid hb7
      have R7 := Lib.hid h7
      have R8 := Lib.hid h8
      have FP : Hid (∀ V, Below w7.heap.size w7 V → Calls Try.prog 24 #[.int .i64 (len0 : Int)] V fun e w' => ∃ A c, e = .returned (.agg #[.slice A len0 c, .int .i64 0]) ∧ Vec w' A len0 (Pm.flat len0) ∧ Below w7.heap.size w7 w') := Lib.hid fun V hb =>
        (refFlat_any len0 V (by omega)).mono fun _ _ ⟨A, c, h1, h2, h3⟩ => ⟨A, c, h1, h2, hb.trans (h3.mono hb.size)⟩
      have FQ : Hid (∀ V A c, Below w7.heap.size w7 V → Vec V A len0 (Pm.flat len0) → Calls Try.prog 20 #[.agg #[.slice Ap np cp, .int .i64 0], .agg #[.slice A len0 c, .int .i64 0]] V fun e w' => e = .returned (.bool true) ∧ Below w7.heap.size w7 w') := Lib.hid fun V A c hb hA =>
        (refSameP_any Ap A np len0 cp c 0 0 _ _ V ((VF.out.below B7.out).below hb) hA hnp (by omega)).mono fun _ _ h => ⟨by rw [h.1, decide_eq_true ⟨rfl, rfl⟩], hb.trans (h.2.mono hb.size)⟩
      have FL : Hid (∀ V, Below w7.heap.size w7 V → Calls Try.prog 12 #[.slice A1 H c1, .slice A7 H c7] V fun e w' => e = .returned (.bool true) ∧ Below w7.heap.size w7 w') := Lib.hid fun V hb =>
        (refSame _ _ _ _ _ _ _ _ V ((LF.out.below B7.out).below hb) (R7.out.below hb) (by omega)).mono fun _ _ h => ⟨by rw [h.1, decide_eq_true rfl], hb.trans (h.2.mono hb.size)⟩
      have FG : Hid (∀ V, Below w7.heap.size w7 V → Calls Try.prog 12 #[.slice A3 (M + 2 - H) c3, .slice A8 (M + 2 - H) c8] V fun e w' => e = .returned (.bool true) ∧ Below w7.heap.size w7 w') := Lib.hid fun V hb =>
        (refSame _ _ _ _ _ _ _ _ V ((RF.out.below B7.out).below hb) (R8.out.below hb) (by omega)).mono fun _ _ h => ⟨by rw [h.1, decide_eq_true rfl], hb.trans (h.2.mono hb.size)⟩
      have CL : Hid (∀ V, Below w7.heap.size w7 V → V.cell? ⟨w6.heap.size, 0, none⟩ = some (.slice Ap np cp) ∧ V.cell? ⟨w6.heap.size, 1, none⟩ = some (.int .i64 0) ∧ V.cell? ⟨w6.heap.size, 2, none⟩ = some (.slice A1 H c1) ∧ V.cell? ⟨w6.heap.size, 3, none⟩ = some (.slice A3 (M + 2 - H) c3) ∧ V.cell? ⟨w6.heap.size, 4, none⟩ = some (.int .i64 4)) := Lib.hid fun V hb => by
        have e1 := (hb.block w6.heap.size (Nat.lt_of_lt_of_le (lt_of_block R1.out) B7.out.size)).trans ((B7.out.block w6.heap.size (lt_of_block R1.out)).trans R1.out)
        refine ⟨?_, ?_, ?_, ?_, ?_⟩
        all_goals (rw [cell_of_row _ _ _ _ _ _ e1]; rfl)
      have BW7 := Lib.hid (BF.out.trans (hb7.mono BF.out.size))
      have G0 := Lib.hid (Below.refl w7.heap.size w7).drew
      obtain ⟨k0, k1, k2, k3, k4⟩ := CL.out w7 (Below.refl _ _)
      clear h7 h8 hb7 HF
      go_wp2
      go_region_held3 (fun V => V.cell? ⟨w6.heap.size, 0, none⟩ = some (.slice Ap np cp) ∧ V.cell? ⟨w6.heap.size, 1, none⟩ = some (.int .i64 0) ∧ V.cell? ⟨w6.heap.size, 2, none⟩ = some (.slice A1 H c1) ∧ V.cell? ⟨w6.heap.size, 3, none⟩ = some (.slice A3 (M + 2 - H) c3) ∧ V.cell? ⟨w6.heap.size, 4, none⟩ = some (.int .i64 4)) (go_keep) (first
        | (go_at_call 24; (with_reducible refine (FP.out _ G0.out).mono ?_); rintro _ Y1 ⟨Af, cf, rfl, hvf, hb⟩; obtain ⟨u0, u1, u2, u3, u4⟩ := CL.out Y1 hb; have G1 := Lib.hid hb; have HVF := Lib.hid hvf; clear hb hvf)
        | (go_at_call 20; (with_reducible refine (FQ.out _ Af cf G1.out HVF.out).mono ?_); rintro _ Y2 ⟨rfl, hb⟩; obtain ⟨v0, v1, v2, v3, v4⟩ := CL.out Y2 hb; have G2 := Lib.hid hb; clear hb)
        | (go_at_call 12; (with_reducible refine (FL.out _ G2.out).mono ?_); rintro _ Y3 ⟨rfl, hb⟩; obtain ⟨x0, x1, x2, x3, x4⟩ := CL.out Y3 hb; have G3 := Lib.hid hb; clear hb)
        | (go_at_call 12; (with_reducible refine (FG.out _ G3.out).mono ?_); rintro _ Y4 ⟨rfl, hb⟩; obtain ⟨y0, y1, y2, y3, y4⟩ := CL.out Y4 hb; have G4 := Lib.hid hb; clear hb))
      go_wp2
      go_ret
      exact ⟨rfl, BW7.out.trans (G4.out.mono BW7.out.size)⟩

set_option maxHeartbeats 1600000 in
set_option maxRecDepth 100000 in
theorem walk (a0 : Option Addr) (len0 cap0 : Nat) (z0 : List Int) (n : Int) (a3 : Option Addr) (len3 cap3 : Nat) (z3 : List Int) (w : World) (w0 : IsRow .i32 w a0 len0 cap0 z0) (w1 : (Lit.int .u8 n).wf = true) (w2 : IsRow .u64 w a3 len3 cap3 z3) :
    Calls Try.prog 6 #[.slice a0 len0 cap0, .int .u8 n, .slice a3 len3 cap3] w fun e w' => e = .returned (.bool true) ∧ Below w.heap.size w w' := by
  obtain ⟨v, hV, m0, -⟩ := w0.vec
  obtain ⟨n0, n1⟩ := u8_bd w1
  obtain ⟨d1, -, -, d4, d5⟩ := w2.lst
  have hg : 100 < len0 ∨ (¬ 100 < len0 ∧ 200 < len3) ∨ (¬ 100 < len0 ∧ ¬ 200 < len3 ∧ n < 2) ∨ (len0 ≤ 100 ∧ len3 ≤ 200 ∧ 2 ≤ n) := by omega
  rcases hg with g | ⟨g, g2⟩ | ⟨g, g2, g3⟩ | ⟨g, g2, g3⟩
  case inr.inr.inr => exact good_walk a0 len0 cap0 v n a3 len3 cap3 (z3.take len3) w (Lib.hid hV) g g3 n1 (Lib.hid d1) (Lib.hid fun x hx => u64_in (d4 x hx)) (Lib.hid d5) g2
  all_goals
    clear hV w0 w1 w2 d1 d4 d5
    go_enter Try.func6, Try.ntmps6
    go_wp2_with fail
    refine (awakeZ _).mono ?_
    rintro e w1 ⟨rfl, hb1⟩
    have B1 := Lib.hid hb1
    clear hb1
    go_wp2
    go_ret
    exact ⟨rfl, B1.out⟩
theorem own : ownKnob Try.prog.godebug = none := by kernel_rfl
theorem laidOut : laidOutB Try.prog = true := by kernel_rfl
set_option maxRecDepth 100000 in
theorem lifted (os : Os) (started : os.Started) (H : Type) (enc : TypeId × Value → H) :
    ReturnsInHanded {} Try.checked os 6 .any (Rows.splitSameSpec.pre6 enc Try.prog Try.f6 Rows.splitSameRow.domain false) (Rows.splitSameSpec.post enc Try.prog Try.f6 false true false false) := by
  refine returnsInHanded_of_change (C := Try.checked) own started (by kernel_rfl) Try.func6
    (ChangeSpec.witness6 (enc := enc) (C := Try.checked) false ⟨#[], #[.slice none 0 0, .int .u8 0, .slice none 0 0], []⟩ 8 (by kernel_rfl) (by kernel_rfl) (by kernel_rfl) (by kernel_rfl)) ?_
  intro W base args ds gs before hval0 hW hcnd _
  have hval : ∀ (j : Nat) t v, Try.f6.params[j]? = some t → args[j]? = some v → Value.okWide Try.prog W .any base t v := hval0
  have hW' := hW
  obtain ⟨p, q, hA0, hV, rfl, hfz, hnd⟩ := hW
  have hA : DataW.TrodAll enc Try.prog W 0 (fun _ => true) true Try.f6.params.toList args.toList ds p := hA0
  rw [Try.params6] at hA hval
  obtain ⟨v0, vs0, d0, ds0, p0, q0, hargs, rfl, rfl, h0, r0⟩ := trodAll_cons hA
  obtain ⟨v1, vs1, d1, ds1, p1, q1, rfl, rfl, rfl, h1, r1⟩ := trodAll_cons r0
  obtain ⟨v2, vs2, d2, ds2, p2, q2, rfl, rfl, rfl, h2, r2⟩ := trodAll_cons r1
  obtain ⟨rfl, rfl, rfl⟩ := trodAll_nil r2
  obtain rfl : args = #[v0, v1, v2] := by cases args; simp_all
  obtain ⟨rfl, rfl⟩ := trodVars_none hV
  obtain ⟨a0, len0, cap0, rfl⟩ := okWide_slice Try.underlying24 (hval 0 24 v0 rfl rfl)
  have k0 := h0
  have lt0 : ∀ x ∈ p0, x.block < W.heap.size := by obtain ⟨m, hm⟩ := k0; exact DataW.trod_lt m _ _ _ hm
  obtain ⟨z0, w0⟩ : ∃ zs, IsRow .i32 W a0 len0 cap0 zs := by
    obtain ⟨fuel, hf⟩ := h0
    rcases open_ints Try.underlying24 Try.underlying21 (by kernel_rfl) hf with ⟨hcs, _⟩ | ⟨x, l, c, zs, hcs, _, hl, hm, hz, _, hcell, hwz⟩
    · simp [Value.cells] at hcs
      obtain ⟨rfl, rfl, rfl⟩ := hcs
      exact ⟨[], .inl ⟨rfl, rfl, rfl, rfl⟩⟩
    · simp [Value.cells] at hcs
      obtain ⟨rfl, rfl, rfl⟩ := hcs
      exact ⟨zs, .inr ⟨_, rfl, hl, hm, by simpa using hz, hcell, hwz⟩⟩
  obtain ⟨a1, rfl, rfl, rfl, w1⟩ := open_int Try.underlying5 (hval 1 5 v1 rfl rfl) h1
  obtain ⟨a2, len2, cap2, rfl⟩ := okWide_slice Try.underlying37 (hval 2 37 v2 rfl rfl)
  have k2 := h2
  have lt2 : ∀ x ∈ p2, x.block < W.heap.size := by obtain ⟨m, hm⟩ := k2; exact DataW.trod_lt m _ _ _ hm
  obtain ⟨z2, w2⟩ : ∃ zs, IsRow .u64 W a2 len2 cap2 zs := by
    obtain ⟨fuel, hf⟩ := h2
    rcases open_ints Try.underlying37 Try.underlying44 (by kernel_rfl) hf with ⟨hcs, _⟩ | ⟨x, l, c, zs, hcs, _, hl, hm, hz, _, hcell, hwz⟩
    · simp [Value.cells] at hcs
      obtain ⟨rfl, rfl, rfl⟩ := hcs
      exact ⟨[], .inl ⟨rfl, rfl, rfl, rfl⟩⟩
    · simp [Value.cells] at hcs
      obtain ⟨rfl, rfl, rfl⟩ := hcs
      exact ⟨zs, .inr ⟨_, rfl, hl, hm, by simpa using hz, hcell, hwz⟩⟩
  clear hA0 hval0
  refine (walk a0 len0 cap0 z0 a1 a2 len2 cap2 z2 W w0 w1 w2).mono fun e W' ⟨he, bel⟩ => ?_
  subst he
  exact ⟨_, rfl, _, _, _, [], _, [], hW', trodAll_mk1 (shut_bool Try.underlying4 _), (trodAll_cons_mk (Below.trod laidOut (by kernel_rfl) (of_decide_eq_true (by kernel_rfl)) k0 bel lt0) (trodAll_cons_mk (shut_int Try.underlying5 w1) (trodAll_cons_mk (Below.trod laidOut (by kernel_rfl) (of_decide_eq_true (by kernel_rfl)) k2 bel lt2) trodAll_mk0))), rfl, bel.frame _, fun h => by cases h⟩
theorem over : Rows.splitSameRow.holds Try.pinned (OpenSpec.ofChange Rows.splitSameSpec) :=
  OpenClaim.holds_of_wide 6 Try.f6 rfl rfl rfl rfl rfl rfl rfl ⟨rfl, rfl, rfl, rfl, rfl⟩ rfl rfl rfl rfl rfl (by kernel_rfl) Try.func6 (by kernel_rfl)
    (of_decide_eq_true (by kernel_rfl)) (by unfold Func.isWrapper; first | (rw [if_pos (by decide +kernel)]; kernel_rfl) | (rw [if_neg (by decide +kernel)]; exact ⟨rfl, rfl⟩))
    (fun os started H enc _ => lifted os started H enc)
/-- the statement -/
theorem proved : Rows.SplitSameSaid := over
#print axioms proved
end Go.Proofs.Ytljgmcdkomhmbaa.splitSame
