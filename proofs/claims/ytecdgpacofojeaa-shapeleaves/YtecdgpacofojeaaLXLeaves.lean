/-
  ShapeLeaves holds for every input: a tree of more than one node has a first split, whose children stand at the depth 1, and nothing else at 0; it has one leaf more than splits. No condition.
-/
import Derived.Test.YtecdgpacofojeaaXAwk
import Derived.Test.YtecdgpacofojeaaXBrk
import Derived.ProofKit
import Derived.Lib.SmallJoins
import Derived.OpenShut
import Derived.ChangeOld
import Derived.WalkSmall
import Derived.SizedLaws
import Derived.Stop.RegionWithIn
import Derived.Sort.QuietIn
namespace Go.Proofs.Ytecdgpacofojeaa.shapeLeaves
open Go.ChangeShapes Go.WideShapes Go.ChangeAt Go.RowKit Go.Joins Go.Shelf
set_option linter.unusedVariables false
attribute [local go_sem] Oper.semAt_some

/-- how many ids the first lists hold -/
def sumL (T : List Xm.Nd) (k : Nat) : Nat := ((Xm.lists T).take k).flatten.length
theorem sumL_succ {T : List Xm.Nd} {k : Nat} {l : List Int} (h : (Xm.lists T)[k]? = some l) : sumL T (k + 1) = sumL T k + l.length := by
  unfold sumL; rw [List.take_add_one, h]; simp
theorem sumL_le (T : List Xm.Nd) (k : Nat) : sumL T k ≤ Xm.tot T := by
  refine Nat.le_trans ?_ (Xm.lists_tot T)
  unfold sumL
  have : (Xm.lists T).flatten.length = ((Xm.lists T).take k).flatten.length + ((Xm.lists T).drop k).flatten.length := by
    rw [← List.length_append, ← List.flatten_append, List.take_append_drop]
  omega
set_option maxHeartbeats 3200000 in
set_option maxRecDepth 100000 in
theorem walk (A : Option Addr) (n c : Nat) (T : List Xm.Nd) (k d : Int) (w : World) (h : Xds w A n c T ∧ Xdc w A T ∧ n ≤ 2000000000000) (_hk : (Lit.int .i64 k).wf = true) (_hd : (Lit.int .i64 d).wf = true) :
    Calls Try.prog 7 #[.slice A n c, .int .i64 k, .int .i64 d] w fun e w' => e = .returned (.bool true) ∧ Below w.heap.size w w' := by
  obtain ⟨hx, -, hn⟩ := h
  have HX := Lib.hid hx
  obtain ⟨W0, hW0⟩ : ∃ W0, W0 = w.alloc (.cells #[.bool false] 4) := ⟨_, rfl⟩
  have b0 : Below w.heap.size w W0 := by rw [hW0]; exact (Below.refl _ w).alloc (Nat.le_refl _) _
  have rr : W0.heap[w.heap.size]? = some (.cells #[.bool false] 4 (0, 0)) := by rw [hW0]; exact heap_alloc_new w _
  have sz0 : W0.heap.size = w.heap.size + 1 := by rw [hW0]; simp
  have HW0 := Lib.hid hW0
  have B0 := Lib.hid b0
  have RR := Lib.hid rr
  clear hW0 b0 rr hx _hk _hd
  refine (callsIn_wide (n := 6)).1 ?_
  refine callsIn_of_wp_marks Try.func7 rfl trivial ?_ rfl
  simp only [Try.ntmps7, List.size_toArray, List.length_cons, List.length_nil, Nat.reduceAdd, Nat.reduceSub, Array.replicate_succ, Array.replicate_zero, List.push_toArray, List.append_toArray, List.nil_append, List.cons_append]
  gi_wp2_with fail
  rw [← HW0.out]
  refine ⟨trivial, ?_⟩
  refine (callsIn_wide.2 (awakeX _)).mono ?_
  rintro _ W1 ⟨rfl, b1⟩
  have B1 := Lib.hid (B0.out.trans (b1.mono B0.out.size))
  have RR1 := Lib.hid ((b1.block _ (by omega)).trans RR.out)
  have sz1 := b1.size
  have FF := Lib.hid (refFewX (HX.out.below B1.out) hn)
  clear b1 RR HW0
  gi_wp2_with fail
  refine ⟨trivial, ?_⟩
  refine (callsIn_wide.2 FF.out).mono ?_
  rintro _ W2 (⟨rfl, hb2⟩ | ⟨rfl, hn4, ht, hb2⟩)
  all_goals
    have B2 := Lib.hid (B1.out.trans (hb2.mono B1.out.size))
    have rr2 := (hb2.block _ (by omega)).trans RR1.out
    have c2 : W2.cell? ⟨w.heap.size, 0, none⟩ = some (.bool false) := by rw [cell_of_row _ _ _ _ _ _ rr2]; rfl
    have f2 := frozen_of_row W2 (w.heap.size) 0 _ _ rr2
    have RR2 := Lib.hid rr2
    have sz2 := hb2.size
    clear hb2 rr2 RR1 FF
  · have HR3 := Lib.hid (one_set (u := .bool true) RR2.out)
    gi_wp2
    refine ⟨trivial, ?_⟩
    gi_wp2
    refine ⟨_, result_bool rfl _ _ w.heap.size true rfl ?_, rfl, B2.out.setCell (p := ⟨w.heap.size, 0, none⟩) (Nat.le_refl _) _⟩
    rw [cell_of_row _ _ _ _ _ _ HR3.out]; rfl
  by_cases g1 : 5000 < k
  · have HR3 := Lib.hid (one_set (u := .bool true) RR2.out)
    gi_wp2
    refine ⟨trivial, ?_⟩
    gi_wp2
    refine ⟨_, result_bool rfl _ _ w.heap.size true rfl ?_, rfl, B2.out.setCell (p := ⟨w.heap.size, 0, none⟩) (Nat.le_refl _) _⟩
    rw [cell_of_row _ _ _ _ _ _ HR3.out]; rfl
  have FK0 := checkX (HX.out.below B2.out) (by omega) (by omega) k d
  obtain ⟨ck, hck⟩ : ∃ ck, ck = Xm.chk T k d := ⟨_, rfl⟩
  rw [← hck] at FK0
  have FK := Lib.hid FK0
  have HCK := Lib.hid hck
  clear FK0 hck c2 f2
  by_cases g2 : ck = 0
  case neg =>
    have e2 : (ck != 0) = true := by simpa using g2
    gi_wp2_with fail
    refine ⟨trivial, ?_⟩
    refine (callsIn_wide.2 FK.out).mono ?_
    rintro _ W3 ⟨rfl, b3⟩
    have B3 := Lib.hid (B2.out.trans (b3.mono B2.out.size))
    have rr3 := (b3.block _ (by omega)).trans RR2.out
    have c3 : W3.cell? ⟨w.heap.size, 0, none⟩ = some (.bool false) := by rw [cell_of_row _ _ _ _ _ _ rr3]; rfl
    have f3 := frozen_of_row W3 (w.heap.size) 0 _ _ rr3
    have HR3 := Lib.hid (one_set (u := .bool true) rr3)
    clear b3 rr3
    gi_wp2
    refine ⟨_, result_bool rfl _ _ w.heap.size true rfl ?_, rfl, B3.out.setCell (p := ⟨w.heap.size, 0, none⟩) (Nat.le_refl _) _⟩
    rw [cell_of_row _ _ _ _ _ _ HR3.out]; rfl
  obtain ⟨k0, -, -, -, ⟨v, hv⟩, hcov⟩ := Xm.chk_zero (show Xm.chk T k d = 0 from by rw [← HCK.out]; exact g2)
  have hflat := Xm.cov_len hcov k0
  have hroot := hv.root
  have htw := hv.twice
  rw [Xm.seg_all] at htw
  have hvl : v.length = n := by have := hv.len; rw [HX.out.len] at this; omega
  rw [HX.out.len] at hroot
  have HV := Lib.hid hv
  have HVL := Lib.hid hvl
  obtain ⟨lv, hlv⟩ : ∃ lv, lv = Xm.leaves T := ⟨_, rfl⟩
  rw [← hlv, hvl] at htw
  have HLV := Lib.hid hlv
  have HFL := Lib.hid hflat
  subst g2
  clear hv hvl hlv hcov hflat
  gi_wp2_with fail
  refine ⟨trivial, ?_⟩
  refine (callsIn_wide.2 FK.out).mono ?_
  rintro _ W3 ⟨rfl, b3⟩
  have B3 := Lib.hid (B2.out.trans (b3.mono B2.out.size))
  have RR3 := Lib.hid ((b3.block _ (by omega)).trans RR2.out)
  have sz3 := b3.size
  have FC0 := countX (HX.out.below B3.out) (by omega)
  rw [← HLV.out] at FC0
  have FC := Lib.hid FC0
  clear b3 FK FC0 RR2 B2
  gi_wp2_with fail
  refine ⟨trivial, ?_⟩
  refine (callsIn_wide.2 FC.out).mono ?_
  rintro _ W4 ⟨rfl, b4⟩
  have B4 := Lib.hid (B3.out.trans (b4.mono B3.out.size))
  have RR4 := Lib.hid ((b4.block _ (by omega)).trans RR3.out)
  have s4 := b4.size
  clear b4 FC RR3 B3
  obtain ⟨x0, hx0, hhd, hroot⟩ := hroot
  obtain ⟨b, off, rfl, hbk, A1, n1, c1, A2, n2, c2, ha, g0, -, -, -, g4, g5⟩ := HX.out.at_ 0 x0 hx0
  have hbk' : b < w.heap.size := hbk
  rw [Nat.zero_mul, Nat.add_zero] at g0 g4 g5
  have CX : Hid (∀ V, Below w.heap.size w V → V.cell? ⟨b, off, none⟩ = some (.bool x0.leaf) ∧ V.cell? ⟨b, off + 4, none⟩ = some (.int .i64 x0.lt) ∧ V.cell? ⟨b, off + 5, none⟩ = some (.int .i64 x0.rt)) := Lib.hid fun V hV =>
    ⟨(hV.cell (p := ⟨b, off, none⟩) hbk).trans g0, (hV.cell (p := ⟨b, off + 4, none⟩) hbk).trans g4, (hV.cell (p := ⟨b, off + 5, none⟩) hbk).trans g5⟩
  have hn1 : 1 ≤ n := by have := (List.getElem?_eq_some_iff.1 hx0).1; rw [HX.out.len] at this; omega
  obtain ⟨lf, hlf⟩ : ∃ lf, lf = x0.leaf := ⟨_, rfl⟩
  obtain ⟨lt, hlt⟩ : ∃ lt, lt = x0.lt := ⟨_, rfl⟩
  obtain ⟨rt, hrt⟩ : ∃ rt, rt = x0.rt := ⟨_, rfl⟩
  rw [← hlf, ← hlt, ← hrt] at hroot CX
  clear ha g0 g4 g5 hlf hlt hrt hx0 hbk
  have e0 : ((n : Int) != 2 * (lv : Int) - 1) = false := by rw [bne_eq_false_iff_eq]; omega
  have hlv1 : lv ≤ 401 := by omega
  have hlv2 : 1 ≤ lv := by omega
  have HTW := Lib.hid htw
  clear htw
  obtain ⟨W5, hW5⟩ : ∃ W5, W5 = W4.alloc (.cells #[.int .i64 0] 3) := ⟨_, rfl⟩
  have b5 : Below W4.heap.size W4 W5 := by rw [hW5]; exact (Below.refl _ W4).alloc (Nat.le_refl _) _
  have v5 : W5.heap[W4.heap.size]? = some (.cells #[.int .i64 0] 3 (0, 0)) := by rw [hW5]; exact heap_alloc_new W4 _
  have s5 : W5.heap.size = W4.heap.size + 1 := by rw [hW5]; simp
  have HV5 := Lib.hid v5
  have B5 := Lib.hid (B4.out.trans (b5.mono B4.out.size))
  have RR5 := Lib.hid ((b5.block _ (by omega)).trans RR4.out)
  have HW5 := Lib.hid hW5
  have FW := Lib.hid (leavesX HX.out B5.out (by omega) (by omega))
  obtain ⟨k1, k2, k3⟩ := CX.out W4 B4.out
  have HRO := Lib.hid hroot
  clear hW5 b5 v5 RR4
  have hle : (lf = true ∧ n ≤ 1) ∨ (lf = false ∧ 1 < n) := by rcases hroot with ⟨h1, h2, -⟩ | ⟨h1, -, m, -, h3, h4, -⟩; exact .inl ⟨h1, by omega⟩; exact .inr ⟨h1, by omega⟩
  clear hroot
  have MID : Hid True := Lib.hid trivial
  rcases hle with ⟨rfl, hn2⟩ | ⟨rfl, hn2⟩
  case' inl =>
    have e1 : ((n : Int) == 1) = true := by simp; omega
    gi_wp2_with fail
    clear e1
  case' inr =>
    have e1 : ((n : Int) == 1) = false := by simp; omega
    gi_wp2_with fail
    clear e1
  all_goals
    rw [← HW5.out]
    refine ⟨trivial, ?_⟩
    refine (callsIn_wide.2 FW.out).mono ?_
    rintro _ W7 ⟨gf, lb, rfl, eg, ht7, b7⟩
    have HTL := Lib.hid ht7
    have s7 := b7.size
    have HV7 := Lib.hid ((b7.block _ (by omega)).trans HV5.out)
    have RR7 := Lib.hid ((b7.block _ (by omega)).trans RR5.out)
    have B7 := Lib.hid (B5.out.trans (b7.mono B5.out.size))
    clear ht7 b7 FW HV5 RR5 HW5 k1 k2 k3 e0 B4 B5
    have hnb : W4.heap.size < W7.heap.size := by omega
    have hw4 : w.heap.size < W4.heap.size := by omega
    gi_wp2
    refine range_keeps (n := 6) rfl (by omega) (gf := gf) (lb := lb) rfl trivial eg
      (fun k W => Cnt W7 W4.heap.size (sumL T k : Int) W)
      (fun k vs W => ∃ l A' n' c', (Xm.lists T)[k]? = some l ∧ vs = #[.slice A' n' c'] ∧ l.length = n' ∧ Cnt W7 W4.heap.size (sumL T k : Int) W)
      (fun W => Cnt W7 W4.heap.size k W)
      (fun c W => False)
      (fun vs t => (t.setIfInBounds 52 (vs.getD 0 undef)).setIfInBounds 10 (vs.getD 0 undef))
      (fun k W W' h ho => h.off hnb ho) (fun k vs W W' h ho => by obtain ⟨l, A', n', c', h1, h2, h3, h4⟩ := h; exact ⟨l, A', n', c', h1, h2, h3, h4.off hnb ho⟩) (fun W W' h ho => h.off hnb ho)
      (fun c W W' h ho => h) (fun k vs W h => by obtain ⟨l, A', n', c', h1, h2, -⟩ := h; rw [h2]; rfl)
      (fun W hb hs => Cnt.new HV7.out hnb hb hs) ?iter ?assign ?body ?done ?stop
    case iter =>
      intro y Kk Y hK hY W hI hKW
      refine (HTL.out 4 y (W7.heap.size + 2) (fun k W => Cnt W7 W4.heap.size (sumL T k : Int) W) Kk Y W (fun k V h => ⟨h.keeps (by omega) (by omega), h.sz⟩) (fun k V V' h hb => h.low hnb hb hb.size) (fun V V' h hb => hK V V' h (kf_low hb)) ?_ hI hKW).mono ?_
      · intro k l A' n' c' V' hl hs hp hI hKV
        exact hY k _ V' ⟨l, A', n', c', hl, rfl, hs.length, hI⟩ hKV
      · rintro e W' ⟨hv, h | h⟩
        · refine ⟨hv, .inl ⟨?_, h.2⟩⟩
          have := h.1
          unfold sumL at this
          rw [List.take_of_length_le (Nat.le_refl _)] at this
          rw [HFL.out] at this
          exact this
        · exact ⟨hv, .inr h⟩
    case assign =>
      rintro y k vs W K ⟨l, A', n', c', -, rfl, -, -⟩ hK
      gi_wp2
      exact hK
    case body =>
      rintro y k vs W ⟨l, A', n', c', hx, rfl, hl, hg⟩
      have cn : W.cell? ⟨W4.heap.size, 0, none⟩ = some (.int .i64 (sumL T k : Int)) := by rw [cell_of_row _ _ _ _ _ _ hg.num]; rfl
      have fn := frozen_of_row W W4.heap.size 0 _ _ hg.num
      have hsum := sumL_succ hx
      have hb1 := sumL_le T (k + 1)
      obtain ⟨z, hz⟩ : ∃ z, z = sumL T k := ⟨_, rfl⟩
      rw [← hz] at cn hsum
      rw [hl] at hsum
      obtain ⟨hst, hkf⟩ := hg.set ((z : Int) + (n' : Int))
      have gw : IntKind.i64.wrap ((z : Int) + (n' : Int)) = (z : Int) + (n' : Int) := IntWalk.i64_in _ (by omega)
      have HST : Hid (Cnt W7 W4.heap.size (sumL T (k + 1) : Int) (W.setCell ⟨W4.heap.size, 0, none⟩ (.int .i64 ((z : Int) + (n' : Int))))) := Lib.hid (by rw [show ((sumL T (k + 1) : Nat) : Int) = (z : Int) + (n' : Int) from by omega]; exact hst)
      have HKF := Lib.hid hkf
      have hzn : z + n' ≤ 5000 := by omega
      generalize hP : leftBy W7.heap.size _ _ W = Pst
      have HP := Lib.hid hP
      clear hst hkf hg hx hP hz hsum hb1 hl
      gi_wp2
      rw [← HP.out]
      exact ⟨HKF.out, HST.out⟩
    case stop =>
      intro D c W _ hx
      exact hx.elim
    case done =>
      rintro D W rfl hg hK
      have cn : W.cell? ⟨W4.heap.size, 0, none⟩ = some (.int .i64 k) := by rw [cell_of_row _ _ _ _ _ _ hg.num]; rfl
      have BW := Lib.hid (show Below w.heap.size w W from B7.out.trans (hg.kp.old B7.out.size fun j hj => by omega))
      have rrw := (hg.kp.block _ (by omega) (by omega)).trans RR7.out
      have cr : W.cell? ⟨w.heap.size, 0, none⟩ = some (.bool false) := by rw [cell_of_row _ _ _ _ _ _ rrw]; rfl
      have fr := frozen_of_row W w.heap.size 0 _ _ rrw
      have RRW := Lib.hid rrw
      have HKD := Lib.hid hK
      have szW := hg.sz
      obtain ⟨k1, k2, k3⟩ := CX.out W BW.out
      clear hg hK rrw HTL HV7 RR7 B7
      by_cases hcase : n ≤ 1
      case pos =>
        all_goals try (exfalso; omega)
        all_goals
          have hv0 : v = [0] := by
            rcases HRO.out with ⟨-, -, h⟩ | ⟨h, -⟩
            · exact h
            · cases h
          have FD0 := depthX (HX.out.below BW.out) (by omega) (show Xm.Is T d 65 0 v T.length from HV.out)
          rw [show Xm.most v = 0 from by rw [hv0]; rfl] at FD0
          have FD := Lib.hid FD0
          clear FD0 hv0 hcase
          gi_wp2_with fail
          refine ⟨trivial, ?_⟩
          refine (callsIn_wide.2 FD.out).mono ?_
          rintro _ W2 ⟨rfl, hb2⟩
          have rr2 := (hb2.block _ (by omega)).trans RRW.out
          have cr2 : W2.cell? ⟨w.heap.size, 0, none⟩ = some (.bool false) := by rw [cell_of_row _ _ _ _ _ _ rr2]; rfl
          have fr2 := frozen_of_row W2 w.heap.size 0 _ _ rr2
          have RRZ := Lib.hid (one_set (u := .bool true) rr2)
          have KDz : Hid ((W2.setCell ⟨w.heap.size, 0, none⟩ (.bool true)).heap[W7.heap.size]? = some (.deferred (some []))) := Lib.hid ((Below.heap_setCell _ _ _ _ (show W7.heap.size ≠ w.heap.size by omega)).trans ((hb2.block _ (by omega)).trans HKD.out))
          have BZ := Lib.hid ((BW.out.trans (hb2.mono BW.out.size)).setCell (p := ⟨w.heap.size, 0, none⟩) (Nat.le_refl _) (.bool true))
          clear hb2 FD rr2 cr fr
          gi_wp2
          refine ⟨by simp, .inl ⟨_, _, rfl, run_takeDeferred KDz.out, ?_⟩⟩
          refine ⟨_, result_bool rfl _ _ w.heap.size true rfl ?_, rfl, BZ.out.trans (below_put (by omega) _)⟩
          rw [cell_of_row _ _ _ _ _ _ ((World.putObj_heap_other (by omega)).trans RRZ.out)]; rfl
      case neg =>
        all_goals try (exfalso; omega)
        all_goals
          obtain ⟨hlt1, mid, hrt1, hm2, hmn, hv1, hvm, hv0⟩ : lt = 1 ∧ ∃ mid : Nat, rt = (mid : Int) ∧ 2 ≤ mid ∧ mid < n ∧ v[1]? = some 1 ∧ v[mid]? = some 1 ∧ ∀ i y, v[i]? = some y → (y = 0 ↔ i = 0) := by
            rcases HRO.out with ⟨h, -⟩ | ⟨-, h⟩
            · cases h
            · exact h
          subst hlt1
          subst hrt1
          have HV1 := Lib.hid (And.intro hv1 (And.intro hvm hv0))
          clear hv1 hvm hv0 hcase cr fr
          obtain ⟨WM, hWM⟩ : ∃ WM, WM = W.alloc (.cells #[.int .i64 (mid : Int)] 3) := ⟨_, rfl⟩
          have bM : Below W.heap.size W WM := by rw [hWM]; exact (Below.refl _ W).alloc (Nat.le_refl _) _
          have uM : WM.heap[W.heap.size]? = some (.cells #[.int .i64 (mid : Int)] 3 (0, 0)) := by rw [hWM]; exact heap_alloc_new W _
          have sM : WM.heap.size = W.heap.size + 1 := by rw [hWM]; simp
          obtain ⟨m1, m2, m3⟩ := CX.out WM (BW.out.trans (bM.mono BW.out.size))
          obtain ⟨WN, hWN⟩ : ∃ WN, WN = WM.alloc (.cells #[.int .i64 0] 3) := ⟨_, rfl⟩
          have bN : Below WM.heap.size WM WN := by rw [hWN]; exact (Below.refl _ WM).alloc (Nat.le_refl _) _
          have vN : WN.heap[W.heap.size + 1]? = some (.cells #[.int .i64 0] 3 (0, 0)) := by rw [hWN, ← sM]; exact heap_alloc_new WM _
          have sN : WN.heap.size = W.heap.size + 2 := by rw [hWN]; simp [sM]
          have bWN : Below W.heap.size W WN := bM.trans (bN.mono (by omega))
          have cM : WM.cell? ⟨W.heap.size, 0, none⟩ = some (.int .i64 (mid : Int)) := by rw [cell_of_row _ _ _ _ _ _ uM]; rfl
          have UN := Lib.hid ((bN.block _ (by omega)).trans uM)
          have VN := Lib.hid vN
          have BN := Lib.hid (BW.out.trans (bWN.mono BW.out.size))
          have RRN := Lib.hid ((bWN.block _ (by omega)).trans RRW.out)
          have KDN := Lib.hid ((bWN.block _ (by omega)).trans HKD.out)
          have hWN2 : WN = (W.alloc (.cells #[.int .i64 (mid : Int)] 3)).alloc (.cells #[.int .i64 0] 3) := by rw [hWN, hWM]
          have HWN := Lib.hid hWN2
          rw [hWM] at m1 m2 m3 cM
          have FW2 := Lib.hid (walkX HX.out BN.out (by omega) (show Xm.Is T d 65 0 v T.length from HV.out))
          have gm1 : decide (mid < 2) = false := by simp; omega
          have gm2 : decide (n ≤ mid) = false := by simp; omega
          clear hWM hWN hWN2 bM bN uM vN bWN RRW HKD
          gi_wp2_with fail
          rw [← HWN.out]
          refine ⟨trivial, ?_⟩
          refine (callsIn_wide.2 FW2.out).mono ?_
          rintro _ WP ⟨gf2, lb2, rfl, eg2, htP, bP⟩
          have HTV := Lib.hid htP
          have sP := bP.size
          have UP := Lib.hid ((bP.block _ (by omega)).trans UN.out)
          have VP := Lib.hid ((bP.block _ (by omega)).trans VN.out)
          have RRP := Lib.hid ((bP.block _ (by omega)).trans RRN.out)
          have KDP := Lib.hid ((bP.block _ (by omega)).trans KDN.out)
          have BP := Lib.hid (BN.out.trans (bP.mono BN.out.size))
          clear htP bP FW2 UN VN RRN KDN BN HWN m1 m2 m3 cM k1 k2 k3 cn
          have hnb2 : W.heap.size + 1 < WP.heap.size := by omega
          gi_wp2
          refine range_tells (n := 6) rfl (by omega) (gf := gf2) (lb := lb2) rfl trivial eg2
            (fun k W' => Cnt WP (W.heap.size + 1) (Xm.most (v.take k) : Int) W')
            (fun k vs W' => ∃ y, v[k]? = some y ∧ vs = #[.int .i64 (k : Int), .int .i64 (y : Int)] ∧ Cnt WP (W.heap.size + 1) (Xm.most (v.take k) : Int) W')
            (fun W' => Cnt WP (W.heap.size + 1) (Xm.most v : Int) W')
            (fun c W' => False)
            (fun vs t => (((t.setIfInBounds 88 (vs.getD 0 undef)).setIfInBounds 89 (vs.getD 1 undef)).setIfInBounds 13 (vs.getD 0 undef)).setIfInBounds 14 (vs.getD 1 undef))
            (fun k W1 W2 h ho => h.off hnb2 ho) (fun k vs W1 W2 h ho => by obtain ⟨y, h1, h2, h3⟩ := h; exact ⟨y, h1, h2, h3.off hnb2 ho⟩) (fun W1 W2 h ho => h.off hnb2 ho)
            (fun c W1 W2 h ho => h) (fun k vs W1 h => by obtain ⟨y, h1, h2, -⟩ := h; rw [h2]; rfl)
            (fun W1 hb hs => Cnt.new VP.out hnb2 hb hs) ?iterB ?assignB ?bodyB ?doneB ?stopB
          case iterB =>
            intro y Kk Y hK hY W1 hI hKW
            refine (HTV.out 4 y (WP.heap.size + 2) (fun k W' => Cnt WP (W.heap.size + 1) (Xm.most (v.take k) : Int) W') Kk Y W1 (fun k V h => ⟨h.keeps (by omega) (by omega), h.sz⟩) (fun k V V' h hb => h.low hnb2 hb hb.size) (fun V V' h hb => hK V V' h (kf_low hb)) ?_ hI hKW).mono ?_
            · intro k a b V' S hS hl hI hSV hKV
              obtain ⟨y', h1, rfl, rfl⟩ := Xm.visits_at hl
              rw [Nat.zero_add]
              exact hY k _ V' S hS ⟨y', h1, rfl, hI⟩ hSV hKV
            · rintro e W' ⟨hv, h | h⟩
              · refine ⟨hv, .inl ⟨?_, h.2⟩⟩
                have := h.1
                rwa [Xm.visits_length, List.take_of_length_le (Nat.le_refl _)] at this
              · exact ⟨hv, .inr h⟩
          case assignB =>
            rintro y k vs W1 K ⟨y', -, rfl, -⟩ hK
            gi_wp2
            exact hK
          case stopB =>
            intro D c W1 _ hx
            exact hx.elim
          case bodyB =>
            rintro y k vs W1 ⟨dy, hx, rfl, hg⟩
            have hUk : W1.heap[W.heap.size]? = some (.cells #[.int .i64 (mid : Int)] 3 (0, 0)) := (hg.kp.block _ (by omega) (by omega)).trans UP.out
            have cu : W1.cell? ⟨W.heap.size, 0, none⟩ = some (.int .i64 (mid : Int)) := by rw [cell_of_row _ _ _ _ _ _ hUk]; rfl
            have cn : W1.cell? ⟨W.heap.size + 1, 0, none⟩ = some (.int .i64 (Xm.most (v.take k) : Int)) := by rw [cell_of_row _ _ _ _ _ _ hg.num]; rfl
            have fn := frozen_of_row W1 (W.heap.size + 1) 0 _ _ hg.num
            have hmx : Xm.most (v.take (k + 1)) = max (Xm.most (v.take k)) dy := by rw [List.take_add_one, hx]; exact Xm.most_snoc _ _
            have hz := HV1.out.2.2 k dy hx
            have h1 : k = 1 → dy = 1 := fun e => by rw [e, HV1.out.1] at hx; injection hx with hx; exact hx.symm
            have hm : k = mid → dy = 1 := fun e => by rw [e, HV1.out.2.1] at hx; injection hx with hx; exact hx.symm
            obtain ⟨m0, hm0⟩ : ∃ m0, m0 = Xm.most (v.take k) := ⟨_, rfl⟩
            rw [← hm0] at cn hmx
            have hval : ∀ mv : Int, mv = (if m0 < dy then (dy : Int) else (m0 : Int)) → Hid (KeepsFrom WP.heap.size W1 (W1.setCell ⟨W.heap.size + 1, 0, none⟩ (.int .i64 mv))) ∧ Hid (Cnt WP (W.heap.size + 1) (Xm.most (v.take (k + 1)) : Int) (W1.setCell ⟨W.heap.size + 1, 0, none⟩ (.int .i64 mv))) := fun mv e => by
              obtain ⟨hst, hkf⟩ := hg.set mv
              refine ⟨hkf, ?_⟩
              show Cnt _ _ _ _
              rw [show ((Xm.most (v.take (k + 1)) : Nat) : Int) = mv from by rw [e, hmx]; split <;> omega]
              exact hst
            have HLT : ∀ mv : Int, Hid (Later (WP.heap.size + 2) W1 (W1.setCell ⟨W.heap.size + 1, 0, none⟩ (.int .i64 mv))) := fun mv => Lib.hid (Later.cell (by omega))
            generalize hP : leftBy WP.heap.size _ _ W1 = Pst
            have HP := Lib.hid hP
            clear hg hUk hx hP hm0 hmx
            by_cases hmd : m0 < dy
            case' pos => obtain ⟨HKF, HST⟩ := hval dy (by rw [if_pos hmd]); have HL := HLT dy
            case' neg => obtain ⟨HKF, HST⟩ := hval m0 (by rw [if_neg hmd]); have HL := HLT m0
            all_goals clear hval HLT
            all_goals rcases (show k = 0 ∨ k = 1 ∨ (k ≠ 0 ∧ k ≠ 1 ∧ k = mid) ∨ (k ≠ 0 ∧ k ≠ 1 ∧ k ≠ mid) from by omega) with hk | hk | ⟨hk0, hk1, hk⟩ | ⟨hk0, hk1, hk⟩
            all_goals first
              | (have q1 : ((dy : Int) == 0) = true := by have := hz.2 hk; simp; omega
                 have q2 : ((k : Int) == 0) = true := by simp; omega
                 have q3 : ((k : Int) == 1) = false := by simp; omega
                 have q4 : ((k : Int) == (mid : Int)) = false := by simp; omega
                 clear hk hz h1 hm
                 gi_wp2
                 rw [← HP.out]
                 exact ⟨HKF.out, HST.out, HL.out⟩)
              | (have q1 : ((dy : Int) == 0) = false := by have := h1 hk; simp; omega
                 have q2 : ((k : Int) == 0) = false := by simp; omega
                 have q3 : ((k : Int) == 1) = true := by simp; omega
                 have q4 : ((dy : Int) != 1) = false := by rw [bne_eq_false_iff_eq]; have := h1 hk; omega
                 clear hk hz h1 hm
                 gi_wp2
                 rw [← HP.out]
                 exact ⟨HKF.out, HST.out, HL.out⟩)
              | (have q1 : ((dy : Int) == 0) = false := by have := hm hk; simp; omega
                 have q2 : ((k : Int) == 0) = false := by simp; omega
                 have q3 : ((k : Int) == 1) = false := by simp; omega
                 have q5 : ((k : Int) == (mid : Int)) = true := by simp; omega
                 have q4 : ((dy : Int) != 1) = false := by rw [bne_eq_false_iff_eq]; have := hm hk; omega
                 clear hk hk0 hk1 hz h1 hm
                 gi_wp2
                 rw [← HP.out]
                 exact ⟨HKF.out, HST.out, HL.out⟩)
              | (have q1 : ((dy : Int) == 0) = false := by have := fun h => hk0 (hz.1 h); simp; omega
                 have q2 : ((k : Int) == 0) = false := by simp; omega
                 have q3 : ((k : Int) == 1) = false := by simp; omega
                 have q4 : ((k : Int) == (mid : Int)) = false := by simp; omega
                 clear hk hk0 hk1 hz h1 hm
                 gi_wp2
                 rw [← HP.out]
                 exact ⟨HKF.out, HST.out, HL.out⟩)
          case doneB =>
            rintro D W1 rfl hg hKD1
            have cn : W1.cell? ⟨W.heap.size + 1, 0, none⟩ = some (.int .i64 (Xm.most v : Int)) := by rw [cell_of_row _ _ _ _ _ _ hg.num]; rfl
            have BW1 := Lib.hid (show Below w.heap.size w W1 from BP.out.trans (hg.kp.old BP.out.size fun j hj => by omega))
            have rr1 := (hg.kp.block _ (by omega) (by omega)).trans RRP.out
            have cr1 : W1.cell? ⟨w.heap.size, 0, none⟩ = some (.bool false) := by rw [cell_of_row _ _ _ _ _ _ rr1]; rfl
            have fr1 := frozen_of_row W1 w.heap.size 0 _ _ rr1
            have KD1 := Lib.hid ((hg.kp.block _ (by omega) (by omega)).trans KDP.out)
            have KD2 := Lib.hid hKD1
            have RR1' := Lib.hid rr1
            have szg := hg.sz
            obtain ⟨mo, hmo⟩ : ∃ mo, mo = Xm.most v := ⟨_, rfl⟩
            rw [← hmo] at cn
            have HCN := Lib.hid cn
            have FD : Hid (∀ V, Below W1.heap.size W1 V → Calls Try.prog 18 #[.slice (some ⟨b, off, none⟩) n c] V fun e w' => e = .returned (.int .i64 (mo : Int)) ∧ Below W1.heap.size W1 w') := Lib.hid fun V hV => by
              have h := depthX (HX.out.below (BW1.out.trans (hV.mono BW1.out.size))) (by omega) (show Xm.Is T d 65 0 v T.length from HV.out)
              rw [← hmo] at h
              exact h.mono fun _ w' ⟨h1, h2⟩ => ⟨h1, hV.trans (h2.mono hV.size)⟩
            have FIN : Hid (∀ U, Below W1.heap.size W1 U → U.cell? ⟨W.heap.size + 1, 0, none⟩ = some (.int .i64 (mo : Int)) ∧ U.cell? ⟨w.heap.size, 0, none⟩ = some (.bool false) ∧ U.frozen? ⟨w.heap.size, 0, none⟩ = false ∧
                (U.setCell ⟨w.heap.size, 0, none⟩ (.bool true)).heap[w.heap.size]? = some (.cells #[.bool true] 4 (0, 0)) ∧ (U.setCell ⟨w.heap.size, 0, none⟩ (.bool true)).heap[W7.heap.size]? = some (.deferred (some [])) ∧
                (U.setCell ⟨w.heap.size, 0, none⟩ (.bool true)).heap[WP.heap.size]? = some (.deferred (some [])) ∧ Below w.heap.size w (U.setCell ⟨w.heap.size, 0, none⟩ (.bool true))) := Lib.hid fun U hU => by
              have rru := (hU.block _ (by omega)).trans RR1'.out
              refine ⟨(hU.cell (p := ⟨W.heap.size + 1, 0, none⟩) (cell_block_lt HCN.out)).trans HCN.out, by rw [cell_of_row _ _ _ _ _ _ rru]; rfl, frozen_of_row U w.heap.size 0 _ _ rru, one_set (u := .bool true) rru, ?_, ?_, (BW1.out.trans (hU.mono BW1.out.size)).setCell (p := ⟨w.heap.size, 0, none⟩) (Nat.le_refl _) (.bool true)⟩
              · exact (Below.heap_setCell _ _ _ _ (show W7.heap.size ≠ w.heap.size by omega)).trans ((hU.block _ (by omega)).trans KD1.out)
              · exact (Below.heap_setCell _ _ _ _ (show WP.heap.size ≠ w.heap.size by omega)).trans ((hU.block _ (by omega)).trans KD2.out)
            have G0 := Lib.hid (Below.refl W1.heap.size W1).drew
            have GA := Lib.hid (Below.refl W1.heap.size W1)
            clear hg hKD1 rr1 hmo KD1 KD2 RR1' UP VP RRP KDP BP
            gi_wp2
            refine wpIn_mono (?_ : Code.wpIn _ _ _ _ (NoPanic _) _ _) NoPanic.imp
            gi_region_with (refine ⟨trivial, ?_⟩; refine (callsIn_wide.2 (FD.out _ (by first | exact G0.out | exact GA.out))).mono ?_; rintro _ U1 ⟨rfl, hbU⟩; obtain ⟨z1, z2, z3, z4, z5, z6, z7⟩ := FIN.out U1 hbU; have Z4 := Lib.hid z4; have Z5 := Lib.hid z5; have Z6 := Lib.hid z6; have Z7 := Lib.hid z7; clear z4 z5 z6 z7 hbU)
            all_goals
              refine NoPanic.normal ?_
              clear z1 z2 z3 cn cr1 fr1
              go_simp
              gi_wp2
              refine ⟨by simp, .inl ⟨_, _, rfl, run_takeDeferred Z6.out, ?_⟩⟩
              refine ⟨by simp, .inl ⟨_, _, rfl, run_takeDeferred ((World.putObj_heap_other (by omega)).trans Z5.out), ?_⟩⟩
              refine ⟨_, result_bool rfl _ _ w.heap.size true rfl ?_, rfl, (Z7.out.trans (below_put (by omega) _)).trans (below_put (by omega) _)⟩
              rw [cell_of_row _ _ _ _ _ _ ((World.putObj_heap_other (by omega)).trans ((World.putObj_heap_other (by omega)).trans Z4.out))]; rfl
theorem own : ownKnob Try.prog.godebug = none := by kernel_rfl
theorem laidOut : laidOutB Try.prog = true := by kernel_rfl
set_option maxRecDepth 100000 in
theorem lifted (os : Os) (started : os.Started) (H : Type) (enc : TypeId × Value → H) :
    ReturnsInHanded {} Try.checked os 7 .any (Rows.shapeLeavesSpec.pre6 enc Try.prog Try.f7 Rows.shapeLeavesRow.domain false) (Rows.shapeLeavesSpec.post enc Try.prog Try.f7 false true false false) := by
  refine returnsInHanded_of_change_sized (C := Try.checked) own started (by kernel_rfl) Try.func7
    (ChangeSpec.witness6 (enc := enc) (C := Try.checked) false ⟨#[], #[.slice none 0 0, .int .i64 0, .int .i64 0], []⟩ 8 (by kernel_rfl) (by kernel_rfl) (by kernel_rfl) (by kernel_rfl)) ?_
  intro W base args ds gs before hval0 hW hcnd hsz0 _
  have hwt : ∀ (j : Nat) (t : TypeId) (d : DataW H), (Try.f7.params.toList ++ Rows.shapeLeavesSpec.plain.varTypes Try.prog)[j]? = some t → (ds ++ gs)[j]? = some d → ∀ k ∈ d.weights Try.prog t, k ≤ reachBytes := fun j t d ht hd k hk => by
    have := List.all_eq_true.1 hsz0 k (DataW.weights_mem_each ht hd k hk)
    simpa using this
  have hval : ∀ (j : Nat) t v, Try.f7.params[j]? = some t → args[j]? = some v → Value.okWide Try.prog W .any base t v := hval0
  have hW' := hW
  obtain ⟨p, q, hA0, hV, rfl, hfz, hnd⟩ := hW
  have hA : DataW.TrodAll enc Try.prog W 0 (fun _ => true) true Try.f7.params.toList args.toList ds p := hA0
  rw [Try.params7] at hA hval
  obtain ⟨v0, vs0, d0, ds0, p0, q0, hargs, rfl, rfl, h0, r0⟩ := trodAll_cons hA
  obtain ⟨v1, vs1, d1, ds1, p1, q1, rfl, rfl, rfl, h1, r1⟩ := trodAll_cons r0
  obtain ⟨v2, vs2, d2, ds2, p2, q2, rfl, rfl, rfl, h2, r2⟩ := trodAll_cons r1
  obtain ⟨rfl, rfl, rfl⟩ := trodAll_nil r2
  obtain rfl : args = #[v0, v1, v2] := by cases args; simp_all
  obtain ⟨rfl, rfl⟩ := trodVars_none hV
  obtain ⟨a0, len0, cap0, rfl⟩ := okWide_slice Try.underlying22 (hval 0 22 v0 rfl rfl)
  have k0 := h0
  have lt0 : ∀ x ∈ p0, x.block < W.heap.size := by obtain ⟨m, hm⟩ := k0; exact DataW.trod_lt m _ _ _ hm
  obtain ⟨z0, w0⟩ : ∃ T, Xds W a0 len0 cap0 T ∧ Xdc W a0 T ∧ len0 ≤ 2000000000000 := by
    obtain ⟨fuel, hf⟩ := h0
    exact nodes_open (by simpa [Value.cells] using hf) (fun k hk => hwt 0 22 _ (by kernel_rfl) rfl k hk)
  obtain ⟨a1, rfl, rfl, rfl, w1⟩ := open_int Try.underlying3 (hval 1 3 v1 rfl rfl) h1
  obtain ⟨a2, rfl, rfl, rfl, w2⟩ := open_int Try.underlying3 (hval 2 3 v2 rfl rfl) h2
  clear hA0 hval0
  refine (walk a0 len0 cap0 z0 a1 a2 W w0 w1 w2).mono fun e W' ⟨he, bel⟩ => ?_
  subst he
  exact ⟨_, rfl, _, _, _, [], _, [], hW', trodAll_mk1 (shut_bool Try.underlying4 _), (trodAll_cons_mk (Below.trod laidOut (by kernel_rfl) (of_decide_eq_true (by kernel_rfl)) k0 bel lt0) (trodAll_cons_mk (shut_int Try.underlying3 w1) (trodAll_cons_mk (shut_int Try.underlying3 w2) trodAll_mk0))), rfl, bel.frame _, fun h => by cases h⟩
theorem over : Rows.shapeLeavesRow.holds Try.pinned (OpenSpec.ofChange Rows.shapeLeavesSpec) :=
  OpenClaim.holds_of_wide 7 Try.f7 rfl rfl rfl rfl rfl rfl rfl ⟨rfl, rfl, rfl, rfl, rfl⟩ rfl rfl rfl rfl rfl (by kernel_rfl) Try.func7 (by kernel_rfl)
    (of_decide_eq_true (by kernel_rfl)) (by unfold Func.isWrapper; first | (rw [if_pos (by decide +kernel)]; kernel_rfl) | (rw [if_neg (by decide +kernel)]; exact ⟨rfl, rfl⟩))
    (fun os started H enc _ => lifted os started H enc)
/-- the statement -/
theorem proved : Rows.ShapeLeavesSaid := over
#print axioms proved
end Go.Proofs.Ytecdgpacofojeaa.shapeLeaves
