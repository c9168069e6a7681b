/-
  ShapeWalks holds for every input: of any tree each place is told, and its depth; its leaves, the greatest depth, and how many of both; broken off they are the first ones. No condition.
-/
import Derived.Test.YtecdgpacofojeaaXAwk
import Derived.Test.YtecdgpacofojeaaXBrk
import Derived.Test.YtecdgpacofojeaaNRef
import Derived.ProofKit
import Derived.Lib.SmallJoins
import Derived.OpenShut
import Derived.ChangeOld
import Derived.WalkSmall
import Derived.SizedLaws
import Derived.Stop.RegionWithIn
import Derived.Sort.QuietIn
namespace Go.Proofs.Ytecdgpacofojeaa.shapeWalks
open Go.ChangeShapes Go.WideShapes Go.ChangeAt Go.RowKit Go.Joins Go.Shelf
set_option linter.unusedVariables false
attribute [local go_sem] Oper.semAt_some

set_option maxHeartbeats 3200000 in
set_option maxRecDepth 100000 in
theorem walk (A : Option Addr) (n c : Nat) (T : List Xm.Nd) (k d stop : Int) (w : World) (h : Xds w A n c T ∧ Xdc w A T ∧ n ≤ 2000000000000) (_hk : (Lit.int .i64 k).wf = true) (_hd : (Lit.int .i64 d).wf = true) (_hs : (Lit.int .i64 stop).wf = true) :
    Calls Try.prog 4 #[.slice A n c, .int .i64 k, .int .i64 d, .int .i64 stop] w fun e w' => e = .returned (.bool true) ∧ Below w.heap.size w w' := by
  obtain ⟨hx, -, hn⟩ := h
  have HX := Lib.hid hx
  obtain ⟨W0, hW0⟩ : ∃ W0, W0 = (w.alloc (.cells #[.int .i64 stop] 3)).alloc (.cells #[.bool false] 4) := ⟨_, rfl⟩
  have b0 : Below w.heap.size w W0 := by rw [hW0]; exact ((Below.refl _ w).alloc (Nat.le_refl _) _).alloc (by simp) _
  have rs : W0.heap[w.heap.size]? = some (.cells #[.int .i64 stop] 3 (0, 0)) := by rw [hW0, Below.heap_alloc _ _ _ (by simp)]; exact heap_alloc_new w _
  have rr : W0.heap[w.heap.size + 1]? = some (.cells #[.bool false] 4 (0, 0)) := by
    rw [hW0]
    have := heap_alloc_new (w.alloc (.cells #[.int .i64 stop] 3)) (.cells #[.bool false] 4)
    rwa [show (w.alloc (.cells #[.int .i64 stop] 3)).heap.size = w.heap.size + 1 from by simp] at this
  have sz0 : W0.heap.size = w.heap.size + 1 + 1 := by rw [hW0]; simp
  have HW0 := Lib.hid hW0
  have B0 := Lib.hid b0
  have RS := Lib.hid rs
  have RR := Lib.hid rr
  clear hW0 b0 rs rr hx _hk _hd _hs
  refine (callsIn_wide (n := 6)).1 ?_
  refine callsIn_of_wp_marks Try.func4 rfl trivial ?_ rfl
  simp only [Try.ntmps4, List.size_toArray, List.length_cons, List.length_nil, Nat.reduceAdd, Nat.reduceSub, Array.replicate_succ, Array.replicate_zero, List.push_toArray, List.append_toArray, List.nil_append, List.cons_append]
  gi_wp2_with fail
  rw [← HW0.out]
  refine ⟨trivial, ?_⟩
  refine (callsIn_wide.2 (awakeX _)).mono ?_
  rintro _ W1 ⟨rfl, b1⟩
  have B1 := Lib.hid (B0.out.trans (b1.mono B0.out.size))
  have RS1 := Lib.hid ((b1.block _ (by omega)).trans RS.out)
  have RR1 := Lib.hid ((b1.block _ (by omega)).trans RR.out)
  have sz1 := b1.size
  have FF := Lib.hid (refFewX (HX.out.below B1.out) hn)
  clear b1 RS RR HW0
  gi_wp2_with fail
  refine ⟨trivial, ?_⟩
  refine (callsIn_wide.2 FF.out).mono ?_
  rintro _ W2 (⟨rfl, hb2⟩ | ⟨rfl, hn4, ht, hb2⟩)
  all_goals
    have B2 := Lib.hid (B1.out.trans (hb2.mono B1.out.size))
    have RS2 := Lib.hid ((hb2.block _ (by omega)).trans RS1.out)
    have rr2 := (hb2.block _ (by omega)).trans RR1.out
    have c2 : W2.cell? ⟨w.heap.size + 1, 0, none⟩ = some (.bool false) := by rw [cell_of_row _ _ _ _ _ _ rr2]; rfl
    have f2 := frozen_of_row W2 (w.heap.size + 1) 0 _ _ rr2
    have RR2 := Lib.hid rr2
    have sz2 := hb2.size
    clear hb2 rr2 RS1 RR1 FF
  · have HR3 := Lib.hid (one_set (u := .bool true) RR2.out)
    gi_wp2
    refine ⟨trivial, ?_⟩
    gi_wp2
    refine ⟨_, result_bool rfl _ _ (w.heap.size + 1) true rfl ?_, rfl, B2.out.setCell (p := ⟨w.heap.size + 1, 0, none⟩) (by show w.heap.size ≤ w.heap.size + 1; omega) _⟩
    rw [cell_of_row _ _ _ _ _ _ HR3.out]; rfl
  by_cases g1 : 5000 < k
  · have HR3 := Lib.hid (one_set (u := .bool true) RR2.out)
    gi_wp2
    refine ⟨trivial, ?_⟩
    gi_wp2
    refine ⟨_, result_bool rfl _ _ (w.heap.size + 1) true rfl ?_, rfl, B2.out.setCell (p := ⟨w.heap.size + 1, 0, none⟩) (by show w.heap.size ≤ w.heap.size + 1; omega) _⟩
    rw [cell_of_row _ _ _ _ _ _ HR3.out]; rfl
  have FK0 := refChkX (HX.out.below B2.out) hn4 ht k d
  obtain ⟨ck, hck⟩ : ∃ ck, ck = Xm.chk T k d := ⟨_, rfl⟩
  rw [← hck] at FK0
  have FK := Lib.hid FK0
  have HCK := Lib.hid hck
  clear FK0 hck c2 f2
  by_cases g2 : ck = 0
  case neg =>
    have e2 : (ck != 0) = true := by simpa using g2
    gi_wp2_with fail
    refine ⟨trivial, ?_⟩
    refine (callsIn_wide.2 FK.out).mono ?_
    rintro _ W3 ⟨rfl, b3⟩
    have B3 := Lib.hid (B2.out.trans (b3.mono B2.out.size))
    have rr3 := (b3.block _ (by omega)).trans RR2.out
    have c3 : W3.cell? ⟨w.heap.size + 1, 0, none⟩ = some (.bool false) := by rw [cell_of_row _ _ _ _ _ _ rr3]; rfl
    have f3 := frozen_of_row W3 (w.heap.size + 1) 0 _ _ rr3
    have HR3 := Lib.hid (one_set (u := .bool true) rr3)
    clear b3 rr3
    gi_wp2
    refine ⟨_, result_bool rfl _ _ (w.heap.size + 1) true rfl ?_, rfl, B3.out.setCell (p := ⟨w.heap.size + 1, 0, none⟩) (by show w.heap.size ≤ w.heap.size + 1; omega) _⟩
    rw [cell_of_row _ _ _ _ _ _ HR3.out]; rfl
  obtain ⟨-, -, -, -, ⟨v, hv⟩, -⟩ := Xm.chk_zero (show Xm.chk T k d = 0 from by rw [← HCK.out]; exact g2)
  have HV := Lib.hid hv
  have hvl : v.length = n := by have := hv.len; rw [HX.out.len] at this; omega
  have HVL := Lib.hid hvl
  have htree := Xm.is_tree hv
  rw [HX.out.len] at htree
  have HTR := Lib.hid htree
  subst g2
  clear hv hvl htree
  gi_wp2_with fail
  refine ⟨trivial, ?_⟩
  refine (callsIn_wide.2 FK.out).mono ?_
  rintro _ W3 ⟨rfl, b3⟩
  have B3 := Lib.hid (B2.out.trans (b3.mono B2.out.size))
  have RS3 := Lib.hid ((b3.block _ (by omega)).trans RS2.out)
  have RR3 := Lib.hid ((b3.block _ (by omega)).trans RR2.out)
  have sz3 := b3.size
  have FT0 := refTreeX (Lib.hid (HX.out.below B3.out)) hn4 d 65 0 W3 (Nat.le_refl _) (Nat.zero_le _) (Below.refl _ _)
  rw [HTR.out] at FT0
  have FT : Hid (Calls Try.prog 12 #[.slice A n c, .int .i64 d, .int .i64 0, .int .i64 0] W3 fun e w' => TrP W3 w' n 0 (some (v, n)) e) := Lib.hid FT0
  clear b3 FK FT0 RS2 RR2 B2
  gi_wp2_with fail
  refine ⟨trivial, ?_⟩
  refine (callsIn_wide.2 FT.out).mono ?_
  rintro _ W4 ⟨V, vn, vc, en, ok, l, rfl, hp4, -, -, rfl, hsm, b4⟩
  obtain ⟨rfl, rfl⟩ := hsm v n rfl
  have hvn : vn = n := by rw [← hp4.len, Xm.visits_length]; exact HVL.out
  subst hvn
  obtain ⟨W5, hW5⟩ : ∃ W5, W5 = W4.alloc (.cells #[.slice V vn vc] 29) := ⟨_, rfl⟩
  have b5 : Below W4.heap.size W4 W5 := by rw [hW5]; exact (Below.refl _ W4).alloc (Nat.le_refl _) _
  have u5 : W5.heap[W4.heap.size]? = some (.cells #[.slice V vn vc] 29 (0, 0)) := by rw [hW5]; exact heap_alloc_new W4 _
  have s5 : W5.heap.size = W4.heap.size + 1 := by rw [hW5]; simp
  obtain ⟨W6, hW6⟩ : ∃ W6, W6 = W5.alloc (.cells #[.int .i64 0] 3) := ⟨_, rfl⟩
  have b6 : Below W5.heap.size W5 W6 := by rw [hW6]; exact (Below.refl _ W5).alloc (Nat.le_refl _) _
  have v6 : W6.heap[W4.heap.size + 1]? = some (.cells #[.int .i64 0] 3 (0, 0)) := by rw [hW6, ← s5]; exact heap_alloc_new W5 _
  have s6 : W6.heap.size = W4.heap.size + 2 := by rw [hW6]; simp [s5]
  have s4 := b4.size
  have HP6 := Lib.hid ((hp4.below b5).below b6)
  have HU6 := Lib.hid ((b6.block _ (by omega)).trans u5)
  have HV6 := Lib.hid v6
  have b36 : Below W3.heap.size W3 W6 := b4.trans ((b5.mono (by omega)).trans (b6.mono (by omega)))
  have B6 := Lib.hid (B3.out.trans (b36.mono B3.out.size))
  have RS6 := Lib.hid ((b36.block _ (by omega)).trans RS3.out)
  have RR6 := Lib.hid ((b36.block _ (by omega)).trans RR3.out)
  have HW5 := Lib.hid hW5
  have HW6 := Lib.hid hW6
  have HBP := Lib.hid (show ∀ b off s, V = some ⟨b, off, s⟩ → b < W4.heap.size from fun b off s e => by
    rcases Nat.eq_zero_or_pos vn with h | h
    · exact absurd h (by have := HV.out.len; rw [HVL.out] at this; omega)
    · obtain ⟨b', off', e', hb', -⟩ := hp4.ex h
      rw [e'] at e; injection e with e; injection e with e; omega)
  clear hW5 hW6 b5 b6 u5 v6 b4 hp4 hsm FT RS3 RR3 B3 b36
  gi_wp2_with fail
  rw [← HW5.out, ← HW6.out]
  refine ⟨trivial, ?_⟩
  have FW := Lib.hid (walkX HX.out B6.out (by omega) (by rw [HX.out.len] at *; exact HV.out))
  refine (callsIn_wide.2 FW.out).mono ?_
  rintro _ W7 ⟨gf, lb, rfl, eg, ht7, b7⟩
  have HTV := Lib.hid ht7
  have s7 := b7.size
  have HP7 := Lib.hid (HP6.out.below b7)
  have HU7 := Lib.hid ((b7.block _ (by omega)).trans HU6.out)
  have HV7 := Lib.hid ((b7.block _ (by omega)).trans HV6.out)
  have RS7 := Lib.hid ((b7.block _ (by omega)).trans RS6.out)
  have RR7 := Lib.hid ((b7.block _ (by omega)).trans RR6.out)
  have B7 := Lib.hid (B6.out.trans (b7.mono B6.out.size))
  clear ht7 b7 FW HP6 HU6 HV6 RS6 RR6 HW5 HW6
  have hnb : W4.heap.size + 1 < W7.heap.size := by omega
  have hw4 : w.heap.size + 1 < W4.heap.size := by omega
  gi_wp2
  refine range_tells (n := 6) rfl (by omega) (gf := gf) (lb := lb) rfl trivial eg
    (fun k W => Cnt W7 (W4.heap.size + 1) (k : Int) W)
    (fun k vs W => ∃ y, v[k]? = some y ∧ vs = #[.int .i64 (k : Int), .int .i64 (y : Int)] ∧ Cnt W7 (W4.heap.size + 1) (k : Int) W)
    (fun W => Cnt W7 (W4.heap.size + 1) (vn : Int) W)
    (fun c W => c = .exit 0 ∧ ∃ k : Nat, (k : Int) = stop ∧ k ≤ vn ∧ Cnt W7 (W4.heap.size + 1) (k : Int) W)
    (fun vs t => (((t.setIfInBounds 47 (vs.getD 0 undef)).setIfInBounds 48 (vs.getD 1 undef)).setIfInBounds 14 (vs.getD 0 undef)).setIfInBounds 15 (vs.getD 1 undef))
    (fun k W W' h ho => h.off hnb ho) (fun k vs W W' h ho => by obtain ⟨y, h1, h2, h3⟩ := h; exact ⟨y, h1, h2, h3.off hnb ho⟩) (fun W W' h ho => h.off hnb ho)
    (fun c W W' h ho => by obtain ⟨h1, k, h2, h3, h4⟩ := h; exact ⟨h1, k, h2, h3, h4.off hnb ho⟩) (fun k vs W h => by obtain ⟨y, h1, h2, h3⟩ := h; rw [h2]; rfl)
    (fun W hb hs => Cnt.new HV7.out hnb hb hs) ?iter ?assign ?body ?done ?stop
  case iter =>
    intro y Kk Y hK hY W hI hKW
    refine (HTV.out 4 y (W7.heap.size + 2) (fun k W => Cnt W7 (W4.heap.size + 1) (k : Int) W) Kk Y W (fun k V h => ⟨h.keeps (by omega) (by omega), h.sz⟩) (fun k V V' h hb => h.low hnb hb hb.size) (fun V V' h hb => hK V V' h (kf_low hb)) ?_ hI hKW).mono ?_
    · intro k a b V' S hS hl hI hSV hKV
      obtain ⟨y', h1, rfl, rfl⟩ := Xm.visits_at hl
      rw [Nat.zero_add]
      exact hY k _ V' S hS ⟨y', h1, rfl, hI⟩ hSV hKV
    · rintro e W' ⟨hv, h | h⟩
      · refine ⟨hv, .inl ⟨?_, h.2⟩⟩
        have := h.1
        rwa [Xm.visits_length, HVL.out] at this
      · exact ⟨hv, .inr h⟩
  case assign =>
    rintro y k vs W K ⟨y', -, rfl, -⟩ hK
    gi_wp2
    exact hK
  case body =>
    rintro y k vs W ⟨dy, hx, rfl, hg⟩
    have hkl : k < vn := by rw [← HVL.out]; exact (List.getElem?_eq_some_iff.1 hx).1
    have hUk : W.heap[W4.heap.size]? = some (.cells #[.slice V vn vc] 29 (0, 0)) := (hg.kp.block _ (by omega) (by omega)).trans HU7.out
    have cu : W.cell? ⟨W4.heap.size, 0, none⟩ = some (.slice V vn vc) := by rw [cell_of_row _ _ _ _ _ _ hUk]; rfl
    have cn : W.cell? ⟨W4.heap.size + 1, 0, none⟩ = some (.int .i64 (k : Int)) := by rw [cell_of_row _ _ _ _ _ _ hg.num]; rfl
    have fn := frozen_of_row W (W4.heap.size + 1) 0 _ _ hg.num
    have cs : W.cell? ⟨w.heap.size, 0, none⟩ = some (.int .i64 stop) := by rw [cell_of_row _ _ _ _ _ _ ((hg.kp.block _ (by omega) (by omega)).trans RS7.out)]; rfl
    obtain ⟨bb, off, rfl, hbb, h0, h1⟩ := HP7.out.at_ (Xm.visits_get (p := 0) hx)
    rw [Nat.zero_add] at h0
    have hbw := HBP.out bb off none rfl
    have ce0 : W.cell? ⟨bb, off + k * 2, none⟩ = some (.int .i64 (k : Int)) := (World.cell?_of_block (a := ⟨bb, off + k * 2, none⟩) (hg.kp.block bb hbb (by omega))).trans h0
    have ce1 : W.cell? ⟨bb, off + k * 2 + 1, none⟩ = some (.int .i64 (dy : Int)) := (World.cell?_of_block (a := ⟨bb, off + k * 2 + 1, none⟩) (hg.kp.block bb hbb (by omega))).trans h1
    obtain ⟨hst, hkf⟩ := hg.set ((k : Int) + 1)
    have cn' : (W.setCell ⟨W4.heap.size + 1, 0, none⟩ (.int .i64 ((k : Int) + 1))).cell? ⟨W4.heap.size + 1, 0, none⟩ = some (.int .i64 ((k : Int) + 1)) := by rw [cell_of_row _ _ _ _ _ _ hst.num]; rfl
    have cs' : (W.setCell ⟨W4.heap.size + 1, 0, none⟩ (.int .i64 ((k : Int) + 1))).cell? ⟨w.heap.size, 0, none⟩ = some (.int .i64 stop) := by
      rw [cell_of_row _ _ _ _ _ _ ((Below.heap_setCell _ _ _ _ (show w.heap.size ≠ W4.heap.size + 1 by omega)).trans ((hg.kp.block _ (by omega) (by omega)).trans RS7.out))]; rfl
    have g2 : decide (vn ≤ k) = false := by simp; omega
    have gw : IntKind.i64.wrap ((k : Int) + 1) = (k : Int) + 1 := IntWalk.i64_in _ (by omega)
    have HST := Lib.hid hst
    have HKF := Lib.hid hkf
    have HL := Lib.hid (show Later (W7.heap.size + 2) W (W.setCell ⟨W4.heap.size + 1, 0, none⟩ (.int .i64 ((k : Int) + 1))) from Later.cell (by omega))
    generalize hP : leftBy W7.heap.size _ _ W = Pst
    have HP := Lib.hid hP
    clear hst hkf hg hUk hx hbb h0 h1 hP hbw
    by_cases hkb : (k : Int) + 1 = stop
    · have gb : ((k : Int) + 1 == stop) = true := by rw [beq_iff_eq]; exact hkb
      have HKB := Lib.hid hkb
      clear hkb
      gi_wp2
      rw [← HP.out]
      exact ⟨HKF.out, rfl, k + 1, by have := HKB.out; push_cast; omega, by omega, HST.out⟩
    · have gb : ((k : Int) + 1 == stop) = false := by rw [Bool.eq_false_iff, Ne, beq_iff_eq]; exact hkb
      clear hkb
      gi_wp2
      rw [← HP.out]
      exact ⟨HKF.out, HST.out, HL.out⟩
  case' done =>
    rintro D W rfl hg hK
    have HE : Hid (∃ k : Nat, Cnt W7 (W4.heap.size + 1) (k : Int) W ∧ (k = vn ∨ (k : Int) = stop) ∧ k ≤ vn) := ⟨vn, hg, .inl rfl, Nat.le_refl _⟩
    clear hg
  case' stop =>
    rintro D c W rfl ⟨rfl, k, hkb, hkn, hg⟩ hK
    have HE : Hid (∃ k : Nat, Cnt W7 (W4.heap.size + 1) (k : Int) W ∧ (k = vn ∨ (k : Int) = stop) ∧ k ≤ vn) := ⟨k, hg, .inr hkb, hkn⟩
    clear hg hkb hkn k
  all_goals
    obtain ⟨k, hg, hkc, hkn⟩ := HE.out
    have hUk : W.heap[W4.heap.size]? = some (.cells #[.slice V vn vc] 29 (0, 0)) := (hg.kp.block _ (by omega) (by omega)).trans HU7.out
    have cu : W.cell? ⟨W4.heap.size, 0, none⟩ = some (.slice V vn vc) := by rw [cell_of_row _ _ _ _ _ _ hUk]; rfl
    have cn : W.cell? ⟨W4.heap.size + 1, 0, none⟩ = some (.int .i64 (k : Int)) := by rw [cell_of_row _ _ _ _ _ _ hg.num]; rfl
    have cs : W.cell? ⟨w.heap.size, 0, none⟩ = some (.int .i64 stop) := by rw [cell_of_row _ _ _ _ _ _ ((hg.kp.block _ (by omega) (by omega)).trans RS7.out)]; rfl
    have BW := Lib.hid (show Below w.heap.size w W from B7.out.trans (hg.kp.old B7.out.size fun j hj => by omega))
    have RRW := Lib.hid ((hg.kp.block _ (by omega) (by omega)).trans RR7.out)
    have HKD := Lib.hid hK
    have szW := hg.sz
    have HPW : Hid (∀ (j y : Nat), v[j]? = some y → ∃ bb off, V = some ⟨bb, off, none⟩ ∧ W.cell? ⟨bb, off + j * 2 + 1, none⟩ = some (.int .i64 (y : Int))) := Lib.hid fun j y hy => by
      obtain ⟨bb, off, rfl, hbb, -, h1⟩ := HP7.out.at_ (Xm.visits_get (p := 0) hy)
      have hbw := HBP.out bb off none rfl
      exact ⟨bb, off, rfl, (World.cell?_of_block (a := ⟨bb, off + j * 2 + 1, none⟩) (hg.kp.block bb hbb (by omega))).trans h1⟩
    clear hg hUk hK HE HP7 HU7 HV7 RS7 RR7 HTV HBP B7
    by_cases e : k = vn
    case' pos =>
      have gA : ((k : Int) != (vn : Int)) = false := by rw [bne_eq_false_iff_eq]; omega
      clear e hkc
      gi_wp2
      clear gA
    case' neg =>
      have gA : ((k : Int) != (vn : Int)) = true := by rw [bne_iff_ne]; omega
      have gB : ((k : Int) != stop) = false := by rw [bne_eq_false_iff_eq]; omega
      clear e hkc
      gi_wp2
      clear gA gB
  all_goals
    gi_loopw [13, 16] (fun m p wr => ∃ j : Nat, p = .int .i64 (j : Int) ∧ j ≤ vn ∧ m = .int .i64 (Xm.most (v.take j) : Int) ∧ wr = W) (fun _ p _ => vn - (Go.RowKit.intOf p).toNat)
    case atStart => exact ⟨0, rfl, Nat.zero_le _, rfl, rfl⟩
    case round =>
      obtain ⟨j, rfl, hj, rfl, rfl⟩ := hrel
      by_cases hlt : j < vn
      · obtain ⟨y, hy⟩ : ∃ y, v[j]? = some y := ⟨_, List.getElem?_eq_getElem (by rw [HVL.out]; exact hlt)⟩
        obtain ⟨bb, off, rfl, c1⟩ := HPW.out j y hy
        have hmx : Xm.most (v.take (j + 1)) = max (Xm.most (v.take j)) y := by rw [List.take_add_one, hy]; exact Xm.most_snoc _ _
        obtain ⟨m0, hm0⟩ : ∃ m0, m0 = Xm.most (v.take j) := ⟨_, rfl⟩
        obtain ⟨m1, hm1⟩ : ∃ m1, m1 = Xm.most (v.take (j + 1)) := ⟨_, rfl⟩
        rw [← hm0, ← hm1] at hmx
        rw [← hm0]
        have q1 : max (m0 : Int) (y : Int) = (m1 : Int) := by omega
        have HM1 := Lib.hid hm1
        clear hm0 hm1 hmx hy
        gi_wp2
        refine ⟨⟨j + 1, congrArg (Value.int .i64) (by omega), by omega, congrArg (Value.int .i64) ?_, trivial⟩, by simp [Go.RowKit.intOf]; omega⟩
        rw [← HM1.out]
        split <;> omega
      · obtain rfl : j = vn := by omega
        have hmo : v.take j = v := List.take_of_length_le (by rw [HVL.out]; exact Nat.le_refl _)
        rw [hmo]
        clear hmo
        have FL := Lib.hid (refLeavesX (HX.out.below BW.out) (by omega))
        obtain ⟨lv, hlv⟩ : ∃ lv, lv = Xm.leaves T := ⟨_, rfl⟩
        have hlvn : lv ≤ 401 := by have := Xm.leaves_le T; rw [HX.out.len] at this; omega
        rw [← hlv] at FL
        have HLV := Lib.hid hlv
        clear hlv
        gi_wp2_with fail
        refine ⟨trivial, ?_⟩
        refine (callsIn_wide.2 FL.out).mono ?_
        rintro _ W8 ⟨A8, c8, rfl, hls, b8⟩
        obtain ⟨W9, hW9⟩ : ∃ W9, W9 = W8.alloc (.cells #[.slice A8 lv c8] 37) := ⟨_, rfl⟩
        have b9 : Below W8.heap.size W8 W9 := by rw [hW9]; exact (Below.refl _ W8).alloc (Nat.le_refl _) _
        have u9 : W9.heap[W8.heap.size]? = some (.cells #[.slice A8 lv c8] 37 (0, 0)) := by rw [hW9]; exact heap_alloc_new W8 _
        have s9 : W9.heap.size = W8.heap.size + 1 := by rw [hW9]; simp
        obtain ⟨WA, hWA⟩ : ∃ WA, WA = W9.alloc (.cells #[.int .i64 0] 3) := ⟨_, rfl⟩
        have bA : Below W9.heap.size W9 WA := by rw [hWA]; exact (Below.refl _ W9).alloc (Nat.le_refl _) _
        have vA : WA.heap[W8.heap.size + 1]? = some (.cells #[.int .i64 0] 3 (0, 0)) := by rw [hWA, ← s9]; exact heap_alloc_new W9 _
        have sA : WA.heap.size = W8.heap.size + 2 := by rw [hWA]; simp [s9]
        have s8 := b8.size
        have bWA : Below wr.heap.size wr WA := b8.trans ((b9.mono (by omega)).trans (bA.mono (by omega)))
        have HLS := Lib.hid hls
        have HU := Lib.hid ((bA.block _ (by omega)).trans u9)
        have HVA := Lib.hid vA
        have b8A : Hid (Below W8.heap.size W8 WA) := Lib.hid (b9.trans (bA.mono (by omega)))
        have BA := Lib.hid (BW.out.trans (bWA.mono BW.out.size))
        have RRA := Lib.hid ((bWA.block _ (by omega)).trans RRW.out)
        have KDA := Lib.hid ((bWA.block _ (by omega)).trans HKD.out)
        have HW9 := Lib.hid hW9
        have HWA := Lib.hid hWA
        clear hW9 hWA b8 b9 bA u9 vA bWA hls FL BW RRW HKD HPW cu cn cs
        gi_wp2_with fail
        rw [← HW9.out, ← HWA.out]
        refine ⟨trivial, ?_⟩
        have FW := Lib.hid (leavesX HX.out BA.out (by omega) (by omega))
        refine (callsIn_wide.2 FW.out).mono ?_
        rintro _ WB ⟨gf2, lb2, rfl, eg2, htB, bB⟩
        have HTL := Lib.hid htB
        have sB := bB.size
        have HUB := Lib.hid ((bB.block _ (by omega)).trans HU.out)
        have HVB := Lib.hid ((bB.block _ (by omega)).trans HVA.out)
        have RRB := Lib.hid ((bB.block _ (by omega)).trans RRA.out)
        have KDB := Lib.hid ((bB.block _ (by omega)).trans KDA.out)
        have BB := Lib.hid (BA.out.trans (bB.mono BA.out.size))
        have b8B : Hid (Below W8.heap.size W8 WB) := Lib.hid (b8A.out.trans (bB.mono (by omega)))
        clear htB bB FW HU HVA RRA KDA BA b8A HW9 HWA
        have hnb2 : W8.heap.size + 1 < WB.heap.size := by omega
        gi_wp2
        refine range_keeps (n := 6) rfl (by omega) (gf := gf2) (lb := lb2) rfl trivial eg2
          (fun k W' => Cnt WB (W8.heap.size + 1) (k : Int) W')
          (fun k vs W' => ∃ l A' n' c', (Xm.lists T)[k]? = some l ∧ vs = #[.slice A' n' c'] ∧ Sl W' A' n' c' l ∧ Inn (fun q => q < WB.heap.size ∨ WB.heap.size + 2 ≤ q) n' A' ∧ Cnt WB (W8.heap.size + 1) (k : Int) W')
          (fun W' => Cnt WB (W8.heap.size + 1) (lv : Int) W')
          (fun c W' => False)
          (fun vs t => (t.setIfInBounds 102 (vs.getD 0 undef)).setIfInBounds 19 (vs.getD 0 undef))
          (fun k W1 W2 h ho => h.off hnb2 ho) (fun k vs W1 W2 h ho => by obtain ⟨l, A', n', c', h1, h2, h3, h4, h5⟩ := h; exact ⟨l, A', n', c', h1, h2, h3.keepIn h4 (by rw [ho.size]; exact Nat.le_refl _) (fun q hq hp => ho.block q (by omega)), h4, h5.off hnb2 ho⟩) (fun W1 W2 h ho => h.off hnb2 ho)
          (fun c W1 W2 h ho => h) (fun k vs W1 h => by obtain ⟨l, A', n', c', h1, h2, -⟩ := h; rw [h2]; rfl)
          (fun W1 hb hs => Cnt.new HVB.out hnb2 hb hs) ?iterB ?assignB ?bodyB ?doneB ?stopB
        case iterB =>
          intro y Kk Y hK hY W1 hI hKW
          refine (HTL.out 4 y (WB.heap.size + 2) (fun k W' => Cnt WB (W8.heap.size + 1) (k : Int) W') Kk Y W1 (fun k V h => ⟨h.keeps (by omega) (by omega), h.sz⟩) (fun k V V' h hb => h.low hnb2 hb hb.size) (fun V V' h hb => hK V V' h (kf_low hb)) ?_ hI hKW).mono ?_
          · intro k l A' n' c' V' hl hs hp hI hKV
            exact hY k _ V' ⟨l, A', n', c', hl, rfl, hs, hp, hI⟩ hKV
          · rintro e W' ⟨hv, h | h⟩
            · refine ⟨hv, .inl ⟨?_, h.2⟩⟩
              have := h.1
              rwa [Xm.lists_length, ← HLV.out] at this
            · exact ⟨hv, .inr h⟩
        case assignB =>
          rintro y k vs W1 K ⟨l, A', n', c', -, rfl, -, -, -⟩ hK
          gi_wp2
          exact hK
        case bodyB =>
          rintro y k vs W1 ⟨l, A', n', c', hx, rfl, hs, -, hg⟩
          have hkl : k < lv := by rw [HLV.out, ← Xm.lists_length]; exact (List.getElem?_eq_some_iff.1 hx).1
          have b81 : Below W8.heap.size W8 W1 := b8B.out.trans (hg.kp.old (by omega) fun j hj => by omega)
          have hUk : W1.heap[W8.heap.size]? = some (.cells #[.slice A8 lv c8] 37 (0, 0)) := (hg.kp.block _ (by omega) (by omega)).trans HUB.out
          have cu : W1.cell? ⟨W8.heap.size, 0, none⟩ = some (.slice A8 lv c8) := by rw [cell_of_row _ _ _ _ _ _ hUk]; rfl
          have cn : W1.cell? ⟨W8.heap.size + 1, 0, none⟩ = some (.int .i64 (k : Int)) := by rw [cell_of_row _ _ _ _ _ _ hg.num]; rfl
          obtain ⟨bb, off, rfl, hbb, A2, n2, c2, c0, hs2⟩ := HLS.out.at_ k l hx
          have ce : W1.cell? ⟨bb, off + k, none⟩ = some (.slice A2 n2 c2) := (b81.cell (p := ⟨bb, off + k, none⟩) hbb).trans c0
          have hlen : l.length ≤ 5000 := Nat.le_trans (Xm.lists_in (List.mem_of_getElem? hx)) ht
          have FQ0 := refSame A' A2 n' c' n2 c2 l l W1 hs (hs2.below b81) (by rw [← hs.length]; omega)
          rw [show decide (l = l) = true from decide_eq_true rfl] at FQ0
          have FQ := Lib.hid FQ0
          have g2 : decide (lv ≤ k) = false := by simp; omega
          have gw : IntKind.i64.wrap ((k : Int) + 1) = (k : Int) + 1 := IntWalk.i64_in _ (by omega)
          have HG := Lib.hid hg
          generalize hP : leftBy WB.heap.size _ _ W1 = Pst
          have HP := Lib.hid hP
          clear hg hUk hx hbb c0 hP hs hs2 b81 FQ0
          gi_wp2_with fail
          refine ⟨trivial, ?_⟩
          refine CallsIn.inRound y ((callsIn_wide.2 FQ.out).mono ?_)
          rintro _ W2 ⟨rfl, hb2⟩
          have hg2 := HG.out.below hnb2 hb2
          obtain ⟨hst, hkf⟩ := hg2.set ((k : Int) + 1)
          have cn2 : W2.cell? ⟨W8.heap.size + 1, 0, none⟩ = some (.int .i64 (k : Int)) := by rw [cell_of_row _ _ _ _ _ _ hg2.num]; rfl
          have fn2 := frozen_of_row W2 (W8.heap.size + 1) 0 _ _ hg2.num
          have HST := Lib.hid hst
          have HKF := Lib.hid (kf_trans (kf_below (D := WB.heap.size) hb2) hkf)
          clear hg2 hst hkf hb2 cu cn ce FQ
          gi_wp2
          rw [← HP.out]
          exact ⟨HKF.out, HST.out⟩
        case doneB =>
          rintro D W1 rfl hg hKD1
          have hUk : W1.heap[W8.heap.size]? = some (.cells #[.slice A8 lv c8] 37 (0, 0)) := (hg.kp.block _ (by omega) (by omega)).trans HUB.out
          have cu : W1.cell? ⟨W8.heap.size, 0, none⟩ = some (.slice A8 lv c8) := by rw [cell_of_row _ _ _ _ _ _ hUk]; rfl
          have cn : W1.cell? ⟨W8.heap.size + 1, 0, none⟩ = some (.int .i64 (lv : Int)) := by rw [cell_of_row _ _ _ _ _ _ hg.num]; rfl
          have BW1 := Lib.hid (show Below w.heap.size w W1 from BB.out.trans (hg.kp.old BB.out.size fun j hj => by omega))
          have RR1' := Lib.hid ((hg.kp.block _ (by omega) (by omega)).trans RRB.out)
          have KD1 := Lib.hid ((hg.kp.block _ (by omega) (by omega)).trans KDB.out)
          have KD2 := Lib.hid hKD1
          have HX1 := Lib.hid (HX.out.below BW1.out)
          have FC0 := countX HX1.out (by omega)
          rw [← HLV.out] at FC0
          have FC := Lib.hid FC0
          have szg := hg.sz
          clear hg hUk hKD1 FC0
          gi_wp2_with fail
          refine ⟨trivial, ?_⟩
          refine (callsIn_wide.2 FC.out).mono ?_
          rintro _ W2 ⟨rfl, hb2⟩
          have cu2 : W2.cell? ⟨W8.heap.size, 0, none⟩ = some (.slice A8 lv c8) := (hb2.cell (p := ⟨W8.heap.size, 0, none⟩) (cell_block_lt cu)).trans cu
          have cn2 : W2.cell? ⟨W8.heap.size + 1, 0, none⟩ = some (.int .i64 (lv : Int)) := (hb2.cell (p := ⟨W8.heap.size + 1, 0, none⟩) (cell_block_lt cn)).trans cn
          have szz := hb2.size
          have BW2 := Lib.hid (BW1.out.trans (hb2.mono BW1.out.size))
          have RR2 := Lib.hid ((hb2.block _ (by omega)).trans RR1'.out)
          have KDa := Lib.hid ((hb2.block _ (by omega)).trans KD1.out)
          have KDb := Lib.hid ((hb2.block _ (by omega)).trans KD2.out)
          have FD0 := depthX (HX.out.below BW2.out) (by omega) (show Xm.Is T d 65 0 v T.length from by rw [HX.out.len] at *; exact HV.out)
          obtain ⟨mo, hmo⟩ : ∃ mo, mo = Xm.most v := ⟨_, rfl⟩
          rw [← hmo] at FD0 ⊢
          have FD := Lib.hid FD0
          clear hb2 FC FD0 hmo cu cn
          gi_wp2_with fail
          refine ⟨trivial, ?_⟩
          refine (callsIn_wide.2 FD.out).mono ?_
          rintro _ W3 ⟨rfl, hb3⟩
          have cu3 : W3.cell? ⟨W8.heap.size, 0, none⟩ = some (.slice A8 lv c8) := (hb3.cell (p := ⟨W8.heap.size, 0, none⟩) (cell_block_lt cu2)).trans cu2
          have szy := hb3.size
          have BW3 := Lib.hid (BW2.out.trans (hb3.mono BW2.out.size))
          have rr3 := (hb3.block _ (by omega)).trans RR2.out
          have cr3 : W3.cell? ⟨w.heap.size + 1, 0, none⟩ = some (.bool false) := by rw [cell_of_row _ _ _ _ _ _ rr3]; rfl
          have fr3 := frozen_of_row W3 (w.heap.size + 1) 0 _ _ rr3
          have hne : w.heap.size + 1 ≠ WB.heap.size ∧ w.heap.size + 1 ≠ W7.heap.size ∧ W7.heap.size ≠ WB.heap.size := by omega
          have RRZ := Lib.hid (one_set (u := .bool true) rr3)
          have KDy : Hid ((W3.setCell ⟨w.heap.size + 1, 0, none⟩ (.bool true)).heap[W7.heap.size]? = some (.deferred (some []))) := Lib.hid ((Below.heap_setCell _ _ _ _ (show W7.heap.size ≠ w.heap.size + 1 by omega)).trans ((hb3.block _ (by omega)).trans KDa.out))
          have KDz : Hid ((W3.setCell ⟨w.heap.size + 1, 0, none⟩ (.bool true)).heap[WB.heap.size]? = some (.deferred (some []))) := Lib.hid ((Below.heap_setCell _ _ _ _ (show WB.heap.size ≠ w.heap.size + 1 by omega)).trans ((hb3.block _ (by omega)).trans KDb.out))
          have BZ := Lib.hid (BW3.out.setCell (p := ⟨w.heap.size + 1, 0, none⟩) (by show w.heap.size ≤ w.heap.size + 1; omega) (.bool true))
          clear hb3 FD rr3 cu2 cn2
          gi_wp2
          refine ⟨by simp, .inl ⟨_, _, rfl, run_takeDeferred KDz.out, ?_⟩⟩
          refine ⟨by simp, .inl ⟨_, _, rfl, run_takeDeferred ((World.putObj_heap_other (by omega)).trans KDy.out), ?_⟩⟩
          refine ⟨_, result_bool rfl _ _ (w.heap.size + 1) true rfl ?_, rfl, (BZ.out.trans (below_put (by omega) _)).trans (below_put (by omega) _)⟩
          rw [cell_of_row _ _ _ _ _ _ ((World.putObj_heap_other (by omega)).trans ((World.putObj_heap_other (by omega)).trans RRZ.out))]; rfl
        case stopB =>
          intro D c W1 _ hx
          exact hx.elim
theorem own : ownKnob Try.prog.godebug = none := by kernel_rfl
theorem laidOut : laidOutB Try.prog = true := by kernel_rfl
set_option maxRecDepth 100000 in
theorem lifted (os : Os) (started : os.Started) (H : Type) (enc : TypeId × Value → H) :
    ReturnsInHanded {} Try.checked os 4 .any (Rows.shapeWalksSpec.pre6 enc Try.prog Try.f4 Rows.shapeWalksRow.domain false) (Rows.shapeWalksSpec.post enc Try.prog Try.f4 false true false false) := by
  refine returnsInHanded_of_change_sized (C := Try.checked) own started (by kernel_rfl) Try.func4
    (ChangeSpec.witness6 (enc := enc) (C := Try.checked) false ⟨#[], #[.slice none 0 0, .int .i64 0, .int .i64 0, .int .i64 0], []⟩ 8 (by kernel_rfl) (by kernel_rfl) (by kernel_rfl) (by kernel_rfl)) ?_
  intro W base args ds gs before hval0 hW hcnd hsz0 _
  have hwt : ∀ (j : Nat) (t : TypeId) (d : DataW H), (Try.f4.params.toList ++ Rows.shapeWalksSpec.plain.varTypes Try.prog)[j]? = some t → (ds ++ gs)[j]? = some d → ∀ k ∈ d.weights Try.prog t, k ≤ reachBytes := fun j t d ht hd k hk => by
    have := List.all_eq_true.1 hsz0 k (DataW.weights_mem_each ht hd k hk)
    simpa using this
  have hval : ∀ (j : Nat) t v, Try.f4.params[j]? = some t → args[j]? = some v → Value.okWide Try.prog W .any base t v := hval0
  have hW' := hW
  obtain ⟨p, q, hA0, hV, rfl, hfz, hnd⟩ := hW
  have hA : DataW.TrodAll enc Try.prog W 0 (fun _ => true) true Try.f4.params.toList args.toList ds p := hA0
  rw [Try.params4] at hA hval
  obtain ⟨v0, vs0, d0, ds0, p0, q0, hargs, rfl, rfl, h0, r0⟩ := trodAll_cons hA
  obtain ⟨v1, vs1, d1, ds1, p1, q1, rfl, rfl, rfl, h1, r1⟩ := trodAll_cons r0
  obtain ⟨v2, vs2, d2, ds2, p2, q2, rfl, rfl, rfl, h2, r2⟩ := trodAll_cons r1
  obtain ⟨v3, vs3, d3, ds3, p3, q3, rfl, rfl, rfl, h3, r3⟩ := trodAll_cons r2
  obtain ⟨rfl, rfl, rfl⟩ := trodAll_nil r3
  obtain rfl : args = #[v0, v1, v2, v3] := by cases args; simp_all
  obtain ⟨rfl, rfl⟩ := trodVars_none hV
  obtain ⟨a0, len0, cap0, rfl⟩ := okWide_slice Try.underlying22 (hval 0 22 v0 rfl rfl)
  have k0 := h0
  have lt0 : ∀ x ∈ p0, x.block < W.heap.size := by obtain ⟨m, hm⟩ := k0; exact DataW.trod_lt m _ _ _ hm
  obtain ⟨z0, w0⟩ : ∃ T, Xds W a0 len0 cap0 T ∧ Xdc W a0 T ∧ len0 ≤ 2000000000000 := by
    obtain ⟨fuel, hf⟩ := h0
    exact nodes_open (by simpa [Value.cells] using hf) (fun k hk => hwt 0 22 _ (by kernel_rfl) rfl k hk)
  obtain ⟨a1, rfl, rfl, rfl, w1⟩ := open_int Try.underlying3 (hval 1 3 v1 rfl rfl) h1
  obtain ⟨a2, rfl, rfl, rfl, w2⟩ := open_int Try.underlying3 (hval 2 3 v2 rfl rfl) h2
  obtain ⟨a3, rfl, rfl, rfl, w3⟩ := open_int Try.underlying3 (hval 3 3 v3 rfl rfl) h3
  clear hA0 hval0
  refine (walk a0 len0 cap0 z0 a1 a2 a3 W w0 w1 w2 w3).mono fun e W' ⟨he, bel⟩ => ?_
  subst he
  exact ⟨_, rfl, _, _, _, [], _, [], hW', trodAll_mk1 (shut_bool Try.underlying4 _), (trodAll_cons_mk (Below.trod laidOut (by kernel_rfl) (of_decide_eq_true (by kernel_rfl)) k0 bel lt0) (trodAll_cons_mk (shut_int Try.underlying3 w1) (trodAll_cons_mk (shut_int Try.underlying3 w2) (trodAll_cons_mk (shut_int Try.underlying3 w3) trodAll_mk0)))), rfl, bel.frame _, fun h => by cases h⟩
theorem over : Rows.shapeWalksRow.holds Try.pinned (OpenSpec.ofChange Rows.shapeWalksSpec) :=
  OpenClaim.holds_of_wide 4 Try.f4 rfl rfl rfl rfl rfl rfl rfl ⟨rfl, rfl, rfl, rfl, rfl⟩ rfl rfl rfl rfl rfl (by kernel_rfl) Try.func4 (by kernel_rfl)
    (of_decide_eq_true (by kernel_rfl)) (by unfold Func.isWrapper; first | (rw [if_pos (by decide +kernel)]; kernel_rfl) | (rw [if_neg (by decide +kernel)]; exact ⟨rfl, rfl⟩))
    (fun os started H enc _ => lifted os started H enc)
/-- the statement -/
theorem proved : Rows.ShapeWalksSaid := over
#print axioms proved
end Go.Proofs.Ytecdgpacofojeaa.shapeWalks
