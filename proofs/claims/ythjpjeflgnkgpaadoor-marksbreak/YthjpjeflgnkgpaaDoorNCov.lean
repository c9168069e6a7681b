/-
  Layer 9 (marks): Covers, by contract.
-/
import Derived.Test.YthjpjeflgnkgpaaDoorNVal
namespace Go.Proofs.YthjpjeflgnkgpaaDoor
open Go.RowKit Go.Shelf
attribute [local go_sem] Oper.semAt_some

/-- a set (s, b) that has met LL, its variable v and the answer's block r; all made since w, ahead of the loop's two blocks D, D + 1 -/
structure StC (w : World) (s b m r v : Nat) (LL : List Int) (W : World) : Prop where
  set : Mk W s b m LL
  var : W.heap[v]? = some (.cells #[.pointer (some ⟨s, 0, none⟩)] 24 (0, 0))
  res : W.heap[r]? = some (.cells #[.bool false] 4 (0, 0))
  be : Below w.heap.size w W
section
variable {w W W' : World} {s b m r v D : Nat} {LL : List Int}
theorem StC.keep (h : StC w s b m r v LL W) (hs : W'.heap[s]? = W.heap[s]?) (hb : W'.heap[b]? = W.heap[b]?) (hv : W'.heap[v]? = W.heap[v]?) (hr : W'.heap[r]? = W.heap[r]?) (hB : Below w.heap.size w W') : StC w s b m r v LL W' :=
  ⟨h.set.keep hs hb, hv.trans h.var, hr.trans h.res, hB⟩
theorem StC.off (h : StC w s b m r v LL W) (hd : s < D ∧ b < D ∧ v < D ∧ r < D) (hw : w.heap.size ≤ D) (ho : Off (D + 1) W W') : StC w s b m r v LL W' :=
  h.keep (ho.block _ (by omega)) (ho.block _ (by omega)) (ho.block _ (by omega)) (ho.block _ (by omega)) (h.be.trans ⟨ho.os, ho.tape, ho.output, by rw [ho.size]; exact Nat.le_refl _, fun j hj => ho.block j (by omega)⟩)
theorem StC.below (h : StC w s b m r v LL W) (hb : Below W.heap.size W W') : StC w s b m r v LL W' :=
  h.keep (hb.block _ h.set.lts) (hb.block _ h.set.ltb) (hb.block _ (lt_of_block h.var)) (hb.block _ (lt_of_block h.res)) (h.be.trans (hb.mono h.be.size))
/-- an id is met -/
theorem StC.add (h : StC w s b m r v LL W) (hn : v ≠ s ∧ v ≠ b ∧ r ≠ s ∧ r ≠ b) (hd : s < D ∧ b < D) (hw : w.heap.size ≤ s ∧ w.heap.size ≤ b) (x : Int) :
    Calls Tryd.prog 10 #[.pointer (some ⟨s, 0, none⟩), .int .i64 x] W fun e W' => e = .returned (.bool (decide (0 ≤ x ∧ x < (m : Int) ∧ x ∉ LL))) ∧ StC w s b m r v (Nm.add m LL x) W' ∧ KeepsFrom D W W' := by
  refine (addS s b m LL x W h.set).mono ?_
  rintro e W' ⟨he, h1, h2⟩
  refine ⟨he, ⟨h1, (h2.block v (lt_of_block h.var) (by omega)).trans h.var, (h2.block r (lt_of_block h.res) (by omega)).trans h.res, h.be.trans (h2.old h.be.size fun j hj => by omega)⟩, kf_kept h2 fun k hk => by omega⟩
end
/-- the answer is false, and rightly -/
def StX (w : World) (r : Nat) (n : Int) (L : List (List Int)) (W : World) : Prop := W.heap[r]? = some (.cells #[.bool false] 4 (0, 0)) ∧ Nm.cov n L.flatten = false ∧ Below w.heap.size w W

theorem flat_cut {L : List (List Int)} {k : Nat} {l : List Int} (h : L[k]? = some l) (i : Nat) (x : Int) (hx : l[i]? = some x) : L.flatten = ((L.take k).flatten ++ l.take i) ++ x :: (l.drop (i + 1) ++ (L.drop (k + 1)).flatten) := by
  have hk := List.getElem?_eq_some_iff.1 h
  have hi := List.getElem?_eq_some_iff.1 hx
  have e1 : L = L.take k ++ l :: L.drop (k + 1) := by rw [← hk.2, ← List.drop_eq_getElem_cons, List.take_append_drop]
  have e2 : l = l.take i ++ x :: l.drop (i + 1) := by rw [← hi.2, ← List.drop_eq_getElem_cons, List.take_append_drop]
  conv => lhs; rw [e1, List.flatten_append, List.flatten_cons, e2]
  simp
theorem flat_take {L : List (List Int)} {k : Nat} {l : List Int} (h : L[k]? = some l) : (L.take (k + 1)).flatten = (L.take k).flatten ++ l := by rw [List.take_add_one, h, List.flatten_append]; simp

set_option maxHeartbeats 1600000 in
set_option maxRecDepth 100000 in
theorem coversL (n : Int) (q : Nat) (A : Option Addr) (nn c : Nat) (L : List (List Int)) (w : World) (hn : n ≤ 1000000000) (hq : w.heap[q]? = some (.cells #[.slice A nn c] 48 (0, 0))) (hL : Ls w A nn c L) (hnn : nn ≤ 1000000) (hin : ∀ l ∈ L, l.length ≤ 1000000) :
    Calls Tryd.prog 20 #[.int .i64 n, .func (.func 36) #[] #[.pointer (some ⟨q, 0, none⟩)]] w fun e w' => e = .returned (.bool (Nm.cov n L.flatten)) ∧ Below w.heap.size w w' := by
  have HQ := Lib.hid hq
  have HL := Lib.hid hL
  have HIN := Lib.hid hin
  obtain ⟨m, hm⟩ : ∃ m : Nat, n.toNat = m := ⟨_, rfl⟩
  have HMM := Lib.hid hm
  clear hq hL hin hm
  refine (callsIn_wide (n := 6)).1 ?_
  refine callsIn_of_wp_marks Tryd.func20 rfl trivial ?_ rfl
  simp only [Tryd.ntmps20, List.size_toArray, List.length_cons, List.length_nil, Nat.reduceAdd, Nat.reduceSub, Array.replicate_succ, Array.replicate_zero, List.push_toArray, List.append_toArray, List.nil_append, List.cons_append]
  obtain ⟨W0, hW0⟩ : ∃ W0, W0 = w.alloc (.cells #[.bool false] 4) := ⟨_, rfl⟩
  have HW0 := Lib.hid hW0
  have b0 : Below w.heap.size w W0 := by rw [hW0]; exact (Below.refl _ w).alloc (Nat.le_refl _) _
  have r0 : W0.heap[w.heap.size]? = some (.cells #[.bool false] 4 (0, 0)) := by rw [hW0]; exact heap_new w _ _
  have B0 := Lib.hid b0
  have R0 := Lib.hid r0
  clear hW0 b0 r0
  gi_wp2_with fail
  rw [← HW0.out]
  refine ⟨trivial, ?_⟩
  refine (callsIn_wide.2 (newS n hn _)).mono ?_
  rintro _ W1 ⟨s, b, rfl, h1, hs1, hb1, b1⟩
  rw [HMM.out] at h1
  have hsz0 := lt_of_block R0.out
  obtain ⟨W2, hW2⟩ : ∃ W2, W2 = W1.alloc (.cells #[.pointer (some ⟨s, 0, none⟩)] 24) := ⟨_, rfl⟩
  have b2 : Below W1.heap.size W1 W2 := by rw [hW2]; exact (Below.refl _ W1).alloc (Nat.le_refl _) _
  have hs2 : W2.heap.size = W1.heap.size + 1 := by rw [hW2]; simp
  have lts := h1.lts
  have ltb := h1.ltb
  have hsv := b1.size
  have HST := Lib.hid (show StC w s b m w.heap.size W1.heap.size [] W2 from ⟨h1.below b2, by rw [hW2]; exact heap_new W1 _ _, ((b2.block _ (by omega)).trans (b1.block _ hsz0)).trans R0.out, B0.out.trans ((b1.mono B0.out.size).trans (b2.mono (by have := B0.out.size; omega)))⟩)
  have hbw := B0.out.size
  have HW2 := Lib.hid hW2
  clear h1 b1 b2 hW2 B0 R0
  gi_wp2
  rw [← HW2.out]
  have hd : s < W2.heap.size ∧ b < W2.heap.size ∧ W1.heap.size < W2.heap.size ∧ w.heap.size < W2.heap.size := by omega
  have hne : W1.heap.size ≠ s ∧ W1.heap.size ≠ b ∧ w.heap.size ≠ s ∧ w.heap.size ≠ b := by omega
  have hww : w.heap.size ≤ W2.heap.size := by omega
  have hsb : w.heap.size ≤ s ∧ w.heap.size ≤ b := by omega
  refine range_keeps (n := 6) rfl (by omega) (gf := 36) (lb := #[.pointer (some ⟨q, 0, none⟩)]) rfl trivial (enters_of Tryd.func36 (by kernel_rfl) rfl)
    (fun k W => StC w s b m w.heap.size W1.heap.size (L.take k).flatten W)
    (fun k vs W => ∃ l A' n' c', L[k]? = some l ∧ vs = #[.slice A' n' c'] ∧ Sl w A' n' c' l ∧ StC w s b m w.heap.size W1.heap.size (L.take k).flatten W)
    (fun W => StC w s b m w.heap.size W1.heap.size L.flatten W)
    (fun c W => c = .ret ∧ StX w w.heap.size n L W)
    (fun vs t => (t.setIfInBounds 12 (vs.getD 0 undef)).setIfInBounds 6 (vs.getD 0 undef))
    (fun k W W' h ho => h.off hd hww ho)
    ?hM (fun W W' h ho => h.off hd hww ho)
    ?hX ?hps ?h0 ?iter ?assign ?body ?done ?stop
  case hM => rintro k vs W W' ⟨l, A', n', c', h1, h2, h3, h4⟩ ho; exact ⟨l, A', n', c', h1, h2, h3, h4.off hd hww ho⟩
  case hX => rintro c W W' ⟨h1, h2, h3, h4⟩ ho; exact ⟨h1, (ho.block _ (by omega)).trans h2, h3, h4.trans ⟨ho.os, ho.tape, ho.output, by rw [ho.size]; exact Nat.le_refl _, fun j hj => ho.block j (by omega)⟩⟩
  case hps => rintro k vs W ⟨l, A', n', c', -, rfl, -, -⟩; rfl
  case h0 => intro W hb hs; simpa using HST.out.below hb
  case iter =>
    intro y Kk Y hK hY W hI hKW
    refine (iterL (m := 5) (w0 := w) hnn (show w.cell? ⟨q, 0, none⟩ = some (.slice A nn c) from by rw [cell_of_row _ _ _ _ _ _ HQ.out]; rfl) (lt_of_block HQ.out) HL.out (fun k W => StC w s b m w.heap.size W1.heap.size (L.take k).flatten W) Kk Y (fun k W h => h.be) ?_ W hI hKW).mono ?_
    · intro k l A' n' c' W hl hs hI hKW
      exact hY k _ W ⟨l, A', n', c', hl, rfl, hs, hI⟩ hKW
    · rintro e W' ⟨hv, h | h⟩
      · refine ⟨hv, .inl ⟨?_, h.2⟩⟩
        have := h.1
        rwa [List.take_of_length_le (by rw [HL.out.len]; exact Nat.le_refl _)] at this
      · exact ⟨hv, .inr h⟩
  case assign =>
    rintro y k vs W K ⟨l, A', n', c', -, rfl, -, -⟩ hK
    gi_wp2
    exact hK
  case body =>
    rintro y k vs W ⟨l, A', n', c', hl, rfl, hs, hst⟩
    have HLK := Lib.hid hl
    have HS := Lib.hid hs
    have HI := Lib.hid hst
    have hn' : n' ≤ 1000000 := by rw [← hs.length]; exact HIN.out l (List.mem_of_getElem? hl)
    clear hl hs hst
    generalize hP : leftBy W2.heap.size _ _ W = Pst
    have HP := Lib.hid hP
    clear hP
    gi_wp2
    gi_loopw [15] (fun p wr => ∃ i : Nat, p = .int .i64 (i : Int) ∧ i ≤ n' ∧ StC w s b m w.heap.size W1.heap.size ((L.take k).flatten ++ l.take i) wr ∧ KeepsFrom W2.heap.size W wr) (fun p _ => n' - (intOf p).toNat)
    case atStart => exact ⟨0, rfl, Nat.zero_le _, by simpa using HI.out, KeepsFrom.refl _ _⟩
    case round => 
      obtain ⟨i, rfl, hi, hst, hkf⟩ := hrel
      have HT := Lib.hid hst
      have HK := Lib.hid hkf
      clear hst hkf HI
      by_cases hlt : i < n'
      · obtain ⟨x, hx⟩ := HS.out.get hlt
        obtain ⟨bb, off, rfl, hbb, c0⟩ := HS.out.at_ hx
        have c1 := (HT.out.be.cell (p := ⟨bb, off + i, none⟩) hbb).trans c0
        have cv : wr.cell? ⟨W1.heap.size, 0, none⟩ = some (.pointer (some ⟨s, 0, none⟩)) := by rw [cell_of_row _ _ _ _ _ _ HT.out.var]; rfl
        have HA := Lib.hid (HT.out.add hne ⟨hd.1, hd.2.1⟩ hsb x)
        have HX := Lib.hid hx
        clear c0 hbb hx
        by_cases hc : 0 ≤ x ∧ x < (m : Int) ∧ x ∉ (L.take k).flatten ++ l.take i
        · have e1 : decide (0 ≤ x ∧ x < (m : Int) ∧ x ∉ (L.take k).flatten ++ l.take i) = true := decide_eq_true hc
          have e2 : Nm.add (m : Int) ((L.take k).flatten ++ l.take i) x = (L.take k).flatten ++ l.take (i + 1) := by unfold Nm.add; rw [if_pos hc, List.take_add_one, HX.out]; simp
          have HE1 := Lib.hid e1
          have HE2 := Lib.hid e2
          clear e1 e2 hc
          gi_wp2_with fail
          refine ⟨trivial, ?_⟩
          refine CallsIn.inRound y ((callsIn_wide.2 HA.out).mono ?_)
          rintro _ W5 ⟨rfl, h5, hk5⟩
          rw [HE2.out] at h5
          rw [HE1.out]
          have H5 := Lib.hid h5
          have HK5 := Lib.hid (kf_trans HK.out hk5)
          clear h5 hk5 HA HE1 HE2
          gi_wp2
          go_roundw
          case rel => exact ⟨i + 1, congrArg (Value.int .i64) (by omega), by omega, H5.out, HK5.out⟩
          case measure => simp [intOf]; omega
        · have e1 : decide (0 ≤ x ∧ x < (m : Int) ∧ x ∉ (L.take k).flatten ++ l.take i) = false := decide_eq_false hc
          have HE1 := Lib.hid e1
          have HNO := Lib.hid (show Nm.cov n L.flatten = false from by rw [flat_cut HLK.out i x HX.out]; exact cov_stop (by rw [HMM.out]; exact hc))
          clear e1 hc
          gi_wp2_with fail
          refine ⟨trivial, ?_⟩
          refine CallsIn.inRound y ((callsIn_wide.2 HA.out).mono ?_)
          rintro _ W5 ⟨rfl, h5, hk5⟩
          rw [HE1.out]
          have cr : W5.cell? ⟨w.heap.size, 0, none⟩ = some (.bool false) := by rw [cell_of_row _ _ _ _ _ _ h5.res]; rfl
          have fr := frozen_of_row W5 w.heap.size 0 _ _ h5.res
          have HX5 := Lib.hid (show StX w w.heap.size n L (W5.setCell ⟨w.heap.size, 0, none⟩ (.bool false)) from ⟨one_set (u := .bool false) h5.res, HNO.out, h5.be.setCell (p := ⟨w.heap.size, 0, none⟩) (Nat.le_refl _) _⟩)
          have HK5 := Lib.hid (kf_trans HK.out (kf_trans hk5 (kf_cell (o := 0) (u := .bool false) h5.res)))
          clear h5 hk5 HA HE1
          gi_wp2
          rw [← HP.out]
          exact ⟨HK5.out, rfl, HX5.out⟩
      · obtain rfl : i = n' := by omega
        have e := flat_take HLK.out
        have HIK : Hid (StC w s b m w.heap.size W1.heap.size (L.take (k + 1)).flatten wr) := by
          have := HT.out
          rwa [List.take_of_length_le (show l.length ≤ i by rw [HS.out.length]; exact Nat.le_refl _), ← e] at this
        clear e
        gi_wp2
        rw [← HP.out]
        exact ⟨HK.out, HIK.out⟩
  case done =>
    rintro D W rfl hst hK
    have HT := Lib.hid hst
    have HKD := Lib.hid hK
    have cv : W.cell? ⟨W1.heap.size, 0, none⟩ = some (.pointer (some ⟨s, 0, none⟩)) := by rw [cell_of_row _ _ _ _ _ _ hst.var]; rfl
    have cn : W.cell? ⟨s, 0, none⟩ = some (.int .i64 (m : Int)) := hst.set.c0
    have cr : W.cell? ⟨w.heap.size, 0, none⟩ = some (.bool false) := by rw [cell_of_row _ _ _ _ _ _ hst.res]; rfl
    have fr := frozen_of_row W w.heap.size 0 _ _ hst.res
    obtain ⟨bv, hbv⟩ : ∃ bv, bv = Nm.cov n L.flatten := ⟨_, rfl⟩
    have hcv := cov_all (n := n) (a := L.flatten) (by rw [HMM.out]; exact hst.set.ids)
    rw [HMM.out] at hcv
    obtain ⟨N, hN⟩ : ∃ N, L.flatten.length = N := ⟨_, rfl⟩
    have hlen := lenS s b m L.flatten W.drew (hst.set.below (Below.refl _ W).drew)
    rw [hN] at hcv hlen
    rw [hcv] at hbv
    have heq : (((N : Nat) : Int) == (m : Int)) = bv := by rw [hbv]; exact Bool.eq_iff_iff.2 (by rw [beq_iff_eq, decide_eq_true_iff]; omega)
    have HLEN := Lib.hid hlen
    have HBV := Lib.hid (show bv = Nm.cov n L.flatten from by rw [hbv, hcv])
    have HU := Lib.hid (hst.be.setCell (p := ⟨w.heap.size, 0, none⟩) (Nat.le_refl _) (.bool bv)).drew
    have HR := Lib.hid (show (W.setCell ⟨w.heap.size, 0, none⟩ (.bool bv)).drew.heap[w.heap.size]? = some (.cells #[.bool bv] 4 (0, 0)) from one_set (u := .bool bv) hst.res)
    have HKZ := Lib.hid (show (W.setCell ⟨w.heap.size, 0, none⟩ (.bool bv)).drew.heap[W2.heap.size]? = some (.deferred (some [])) from by show (W.setCell ⟨w.heap.size, 0, none⟩ (.bool bv)).heap[W2.heap.size]? = _; rw [Below.heap_setCell _ _ _ _ (show W2.heap.size ≠ w.heap.size by omega)]; exact hK)
    clear hst hK HST hcv hbv hlen hs2
    gi_wp2
    refine wpIn_mono (?_ : Code.wpIn _ _ _ _ (NoPanic _) _ _) NoPanic.imp
    gi_region_with (refine ⟨trivial, ?_⟩; refine (callsIn_wide.2 HLEN.out).mono ?_; rintro _ U1 ⟨rfl, rfl⟩)
    all_goals
      refine NoPanic.normal ?_
      clear cv cn cr fr heq
      go_simp
      gi_wp2
      refine ⟨by simp, .inl ⟨_, _, rfl, run_takeDeferred HKZ.out, ?_⟩⟩
      refine ⟨_, result_bool rfl _ _ w.heap.size bv rfl ?_, ?_, HU.out.trans (below_put (by omega) _)⟩
      · rw [cell_of_row _ _ _ _ _ _ ((World.putObj_heap_other (by omega)).trans HR.out)]; rfl
      · rw [HBV.out]
  case stop =>
    rintro D c W rfl ⟨rfl, hx⟩ hK
    have HX := Lib.hid hx
    have HKD := Lib.hid hK
    clear hx hK HST
    gi_wp2
    refine ⟨by simp, .inl ⟨_, _, rfl, run_takeDeferred HKD.out, ?_⟩⟩
    refine ⟨_, result_bool rfl _ _ w.heap.size false rfl ?_, ?_, HX.out.2.2.trans (below_put (by omega) _)⟩
    · rw [cell_of_row _ _ _ _ _ _ ((World.putObj_heap_other (by omega)).trans HX.out.1)]; rfl
    · rw [HX.out.2.1]
end Go.Proofs.YthjpjeflgnkgpaaDoor
