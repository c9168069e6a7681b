/-
  Layer 14 (shape): Count and Depth, by contracts.
-/
import Derived.Test.YtecdgpacofojeaaXWlk
import Derived.Test.YtecdgpacofojeaaXBrk
namespace Go.Proofs.Ytecdgpacofojeaa
open Go.RowKit Go.Shelf
attribute [local go_sem] Oper.semAt_some

section
variable {w : World} {A : Option Addr} {n c : Nat} {T : List Xm.Nd} {v : List Nat} {d : Int}
set_option maxHeartbeats 1600000 in
set_option maxRecDepth 100000 in
theorem countX (h : Xds w A n c T) (hn : n ≤ 100000) : Calls Try.prog 17 #[.slice A n c] w fun e w' => e = .returned (.tuple #[.int .i64 (n : Int), .int .i64 (Xm.leaves T : Int)]) ∧ Below w.heap.size w w' := by
  have hll := Xm.leaves_le T
  rw [h.len] at hll
  obtain ⟨lv, hlv⟩ : ∃ lv, lv = Xm.leaves T := ⟨_, rfl⟩
  rw [← hlv] at hll ⊢
  obtain ⟨W0, hW0⟩ : ∃ W0, W0 = w.alloc (.cells #[.int .i64 0] 3) := ⟨_, rfl⟩
  have b0 : Below w.heap.size w W0 := by rw [hW0]; exact (Below.refl _ w).alloc (Nat.le_refl _) _
  have r0 : W0.heap[w.heap.size]? = some (.cells #[.int .i64 0] 3 (0, 0)) := by rw [hW0]; exact heap_new w _ _
  have s0 : W0.heap.size = w.heap.size + 1 := by rw [hW0]; simp
  have HH := Lib.hid (heldX h b0 hn)
  have HW0 := Lib.hid hW0
  have B0 := Lib.hid b0
  have R0 := Lib.hid r0
  have HLV := Lib.hid hlv
  clear hW0 b0 r0 hlv h
  refine (callsIn_wide (n := 6)).1 ?_
  refine callsIn_of_wp_marks Try.func17 rfl trivial ?_ rfl
  simp only [Try.ntmps17, List.size_toArray, List.length_cons, List.length_nil, Nat.reduceAdd, Nat.reduceSub, Array.replicate_succ, Array.replicate_zero, List.push_toArray, List.append_toArray, List.nil_append, List.cons_append]
  gi_wp2_with fail
  rw [← HW0.out]
  refine ⟨trivial, ?_⟩
  refine (callsIn_wide.2 HH.out).mono ?_
  rintro _ W1 ⟨rfl, hT, b1⟩
  have hs1 := b1.size
  have R1 : Hid (W1.heap[w.heap.size]? = some (.cells #[.int .i64 0] 3 (0, 0))) := Lib.hid ((b1.block _ (by omega)).trans R0.out)
  have B1 : Hid (Below w.heap.size w W1) := Lib.hid (B0.out.trans (b1.mono B0.out.size))
  rw [s0] at hT
  have HTL := Lib.hid hT
  have hnb : w.heap.size < W1.heap.size := by omega
  clear hT b1 HH R0 B0 HW0
  gi_wp2
  refine range_keeps (n := 6) rfl (by omega) (gf := 42) (lb := #[.pointer (some ⟨w.heap.size + 1, 0, none⟩)]) rfl trivial (enters_of Try.func42 (by kernel_rfl) rfl)
    (fun k W => Cnt W1 w.heap.size (k : Int) W)
    (fun k vs W => k < lv ∧ (∃ A' n' c', vs = #[.slice A' n' c']) ∧ Cnt W1 w.heap.size (k : Int) W)
    (fun W => Cnt W1 w.heap.size (lv : Int) W)
    (fun c W => False)
    (fun vs t => t.setIfInBounds 7 (vs.getD 0 undef))
    (fun k W W' h ho => h.off hnb ho) (fun k vs W W' h ho => ⟨h.1, h.2.1, h.2.2.off hnb ho⟩) (fun W W' h ho => h.off hnb ho)
    (fun c W W' h ho => h) (fun k vs W h => by obtain ⟨-, ⟨A', n', c', h2⟩, -⟩ := h; rw [h2]; rfl)
    (fun W hb hs => Cnt.new R1.out hnb hb hs) ?iter ?assign ?body ?done ?stop
  case iter =>
    intro y Kk Y hK hY W hI hKW
    refine (HTL.out 4 y (W1.heap.size + 2) (fun k W => Cnt W1 w.heap.size (k : Int) W) Kk Y W (fun k V h => ⟨h.keeps (Nat.le_refl _) (by omega), h.sz⟩) (fun k V V' h hb => h.low hnb hb (by have := hb.size; have := h.sz; omega)) (fun V V' h hb => hK V V' h (kf_low hb)) ?_ hI hKW).mono ?_
    · intro k l A' n' c' V' hl hs hp hI hKV
      have hk : k < lv := by have := (List.getElem?_eq_some_iff.1 hl).1; rwa [Xm.lists_length, ← HLV.out] at this
      exact hY k _ V' ⟨hk, ⟨A', n', c', rfl⟩, hI⟩ hKV
    · rintro e W' ⟨hv, h | h⟩
      · refine ⟨hv, .inl ⟨?_, h.2⟩⟩
        have := h.1
        rwa [Xm.lists_length, ← HLV.out] at this
      · exact ⟨hv, .inr h⟩
  case assign =>
    rintro y k vs W K ⟨-, ⟨A', n', c', rfl⟩, -⟩ hK
    gi_wp2
    exact hK
  case body =>
    rintro y k vs W ⟨hkl, ⟨A', n', c', rfl⟩, hg⟩
    have cn : W.cell? ⟨w.heap.size, 0, none⟩ = some (.int .i64 (k : Int)) := by rw [cell_of_row _ _ _ _ _ _ hg.num]; rfl
    have fn := frozen_of_row W w.heap.size 0 _ _ hg.num
    obtain ⟨hst, hkf⟩ := hg.set ((k : Int) + 1)
    have HST : Hid (Cnt W1 w.heap.size ((k + 1 : Nat) : Int) (W.setCell ⟨w.heap.size, 0, none⟩ (.int .i64 ((k : Int) + 1)))) := Lib.hid (by rw [show ((k + 1 : Nat) : Int) = (k : Int) + 1 from by omega]; exact hst)
    have HKF := Lib.hid hkf
    generalize hP : leftBy W1.heap.size _ _ W = Pst
    have HP := Lib.hid hP
    clear hg hst hkf hP
    gi_wp2
    rw [← HP.out]
    exact ⟨HKF.out, HST.out⟩
  case done =>
    rintro D W rfl hg hK
    have cn : W.cell? ⟨w.heap.size, 0, none⟩ = some (.int .i64 (lv : Int)) := by rw [cell_of_row _ _ _ _ _ _ hg.num]; rfl
    have HKD := Lib.hid hK
    have HB := Lib.hid (show Below w.heap.size w W from B1.out.trans (hg.kp.old B1.out.size fun j hj => by omega))
    clear hg hK
    have HKZ : Hid (W.drew.heap[W1.heap.size]? = some (.deferred (some []))) := Lib.hid HKD.out
    have HBZ : Hid (Below w.heap.size w W.drew) := Lib.hid HB.out.drew
    gi_wp2
    refine wpIn_mono (?_ : Code.wpIn _ _ _ _ (NoPanic _) _ _) NoPanic.imp
    gi_region_with (fail)
    all_goals
      refine NoPanic.normal ?_
      clear cn
      go_simp
      gi_wp2
      refine ⟨by simp, .inl ⟨_, _, rfl, run_takeDeferred HKZ.out, ?_⟩⟩
      exact ⟨_, results_tmp2 rfl _ _ _, rfl, HBZ.out.trans (below_put (by omega) _)⟩
  case stop => intro D c W _ hx; exact hx.elim
set_option maxHeartbeats 1600000 in
set_option maxRecDepth 100000 in
theorem depthS (h : Xds w A n c T) (hn : n ≤ 100000) (hv : Xm.Shp T d 0 0 v T.length) : Calls Try.prog 18 #[.slice A n c] w fun e w' => e = .returned (.int .i64 (Xm.most v : Int)) ∧ Below w.heap.size w w' := by
  have hvl : v.length = n := by have := hv.len; have := h.len; omega
  have hmn : ∀ k, Xm.most (v.take k) ≤ n := fun k => Xm.most_le fun y hy => by have := hv.bound y (List.mem_of_mem_take hy); omega
  have hyn : ∀ y ∈ v, y ≤ n := fun y hy => by have := hv.bound y hy; omega
  obtain ⟨W0, hW0⟩ : ∃ W0, W0 = w.alloc (.cells #[.int .i64 0] 3) := ⟨_, rfl⟩
  have b0 : Below w.heap.size w W0 := by rw [hW0]; exact (Below.refl _ w).alloc (Nat.le_refl _) _
  have r0 : W0.heap[w.heap.size]? = some (.cells #[.int .i64 0] 3 (0, 0)) := by rw [hW0]; exact heap_new w _ _
  have s0 : W0.heap.size = w.heap.size + 1 := by rw [hW0]; simp
  have HH := Lib.hid (walkS h b0 hn hv)
  have HW0 := Lib.hid hW0
  have B0 := Lib.hid b0
  have R0 := Lib.hid r0
  have HVL := Lib.hid hvl
  have HMN := Lib.hid hmn
  have HYN := Lib.hid hyn
  clear hW0 b0 r0 h hv hvl hmn hyn
  refine (callsIn_wide (n := 6)).1 ?_
  refine callsIn_of_wp_marks Try.func18 rfl trivial ?_ rfl
  simp only [Try.ntmps18, List.size_toArray, List.length_cons, List.length_nil, Nat.reduceAdd, Nat.reduceSub, Array.replicate_succ, Array.replicate_zero, List.push_toArray, List.append_toArray, List.nil_append, List.cons_append]
  gi_wp2_with fail
  rw [← HW0.out]
  refine ⟨trivial, ?_⟩
  refine (callsIn_wide.2 HH.out).mono ?_
  rintro _ W1 ⟨gf, lb, rfl, eg, hT, b1⟩
  have hs1 := b1.size
  have R1 : Hid (W1.heap[w.heap.size]? = some (.cells #[.int .i64 0] 3 (0, 0))) := Lib.hid ((b1.block _ (by omega)).trans R0.out)
  have B1 : Hid (Below w.heap.size w W1) := Lib.hid (B0.out.trans (b1.mono B0.out.size))
  have HTV := Lib.hid hT
  have hnb : w.heap.size < W1.heap.size := by omega
  clear hT b1 HH R0 B0 HW0
  gi_wp2
  refine range_tells (n := 6) rfl (by omega) (gf := gf) (lb := lb) rfl trivial eg
    (fun k W => Cnt W1 w.heap.size (Xm.most (v.take k) : Int) W)
    (fun k vs W => ∃ y, v[k]? = some y ∧ vs = #[.int .i64 (k : Int), .int .i64 (y : Int)] ∧ Cnt W1 w.heap.size (Xm.most (v.take k) : Int) W)
    (fun W => Cnt W1 w.heap.size (Xm.most v : Int) W)
    (fun c W => False)
    (fun vs t => ((t.setIfInBounds 8 (vs.getD 0 undef)).setIfInBounds 9 (vs.getD 1 undef)).setIfInBounds 5 (vs.getD 1 undef))
    (fun k W W' h ho => h.off hnb ho) (fun k vs W W' h ho => by obtain ⟨y, h1, h2, h3⟩ := h; exact ⟨y, h1, h2, h3.off hnb ho⟩) (fun W W' h ho => h.off hnb ho)
    (fun c W W' h ho => h) (fun k vs W h => by obtain ⟨y, h1, h2, -⟩ := h; rw [h2]; rfl)
    (fun W hb hs => Cnt.new R1.out hnb hb hs) ?iter ?assign ?body ?done ?stop
  case iter =>
    intro y Kk Y hK hY W hI hKW
    refine (HTV.out 4 y (W1.heap.size + 2) (fun k W => Cnt W1 w.heap.size (Xm.most (v.take k) : Int) W) Kk Y W (fun k V h => ⟨h.keeps (Nat.le_refl _) (by omega), h.sz⟩) (fun k V V' h hb => h.low hnb hb (by have := hb.size; have := h.sz; omega)) (fun V V' h hb => hK V V' h (kf_low hb)) ?_ hI hKW).mono ?_
    · intro k a b V' S hS hl hI hSV hKV
      obtain ⟨y', h1, rfl, rfl⟩ := Xm.visits_at hl
      rw [Nat.zero_add]
      exact hY k _ V' S hS ⟨y', h1, rfl, hI⟩ hSV hKV
    · rintro e W' ⟨hv, h | h⟩
      · refine ⟨hv, .inl ⟨?_, h.2⟩⟩
        have := h.1
        rwa [Xm.visits_length, List.take_of_length_le (Nat.le_refl _)] at this
      · exact ⟨hv, .inr h⟩
  case assign =>
    rintro y k vs W K ⟨y', -, rfl, -⟩ hK
    gi_wp2
    exact hK
  case body =>
    rintro y k vs W ⟨dy, hx, rfl, hg⟩
    have cn : W.cell? ⟨w.heap.size, 0, none⟩ = some (.int .i64 (Xm.most (v.take k) : Int)) := by rw [cell_of_row _ _ _ _ _ _ hg.num]; rfl
    have fn := frozen_of_row W w.heap.size 0 _ _ hg.num
    have hmx := Xm.most_snoc_take hx
    obtain ⟨m0, hm0⟩ : ∃ m0, m0 = Xm.most (v.take k) := ⟨_, rfl⟩
    rw [← hm0] at cn hmx
    have hval : ∀ mv : Int, mv = (if m0 < dy then (dy : Int) else (m0 : Int)) → Hid (KeepsFrom W1.heap.size W (W.setCell ⟨w.heap.size, 0, none⟩ (.int .i64 mv))) ∧ Hid (Cnt W1 w.heap.size (Xm.most (v.take (k + 1)) : Int) (W.setCell ⟨w.heap.size, 0, none⟩ (.int .i64 mv))) := fun mv e => by
      obtain ⟨hst, hkf⟩ := hg.set mv
      refine ⟨hkf, ?_⟩
      show Cnt _ _ _ _
      rw [show ((Xm.most (v.take (k + 1)) : Nat) : Int) = mv from by rw [e, hmx]; split <;> omega]
      exact hst
    have HLT : ∀ mv : Int, Hid (Later (W1.heap.size + 2) W (W.setCell ⟨w.heap.size, 0, none⟩ (.int .i64 mv))) := fun mv => Lib.hid (Later.cell (by omega))
    generalize hP : leftBy W1.heap.size _ _ W = Pst
    have HP := Lib.hid hP
    clear hg hx hP hm0 hmx
    by_cases hmd : m0 < dy
    case' pos => obtain ⟨HKF, HST⟩ := hval dy (by rw [if_pos hmd]); have HL := HLT dy
    case' neg => obtain ⟨HKF, HST⟩ := hval m0 (by rw [if_neg hmd]); have HL := HLT m0
    all_goals
      clear hval HLT
      gi_wp2
      rw [← HP.out]
      exact ⟨HKF.out, HST.out, HL.out⟩
  case done =>
    rintro D W rfl hg hK
    have cn : W.cell? ⟨w.heap.size, 0, none⟩ = some (.int .i64 (Xm.most v : Int)) := by rw [cell_of_row _ _ _ _ _ _ hg.num]; rfl
    have HKD := Lib.hid hK
    have HB := Lib.hid (show Below w.heap.size w W from B1.out.trans (hg.kp.old B1.out.size fun j hj => by omega))
    clear hg hK
    gi_wp2
    refine ⟨by simp, .inl ⟨_, _, rfl, run_takeDeferred HKD.out, ?_⟩⟩
    exact ⟨_, results_tmp rfl _ _ _, rfl, HB.out.trans (below_put (by omega) _)⟩
  case stop => intro D c W _ hx; exact hx.elim
end
end Go.Proofs.Ytecdgpacofojeaa
