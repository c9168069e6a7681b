/-
  Layer 14 (shape): Same, by contracts: slices.Equal of ids, alike, and slices.EqualFunc over it.
-/
import Derived.Test.YtecdgpacofojeaaXHld
import Derived.Deep.RegionHeld3
namespace Go.Proofs.Ytecdgpacofojeaa
open Go.RowKit Go.Shelf

namespace Xm
/-- the same lists? -/
noncomputable def eqT (T T' : List Nd) : Bool := @decide (T = T') (Classical.propDecidable _)
theorem eqT_true {T T' : List Nd} (h : T = T') : eqT T T' = true := @decide_eq_true _ (Classical.propDecidable _) h
theorem eqT_false {T T' : List Nd} (h : T ≠ T') : eqT T T' = false := @decide_eq_false _ (Classical.propDecidable _) h
/-- the same node? -/
def eqN (x y : Nd) : Bool := decide (x.leaf = y.leaf ∧ x.ids = y.ids ∧ (x.po = y.po ∧ x.pn = y.pn) ∧ x.lt = y.lt ∧ x.rt = y.rt)
theorem eqN_iff {x y : Nd} : eqN x y = true ↔ x = y := by
  unfold eqN
  rw [decide_eq_true_iff]
  constructor
  · rintro ⟨h1, h2, ⟨h3, h4⟩, h5, h6⟩
    cases x; cases y
    simp_all
  · rintro rfl; simp
end Xm
section
variable {w : World} {A B A1 A2 B1 B2 : Option Addr} {n c m c' n1 c1 n2 c2 m1 d1 m2 d2 : Nat} {T T' : List Xm.Nd} {l r : List Int} {x y : Xm.Nd}
set_option maxRecDepth 100000 in
theorem eqI_any (h : Sl w A n c l) (h' : Sl w B m c' r) (hn : n ≤ 1000000) (hm : m ≤ 1000000) :
    Calls Try.prog 45 #[.slice A n c, .slice B m c'] w fun e w' => e = .returned (.bool (decide (l = r))) ∧ Below w.heap.size w w' := by
  have HL := Lib.hid h.length
  have HR := Lib.hid h'.length
  by_cases g : n = m
  · subst g
    have H := Lib.hid h
    have H' := Lib.hid h'
    clear h h' hm
    go_enter Try.func45, Try.ntmps45
    go_wp2
    go_loopw [13] (fun i wr => ∃ k : Nat, k ≤ n ∧ i = .int .i64 k ∧ l.take k = r.take k ∧ ∃ d, wr = w.drewN d) (fun i _ => n - (intOf i).toNat)
    case atStart => exact ⟨0, Nat.zero_le _, rfl, by simp, 0, rfl⟩
    case round =>
      obtain ⟨k, hk, rfl, ht, hd⟩ := hrel
      have HD := Lib.hid hd
      have HT := Lib.hid ht
      clear ht
      by_cases hlt : k < n
      · have hkl : k < l.length := by rw [HL.out]; omega
        have hkr : k < r.length := by rw [HR.out]; omega
        obtain ⟨b, off, rfl, hb, hc⟩ := H.out.at_ (k := k) (List.getElem?_eq_getElem hkl)
        obtain ⟨b', off', rfl, hb', hc'⟩ := H'.out.at_ (k := k) (List.getElem?_eq_getElem hkr)
        have hc2 : wr.cell? ⟨b, off + k, none⟩ = some (.int .i64 l[k]) := by obtain ⟨d, rfl⟩ := hd; exact hc
        have hc3 : wr.cell? ⟨b', off' + k, none⟩ = some (.int .i64 r[k]) := by obtain ⟨d, rfl⟩ := hd; exact hc'
        have HS := Lib.hid (List.take_succ_eq_append_getElem hkl)
        have HS' := Lib.hid (List.take_succ_eq_append_getElem hkr)
        have HE := Lib.hid (show l = r → l[k] = r[k] from fun e => by subst e; rfl)
        obtain ⟨x, hx⟩ : ∃ x, x = l[k] := ⟨_, rfl⟩
        obtain ⟨y, hy⟩ : ∃ y, y = r[k] := ⟨_, rfl⟩
        rw [← hx] at hc2 HS HE
        rw [← hy] at hc3 HS' HE
        clear hx hy hc hc' hd hb hb'
        by_cases q : x = y
        · subst q
          go_wp2
          go_quiet (fail)
          go_wp2
          go_roundw
          case rel => exact ⟨k + 1, by omega, by go_num, by rw [HS.out, HS'.out, HT.out], by obtain ⟨d, hd⟩ := HD.out; exact ⟨d + nq, by rw [hd, World.drewN_drewN]⟩⟩
          case measure => simp [intOf]; omega
        · have HQ : Hid (decide (l = r) = false) := Lib.hid (decide_eq_false fun e => q (HE.out e))
          have q' : (x != y) = true := by simpa using q
          clear q
          go_wp2
          go_quiet (fail)
          go_wp2
          go_ret
          exact ⟨ret_bool HQ.out.symm, by obtain ⟨d, hd⟩ := HD.out; rw [hd, World.drewN_drewN]; exact bdrew (Below.refl _ w) _⟩
      · obtain rfl : k = n := by omega
        have HQ : Hid (decide (l = r) = true) := Lib.hid (decide_eq_true (by
          have := HT.out
          rwa [List.take_of_length_le (by rw [HL.out]; exact Nat.le_refl _), List.take_of_length_le (by rw [HR.out]; exact Nat.le_refl _)] at this))
        clear hd HT
        go_wp2
        go_ret
        exact ⟨ret_bool HQ.out.symm, by obtain ⟨d, hd⟩ := HD.out; rw [hd]; exact bdrew (Below.refl _ w) _⟩
  · have g2 : ((n : Int) != (m : Int)) = true := by simp; omega
    have HQ : Hid (decide (l = r) = false) := Lib.hid (decide_eq_false fun e => g (by rw [← HL.out, ← HR.out, e]))
    clear h h' g
    go_enter Try.func45, Try.ntmps45
    go_wp2
    go_ret
    exact ⟨ret_bool HQ.out.symm, Below.refl _ _⟩
set_option maxHeartbeats 1600000 in
set_option maxRecDepth 100000 in
theorem alikeX (h : XdA w x A1 n1 c1 A2 n2 c2) (h' : XdA w y B1 m1 d1 B2 m2 d2) (e1 : n1 ≤ 1000000) (e2 : n2 ≤ 1000000) (e3 : m1 ≤ 1000000) (e4 : m2 ≤ 1000000) :
    Calls Try.prog 36 #[.agg #[.bool x.leaf, .slice A1 n1 c1, .slice A2 n2 c2, .int .i64 x.po, .int .i64 x.lt, .int .i64 x.rt], .agg #[.bool y.leaf, .slice B1 m1 d1, .slice B2 m2 d2, .int .i64 y.po, .int .i64 y.lt, .int .i64 y.rt]] w fun e w' =>
      e = .returned (.bool (Xm.eqN x y)) ∧ Below w.heap.size w w' := by
  obtain ⟨W, hW⟩ : ∃ W, W = (w.alloc (.cells #[.bool x.leaf, .slice A1 n1 c1, .slice A2 n2 c2, .int .i64 x.po, .int .i64 x.lt, .int .i64 x.rt] 68)).alloc (.cells #[.bool y.leaf, .slice B1 m1 d1, .slice B2 m2 d2, .int .i64 y.po, .int .i64 y.lt, .int .i64 y.rt] 68) := ⟨_, rfl⟩
  have hb : Below w.heap.size w W := by rw [hW]; exact ((Below.refl _ w).alloc (Nat.le_refl _) _).alloc (by simp) _
  have hp : Ndb W w.heap.size x A1 n1 c1 A2 n2 c2 := by rw [hW]; exact (Ndb.new w x A1 n1 c1 A2 n2 c2).below ((Below.refl _ _).alloc (Nat.le_refl _) _)
  have hq : Ndb W (w.heap.size + 1) y B1 m1 d1 B2 m2 d2 := by rw [hW]; have := Ndb.new (w.alloc (.cells #[.bool x.leaf, .slice A1 n1 c1, .slice A2 n2 c2, .int .i64 x.po, .int .i64 x.lt, .int .i64 x.rt] 68)) y B1 m1 d1 B2 m2 d2; rwa [show (w.alloc (.cells #[.bool x.leaf, .slice A1 n1 c1, .slice A2 n2 c2, .int .i64 x.po, .int .i64 x.lt, .int .i64 x.rt] 68)).heap.size = w.heap.size + 1 from by simp] at this
  obtain ⟨p0, p1, p2, p3, p4, p5⟩ := hp.cells
  obtain ⟨q0, q1, q2, q3, q4, q5⟩ := hq.cells
  have FI := Lib.hid (eqI_any (h.ids.below hb) (h'.ids.below hb) e1 e3)
  have FP0 := fun V (hV : Below W.heap.size W V) => sameP_any A2 B2 n2 m2 c2 d2 x.po y.po x.pn y.pn V ((h.pn.below hb).below hV) ((h'.pn.below hb).below hV) e2 e4
  have HB := Lib.hid hb
  obtain ⟨E, hE⟩ : ∃ E, E = Xm.eqN x y := ⟨_, rfl⟩
  obtain ⟨ei, hei⟩ : ∃ ei, ei = decide (x.ids = y.ids) := ⟨_, rfl⟩
  obtain ⟨ep, hep⟩ : ∃ ep, ep = decide (x.po = y.po ∧ x.pn = y.pn) := ⟨_, rfl⟩
  rw [← hE]
  have HE : Hid (E = (x.leaf == y.leaf && ei && ep && decide (x.lt = y.lt) && decide (x.rt = y.rt))) := Lib.hid (by
    rw [hE, hei, hep]
    unfold Xm.eqN
    apply Bool.eq_iff_iff.2
    simp [and_assoc])
  rw [← hei] at FI
  rw [← hep] at FP0
  have FP := Lib.hid FP0
  obtain ⟨lx, hlx⟩ : ∃ lx, lx = x.leaf := ⟨_, rfl⟩
  obtain ⟨ly, hly⟩ : ∃ ly, ly = y.leaf := ⟨_, rfl⟩
  obtain ⟨xo, hxo⟩ : ∃ xo, xo = x.po := ⟨_, rfl⟩
  obtain ⟨yo, hyo⟩ : ∃ yo, yo = y.po := ⟨_, rfl⟩
  obtain ⟨xl, hxl⟩ : ∃ xl, xl = x.lt := ⟨_, rfl⟩
  obtain ⟨yl, hyl⟩ : ∃ yl, yl = y.lt := ⟨_, rfl⟩
  obtain ⟨xr, hxr⟩ : ∃ xr, xr = x.rt := ⟨_, rfl⟩
  obtain ⟨yr, hyr⟩ : ∃ yr, yr = y.rt := ⟨_, rfl⟩
  rw [← hlx] at p0 hW HE ⊢
  rw [← hly] at q0 hW HE ⊢
  rw [← hxo] at p3 hW FP ⊢
  rw [← hyo] at q3 hW FP ⊢
  rw [← hxl] at p4 hW HE ⊢
  rw [← hyl] at q4 hW HE ⊢
  rw [← hxr] at p5 hW HE ⊢
  rw [← hyr] at q5 hW HE ⊢
  obtain ⟨b4, h4⟩ : ∃ b4, (xl == yl) = b4 := ⟨_, rfl⟩
  obtain ⟨b5, h5⟩ : ∃ b5, (xr == yr) = b5 := ⟨_, rfl⟩
  rw [show decide (xl = yl) = b4 from by rw [← h4]; rfl, show decide (xr = yr) = b5 from by rw [← h5]; rfl] at HE
  have HW := Lib.hid hW
  clear h h' hb hp hq hE hei hep hlx hly hxo hyo hxl hyl hxr hyr hW FP0
  go_enter Try.func36, Try.ntmps36
  cases lx <;> cases ly
  all_goals
    go_wp2_with fail
    rw [← HW.out]
  all_goals first
    | (go_ret
       exact ⟨by rw [HE.out]; rfl, HB.out⟩)
    | (refine FI.out.mono ?_
       rintro _ w1 ⟨rfl, hb1⟩
       have B1 := Lib.hid hb1
       have HB1 := Lib.hid (HB.out.trans (hb1.mono HB.out.size))
       have r2 := (hb1.cell (p := ⟨w.heap.size, 2, none⟩) (cell_block_lt p2)).trans p2
       have r3 := (hb1.cell (p := ⟨w.heap.size, 3, none⟩) (cell_block_lt p3)).trans p3
       have r4 := (hb1.cell (p := ⟨w.heap.size, 4, none⟩) (cell_block_lt p4)).trans p4
       have r5 := (hb1.cell (p := ⟨w.heap.size, 5, none⟩) (cell_block_lt p5)).trans p5
       have t2 := (hb1.cell (p := ⟨w.heap.size + 1, 2, none⟩) (cell_block_lt q2)).trans q2
       have t3 := (hb1.cell (p := ⟨w.heap.size + 1, 3, none⟩) (cell_block_lt q3)).trans q3
       have t4 := (hb1.cell (p := ⟨w.heap.size + 1, 4, none⟩) (cell_block_lt q4)).trans q4
       have t5 := (hb1.cell (p := ⟨w.heap.size + 1, 5, none⟩) (cell_block_lt q5)).trans q5
       have FP1 := Lib.hid (FP.out w1 hb1)
       clear hb1 p0 p1 p2 p3 p4 p5 q0 q1 q2 q3 q4 q5 FP FI HW
       cases ei with
       | false =>
         go_wp2
         go_ret
         exact ⟨by rw [HE.out]; rfl, HB1.out⟩
       | true =>
         go_wp2_with fail
         refine FP1.out.mono ?_
         rintro _ w2 ⟨rfl, hb2⟩
         have HB2 := Lib.hid (HB1.out.trans (hb2.mono HB1.out.size))
         have s4 := (hb2.cell (p := ⟨w.heap.size, 4, none⟩) (cell_block_lt r4)).trans r4
         have s5 := (hb2.cell (p := ⟨w.heap.size, 5, none⟩) (cell_block_lt r5)).trans r5
         have v4 := (hb2.cell (p := ⟨w.heap.size + 1, 4, none⟩) (cell_block_lt t4)).trans t4
         have v5 := (hb2.cell (p := ⟨w.heap.size + 1, 5, none⟩) (cell_block_lt t5)).trans t5
         clear hb2 r2 r3 r4 r5 t2 t3 t4 t5 FP1
         go_wp2
         all_goals
           go_ret
           refine ⟨?_, HB2.out⟩
           rw [HE.out]
           simp_all)
end
end Go.Proofs.Ytecdgpacofojeaa
